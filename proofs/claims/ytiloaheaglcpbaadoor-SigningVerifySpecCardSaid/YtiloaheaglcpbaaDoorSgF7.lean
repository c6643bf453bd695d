/- Signing: Sign. -/
import Derived.Test.YtiloaheaglcpbaaDoorSgF6
import Derived.Test.YtiloaheaglcpbaaDoorSgC
import Derived.Deep.RegionLaw
namespace Go.Proofs.YtiloaheaglcpbaaDoor
open Go.RowKit

theorem own_cell {w : World} {B : Nat} {e : TypeId} {size n : Nat} {v : Value} {xs : List Value} (h : w.ownsRow B e size v n xs) {p : Addr} (hp : p.block < B) (u : Value) : (w.setCell p u).ownsRow B e size v n xs := by
  rcases h with ⟨h1, h2 | ⟨g, cap, cur, e1, e2, e3, r⟩⟩
  · exact ⟨h1, .inl h2⟩
  · exact ⟨h1, .inr ⟨g, cap, cur, e1, e2, (Below.heap_setCell w p u g (by omega)).trans e3, r⟩⟩
theorem sgn_step0 {wr w5 w7 : World} {B s0 g n : Nat} {T e : TypeId} {cs D : Array Value} {v : Value} {xs : List Value} (hown : wr.ownsRow B e 32 v n xs) (_hs : B ≤ wr.heap.size) (hz : s0 ≤ B) (hb : Below wr.heap.size wr w5) (h : Blk wr g T cs) (hg : g < s0) (hg7 : (w5.alloc (.cells D e)).grownBy w7 v.ownBlock) : Blk w7 g T cs :=
  blk_grown ((h.below hb h.lt).alloc _) hg7 (fun e => by have := (hown.lt _ e.symm).1; omega)
theorem sgn_own8 {wr w5 w7 : World} {B s0 n m : Nat} {e : TypeId} {D : Array Value} {v v8 : Value} {xs xs8 : List Value} (h8 : wr.ownsRow s0 e 32 v8 m xs8) (hv8 : ∀ k, v8.ownBlock = some k → k < B) (hown : wr.ownsRow B e 32 v n xs) (hb : Below wr.heap.size wr w5)
    (hg7 : (w5.alloc (.cells D e)).grownBy w7 v.ownBlock) : w7.ownsRow s0 e 32 v8 m xs8 :=
  ((own_next h8 hb).alloc _).kept hg7 (by
    cases h : v8.ownBlock with
    | none => exact .inl rfl
    | some k => exact .inr fun e => by have := (hown.lt _ e.symm).1; have := hv8 k h; omega)
theorem sgn_bel {w wr w5 w7 : World} {B n : Nat} {e : TypeId} {D : Array Value} {v : Value} {xs : List Value} (hb0 : Below w.heap.size w wr) (hown : wr.ownsRow B e 32 v n xs) (hB : w.heap.size ≤ B) (hb : Below wr.heap.size wr w5)
    (hg7 : (w5.alloc (.cells D e)).grownBy w7 v.ownBlock) : Below w.heap.size w w7 :=
  have h5 := hb0.trans (hb.mono hb0.size)
  (h5.alloc h5.size _).grown hg7 (by rw [World.size_alloc]; have := h5.size; omega) (fun k hk => by have := (hown.lt _ hk).1; omega)
theorem sgn_size {wr w5 w7 : World} {B : Nat} {e : TypeId} {D : Array Value} {row : Option Nat} (hs : B ≤ wr.heap.size) (hb : Below wr.heap.size wr w5) (hg7 : (w5.alloc (.cells D e)).grownBy w7 row) : B ≤ w7.heap.size := by
  have := hg7.size
  rw [World.size_alloc] at this
  have := hb.size
  omega
theorem own_eq {w : World} {B n size : Nat} {e : TypeId} {v : Value} {xs ys : List Value} (h : xs = ys) (hown : w.ownsRow B e size v n xs) : w.ownsRow B e size v n ys := h ▸ hown
/-- the path of a one-time key -/
def ptC (seed : List UInt8) (m ix : Nat) : List Value := if m = 1 then [] else bc (lf (pk1 seed (1 - ix)))
theorem path_pk (seed : List UInt8) (m : Nat) (hm : m = 1 ∨ m = 2) (ix : Nat) (hix : ix < m) (B : Nat) (v : Value) (w : World) (h : w.ownsRow B 26 32 v m (pkC seed m)) (hT : Tabs w) :
    Calls Tryd.prog 39 #[v, .int .i64 (ix : Int)] w fun e w' => ∃ p, e = .returned (.tuple #[p, .int .i64 0]) ∧ w'.ownsRow w.heap.size 26 32 p (m - 1) (ptC seed m ix) ∧ Below w.heap.size w w' := by
  obtain ⟨g, cap, rfl, hcap, hr⟩ := own_range h (by omega)
  rcases hm with rfl | rfl
  · obtain rfl : ix = 0 := by omega
    refine (path1_any g cap w).mono ?_
    rintro e w' ⟨rfl, rfl⟩
    exact ⟨_, rfl, World.ownsRow_nil _ _ _ _, Below.refl _ _⟩
  · rw [pkC_2] at hr
    rcases (show ix = 0 ∨ ix = 1 by omega) with rfl | rfl
    · exact path2_0 (pk1 seed 1) rfl g cap hcap w (by have := range_right (n := 32) hr (by rw [bc_len]; rfl); rwa [Nat.zero_add] at this) hT
    · exact path2_1 (pk1 seed 0) rfl g cap hcap w (range_left hr) hT
/-- the parts of a signature -/
def prt (seed : List UInt8) (ix : Nat) (dg : List UInt8) (j : Nat) : List UInt8 := vlu seed ix j (dig dg j)
theorem prt_len (seed : List UInt8) (ix : Nat) (dg : List UInt8) (j : Nat) : (prt seed ix dg j).length = 32 := vlu_len _ _ _ _
def prC (seed : List UInt8) (ix : Nat) (dg : List UInt8) (k : Nat) : List Value := bc (ends (prt seed ix dg) k)
theorem prC_succ (seed : List UInt8) (ix : Nat) (dg : List UInt8) (k : Nat) : prC seed ix dg k ++ bc (prt seed ix dg k) = prC seed ix dg (k + 1) := by rw [prC, prC, ends_succ, bc_app]

set_option maxRecDepth 100000 in
set_option maxHeartbeats 2000000 in
theorem sign_ok (seed : List UInt8) (n : Nat) (hn : seed.length = n) (a : Option Addr) (cap : Nat) (m : Nat) (hm : m = 1 ∨ m = 2) (ix : Nat) (hix : ix < m) (hk : isKeyB n (m : Int) (ix : Int) = true)
    (msg : List UInt8) (q : Nat) (hq : msg.length = q) (hq9 : q ≤ 65536) (am : Option Addr) (capm : Nat) (w : World) (hs : Sl w 1 (.slice a n cap) n (bc seed)) (hy : Sl w 1 (.slice am q capm) q (bc msg)) (hT : Tabs w) :
    Calls Tryd.prog 22 #[keyV a n cap (m : Int) (ix : Int), .slice am q capm] w fun e w' => ∃ v p, e = .returned (.tuple #[keyV a n cap (m : Int) (ix + 1 : Int), .agg #[.int .i64 (ix : Int), v, p], .int .i64 0])
      ∧ w'.ownsRow w.heap.size 26 32 v 67 (prC seed ix (mh (pub seed m) ix msg) 67) ∧ w'.ownsRow w.heap.size 26 32 p (m - 1) (ptC seed m ix) ∧ Below w.heap.size w w' := by
  obtain ⟨iu, hiu, hu0, hu1, hu2⟩ := info_parts infoD32
  have HK := Lib.hid (fun W => isKey_any a n cap (m : Int) (ix : Int) W)
  have hk9 := isKeyB_t hk
  rw [hk] at HK
  have HP := Lib.hid (fun W (hb : Below w.heap.size w W) => publicKeys_any seed n hn (by omega) a cap m (ix : Int) (by omega) W (hs.next hb) (hT.next hb))
  have HTr := Lib.hid (fun B v W h (hb : Below w.heap.size w W) => tree_pk seed m hm B v W h (hT.next hb))
  have HMH := Lib.hid (fun W (hb : Below w.heap.size w W) => messageHash_any (pub seed m) (pub_len seed m) ix (by omega) msg q hq (by omega) _ W (hy.next hb) (hT.next hb))
  have HDG := Lib.hid (fun W => digitsOf_any (mh (pub seed m) ix msg) (mh_len _ _ _) W)
  have HV := Lib.hid (fun (j dd : Nat) W (hj : j < 67) (hd : dd < 16) (hb : Below w.heap.size w W) => value_any seed n hn (by omega) a cap (m : Int) (ix : Int) ix j dd (by omega) (by omega) (by omega) W (hs.next hb) (hT.next hb))
  have HPa := Lib.hid (fun B v W h (hb : Below w.heap.size w W) => path_pk seed m hm ix hix B v W h (hT.next hb))
  unfold arrV at HTr HMH HDG HV
  obtain ⟨dg, hdg⟩ : ∃ dg, mh (pub seed m) ix msg = dg := ⟨_, rfl⟩
  rw [hdg] at HMH HDG ⊢
  obtain ⟨D1, hD1⟩ : ∃ D1, bc (pub seed m) = D1 := ⟨_, rfl⟩
  rw [hD1] at HTr HMH
  obtain ⟨D2, hD2⟩ : ∃ D2, bc dg = D2 := ⟨_, rfl⟩
  rw [hD2] at HMH HDG
  have hg0 := ((Blk.new w 24 #[.slice a n cap, .int .i64 (m : Int), .int .i64 (ix : Int)]).alloc (.cells #[.slice none 0 0, .int .i64 0, .int .i64 0] 24)).alloc (.cells #[.int .i64 0, .slice none 0 0, .slice none 0 0] 42)
  have hg1 := (Blk.new (w.alloc (.cells #[.slice a n cap, .int .i64 (m : Int), .int .i64 (ix : Int)] 24)) 24 #[.slice none 0 0, .int .i64 0, .int .i64 0]).alloc (.cells #[.int .i64 0, .slice none 0 0, .slice none 0 0] 42)
  have hg2 := Blk.new ((w.alloc (.cells #[.slice a n cap, .int .i64 (m : Int), .int .i64 (ix : Int)] 24)).alloc (.cells #[.slice none 0 0, .int .i64 0, .int .i64 0] 24)) 42 #[.int .i64 0, .slice none 0 0, .slice none 0 0]
  simp only [World.size_alloc] at hg1 hg2
  have hb := ((below_alloc w (.cells #[.slice a n cap, .int .i64 (m : Int), .int .i64 (ix : Int)] 24)).alloc (by simp) (.cells #[.slice none 0 0, .int .i64 0, .int .i64 0] 24)).alloc (by simp; omega) (.cells #[.int .i64 0, .slice none 0 0, .slice none 0 0] 42)
  have H0 := Lib.hid hg0
  have H1 := Lib.hid hg1
  have H2 := Lib.hid hg2
  have Hb := Lib.hid hb
  obtain ⟨c0, c1, c2, f0, f1, f2⟩ := cells3 hg0
  have hmi : ¬ (ix : Int) = (m : Int) := by omega
  have hm3 := hm
  unfold keyV
  clear hs hy hT hn hq hdg hD1 hD2 hg0 hg1 hg2 hb hk hk9
  go_enter Tryd.func22, Tryd.ntmps22
  go_wp2_with (first
    | (refine (HK.out _).mono ?_
       rintro e w7 ⟨rfl, hb7⟩
       have H07 := Lib.hid (H0.out.below hb7 H0.out.lt)
       have H17 := Lib.hid (H1.out.below hb7 H1.out.lt)
       have H27 := Lib.hid (H2.out.below hb7 H2.out.lt)
       have Hb7 := Lib.hid (Hb.out.trans (hb7.mono Hb.out.size))
       clear hb7 c0 c1 c2 f0 f1 f2
       obtain ⟨c0, c1, c2, f0, f1, f2⟩ := cells3 H07.out)
    | (refine (HP.out _ Hb7.out).mono ?_
       rintro e w8 ⟨v8, rfl, hown8, hb8⟩
       have hl7 : w.heap.size + 1 + 1 + 1 ≤ w7.heap.size := H27.out.lt
       have hown8' := own_mono hown8 hl7
       have H08 := H07.out.below hb8 H07.out.lt
       have H18 := H17.out.below hb8 H17.out.lt
       have H28 := H27.out.below hb8 H27.out.lt
       have hb8' := Hb7.out.trans (hb8.mono Hb7.out.size)
       obtain ⟨d0, d1, d2, e0, e1, e2⟩ := cells3 H28
       clear c0 c1 c2 f0 f1 f2
       obtain ⟨c0, c1, c2, f0, f1, f2⟩ := cells3 H08
       have H09 := Lib.hid (H08.far (p := ⟨w.heap.size + 1 + 1, 0, none⟩) (show w.heap.size ≠ w.heap.size + 1 + 1 by omega) (.int .i64 (ix : Int)))
       have H19 := Lib.hid (H18.far (p := ⟨w.heap.size + 1 + 1, 0, none⟩) (show w.heap.size + 1 ≠ w.heap.size + 1 + 1 by omega) (.int .i64 (ix : Int)))
       have H29 := Lib.hid (H28.set_ 0 (.int .i64 (ix : Int)))
       have Hown9 := Lib.hid (own_cell hown8' (p := ⟨w.heap.size + 1 + 1, 0, none⟩) (show w.heap.size + 1 + 1 < w.heap.size + 1 + 1 + 1 by omega) (.int .i64 (ix : Int)))
       have Hb9 := Lib.hid (hb8'.setCell (p := ⟨w.heap.size + 1 + 1, 0, none⟩) (show w.heap.size ≤ w.heap.size + 1 + 1 by omega) (.int .i64 (ix : Int)))
       obtain ⟨w9, hw9⟩ : ∃ w9, w8.setCell ⟨w.heap.size + 1 + 1, 0, none⟩ (.int .i64 (ix : Int)) = w9 := ⟨_, rfl⟩
       rw [hw9] at H09 H19 H29 Hown9 Hb9
       have HW9 := Lib.hid hw9
       clear hown8 hown8' hb8 hb8' H08 H18 H28 hl7 hw9))
  rw [HW9.out]
  clear H07 H17 H27 Hb7 c0 c1 c2 f0 f1 f2 d0 d1 d2 e0 e1 e2
  have q0 : w9.cell? ⟨w.heap.size + 1 + 1, 0, none⟩ = some (.int .i64 (ix : Int)) := by rw [H29.out.cell]; rfl
  have l2 := H29.out.lt
  go_region_held3 (fun w' => w'.cell? ⟨w.heap.size + 1 + 1, 0, none⟩ = some (.int .i64 (ix : Int)))
    (first
      | (with_reducible exact q0)
      | (simp only [World.cell?_drew]; with_reducible exact q0)
      | (exact (hbA.cell (p := ⟨w.heap.size + 1 + 1, 0, none⟩) l2).trans q0)
      | (exact (hbB.cell (p := ⟨w.heap.size + 1 + 1, 0, none⟩) l2).trans q0)
      | (exact (hbC.cell (p := ⟨w.heap.size + 1 + 1, 0, none⟩) l2).trans q0))
    (first
      | (go_at_call 33; with_reducible refine Calls.mono (HTr.out _ _ _ (own_drew Hown9.out) Hb9.out.drew) ?_; rintro e wA ⟨rfl, hbA0⟩; have hbA : Below w9.heap.size w9 wA := (Below.refl w9.heap.size w9).drew.trans (hbA0.mono (by simp)))
      | (go_at_call 37; with_reducible refine Calls.mono (HMH.out _ (Hb9.out.trans (hbA.mono Hb9.out.size))) ?_; rintro e wB ⟨rfl, hbB0⟩; have hbB : Below w9.heap.size w9 wB := hbA.trans (hbB0.mono hbA.size))
      | (go_at_call 32; with_reducible refine Calls.mono (HDG.out _) ?_; rintro e wC ⟨rfl, hbC0⟩; have hbC : Below w9.heap.size w9 wC := hbB.trans (hbC0.mono hbB.size)))
  have H0C := Lib.hid (H09.out.below hbC H09.out.lt)
  have H1C := Lib.hid (H19.out.below hbC H19.out.lt)
  have H2C := Lib.hid (H29.out.below hbC H29.out.lt)
  have HownC := Lib.hid (own_next Hown9.out hbC)
  have HbC := Lib.hid (Hb9.out.trans (hbC.mono Hb9.out.size))
  clear q0 l2 hbA hbB hbC hbA0 hbB0 hbC0 H09 H19 H29 Hown9 Hb9 HW9 H0 H1 H2 Hb
  have Hv8 := Lib.hid (fun k (h : v8.ownBlock = some k) => (HownC.out.lt k h).2)
  have Hsz := Lib.hid (show w.heap.size + 1 + 1 + 1 ≤ wC.heap.size from H2C.out.lt)
  have HbC9 := Lib.hid (show w.heap.size ≤ wC.heap.size from HbC.out.size)
  go_wp2_with fail
  go_loopw [39] (fun i wr => ∃ (k : Nat) (v : Value), k ≤ 67 ∧ i = .int .i64 k ∧ wr.ownsRow wC.heap.size 26 32 v k (prC seed ix dg k) ∧ Blk wr w.heap.size 24 #[.slice a n cap, .int .i64 (m : Int), .int .i64 (ix : Int)] ∧ Blk wr (w.heap.size + 1) 24 #[.slice none 0 0, .int .i64 0, .int .i64 0] ∧ Blk wr (w.heap.size + 1 + 1) 42 #[.int .i64 (ix : Int), v, .slice none 0 0] ∧ wr.ownsRow (w.heap.size + 1 + 1 + 1) 26 32 v8 m (pkC seed m) ∧ Below w.heap.size w wr ∧ wC.heap.size ≤ wr.heap.size) (fun i _ => 67 - (intOf i).toNat)
  case atStart => exact ⟨0, .slice none 0 0, by omega, rfl, World.ownsRow_nil _ _ _ _, H0C.out, H1C.out, H2C.out, HownC.out, HbC.out, Nat.le_refl _⟩
  case round =>
    clear H0C H1C H2C HownC HbC
    obtain ⟨k, v, hk, rfl, hown, h0, h1, h2, hown8, hb, hsC⟩ := hrel
    obtain ⟨va, vcap, rfl⟩ := (Sl.of_own hown).form
    have H0 := Lib.hid h0
    have H1 := Lib.hid h1
    have H2 := Lib.hid h2
    have Hown := Lib.hid hown
    have Hown8 := Lib.hid hown8
    have Hb := Lib.hid hb
    have HsC := Lib.hid hsC
    clear hown hown8 hb h0 h1 h2 hsC
    by_cases hlt : k < 67
    · have Hl1 := Lib.hid (show (bc (prt seed ix dg k)).length = 32 by rw [bc_len, prt_len])
      have Ho1 := Lib.hid (bc_one (prt seed ix dg k))
      have hd32 : (bc (prt seed ix dg k)).length = 32 := by rw [bc_len, prt_len]
      have Hap := Lib.hid (prC_succ seed ix dg k)
      have HVk := Lib.hid (fun W (hb : Below w.heap.size w W) => HV.out k (dig dg k) W hlt (dig_lt dg k) hb)
      rw [show vlu seed ix k (dig dg k) = prt seed ix dg k from rfl] at HVk
      obtain ⟨D3, hD3⟩ : ∃ D3, bc (prt seed ix dg k) = D3 := ⟨_, rfl⟩
      rw [hD3] at HVk Hl1 Ho1 Hap hd32
      have hix := run_index_arr wr 55 3 67 (digC dg) k _ _ Tryd.underlying55 Tryd.underlying3 rfl (by kernel_rfl) hlt (digC_at dg k hlt)
      obtain ⟨c0, c1, c2, f0, f1, f2⟩ := cells3 H0.out
      obtain ⟨d0, d1, d2, e0, e1, e2⟩ := cells3 H2.out
      clear hD3
      go_wp2_with fail
      go_region_law
        (first
          | (go_simp; go_at_call 38; refine (HVk.out _ (by (repeat (refine Below.drew ?_)); exact Hb.out)).mono ?_; rintro e w5 ⟨rfl, hb5⟩; have hbA : Below wr.heap.size wr w5 := Below.trans (by (repeat (refine Below.drew ?_)); exact Below.refl _ _) (hb5.mono (by simp)); obtain ⟨c0', c1', c2', f0', f1', f2'⟩ := cells3 (H0.out.below hbA H0.out.lt); obtain ⟨d0', d1', d2', e0', e1', e2'⟩ := cells3 (H2.out.below hbA H2.out.lt); have d1a : ∀ o, (w5.alloc o).cell? ⟨w.heap.size + 1 + 1, 1, none⟩ = some (.slice va k vcap) := fun o => by rw [((H2.out.below hbA H2.out.lt).alloc o).cell]; rfl)
          | ((rw [fold_all D3 _ (by rw [Hl1.out]; rfl)]; refine step_append_lies _ rfl (.tmp 44) (.tmp 52) 40 rfl wC.heap.size 26 iu _ 32 32 Tryd.underlying40 hiu hu0 hu1 hu2 rfl (by omega) (.slice va k vcap) k (prC seed ix dg k) rfl ((own_next Hown.out hbA).alloc _) ⟨w5.heap.size, 0, none⟩ 1 1 D3 rfl (by rw [Hl1.out]) (fun j u hu => by rw [Addr.add_mid]; exact (Blk.new w5 26 D3.toArray).range j u hu) Ho1.out (by omega) (by unfold maxLen; omega) (by omega) (by rw [World.size_alloc]; have := HsC.out; have := hbA.size; omega) _ rfl ?_; intro g7 cap7 w7 hown7 hg7 hor7 hlt7; have hT0 := sgn_step0 Hown.out HsC.out Hsz.out hbA H0.out (by omega) hg7; have hT1 := sgn_step0 Hown.out HsC.out Hsz.out hbA H1.out (by omega) hg7; have hT2 := sgn_step0 Hown.out HsC.out Hsz.out hbA H2.out (by omega) hg7; obtain ⟨d0'', d1'', d2'', e0'', e1'', e2''⟩ := cells3 hT2; have hT8 := sgn_own8 Hown8.out Hv8.out Hown.out hbA hg7; have hTb := sgn_bel Hb.out Hown.out HbC9.out hbA hg7; have hTs := sgn_size HsC.out hbA hg7; have hownF := own_eq Hap.out hown7)))
      all_goals
        clear hg7 hor7 hlt7 hbA hb5
        go_wp2_with fail
        go_roundw
        case rel => exact ⟨k + 1, .slice (some ⟨g7, 0, none⟩) (k + 1) cap7, by omega, by go_num, own_cell hownF (show w.heap.size + 1 + 1 < wC.heap.size by have := Hsz.out; omega) _, hT0.far (show w.heap.size ≠ w.heap.size + 1 + 1 by omega) _, hT1.far (show w.heap.size + 1 ≠ w.heap.size + 1 + 1 by omega) _, hT2.set_ 1 _, own_cell hT8 (show w.heap.size + 1 + 1 < w.heap.size + 1 + 1 + 1 by omega) _, hTb.setCell (p := ⟨w.heap.size + 1 + 1, 1, none⟩) (show w.heap.size ≤ w.heap.size + 1 + 1 by omega) _, by rw [World.size_setCell]; exact hTs⟩
        case measure => simp [intOf]; omega
    · have hk9 : k = 67 := by omega
      subst hk9
      obtain ⟨d0, d1, d2, e0, e1, e2⟩ := cells3 H2.out
      obtain ⟨c0, c1, c2, f0, f1, f2⟩ := cells3 H0.out
      clear hlt hk
      go_wp2_with (first
        | (refine (HPa.out _ _ _ Hown8.out Hb.out).mono ?_
           rintro e w5 ⟨p, rfl, hownp, hb5⟩
           obtain ⟨pa, pcap, rfl⟩ := (Sl.of_own hownp).form
           have H05 := (H0.out.below hb5 H0.out.lt)
           have H15 := (H1.out.below hb5 H1.out.lt)
           have H25 := (H2.out.below hb5 H2.out.lt)
           have Hown5 := own_next Hown.out hb5
           have Hb5 := Hb.out.trans (hb5.mono Hb.out.size)
           obtain ⟨d0', d1', d2', e0', e1', e2'⟩ := cells3 H25
           have hlp := Hsz.out
           have hlr := HsC.out
           have X0 := (H05.far (p := ⟨w.heap.size + 1 + 1, 2, none⟩) (show w.heap.size ≠ w.heap.size + 1 + 1 by omega) (.slice pa (m - 1) pcap)).set_ 2 (.int .i64 (ix + 1 : Int))
           have X1 := (H15.far (p := ⟨w.heap.size + 1 + 1, 2, none⟩) (show w.heap.size + 1 ≠ w.heap.size + 1 + 1 by omega) (.slice pa (m - 1) pcap)).far (p := ⟨w.heap.size, 2, none⟩) (show w.heap.size + 1 ≠ w.heap.size by omega) (.int .i64 (ix + 1 : Int))
           have X2 := (H25.set_ 2 (.slice pa (m - 1) pcap)).far (p := ⟨w.heap.size, 2, none⟩) (show w.heap.size + 1 + 1 ≠ w.heap.size by omega) (.int .i64 (ix + 1 : Int))
           have Xo := own_cell (own_cell Hown5 (p := ⟨w.heap.size + 1 + 1, 2, none⟩) (show w.heap.size + 1 + 1 < wC.heap.size by omega) (.slice pa (m - 1) pcap)) (p := ⟨w.heap.size, 2, none⟩) (show w.heap.size < wC.heap.size by omega) (.int .i64 (ix + 1 : Int))
           have Xp := own_cell (own_cell hownp (p := ⟨w.heap.size + 1 + 1, 2, none⟩) (show w.heap.size + 1 + 1 < wr.heap.size by omega) (.slice pa (m - 1) pcap)) (p := ⟨w.heap.size, 2, none⟩) (show w.heap.size < wr.heap.size by omega) (.int .i64 (ix + 1 : Int))
           have Xb := (Hb5.setCell (p := ⟨w.heap.size + 1 + 1, 2, none⟩) (show w.heap.size ≤ w.heap.size + 1 + 1 by omega) (.slice pa (m - 1) pcap)).setCell (p := ⟨w.heap.size, 2, none⟩) (Nat.le_refl _) (.int .i64 (ix + 1 : Int))
           obtain ⟨c0', c1', c2', f0', f1', f2'⟩ := cells3 (H05.far (p := ⟨w.heap.size + 1 + 1, 2, none⟩) (show w.heap.size ≠ w.heap.size + 1 + 1 by omega) (.slice pa (m - 1) pcap))
           clear hb5 H05 H15 H25))
      obtain ⟨wF, hwF⟩ : ∃ wF, (w5.setCell ⟨w.heap.size + 1 + 1, 2, none⟩ (.slice pa (m - 1) pcap)).setCell ⟨w.heap.size, 2, none⟩ (.int .i64 (ix + 1 : Int)) = wF := ⟨_, rfl⟩
      rw [hwF] at X0 X1 X2 Xo Xp Xb ⊢
      have Y0 : Blk wF w.heap.size 24 #[.slice a n cap, .int .i64 (m : Int), .int .i64 (ix + 1 : Int)] := X0
      have Y2 : Blk wF (w.heap.size + 1 + 1) 42 #[.int .i64 (ix : Int), .slice va 67 vcap, .slice pa (m - 1) pcap] := X2
      have XO := Lib.hid Xo
      have XP := Lib.hid Xp
      have XB := Lib.hid Xb
      have HB9 := Hb.out.size
      clear d0 d1 d2 e0 e1 e2 c0 c1 c2 f0 f1 f2 d0' d1' d2' e0' e1' e2' c0' c1' c2' f0' f1' f2' X0 X2 Xo Xp Xb hwF hownp Hown5 Hb5
      obtain ⟨c0, c1, c2, f0, f1, f2⟩ := cells3 Y0
      obtain ⟨d0, d1, d2, e0, e1, e2⟩ := cells3 Y2
      obtain ⟨b0, b1, b2, g0, g1, g2⟩ := cells3 X1
      clear Y0 Y2 X1
      go_region
      all_goals
        go_wp2_with fail
        refine bodyPost_ret (v := .tuple #[.agg #[.slice a n cap, .int .i64 (m : Int), .int .i64 (ix + 1 : Int)], .agg #[.int .i64 (ix : Int), .slice va 67 vcap, .slice pa (m - 1) pcap], .int .i64 0]) (by simp [results, Tryd.results22, go_sem, *]) rfl ?_
        refine ⟨_, _, rfl, own_mono (B := wC.heap.size) ?_ (by omega), own_mono (B := wr.heap.size) ?_ (by omega), ?_⟩
        · repeat (first | (with_reducible exact XO.out) | (with_reducible refine own_drew ?_) | (with_reducible refine own_cell ?_ ?_ _; rotate_left; (dsimp only; omega)))
        · repeat (first | (with_reducible exact XP.out) | (with_reducible refine own_drew ?_) | (with_reducible refine own_cell ?_ ?_ _; rotate_left; (dsimp only; omega)))
        · repeat (first | (with_reducible exact XB.out) | (with_reducible refine Below.drew ?_) | (with_reducible refine Below.setCell ?_ ?_ _; rotate_left; (dsimp only; omega)))
end Go.Proofs.YtiloaheaglcpbaaDoor
