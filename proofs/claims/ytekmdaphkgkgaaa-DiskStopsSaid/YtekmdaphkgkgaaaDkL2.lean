/- Disk: the statement DiskValid, the walk. -/
import Derived.Test.YtekmdaphkgkgaaaDkK
import Derived.Test.YtekmdaphkgkgaaaDkL1
import Derived.Deep.RegionHeld3
import Derived.Deep.DeepCutAuto
namespace Go.Proofs.Ytekmdaphkgkgaaa
open Go.RowKit

def DV (D : Dk) : Prop := chk D = 0 ∧ D.secs.length = 3 ∧ D.left ≤ 5
theorem dv_new : DV (newD 3) := by unfold DV; decide +kernel
theorem dv_ok {D : Dk} (h : DV D) : anyOdd D.secs = false ∧ -1 ≤ D.left ∧ 0 ≤ D.tear ∧ D.tear ≤ 128 ∧ (D.stop = false ∨ D.left = 0) := by
  obtain ⟨_, _, h3, h4, h5, h6, h7⟩ := chk_ok h.1
  exact ⟨h3, h4, h5, h6, h7⟩
theorem dv_mk {D : Dk} (h1 : D.secs.length = 3) (h2 : anyOdd D.secs = false) (h3 : -1 ≤ D.left) (h4 : D.left ≤ 5) (h5 : 0 ≤ D.tear) (h6 : D.tear ≤ 128) (h7 : D.stop = false ∨ D.left = 0) : DV D :=
  ⟨chk_0 (by omega) (by omega) h2 h3 h5 h6 h7, h1, h4⟩
theorem dv_restart {D : Dk} (h : DV D) : DV (restart D) := by
  have := dv_ok h
  exact dv_mk h.2.1 this.1 (by show (-1 : Int) ≤ -1; decide) (by show (-1 : Int) ≤ 5; decide) (by show (0 : Int) ≤ 0; decide) (by show (0 : Int) ≤ 128; decide) (.inl rfl)
theorem dv_stop {D : Dk} {l t : Int} (h : DV D) (hl : l ≤ 5) (hE : stE D l t = 0) : DV (stD D l t) := by
  have hk := dv_ok h
  have hs : ¬ (l < -1 ∨ t < 0 ∨ 128 < t) ∧ D.stop = false := by
    unfold stE at hE
    rw [if_neg (by rw [h.1]; decide)] at hE
    split at hE
    · cases hE
    · rename_i h2
      refine ⟨h2, ?_⟩
      split at hE
      · cases hE
      · simpa using ‹¬ D.stop = true›
  rw [stD, if_pos hE]
  exact dv_mk h.2.1 hk.1 (by show -1 ≤ l; omega) (by show l ≤ 5; omega) (by show 0 ≤ t; omega) (by show t ≤ 128; omega) (.inl hs.2)
theorem wrSec_len {left : Int} {t : Nat} {s b : List UInt8} (hs : s.length = 128) (hb : b.length = 128) (ht : t ≤ 128) : (wrSec left t s b).length = 128 := by
  have : wrM left t ≤ 128 := by unfold wrM; split <;> omega
  simp [wrSec, hs, hb]; omega
theorem anyOdd_set {S : List (List UInt8)} {k : Nat} {s : List UInt8} (h : anyOdd S = false) (hs : s.length = 128) : anyOdd (S.set k s) = false := by
  rw [anyOdd, List.any_eq_false]
  intro x hx
  rcases List.mem_or_eq_of_mem_set hx with hx | rfl
  · have := any_len h x hx
    simp [odd, this]
  · simp [odd, hs]
/-- what a whole write makes of a valid disk -/
theorem dv_wt {D : Dk} {k : Int} {b : List UInt8} (h : DV D) (hb : b.length = 128) : (wtE D k b = 1 ∧ wtD D k b = Dk.zero) ∨ ((wtE D k b = 0 ∨ wtE D k b = 410) ∧ DV (wtD D k b)) := by
  obtain ⟨h1, h2, h3, h4, h5⟩ := dv_ok h
  rcases chkS01 D k with h0 | h0
  · right
    obtain ⟨_, hk0, hk1⟩ := chkS_ok h0
    have hE : wtE D k b = if D.stop then 410 else if D.left = 0 then 410 else 0 := by rw [wtE, if_neg (by rw [h0]; decide), if_neg (by simp [hb])]
    have hD : wtD D k b = if D.stop then D else ⟨D.secs.set k.toNat (wrSec D.left D.tear.toNat (D.secs.getD k.toNat []) b), wrLeft D.left, D.tear, decide (D.left = 0)⟩ := by rw [wtD, if_neg (by rw [h0]; simp [hb])]
    rw [hE, hD]
    cases hst : D.stop
    · simp only [Bool.false_eq_true, if_false]
      refine ⟨by split <;> simp, ?_⟩
      have hs := any_len h1 (D.secs.getD k.toNat []) (by rw [List.getD, List.getElem?_eq_getElem (by omega)]; exact List.getElem_mem _)
      refine dv_mk (by simp [h.2.1]) (anyOdd_set h1 (wrSec_len hs hb (by omega))) ?_ ?_ h3 h4 ?_
      · show -1 ≤ wrLeft D.left
        unfold wrLeft; split <;> omega
      · show wrLeft D.left ≤ 5
        have := h.2.2
        unfold wrLeft; split <;> omega
      · by_cases hz : D.left = 0
        · right; show wrLeft D.left = 0; rw [hz]; rfl
        · left; exact decide_eq_false hz
    · simp only [if_true]
      exact ⟨.inr trivial, h⟩
  · left
    exact ⟨by rw [wtE, if_pos h0], by rw [wtD, if_pos (.inl h0)]⟩
theorem dv_len {D : Dk} (h : DV D) : (D.secs.length = 0 ∨ 2 ≤ D.secs.length) ∧ ∀ s ∈ D.secs, 0 < s.length := by
  refine ⟨.inr (by have := h.2.1; omega), fun s hs => ?_⟩
  have := any_len (dv_ok h).1 s hs
  omega

set_option maxRecDepth 100000 in
set_option maxHeartbeats 8000000 in
theorem diskValid_any (src : List UInt8) (v : Value) (w : World) (hv : Sl w 1 v src.length (bc src)) (hm : src.length ≤ maxLen) :
    Calls Try.prog 8 #[v] w fun e w' => e = .returned (.bool true) ∧ Below w.heap.size w w' := by
  unfold maxLen at hm
  obtain ⟨a, cap, rfl⟩ := hv.form
  by_cases hl : 100 < src.length
  · go_enter Try.func8, Try.ntmps8
    go_wp2_with fail
    refine (sane_any w).mono ?_
    rintro e w1 ⟨rfl, hb1⟩
    go_wp2_with fail
    go_ret
    exact ⟨rfl, hb1⟩
  · have hN := fun W => newP 3 W
    have e1 : nwE 3 = 0 := by decide
    have e2 : nwD 3 = newD 3 := by decide +kernel
    rw [e1, e2] at hN
    have HN := Lib.hid hN
    have HV := Lib.hid hv
    clear hN e1 e2 hv
    go_enter Try.func8, Try.ntmps8
    go_wp2_with fail
    refine (sane_any w).mono ?_
    rintro e w1 ⟨rfl, hb1⟩
    go_wp2_with fail
    refine (HN.out _).mono ?_
    intro e w2 hr
    obtain ⟨a2, cap2, rfl, hs2, hb2⟩ := hr.lit (S := (newD 3).secs) (n := 3) rfl (by decide)
    clear hr
    have hB2 : Below w.heap.size w w2 := hb1.trans (hb2.mono hb1.size)
    clear hb2 hb1
    go_wp2_with fail
    go_loopw [24] (fun i wr => ∃ (k : Nat) (S : List (List UInt8)) (l t : Int) (st : Bool) (x : Option Addr) (cx : Nat), k ≤ src.length ∧ i = .int .i64 k ∧ DV ⟨S, l, t, st⟩ ∧ Blk wr w2.heap.size 26 #[.slice x 3 cx, .int .i64 l, .int .i64 t, .bool st] ∧ Secs wr (.slice x 3 cx) S ∧ Below w.heap.size w wr) (fun i _ => src.length - (intOf i).toNat)
    case atStart => exact ⟨0, (newD 3).secs, -1, 0, false, a2, cap2, by omega, rfl, dv_new, Blk.new w2 _ _, hs2.next (below_alloc _ _), hB2.alloc hB2.size _⟩
    case round =>
      obtain ⟨k, S, l, t, st, x, cx, hk, rfl, hdv, hQ, hs, hb⟩ := hrel
      have HQ := Lib.hid hQ
      have HS := Lib.hid hs
      have HD := Lib.hid hdv
      obtain ⟨q0, q1, q2, q3, f0, f1, f2, f3⟩ := dkCells hQ
      have hQl := hQ.lt
      have HQB := Lib.hid hB2.size
      clear hQ hs hdv
      by_cases hlt : k < src.length
      · obtain ⟨g, off, rfl, hcap, hc⟩ := (HV.out.next hb).pos (by omega)
        obtain ⟨c, hck⟩ : ∃ c, src[k]? = some c := ⟨_, List.getElem?_eq_getElem hlt⟩
        have hcell := hc k (.int .u8 (c.toNat : Int)) (by simp [bc, hck])
        have hc256 := c.toNat_lt
        obtain ⟨n, hn⟩ : ∃ n : Nat, c.toNat = n := ⟨_, rfl⟩
        rw [hn] at hcell hc256
        have HC := Lib.hid hn
        have i1 : (0 : Int) ≤ (k : Int) := by omega
        have i2 : (k : Int) < (src.length : Int) := by omega
        have i3 : (0 : Int) ≤ (n : Int) := by omega
        have i4 : (n : Int) < 256 := by omega
        clear hc hck hn
        by_cases h0 : n % 5 = 0
        · have g0 : ((n : Int) % 5 == 0) = true := by rw [beq_iff_eq]; omega
          obtain ⟨lv, hlv⟩ : ∃ lv : Int, (n : Int) / 5 % 4 - 1 = lv := ⟨_, rfl⟩
          obtain ⟨tv, htv⟩ : ∃ tv : Int, (n : Int) % 130 = tv := ⟨_, rfl⟩
          have hl5 : lv ≤ 5 := by omega
          have hst := stop_any ⟨S, l, t, st⟩ _ lv tv wr HS.out.dkV
          clear h0
          by_cases hE : stE ⟨S, l, t, st⟩ lv tv = 0
          · have hdv' := dv_stop HD.out hl5 hE
            rw [hE] at hst
            obtain ⟨D', hD'⟩ : ∃ D', stD ⟨S, l, t, st⟩ lv tv = D' := ⟨_, rfl⟩
            rw [hD'] at hst hdv'
            obtain ⟨S', l', t', st'⟩ := D'
            have HST := Lib.hid hst
            have HD' := Lib.hid hdv'
            clear hst hdv' hD' hE
            go_wp2_with fail
            refine HST.out.mono ?_
            intro e w4 hr
            obtain ⟨a4, cap4, rfl, hs4, hb4⟩ := hr.lit (n := 3) rfl HD'.out.2.1
            clear hr hlv htv HST
            have hQ4 := (HQ.out.below hb4 hQl).alloc (.cells #[.slice a4 3 cap4, .int .i64 l', .int .i64 t', .bool st'] 26)
            have hsto := wr_store (l := l') (t := t') (st := st') hQ4 (hs4.next (below_alloc w4 (.cells #[.slice a4 3 cap4, .int .i64 l', .int .i64 t', .bool st'] 26))) (dv_len HD'.out).1 (dv_len HD'.out).2
            have hbX : Below w.heap.size w (w4.alloc (.cells #[.slice a4 3 cap4, .int .i64 l', .int .i64 t', .bool st'] 26)) := (hb.trans (hb4.mono hb.size)).alloc (by have := hb.size; have := hb4.size; omega) _
            obtain ⟨m0, m1, m2, m3, n0, n1, n2, n3⟩ := dkCells hQ4
            have HQX := Lib.hid hsto.1
            have HSX := Lib.hid hsto.2.1
            have HBX := Lib.hid (hbX.trans (hsto.2.2.below hbX.size (fun q hq e => by have := HQB.out; omega)))
            have HCk := check_any ⟨S', l', t', st'⟩ _ _ HSX.out.dkV
            rw [show chk ⟨S', l', t', st'⟩ = 0 from HD'.out.1] at HCk
            have HCk2 := Lib.hid HCk
            have hQ4l := hQ4.lt
            clear hsto hQ4 hbX HCk q0 q1 q2 q3 f0 f1 f2 f3
            go_wp2_with fail
            refine HCk2.out.mono ?_
            rintro e w8 ⟨rfl, hb8⟩
            have hQ8 := HQX.out.below hb8 HQX.out.lt
            obtain ⟨k0, k1, k2, k3, _, _, _, _⟩ := dkCells hQ8
            have HQ8 := Lib.hid hQ8
            have hs8 := Lib.hid (HSX.out.next hb8)
            have hbx8 := Lib.hid (HBX.out.trans (hb8.mono HBX.out.size))
            clear hQ8 hb8
            go_wp2_with fail
            go_roundw
            case rel => exact ⟨k + 1, S', l', t', st', a4, cap4, by omega, by go_num, HD'.out, HQ8.out, hs8.out, hbx8.out⟩
            case measure => simp [intOf]; omega
          · have hD0 := stD_0 hE
            obtain ⟨ce, hce⟩ : ∃ ce, stE ⟨S, l, t, st⟩ lv tv = ce := ⟨_, rfl⟩
            rw [hce] at hst hE
            rw [hD0] at hst
            have g1 : (ce == 0) = false := by simpa using hE
            have HST := Lib.hid hst
            clear hst hD0 hce hE
            go_wp2_with fail
            refine HST.out.mono ?_
            intro e w4 hr
            obtain ⟨a4, cap4, rfl, _, hb4⟩ := hr.lit (n := 0) rfl rfl
            clear hr hlv htv HST
            have hQ4 := (HQ.out.below hb4 hQl).alloc (.cells #[.slice a4 0 cap4, .int .i64 0, .int .i64 0, .bool false] 26)
            have hsX := (HS.out.next hb4).next (below_alloc w4 (.cells #[.slice a4 0 cap4, .int .i64 0, .int .i64 0, .bool false] 26))
            have hbX : Below w.heap.size w (w4.alloc (.cells #[.slice a4 0 cap4, .int .i64 0, .int .i64 0, .bool false] 26)) := (hb.trans (hb4.mono hb.size)).alloc (by have := hb.size; have := hb4.size; omega) _
            have hQw := HQ.out.below hb4 hQl
            obtain ⟨m0, m1, m2, m3, n0, n1, n2, n3⟩ := dkCells hQw
            have hlw := hQw.lt
            have HQX := Lib.hid hQ4
            have HSX := Lib.hid hsX
            have HBX := Lib.hid hbX
            have HCk := check_any ⟨S, l, t, st⟩ _ _ HSX.out.dkV
            rw [HD.out.1] at HCk
            have HCk2 := Lib.hid HCk
            have hQ4l := hQ4.lt
            have HD' := HD
            clear hQw hsX hQ4 hbX HCk q0 q1 q2 q3 f0 f1 f2 f3
            go_wp2_with fail
            refine HCk2.out.mono ?_
            rintro e w8 ⟨rfl, hb8⟩
            have hQ8 := HQX.out.below hb8 HQX.out.lt
            obtain ⟨k0, k1, k2, k3, _, _, _, _⟩ := dkCells hQ8
            have HQ8 := Lib.hid hQ8
            have hs8 := Lib.hid (HSX.out.next hb8)
            have hbx8 := Lib.hid (HBX.out.trans (hb8.mono HBX.out.size))
            clear hQ8 hb8
            go_wp2_with fail
            go_roundw
            case rel => exact ⟨k + 1, S, l, t, st, x, cx, by omega, by go_num, HD'.out, HQ8.out, hs8.out, hbx8.out⟩
            case measure => simp [intOf]; omega
        · have g0 : ((n : Int) % 5 == 0) = false := by rw [beq_eq_false_iff_ne]; omega
          by_cases h1 : n % 5 = 1
          · have g1 : ((n : Int) % 5 == 1) = true := by rw [beq_iff_eq]; omega
            clear h0 h1
            go_wp2_with fail
            refine (restart_any ⟨S, l, t, st⟩ _ wr HS.out.dkV).mono ?_
            intro e w4 hr
            obtain ⟨a4, cap4, rfl, hs4, hb4⟩ := hr.lit (n := 3) rfl HD.out.2.1
            clear hr
            have HD' := Lib.hid (dv_restart HD.out)
            have hQ4 := HQ.out.below hb4 hQl
            have hsto := wr_store (l := -1) (t := 0) (st := false) hQ4 hs4 (dv_len HD'.out).1 (dv_len HD'.out).2
            have hbX : Below w.heap.size w w4 := hb.trans (hb4.mono hb.size)
            obtain ⟨m0, m1, m2, m3, n0, n1, n2, n3⟩ := dkCells hQ4
            have HQX := Lib.hid hsto.1
            have HSX := Lib.hid hsto.2.1
            have HBX := Lib.hid (hbX.trans (hsto.2.2.below hbX.size (fun q hq e => by have := HQB.out; omega)))
            have HCk := check_any ⟨S, (-1), 0, false⟩ _ _ HSX.out.dkV
            rw [show chk ⟨S, (-1), 0, false⟩ = 0 from HD'.out.1] at HCk
            have HCk2 := Lib.hid HCk
            have hQ4l := hQ4.lt
            clear hsto hQ4 hbX HCk q0 q1 q2 q3 f0 f1 f2 f3
            go_wp2_with fail
            refine HCk2.out.mono ?_
            rintro e w8 ⟨rfl, hb8⟩
            have hQ8 := HQX.out.below hb8 HQX.out.lt
            obtain ⟨k0, k1, k2, k3, _, _, _, _⟩ := dkCells hQ8
            have HQ8 := Lib.hid hQ8
            have hs8 := Lib.hid (HSX.out.next hb8)
            have hbx8 := Lib.hid (HBX.out.trans (hb8.mono HBX.out.size))
            clear hQ8 hb8
            go_wp2_with fail
            go_roundw
            case rel => exact ⟨k + 1, S, (-1), 0, false, a4, cap4, by omega, by go_num, HD'.out, HQ8.out, hs8.out, hbx8.out⟩
            case measure => simp [intOf]; omega
          · have g1 : ((n : Int) % 5 == 1) = false := by rw [beq_eq_false_iff_ne]; omega
            clear h0 h1
            obtain ⟨m, hm4⟩ : ∃ m : Nat, n % 4 = m := ⟨_, rfl⟩
            have u1 : (n : Int).tmod 4 = (m : Int) := by rw [Int.tmod_eq_emod_of_nonneg (by omega)]; omega
            have u2 : (n : Int) % 4 = (m : Int) := by omega
            have u3 : IntKind.i64.wrap (n : Int) = (n : Int) := IntWalk.i64_in _ (by omega)
            have u4 : IntKind.i64.wrap (m : Int) = (m : Int) := IntWalk.i64_in _ (by omega)
            have hbl : (List.replicate 128 c).length = 128 := List.length_replicate
            have hdw := dv_wt (k := (m : Int)) HD.out hbl
            obtain ⟨D', hD'⟩ : ∃ D', wtD ⟨S, l, t, st⟩ (m : Int) (List.replicate 128 c) = D' := ⟨_, rfl⟩
            obtain ⟨cE, hcE⟩ : ∃ cE, wtE ⟨S, l, t, st⟩ (m : Int) (List.replicate 128 c) = cE := ⟨_, rfl⟩
            rw [hD', hcE] at hdw
            obtain ⟨S', l', t', st'⟩ := D'
            obtain ⟨Q, hQe⟩ : ∃ Q, w2.heap.size = Q := ⟨_, rfl⟩
            rw [hQe] at q0 q1 q2 q3 f0 f1 f2 f3 hQl HQ HQB ⊢
            have HWh := Lib.hid (fun w W hb => whole_lit c w W hb)
            rw [HC.out] at HWh
            clear hm4 hQe
            have hlen' : (S'.length = 0 ∨ 2 ≤ S'.length) ∧ ∀ s ∈ S', 0 < s.length := by
              rcases hdw with ⟨_, h⟩ | ⟨_, h⟩
              · cases h; exact ⟨.inl rfl, by simp⟩
              · exact dv_len h
            have HL' := Lib.hid hlen'
            have hl5 : l ≤ 9223372036854775807 := by have := HD.out.2.2; simp only [] at this; omega
            have HWt := Lib.hid (fun w W (ab : Option Addr) (cb : Nat) hs hb hv g hZ => wt_litZ S S' l t l' t' st st' (m : Int) (List.replicate 128 c) cE w W x ab 3 cx cb HD.out.2.1 _ rfl hD' hcE hs hb hv hbl hl5 g hZ)
            have HWt2 := Lib.hid (fun w W (ab : Option Addr) (cb : Nat) hs hb hv => wt_lit S S' l t l' t' st st' (m : Int) (List.replicate 128 c) cE w W x ab 3 cx cb HD.out.2.1 _ rfl hD' hcE hs hb hv hbl hl5)
            have HDW := Lib.hid hdw
            clear hdw hlen' hD' hcE hbl
            go_wp2_with fail
            go_cut [9, 10] (fun s9 s10 wx => s10 = .int .i64 cE ∧ WrReg wr S' l' t' st' s9 wx)
            case first =>
              have hl1 : Q < wr.heap.size + 1 := by omega
              have hneQ : ¬ Q = wr.heap.size := by omega
              go_region_held3 (fun w' => w'.cell? ⟨Q, 0, none⟩ = some (.slice x 3 cx) ∧ w'.cell? ⟨Q, 1, none⟩ = some (.int .i64 l) ∧ w'.cell? ⟨Q, 2, none⟩ = some (.int .i64 t) ∧ w'.cell? ⟨Q, 3, none⟩ = some (.bool st))
                (first
                  | (with_reducible exact ⟨q0, q1, q2, q3⟩)
                  | (simp only [World.cell?_drew]; with_reducible exact ⟨q0, q1, q2, q3⟩)
                  | (go_split_ands; refine ⟨?_, ?_, ?_, ?_⟩ <;> (rw [hcc9 _ _ (by first | omega | (simp; omega))]; assumption))
                  | (go_split_ands; refine ⟨?_, ?_, ?_, ?_⟩ <;> (rw [hcc5 _ _ (by first | omega | (simp; omega))]; assumption))
                  | (go_split_ands; refine ⟨?_, ?_, ?_, ?_⟩ <;> (rw [World.cell?_alloc_past _ _ _ (by first | omega | (simp; omega))]; assumption))
                  | (go_split_ands; refine ⟨?_, ?_, ?_, ?_⟩ <;> (rw [World.cell?_drew, World.cell?_alloc_past _ _ _ (by first | omega | (simp; omega))]; assumption))
                  | (go_split_ands; refine ⟨?_, ?_, ?_, ?_⟩ <;> ((repeat (rw [World.cell?_setCell_other _ _ _ _ (by intro h; have := congrArg Addr.block h; simp at this; omega)])); assumption)))
                (first
                  | (go_at_call 15; refine (HWh.out wr _ (by (repeat (first | (refine Below.alloc ?_ (by simp) _) | (refine Below.drew ?_))); exact Below.refl _ _)).mono ?_; rintro e w5 ⟨xw, cw, rfl, hsw, hb5, hb5'⟩; obtain ⟨hcc5, hff5⟩ := bcell hb5; have hk5 := fun g T cs (h : Blk _ g T cs) => h.below hb5 h.lt; have hn5 : ¬ Q = w5.heap.size := (by have := hb5'.size; omega); have hl5 : Q < w5.heap.size := (by have := hb5'.size; omega); have hl5' : Q < w5.heap.size + 1 := (by omega))
                  | (go_at_call 16; refine (HWt.out wr _ xw cw HS.out (by (repeat (first | (refine Below.alloc ?_ (by have := hb5'.size; simp; omega) _) | (refine Below.drew ?_))); exact hb5') (by first | exact hsw | exact hsw.alloc _) _ (hk5 _ _ _ (Blk.new _ _ _))).mono ?_; rintro e w9 ⟨a', cap', rfl, hs9, hZ, hb9, hb9'⟩; obtain ⟨z0, z1, z2, z3, p0, p1, p2, p3⟩ := dkCells hZ; obtain ⟨hcc9, hff9⟩ := bcell hb9; have hn9 : ¬ Q = w9.heap.size := (by have := hb9'.size; omega); have hl9 : Q < w9.heap.size := (by have := hb9'.size; omega); have d0 := (hb9'.cell (p := ⟨Q, 0, none⟩) hQl).trans q0; have d1 := (hb9'.cell (p := ⟨Q, 1, none⟩) hQl).trans q1; have d2 := (hb9'.cell (p := ⟨Q, 2, none⟩) hQl).trans q2; have d3 := (hb9'.cell (p := ⟨Q, 3, none⟩) hQl).trans q3)
                  | (go_at_call 16; refine (HWt.out wr _ xw cw HS.out (by (repeat (first | (refine Below.alloc ?_ (by have := hb5'.size; simp; omega) _) | (refine Below.drew ?_))); exact hb5') (by first | exact hsw | exact hsw.alloc _) _ (Blk.new _ _ _)).mono ?_; rintro e w9 ⟨a', cap', rfl, hs9, hZ, hb9, hb9'⟩; obtain ⟨z0, z1, z2, z3, p0, p1, p2, p3⟩ := dkCells hZ; obtain ⟨hcc9, hff9⟩ := bcell hb9; have hn9 : ¬ Q = w9.heap.size := (by have := hb9'.size; omega); have hl9 : Q < w9.heap.size := (by have := hb9'.size; omega); have d0 := (hb9'.cell (p := ⟨Q, 0, none⟩) hQl).trans q0; have d1 := (hb9'.cell (p := ⟨Q, 1, none⟩) hQl).trans q1; have d2 := (hb9'.cell (p := ⟨Q, 2, none⟩) hQl).trans q2; have d3 := (hb9'.cell (p := ⟨Q, 3, none⟩) hQl).trans q3)
                  | (go_at_call 16; refine (HWt2.out wr _ xw cw HS.out (by (repeat (first | (refine Below.alloc ?_ (by have := hb5'.size; simp; omega) _) | (refine Below.drew ?_))); exact hb5') hsw).mono ?_; rintro e w9 ⟨a', cap', rfl, hs9, hb9, hb9'⟩; obtain ⟨hcc9, hff9⟩ := bcell hb9; have hn9 : ¬ Q = w9.heap.size := (by have := hb9'.size; omega); have hl9 : Q < w9.heap.size := (by have := hb9'.size; omega); have d0 := (hb9'.cell (p := ⟨Q, 0, none⟩) hQl).trans q0; have d1 := (hb9'.cell (p := ⟨Q, 1, none⟩) hQl).trans q1; have d2 := (hb9'.cell (p := ⟨Q, 2, none⟩) hQl).trans q2; have d3 := (hb9'.cell (p := ⟨Q, 3, none⟩) hQl).trans q3))
              all_goals
                go_wp2_with fail
                go_meet
                refine ⟨rfl, ?_⟩
                first
                  | (with_reducible exact wr_fin2 rfl hs9 hb9')
                  | (with_reducible exact wr_fin1 rfl hs9 hb9' (Nat.le_refl _) HL'.out.1 HL'.out.2 hZ)
                  | (with_reducible exact wr_fin1 rfl hs9 hb9' hb5'.size HL'.out.1 HL'.out.2 hZ)
            case rest =>
              obtain ⟨rfl, g9, a', cap', rfl, hg9, hB9, hs9, hb9⟩ := hcut
              obtain ⟨y0, y1, y2, y3, _, _, _, _⟩ := dkCells hB9
              have hQ4 := HQ.out.below hb9 hQl
              have hbX : Below w.heap.size w wc := hb.trans (hb9.mono hb.size)
              have hsX := HS.out.next hb9
              have hne1 : ¬ g9 = Q := by omega
              have hne2 : ¬ Q = g9 := by omega
              rcases HDW.out with ⟨hc1, hz⟩ | ⟨hc1, hdv'⟩
              · subst hc1
                obtain ⟨m0, m1, m2, m3, n0, n1, n2, n3⟩ := dkCells hQ4
                have HQX := Lib.hid hQ4
                have HSX := Lib.hid hsX
                have HBX := Lib.hid hbX
                have HCk := check_any ⟨S, l, t, st⟩ _ _ HSX.out.dkV
                rw [HD.out.1] at HCk
                have HCk2 := Lib.hid HCk
                have hQ4l := hQ4.lt
                have HD' := HD
                clear hsX hQ4 hbX HCk q0 q1 q2 q3 f0 f1 f2 f3
                go_wp2_with fail
                refine HCk2.out.mono ?_
                rintro e w8 ⟨rfl, hb8⟩
                have hQ8 := HQX.out.below hb8 HQX.out.lt
                obtain ⟨k0, k1, k2, k3, _, _, _, _⟩ := dkCells hQ8
                have HQ8 := Lib.hid hQ8
                have hs8 := Lib.hid (HSX.out.next hb8)
                have hbx8 := Lib.hid (HBX.out.trans (hb8.mono HBX.out.size))
                clear hQ8 hb8
                go_wp2_with fail
                go_roundw
                case rel => exact ⟨k + 1, S, l, t, st, x, cx, by omega, by go_num, HD'.out, HQ8.out, hs8.out, hbx8.out⟩
                case measure => simp [intOf]; omega
              · have HD' := Lib.hid hdv'
                have hl3 : S'.length = 3 := hdv'.2.1
                rw [hl3] at y0 hs9
                clear hdv' hl3
                have hsto := wr_store (l := l') (t := t') (st := st') hQ4 hs9 HL'.out.1 HL'.out.2
                rcases hc1 with rfl | rfl
                · obtain ⟨m0, m1, m2, m3, n0, n1, n2, n3⟩ := dkCells hQ4
                  have HQX := Lib.hid hsto.1
                  have HSX := Lib.hid hsto.2.1
                  have HBX := Lib.hid (hbX.trans (hsto.2.2.below hbX.size (fun q hq e => by have := HQB.out; omega)))
                  have HCk := check_any ⟨S', l', t', st'⟩ _ _ HSX.out.dkV
                  rw [show chk ⟨S', l', t', st'⟩ = 0 from HD'.out.1] at HCk
                  have HCk2 := Lib.hid HCk
                  have hQ4l := hQ4.lt
                  clear hsto hQ4 hbX HCk q0 q1 q2 q3 f0 f1 f2 f3
                  go_wp2_with fail
                  refine HCk2.out.mono ?_
                  rintro e w8 ⟨rfl, hb8⟩
                  have hQ8 := HQX.out.below hb8 HQX.out.lt
                  obtain ⟨k0, k1, k2, k3, _, _, _, _⟩ := dkCells hQ8
                  have HQ8 := Lib.hid hQ8
                  have hs8 := Lib.hid (HSX.out.next hb8)
                  have hbx8 := Lib.hid (HBX.out.trans (hb8.mono HBX.out.size))
                  clear hQ8 hb8
                  go_wp2_with fail
                  go_roundw
                  case rel => exact ⟨k + 1, S', l', t', st', a', cap', by omega, by go_num, HD'.out, HQ8.out, hs8.out, hbx8.out⟩
                  case measure => simp [intOf]; omega
                · obtain ⟨m0, m1, m2, m3, n0, n1, n2, n3⟩ := dkCells hQ4
                  have HQX := Lib.hid hsto.1
                  have HSX := Lib.hid hsto.2.1
                  have HBX := Lib.hid (hbX.trans (hsto.2.2.below hbX.size (fun q hq e => by have := HQB.out; omega)))
                  have HCk := check_any ⟨S', l', t', st'⟩ _ _ HSX.out.dkV
                  rw [show chk ⟨S', l', t', st'⟩ = 0 from HD'.out.1] at HCk
                  have HCk2 := Lib.hid HCk
                  have hQ4l := hQ4.lt
                  clear hsto hQ4 hbX HCk q0 q1 q2 q3 f0 f1 f2 f3
                  go_wp2_with fail
                  refine HCk2.out.mono ?_
                  rintro e w8 ⟨rfl, hb8⟩
                  have hQ8 := HQX.out.below hb8 HQX.out.lt
                  obtain ⟨k0, k1, k2, k3, _, _, _, _⟩ := dkCells hQ8
                  have HQ8 := Lib.hid hQ8
                  have hs8 := Lib.hid (HSX.out.next hb8)
                  have hbx8 := Lib.hid (HBX.out.trans (hb8.mono HBX.out.size))
                  clear hQ8 hb8
                  go_wp2_with fail
                  go_roundw
                  case rel => exact ⟨k + 1, S', l', t', st', a', cap', by omega, by go_num, HD'.out, HQ8.out, hs8.out, hbx8.out⟩
                  case measure => simp [intOf]; omega
      · go_wp2_with fail
        go_ret
        exact ⟨rfl, hb⟩
end Go.Proofs.Ytekmdaphkgkgaaa
