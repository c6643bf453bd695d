/- Signing: the public key; the digest of a message. -/
import Derived.Test.YtiloaheaglcpbaaDoorSgF4
import Derived.Test.YtiloaheaglcpbaaDoorSgS9
namespace Go.Proofs.YtiloaheaglcpbaaDoor
open Go.RowKit

/-- the public key of a key of one or two -/
def pub (seed : List UInt8) (m : Nat) : List UInt8 := if m = 1 then tr1 (pk1 seed 0) else tr2 (pk1 seed 0) (pk1 seed 1)
theorem pub_len (seed : List UInt8) (m : Nat) : (pub seed m).length = 32 := by unfold pub; split <;> rfl
theorem pkC_1 (seed : List UInt8) : pkC seed 1 = bc (pk1 seed 0) := (pkC_succ seed 0).symm
theorem pkC_2 (seed : List UInt8) : pkC seed 2 = bc (pk1 seed 0) ++ bc (pk1 seed 1) := by rw [← pkC_1]; exact (pkC_succ seed 1).symm
theorem range_left {w : World} {g o : Nat} {xs ys : List Value} (h : w.rangeAt g o (xs ++ ys)) : w.rangeAt g o xs := fun j u hu => h j u (by
  have hj : j < xs.length := by
    rcases Nat.lt_or_ge j xs.length with h | h
    · exact h
    · rw [List.getElem?_eq_none h] at hu; cases hu
  rw [List.getElem?_append_left hj]; exact hu)
theorem range_right {w : World} {g o n : Nat} {xs ys : List Value} (h : w.rangeAt g o (xs ++ ys)) (hn : xs.length = n) : w.rangeAt g (o + n) ys := fun j u hu => by
  have := h (n + j) u (by rw [List.getElem?_append_right (by omega), hn, Nat.add_sub_cancel_left]; exact hu)
  rw [Nat.add_assoc]; exact this
theorem own_range {w : World} {B m : Nat} {v : Value} {e : TypeId} {xs : List Value} (h : w.ownsRow B e 32 v m xs) (hm : 0 < m) : ∃ g cap, v = .slice (some ⟨g, 0, none⟩) m cap ∧ m ≤ cap ∧ w.rangeAt g 0 xs := by
  obtain ⟨g, cap, rfl, hh⟩ := h.form hm
  obtain ⟨h1, h2 | ⟨g', cap', cur, e1, e2, e3, e4, r⟩⟩ := h
  · obtain ⟨h2, _⟩ := h2; cases h2
  · cases e1
    refine ⟨g, cap, rfl, e4, fun j u hu => ?_⟩
    have hown : w.ownsRow B e 32 (.slice (some ⟨g, 0, none⟩) m cap) m xs := ⟨h1, .inr ⟨g, cap, cur, rfl, e2, e3, e4, r⟩⟩
    have hj : j < m * 32 := by
      rcases Nat.lt_or_ge j (m * 32) with h | h
      · exact h
      · rw [List.getElem?_eq_none (by omega)] at hu; cases hu
    rw [Nat.zero_add, hown.cellAt j hj]; exact hu
theorem tree_pk (seed : List UInt8) (m : Nat) (hm : m = 1 ∨ m = 2) (B : Nat) (v : Value) (w : World) (h : w.ownsRow B 26 32 v m (pkC seed m)) (hT : Tabs w) :
    Calls Tryd.prog 33 #[v] w fun e w' => e = .returned (arrV (pub seed m)) ∧ Below w.heap.size w w' := by
  obtain ⟨g, cap, rfl, hcap, hr⟩ := own_range h (by omega)
  rcases hm with rfl | rfl
  · rw [pkC_1] at hr
    exact tree1_any (pk1 seed 0) rfl g 0 cap w hT hr
  · rw [pkC_2] at hr
    exact tree2_any (pk1 seed 0) (pk1 seed 1) rfl rfl g 0 cap w hcap hT (range_left hr) (range_right hr (by rw [bc_len]; rfl))

/-- two results: a row, a slot -/
theorem results_row_slot {P : Program} {fn : Func} {p q : Tmp} {ty : TypeId} (h : fn.results = #[.cell p ty, .tmp q]) (tmps : Array Value) (w : World) (g : Nat) (cs : List Value) (d : TypeDesc) (u : Value)
    (hp : tmps.getD p undef = .pointer (some ⟨g, 0, none⟩)) (hq : tmps.getD q undef = u) (hg : w.rangeAt g 0 cs) (hu : P.underlying ty = some d) (hd : d.isRow = true) (hi : (P.info? ty).map (·.size) = some cs.length) :
    (results fn tmps).run P w = .ok (.tuple #[.agg cs.toArray, u]) w := by
  have hp' : tmps[p]?.getD undef = .pointer (some ⟨g, 0, none⟩) := by simpa using hp
  have hq' : tmps[q]?.getD undef = u := by simpa using hq
  simp [results, h, hp', hq', asAddr, run_loadVar_mid w g 0 ty cs d hg hu hd hi]

def pubE (seed : List UInt8) (n : Nat) (many used : Int) (m : Nat) : Value :=
  if isKeyB n many used then .tuple #[arrV (pub seed m), .int .i64 0] else .tuple #[.agg #[.int .u8 0, .int .u8 0, .int .u8 0, .int .u8 0, .int .u8 0, .int .u8 0, .int .u8 0, .int .u8 0, .int .u8 0, .int .u8 0, .int .u8 0, .int .u8 0, .int .u8 0, .int .u8 0, .int .u8 0, .int .u8 0, .int .u8 0, .int .u8 0, .int .u8 0, .int .u8 0, .int .u8 0, .int .u8 0, .int .u8 0, .int .u8 0, .int .u8 0, .int .u8 0, .int .u8 0, .int .u8 0, .int .u8 0, .int .u8 0, .int .u8 0, .int .u8 0], .int .i64 320]
set_option maxRecDepth 100000 in
set_option maxHeartbeats 1000000 in
theorem public_ok (seed : List UInt8) (n : Nat) (hn : seed.length = n) (a : Option Addr) (cap : Nat) (m : Nat) (hm : m = 1 ∨ m = 2) (used : Int) (hk : isKeyB n (m : Int) used = true) (w : World) (hs : Sl w 1 (.slice a n cap) n (bc seed)) (hT : Tabs w) :
    Calls Tryd.prog 20 #[keyV a n cap (m : Int) used] w fun e w' => e = .returned (.tuple #[arrV (pub seed m), .int .i64 0]) ∧ Below w.heap.size w w' := by
  have HK := Lib.hid (fun W => isKey_any a n cap (m : Int) used W)
  have hk9 := isKeyB_t hk
  rw [hk] at HK
  have HP := Lib.hid (fun W (hb : Below w.heap.size w W) => publicKeys_any seed n hn (by omega) a cap m used (by omega) W (hs.next hb) (hT.next hb))
  have HTr := Lib.hid (fun B v W h (hb : Below w.heap.size w W) => tree_pk seed m hm B v W h (hT.next hb))
  have Hl2 := Lib.hid (show (bc (pub seed m)).length = 32 by rw [bc_len, pub_len])
  have Ho2 := Lib.hid (bc_one (pub seed m))
  unfold arrV at HTr ⊢
  obtain ⟨D2, hD2⟩ : ∃ D2, bc (pub seed m) = D2 := ⟨_, rfl⟩
  rw [hD2] at HTr Hl2 Ho2 ⊢
  have hg1 := (Blk.new w 24 #[.slice a n cap, .int .i64 (m : Int), .int .i64 used]).alloc (.cells #[.int .u8 0, .int .u8 0, .int .u8 0, .int .u8 0, .int .u8 0, .int .u8 0, .int .u8 0, .int .u8 0, .int .u8 0, .int .u8 0, .int .u8 0, .int .u8 0, .int .u8 0, .int .u8 0, .int .u8 0, .int .u8 0, .int .u8 0, .int .u8 0, .int .u8 0, .int .u8 0, .int .u8 0, .int .u8 0, .int .u8 0, .int .u8 0, .int .u8 0, .int .u8 0, .int .u8 0, .int .u8 0, .int .u8 0, .int .u8 0, .int .u8 0, .int .u8 0] 26)
  have hg2 := Blk.new (w.alloc (.cells #[.slice a n cap, .int .i64 (m : Int), .int .i64 used] 24)) 26 #[.int .u8 0, .int .u8 0, .int .u8 0, .int .u8 0, .int .u8 0, .int .u8 0, .int .u8 0, .int .u8 0, .int .u8 0, .int .u8 0, .int .u8 0, .int .u8 0, .int .u8 0, .int .u8 0, .int .u8 0, .int .u8 0, .int .u8 0, .int .u8 0, .int .u8 0, .int .u8 0, .int .u8 0, .int .u8 0, .int .u8 0, .int .u8 0, .int .u8 0, .int .u8 0, .int .u8 0, .int .u8 0, .int .u8 0, .int .u8 0, .int .u8 0, .int .u8 0]
  rw [World.size_alloc] at hg2
  have H1 := Lib.hid hg1
  have H2 := Lib.hid hg2
  have Hb := Lib.hid ((below_alloc w (.cells #[.slice a n cap, .int .i64 (m : Int), .int .i64 used] 24)).alloc (by simp) (.cells #[.int .u8 0, .int .u8 0, .int .u8 0, .int .u8 0, .int .u8 0, .int .u8 0, .int .u8 0, .int .u8 0, .int .u8 0, .int .u8 0, .int .u8 0, .int .u8 0, .int .u8 0, .int .u8 0, .int .u8 0, .int .u8 0, .int .u8 0, .int .u8 0, .int .u8 0, .int .u8 0, .int .u8 0, .int .u8 0, .int .u8 0, .int .u8 0, .int .u8 0, .int .u8 0, .int .u8 0, .int .u8 0, .int .u8 0, .int .u8 0, .int .u8 0, .int .u8 0] 26))
  obtain ⟨c0, c1, c2, f0, f1, f2⟩ := cells3 hg1
  unfold keyV
  clear hs hT hn hD2 hg1 hg2 hk hk9
  go_enter Tryd.func20, Tryd.ntmps20
  go_wp2_with (first
    | (refine (HK.out _).mono ?_
       rintro e w7 ⟨rfl, hb7⟩
       have H17 := Lib.hid (H1.out.below hb7 H1.out.lt)
       have H27 := Lib.hid (H2.out.below hb7 H2.out.lt)
       have Hb7 := Lib.hid (Hb.out.trans (hb7.mono Hb.out.size))
       clear hb7 c0 c1 c2 f0 f1 f2
       obtain ⟨c0, c1, c2, f0, f1, f2⟩ := cells3 H17.out)
    | (refine (HP.out _ Hb7.out).mono ?_
       rintro e w8 ⟨v8, rfl, hown8, hb8⟩
       have H28 := Lib.hid (H27.out.below hb8 H27.out.lt)
       have Hb8 := Lib.hid (Hb7.out.trans (hb8.mono Hb7.out.size))
       have Hown8 := Lib.hid hown8
       clear hb8 hown8)
    | (refine (HTr.out _ _ _ Hown8.out Hb8.out).mono ?_
       rintro e w9 ⟨rfl, hb9⟩
       have H29 := Lib.hid (H28.out.below hb9 H28.out.lt)
       have Hb9 := Lib.hid (Hb8.out.trans (hb9.mono Hb8.out.size))
       clear hb9)
    | (refine wpList_store_row rfl 26 _ _ rfl (w.heap.size + 1) D2.toArray rfl rfl 26 _ H29.out (by rw [List.size_toArray, Hl2.out]; exact infoDg) (show 32 = D2.length from Hl2.out.symm) (all_oneCell_toArray Ho2.out) ?_))
  refine bodyPost_ret (v := .tuple #[.agg D2.toArray, .int .i64 0]) (results_row_slot rfl _ _ (w.heap.size + 1) D2 _ _ rfl rfl (H29.out.setRow D2.toArray).range Tryd.underlying26 rfl (by rw [Hl2.out]; exact infoDg)) rfl ?_
  exact ⟨rfl, setRow_below Hb9.out (by omega) _⟩

def msgB : List UInt8 := sB ⟨#[109, 101, 115, 115, 97, 103, 101]⟩
/-- the digest of a message -/
def mh (d : List UInt8) (ix : Nat) (msg : List UInt8) : List UInt8 := tg msgB (d ++ [UInt8.ofNat ix] ++ msg)
theorem mh_len (d : List UInt8) (ix : Nat) (msg : List UInt8) : (mh d ix msg).length = 32 := rfl
theorem bc1 {i : Nat} (hi : i < 256) : bc [UInt8.ofNat i] = [.int .u8 (i : Int)] := by
  have e : ∀ m : Nat, m < 256 → (UInt8.ofNat m).toNat = m := fun m h => by rw [UInt8.toNat_ofNat']; omega
  simp only [bc, List.map_cons, List.map_nil, e i hi]

set_option maxRecDepth 100000 in
set_option maxHeartbeats 1000000 in
theorem messageHash_any (d : List UInt8) (hd : d.length = 32) (ix : Nat) (hix : ix < 256) (msg : List UInt8) (q : Nat) (hq : msg.length = q) (hq9 : q ≤ 1000000) (y : Value) (w : World) (hy : Sl w 1 y q (bc msg)) (hT : Tabs w) :
    Calls Tryd.prog 37 #[arrV d, .int .i64 (ix : Int), y] w fun e w' => e = .returned (arrV (mh d ix msg)) ∧ Below w.heap.size w w' := by
  obtain ⟨iu, hiu, hu0, hu1, hu2⟩ := info_parts infoU8
  have h1 := bc1 hix
  have Htg := Lib.hid (fun v W (hs : Sl W 1 v (32 + 1 + q) (bc (d ++ [UInt8.ofNat ix] ++ msg))) (hb : Below w.heap.size w W) => tagged_any ⟨#[109, 101, 115, 115, 97, 103, 101]⟩ (by decide) (d ++ [UInt8.ofNat ix] ++ msg) (32 + 1 + q) (by rw [List.length_append, List.length_append, hd, hq]; rfl) (by omega) (by omega) v W hs (hT.next hb))
  rw [show tg (sB ⟨#[109, 101, 115, 115, 97, 103, 101]⟩) (d ++ [UInt8.ofNat ix] ++ msg) = mh d ix msg from rfl, bc_app, bc_app, h1] at Htg
  have Hl2 := Lib.hid (show (bc (mh d ix msg)).length = 32 by rw [bc_len, mh_len])
  have Ho2 := Lib.hid (bc_one (mh d ix msg))
  have Hl1 := Lib.hid (show (bc d).length = 32 by rw [bc_len, hd])
  have Ho1 := Lib.hid (bc_one d)
  have HoM := Lib.hid (bc_one msg)
  have HY := Lib.hid hy
  unfold arrV at Htg ⊢
  obtain ⟨D2, hD2⟩ : ∃ D2, bc (mh d ix msg) = D2 := ⟨_, rfl⟩
  rw [hD2] at Htg Hl2 Ho2 ⊢
  obtain ⟨D, hD⟩ : ∃ D, bc d = D := ⟨_, rfl⟩
  rw [hD] at Htg Hl1 Ho1 ⊢
  obtain ⟨M, hM⟩ : ∃ M, bc msg = M := ⟨_, rfl⟩
  rw [hM] at Htg HoM HY
  have hg1 := (Blk.new w 26 D.toArray).alloc (.cells #[.int .u8 0, .int .u8 0, .int .u8 0, .int .u8 0, .int .u8 0, .int .u8 0, .int .u8 0, .int .u8 0, .int .u8 0, .int .u8 0, .int .u8 0, .int .u8 0, .int .u8 0, .int .u8 0, .int .u8 0, .int .u8 0, .int .u8 0, .int .u8 0, .int .u8 0, .int .u8 0, .int .u8 0, .int .u8 0, .int .u8 0, .int .u8 0, .int .u8 0, .int .u8 0, .int .u8 0, .int .u8 0, .int .u8 0, .int .u8 0, .int .u8 0, .int .u8 0] 26)
  have hg2 := Blk.new (w.alloc (.cells D.toArray 26)) 26 #[.int .u8 0, .int .u8 0, .int .u8 0, .int .u8 0, .int .u8 0, .int .u8 0, .int .u8 0, .int .u8 0, .int .u8 0, .int .u8 0, .int .u8 0, .int .u8 0, .int .u8 0, .int .u8 0, .int .u8 0, .int .u8 0, .int .u8 0, .int .u8 0, .int .u8 0, .int .u8 0, .int .u8 0, .int .u8 0, .int .u8 0, .int .u8 0, .int .u8 0, .int .u8 0, .int .u8 0, .int .u8 0, .int .u8 0, .int .u8 0, .int .u8 0, .int .u8 0]
  rw [World.size_alloc] at hg2
  have hb := (below_alloc w (.cells D.toArray 26)).alloc (by simp) (.cells #[.int .u8 0, .int .u8 0, .int .u8 0, .int .u8 0, .int .u8 0, .int .u8 0, .int .u8 0, .int .u8 0, .int .u8 0, .int .u8 0, .int .u8 0, .int .u8 0, .int .u8 0, .int .u8 0, .int .u8 0, .int .u8 0, .int .u8 0, .int .u8 0, .int .u8 0, .int .u8 0, .int .u8 0, .int .u8 0, .int .u8 0, .int .u8 0, .int .u8 0, .int .u8 0, .int .u8 0, .int .u8 0, .int .u8 0, .int .u8 0, .int .u8 0, .int .u8 0] 26)
  obtain ⟨w0, hw0⟩ : ∃ w0, (w.alloc (.cells D.toArray 26)).alloc (.cells #[.int .u8 0, .int .u8 0, .int .u8 0, .int .u8 0, .int .u8 0, .int .u8 0, .int .u8 0, .int .u8 0, .int .u8 0, .int .u8 0, .int .u8 0, .int .u8 0, .int .u8 0, .int .u8 0, .int .u8 0, .int .u8 0, .int .u8 0, .int .u8 0, .int .u8 0, .int .u8 0, .int .u8 0, .int .u8 0, .int .u8 0, .int .u8 0, .int .u8 0, .int .u8 0, .int .u8 0, .int .u8 0, .int .u8 0, .int .u8 0, .int .u8 0, .int .u8 0] 26) = w0 := ⟨_, rfl⟩
  rw [hw0] at hg1 hg2 hb
  have HW0 := Lib.hid hw0
  have H1 := Lib.hid hg1
  have H2 := Lib.hid hg2
  have Hb := Lib.hid hb
  obtain ⟨ya, ycap, rfl⟩ := hy.form
  have hsz : w0.heap.size = w.heap.size + 1 + 1 := by rw [← hw0]; simp
  have HSZ := Lib.hid hsz
  have hg3 := Blk.new w0 5 #[.int .u8 (ix : Int)]
  rw [hsz] at hg3
  have H3 := Lib.hid hg3
  have H1a := Lib.hid (hg1.alloc (.cells #[.int .u8 (ix : Int)] 5))
  have hb3 : Below w0.heap.size w0 (w0.alloc (.cells #[.int .u8 (ix : Int)] 5)) := below_alloc w0 _
  obtain ⟨w1, hw1⟩ : ∃ w1, w0.alloc (.cells #[.int .u8 (ix : Int)] 5) = w1 := ⟨_, rfl⟩
  rw [hw1] at H3 H1a hb3
  have HW1 := Lib.hid hw1
  have Hb1 := Lib.hid (hb.trans (hb3.mono hb.size))
  have HB2 := Lib.hid (hg2.below hb3 hg2.lt)
  have Hs1 := Lib.hid (show w.heap.size + 1 < w1.heap.size by have := hb3.size; omega)
  clear hy hT hq hd hD hD2 hM hg1 hg2 hb hw0 h1 hsz hg3 hb3 hw1
  go_enter Tryd.func37, Tryd.ntmps37
  go_wp2_with (first
    | (at_builtin
       rw [HW0.out, HW1.out]
       refine wpList_append_grows _ rfl (.tmp 7) (.tmp 10) 22 rfl 5 iu _ 1 1 Tryd.underlying22 hiu hu0 hu1 hu2 rfl (by omega) (some ⟨w.heap.size, 0, none⟩) 32 32 D rfl (fun h => by cases h) (by rw [Hl1.out]) (fun b hb => by cases hb; exact fun j u hu => by rw [Addr.add_mid]; exact H1a.out.range j u hu) ⟨w.heap.size + 1 + 1, 0, none⟩ 1 1 [.int .u8 (ix : Int)] rfl rfl (fun j u hu => by rw [Addr.add_mid]; exact H3.out.range j u hu) (by intro u hu; simp at hu; subst hu; rfl) (by omega) (by unfold maxLen; omega) (by omega) ?_
       intro v6 w6 hown6 hg6
       have hb6 : Below w.heap.size w w6 := Hb1.out.grown hg6 Hb1.out.size (fun k hk => by cases hk)
       have hB6 : Blk w6 (w.heap.size + 1) 26 #[.int .u8 0, .int .u8 0, .int .u8 0, .int .u8 0, .int .u8 0, .int .u8 0, .int .u8 0, .int .u8 0, .int .u8 0, .int .u8 0, .int .u8 0, .int .u8 0, .int .u8 0, .int .u8 0, .int .u8 0, .int .u8 0, .int .u8 0, .int .u8 0, .int .u8 0, .int .u8 0, .int .u8 0, .int .u8 0, .int .u8 0, .int .u8 0, .int .u8 0, .int .u8 0, .int .u8 0, .int .u8 0, .int .u8 0, .int .u8 0, .int .u8 0, .int .u8 0] := blk_grown HB2.out hg6 (fun e => by cases e)
       have Hown := Lib.hid hown6
       have Hs6 := Lib.hid (show w1.heap.size ≤ w6.heap.size from hg6.size)
       have Hb6 := Lib.hid hb6
       have HB6 := Lib.hid hB6
       have HY6 := Lib.hid (HY.out.next hb6)
       clear hown6 hg6 hb6 hB6)
    | (at_builtin
       refine wpList_append_sl _ rfl (.tmp 11) (.tmp 12) 22 rfl w1.heap.size 5 iu _ 1 Tryd.underlying22 hiu hu0 hu1 hu2 rfl v6 (32 + 1) _ rfl Hown.out (.slice ya q ycap) q M rfl HY6.out HoM.out (by unfold maxLen; omega) (by omega) Hs6.out ?_
       intro v7 w7 hown7 hg7
       have hb7 : Below w.heap.size w w7 := Hb6.out.grown hg7 Hb6.out.size (fun k hk => by have := (Hown.out.lt _ hk).1; have := Hb1.out.size; omega)
       have HB7 := Lib.hid (blk_grown HB6.out hg7 (fun e => by have := (Hown.out.lt _ e.symm).1; have := Hs1.out; omega))
       have Hb7 := Lib.hid hb7
       have Hs7 := Lib.hid (Sl.of_own hown7)
       clear hown7 hg7 hb7)
    | (refine (Htg.out _ _ Hs7.out Hb7.out).mono ?_
       rintro e w9 ⟨rfl, hb9⟩
       have H29 := Lib.hid (HB7.out.below hb9 HB7.out.lt)
       have Hb9 := Lib.hid (Hb7.out.trans (hb9.mono Hb7.out.size))
       clear hb9)
    | (refine wpList_store_row rfl 26 _ _ rfl (w.heap.size + 1) D2.toArray rfl rfl 26 _ H29.out (by rw [List.size_toArray, Hl2.out]; exact infoDg) (show 32 = D2.length from Hl2.out.symm) (all_oneCell_toArray Ho2.out) ?_))
  refine bodyPost_ret (v := .agg D2.toArray) (results_cell_row rfl _ _ (w.heap.size + 1) 26 D2.toArray (0, 0) _ rfl (H29.out.setRow D2.toArray) Tryd.underlying26 rfl (by rw [List.size_toArray, Hl2.out]; exact infoDg)) rfl ?_
  exact ⟨rfl, setRow_below Hb9.out (by omega) _⟩
end Go.Proofs.YtiloaheaglcpbaaDoor
