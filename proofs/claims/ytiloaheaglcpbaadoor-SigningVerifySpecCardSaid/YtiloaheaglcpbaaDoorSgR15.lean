/- Signing in the reference: New; keys compared. Signing in the reference: keys compared; lists of numbers compared. Signing in the reference: the digits of a digest. -/
import Derived.Test.YtiloaheaglcpbaaDoorSgR12
import Derived.Test.YtiloaheaglcpbaaDoorSgX2
import Derived.Lib.Strings
namespace Go.Proofs.YtiloaheaglcpbaaDoor
open Go.RowKit

def mkS (l : List UInt8) : ByteArray := ⟨l.toArray⟩
theorem conv_bytes {w : World} {l : List UInt8} {a : Option Addr} {cap : Nat} (h : Sl w 1 (.slice a l.length cap) l.length (bc l)) :
    (convert 22 9 (.slice a l.length cap)).run Tryd.prog w = .ok (.string (mkS l)) w := by
  obtain ⟨_, a', cap', he, _, hr⟩ := h
  cases he
  rcases hr with h0 | ⟨g, off, rfl, hc⟩
  · have hl : l = [] := List.eq_nil_of_length_eq_zero h0
    subst hl
    rcases a with _ | x
    · exact run_convert_bytes_nil w _ 5 Tryd.underlying22 Tryd.underlying5 _ _ _ Tryd.underlying9
    · rw [run_convert_bytes_string w 22 9 5 _ _ _ Tryd.underlying22 Tryd.underlying5 Tryd.underlying9]
      rw [run_bytesToString w x ([] : List UInt8).length cap [] (by simp [loadCells, loadCellsFrom])]
      rfl
  · have hx := run_convert_bytes_arg w _ 5 Tryd.underlying22 Tryd.underlying5 g off l.length cap (l.map fun c => (c.toNat : Int)) (by simp)
      (fun j hj => by
        have := hc j (.int .u8 (l[j].toNat : Int)) (by simp [bc, hj])
        simpa [List.getD, hj] using this) _ Tryd.underlying9
    rw [hx]
    congr 2
    simp [strOfNums, mkS, Function.comp_def]
set_option maxRecDepth 100000 in
set_option maxHeartbeats 1000000 in
theorem rnew_any (seed : List UInt8) (n : Nat) (_hn : seed.length = n) (hn9 : n ≤ 1000) (a : Option Addr) (cap : Nat) (many : Int) (w : World) (hs : Sl w 1 (.slice a n cap) n (bc seed)) :
    Calls Tryd.prog 13 #[.slice a n cap, .int .i64 many] w fun e w' =>
      ∃ a' c', e = .returned (if isKeyB n many 0 then .tuple #[.agg #[.slice a' n c', .int .i64 many, .int .i64 0], .int .i64 0] else .tuple #[.agg #[.slice none 0 0, .int .i64 0, .int .i64 0], .int .i64 320]) ∧ Sl w' 1 (.slice a' n c') n (bc seed) ∧ Below w.heap.size w w' := by
  obtain ⟨iu, hiu, hu0, hu1, hu2⟩ := info_parts infoU8
  have HK := Lib.hid (fun a' c' W => rvalid_any a' n c' many 0 W)
  have HSo := Lib.hid (bc_one seed)
  obtain ⟨S, hS⟩ : ∃ S, bc seed = S := ⟨_, rfl⟩
  rw [hS] at hs HSo ⊢
  have hb0 := (below_alloc w (.cells #[.slice none 0 0, .int .i64 0, .int .i64 0] 24))
  have HSL := Lib.hid (((hs.next hb0).alloc (.cells #[] 5)))
  have H2 := Lib.hid ((Blk.new w 24 #[.slice none 0 0, .int .i64 0, .int .i64 0]).alloc (.cells #[] 5))
  have Hb := Lib.hid (hb0.alloc (by simp) (.cells #[] 5))
  have ho := own_empty' (w.alloc (.cells #[.slice none 0 0, .int .i64 0, .int .i64 0] 24)) (w.heap.size + 1) (by simp) 5 1
  rw [World.size_alloc] at ho
  have HO := Lib.hid ho
  clear hs hS hb0 ho
  have go : ∀ b, isKeyB n many 0 = b → Calls Tryd.prog 13 #[.slice a n cap, .int .i64 many] w fun e w' =>
      ∃ a' c', e = .returned (if b = true then .tuple #[.agg #[.slice a' n c', .int .i64 many, .int .i64 0], .int .i64 0] else .tuple #[.agg #[.slice none 0 0, .int .i64 0, .int .i64 0], .int .i64 320]) ∧ Sl w' 1 (.slice a' n c') n S ∧ Below w.heap.size w w' := by
    intro b hb
    rw [hb] at HK
    clear hb
    cases b
    · go_enter Tryd.func13, Tryd.ntmps13
      go_wp2_with (first
        | (at_builtin; refine wpList_append_sl _ rfl (.tmp 7) (.tmp 8) 22 rfl (w.heap.size + 1) 5 iu _ 1 Tryd.underlying22 hiu hu0 hu1 hu2 rfl (.slice (some ⟨w.heap.size + 1, 0, none⟩) 0 0) 0 [] rfl HO.out (.slice a n cap) n S rfl HSL.out HSo.out (by unfold maxLen; omega) (by omega) (by simp) ?_
           intro v6 w6 hown6 hg6
           rw [Nat.zero_add, List.nil_append] at hown6
           obtain ⟨a6, c6, rfl⟩ := (Sl.of_own hown6).form
           have hb6 := Hb.out.grown hg6 Hb.out.size (fun k hk => by simp [Value.ownBlock] at hk; omega)
           have hB6 := blk_grown H2.out hg6 (fun e => by have h : w.heap.size = w.heap.size + 1 := Option.some.inj e; omega)
           have hl6 := hB6.lt
           have hx := Blk.new w6 24 #[.slice a6 n c6, .int .i64 many, .int .i64 0]
           have hb7 := hb6.alloc hb6.size (.cells #[.slice a6 n c6, .int .i64 many, .int .i64 0] 24)
           have hB7 := hB6.alloc (.cells #[.slice a6 n c6, .int .i64 many, .int .i64 0] 24)
           have hs7 := hown6.alloc (.cells #[.slice a6 n c6, .int .i64 many, .int .i64 0] 24)
           obtain ⟨w7, hw7⟩ : ∃ w7, w6.alloc (.cells #[.slice a6 n c6, .int .i64 many, .int .i64 0] 24) = w7 := ⟨_, rfl⟩
           rw [hw7] at hx hb7 hB7 hs7
           have HW7 := Lib.hid hw7
           have HX := Lib.hid hx
           have Hb7 := Lib.hid hb7
           have HB7 := Lib.hid hB7
           have HS7 := Lib.hid hs7
           clear hown6 hg6 hb6 hB6 hx hb7 hB7 hs7 hw7 hl6)
        | (rw [HW7.out]
           refine (HK.out _ _ _).mono ?_
           rintro e w8 ⟨rfl, hb8⟩
           obtain ⟨c0, c1, c2, f0, f1, f2⟩ := cells3 (HX.out.below hb8 HX.out.lt)
           obtain ⟨d0, d1, d2, e0, e1, e2⟩ := cells3 (HB7.out.below hb8 HB7.out.lt)
           have HO8 := Lib.hid (own_next HS7.out hb8)
           have Hb8 := Lib.hid (Hb7.out.trans (hb8.mono Hb7.out.size))
           clear hb8))
      refine bodyPost_ret (v := .tuple #[.agg #[.slice none 0 0, .int .i64 0, .int .i64 0], .int .i64 320]) (by simp [results, Tryd.results13, go_sem, *]) rfl ?_
      first
        | (refine ⟨a6, c6, rfl, Sl.of_own (base := w.heap.size + 1) (e := 5) ?_, ?_⟩)
        | (refine ⟨rfl, ⟨a6, c6, Sl.of_own (base := w.heap.size + 1) (e := 5) ?_⟩, ?_⟩)
        | (refine ⟨rfl, a6, c6, Sl.of_own (base := w.heap.size + 1) (e := 5) ?_, ?_⟩)
      · (repeat (with_reducible refine own_cell ?_ (by show w.heap.size < w.heap.size + 1; omega) _))
        exact HO8.out
      · (repeat (with_reducible refine Below.setCell ?_ (by show w.heap.size ≤ w.heap.size; omega) _))
        exact Hb8.out
    · go_enter Tryd.func13, Tryd.ntmps13
      go_wp2_with (first
        | (at_builtin; refine wpList_append_sl _ rfl (.tmp 7) (.tmp 8) 22 rfl (w.heap.size + 1) 5 iu _ 1 Tryd.underlying22 hiu hu0 hu1 hu2 rfl (.slice (some ⟨w.heap.size + 1, 0, none⟩) 0 0) 0 [] rfl HO.out (.slice a n cap) n S rfl HSL.out HSo.out (by unfold maxLen; omega) (by omega) (by simp) ?_
           intro v6 w6 hown6 hg6
           rw [Nat.zero_add, List.nil_append] at hown6
           obtain ⟨a6, c6, rfl⟩ := (Sl.of_own hown6).form
           have hb6 := Hb.out.grown hg6 Hb.out.size (fun k hk => by simp [Value.ownBlock] at hk; omega)
           have hB6 := blk_grown H2.out hg6 (fun e => by have h : w.heap.size = w.heap.size + 1 := Option.some.inj e; omega)
           have hl6 := hB6.lt
           have hx := Blk.new w6 24 #[.slice a6 n c6, .int .i64 many, .int .i64 0]
           have hb7 := hb6.alloc hb6.size (.cells #[.slice a6 n c6, .int .i64 many, .int .i64 0] 24)
           have hB7 := hB6.alloc (.cells #[.slice a6 n c6, .int .i64 many, .int .i64 0] 24)
           have hs7 := hown6.alloc (.cells #[.slice a6 n c6, .int .i64 many, .int .i64 0] 24)
           obtain ⟨w7, hw7⟩ : ∃ w7, w6.alloc (.cells #[.slice a6 n c6, .int .i64 many, .int .i64 0] 24) = w7 := ⟨_, rfl⟩
           rw [hw7] at hx hb7 hB7 hs7
           have HW7 := Lib.hid hw7
           have HX := Lib.hid hx
           have Hb7 := Lib.hid hb7
           have HB7 := Lib.hid hB7
           have HS7 := Lib.hid hs7
           clear hown6 hg6 hb6 hB6 hx hb7 hB7 hs7 hw7 hl6)
        | (rw [HW7.out]
           refine (HK.out _ _ _).mono ?_
           rintro e w8 ⟨rfl, hb8⟩
           obtain ⟨c0, c1, c2, f0, f1, f2⟩ := cells3 (HX.out.below hb8 HX.out.lt)
           obtain ⟨d0, d1, d2, e0, e1, e2⟩ := cells3 (HB7.out.below hb8 HB7.out.lt)
           have HO8 := Lib.hid (own_next HS7.out hb8)
           have Hb8 := Lib.hid (Hb7.out.trans (hb8.mono Hb7.out.size))
           clear hb8))
      refine bodyPost_ret (v := .tuple #[.agg #[.slice a6 n c6, .int .i64 many, .int .i64 0], .int .i64 0]) (by simp [results, Tryd.results13, go_sem, *]) rfl ?_
      first
        | (refine ⟨a6, c6, rfl, Sl.of_own (base := w.heap.size + 1) (e := 5) ?_, ?_⟩)
        | (refine ⟨rfl, ⟨a6, c6, Sl.of_own (base := w.heap.size + 1) (e := 5) ?_⟩, ?_⟩)
        | (refine ⟨rfl, a6, c6, Sl.of_own (base := w.heap.size + 1) (e := 5) ?_, ?_⟩)
      · (repeat (with_reducible refine own_cell ?_ (by show w.heap.size < w.heap.size + 1; omega) _))
        exact HO8.out
      · (repeat (with_reducible refine Below.setCell ?_ (by show w.heap.size ≤ w.heap.size; omega) _))
        exact Hb8.out
  exact go _ rfl

set_option maxRecDepth 100000 in
set_option maxHeartbeats 1000000 in
theorem samekey_any (seed : List UInt8) (n : Nat) (hn : seed.length = n) (a : Option Addr) (cap : Nat) (a' : Option Addr) (cap' : Nat) (many used : Int) (w : World) (h1 : Sl w 1 (.slice a n cap) n (bc seed)) (h2 : Sl w 1 (.slice a' n cap') n (bc seed)) :
    Calls Tryd.prog 14 #[.agg #[.slice a n cap, .int .i64 many, .int .i64 used], .agg #[.slice a' n cap', .int .i64 many, .int .i64 used]] w fun e w' => e = .returned (.bool true) ∧ Below w.heap.size w w' := by
  subst hn
  have hb := (below_alloc w (.cells #[.slice a seed.length cap, .int .i64 many, .int .i64 used] 24)).alloc (by simp) (.cells #[.slice a' seed.length cap', .int .i64 many, .int .i64 used] 24)
  have hA := (Blk.new w 24 #[.slice a seed.length cap, .int .i64 many, .int .i64 used]).alloc (.cells #[.slice a' seed.length cap', .int .i64 many, .int .i64 used] 24)
  have hB := Blk.new (w.alloc (.cells #[.slice a seed.length cap, .int .i64 many, .int .i64 used] 24)) 24 #[.slice a' seed.length cap', .int .i64 many, .int .i64 used]
  rw [World.size_alloc] at hB
  have hc1 := conv_bytes (h1.next hb)
  have hc2 := conv_bytes (h2.next hb)
  obtain ⟨c0, c1, c2, _, _, _⟩ := cells3 hA
  obtain ⟨d0, d1, d2, _, _, _⟩ := cells3 hB
  obtain ⟨w0, hw0⟩ : ∃ w0, (w.alloc (.cells #[.slice a seed.length cap, .int .i64 many, .int .i64 used] 24)).alloc (.cells #[.slice a' seed.length cap', .int .i64 many, .int .i64 used] 24) = w0 := ⟨_, rfl⟩
  have HW0 := Lib.hid hw0
  rw [hw0] at hb c0 c1 c2 d0 d1 d2 hc1 hc2
  have Hb := Lib.hid hb
  obtain ⟨q, hq⟩ : ∃ q, seed.length = q := ⟨_, rfl⟩
  obtain ⟨S, hS⟩ : ∃ S, mkS seed = S := ⟨_, rfl⟩
  rw [hq] at hc1 hc2 c0 d0 HW0 ⊢
  rw [hS] at hc1 hc2
  clear h1 h2 hA hB hb hw0 hq hS
  go_enter Tryd.func14, Tryd.ntmps14
  go_wp2_with (rw [HW0.out])
  go_ret
  exact ⟨rfl, Hb.out⟩

set_option maxRecDepth 100000 in
theorem same_any (X : List Int) (m : Nat) (hm : X.length = m) (hm9 : m ≤ 1000) (a : Option Addr) (cap : Nat) (a' : Option Addr) (cap' : Nat) (w : World) (h1 : Sl w 1 (.slice a m cap) m (X.map (Value.int .i64))) (h2 : Sl w 1 (.slice a' m cap') m (X.map (Value.int .i64))) :
    Calls Tryd.prog 15 #[.slice a m cap, .slice a' m cap'] w fun e w' => e = .returned (.bool true) ∧ ∃ k, w' = w.drewN k := by
  have H1 := Lib.hid h1
  have H2 := Lib.hid h2
  have Hm := Lib.hid hm
  clear h1 h2 hm
  go_enter Tryd.func15, Tryd.ntmps15
  go_wp2_with fail
  go_loopw [5] (fun i wr => ∃ k n : Nat, k ≤ m ∧ i = .int .i64 (k : Int) ∧ wr = w.drewN n) (fun i _ => m - (intOf i).toNat)
  case atStart => exact ⟨0, 0, by omega, rfl, rfl⟩
  case round =>
    obtain ⟨k, n, hk, rfl, hwr⟩ := hrel
    by_cases hlt : k < m
    · obtain ⟨g, off, rfl, hc, hat⟩ := H1.out.pos (by omega)
      obtain ⟨g', off', rfl, hc', hat'⟩ := H2.out.pos (by omega)
      have hx : ∃ z : Int, (X.map (Value.int .i64))[k]? = some (.int .i64 z) := ⟨X[k]'(by rw [Hm.out]; exact hlt), by simp [Hm.out, hlt]⟩
      obtain ⟨z, hz⟩ := hx
      have e1 : wr.cell? ⟨g, off + k, none⟩ = some (.int .i64 z) := by rw [hwr]; simpa using hat k _ hz
      have e2 : wr.cell? ⟨g', off' + k, none⟩ = some (.int .i64 z) := by rw [hwr]; simpa using hat' k _ hz
      have i1 : (0 : Int) ≤ (k : Int) := by omega
      have i2 : (k : Int) < (m : Int) := by omega
      have Hwr := Lib.hid hwr
      clear hat hat' hz hwr hc hc'
      go_wp2_with fail
      go_quiet (fail)
      go_wp2_with fail
      go_roundw
      case rel => exact ⟨k + 1, n + nq, by omega, by go_num, by rw [Hwr.out, World.drewN_drewN]⟩
      case measure => simp [intOf]; omega
    · have hk9 : k = m := by omega
      subst hk9
      go_wp2_with fail
      go_ret
      exact ⟨rfl, n, by first | exact hwr | rfl⟩

theorem infoI : (Tryd.prog.info? 3).map (fun i => (i.zero, i.size, i.bytes)) = some (some (.int .i64 0), 1, 8) := by kernel_rfl
/-- the first digits, as cells -/
def nbC (d : List UInt8) (m : Nat) : List Value := (List.range m).map fun j => .int .i64 (nib d j : Int)
theorem nbC_step (d : List UInt8) (k : Nat) : nbC d (2 * k) ++ [.int .i64 (nib d (2 * k) : Int), .int .i64 (nib d (2 * k + 1) : Int)] = nbC d (2 * (k + 1)) := by
  unfold nbC
  rw [show 2 * (k + 1) = 2 * k + 1 + 1 by omega, List.range_succ, List.range_succ]
  simp
theorem nbC_one (d : List UInt8) (m : Nat) : ∀ u ∈ nbC d m, u.oneCell' = true := by
  intro u hu
  simp only [nbC, List.mem_map] at hu
  obtain ⟨j, _, rfl⟩ := hu
  rfl
theorem nbC_all (d : List UInt8) (c : Nat) (hc : cks d 32 = c) : nbC d 64 ++ [.int .i64 ((c / 256 : Nat) : Int), .int .i64 ((c / 16 % 16 : Nat) : Int), .int .i64 ((c % 16 : Nat) : Int)] = (digC d).toList := by
  subst hc
  apply List.ext_getElem?
  intro j
  unfold digC nbC
  rcases Nat.lt_or_ge j 64 with h | h
  · rw [List.getElem?_append_left (by simp; exact h)]
    simp [h, show j < 67 by omega, dig_lo d j h]
  · rw [List.getElem?_append_right (by simp; exact h)]
    obtain rfl | rfl | rfl | h2 : j = 64 ∨ j = 65 ∨ j = 66 ∨ 67 ≤ j := by omega
    · simp [dig]
    · simp [dig]
    · simp [dig]
    · rw [List.getElem?_eq_none (by simp; omega), List.getElem?_eq_none (by simp; omega)]
set_option maxRecDepth 100000 in
set_option maxHeartbeats 1000000 in
theorem rdigits_any (d : List UInt8) (hd : d.length = 32) (w : World) :
    Calls Tryd.prog 17 #[arrV d] w fun e w' => ∃ v, e = .returned v ∧ w'.ownsRow w.heap.size 3 1 v 67 (digC d).toList ∧ Below w.heap.size w w' := by
  obtain ⟨iu, hiu, hu0, hu1, hu2⟩ := info_parts infoI
  unfold arrV
  have HC := Lib.hid (fun (k : Nat) (h : k < 32) => show (bc d).toArray[k]? = some (.int .u8 (bt d k : Int)) by simpa using bt_cell (d := d) (k := k) (by omega))
  obtain ⟨D, hD⟩ : ∃ D, (bc d).toArray = D := ⟨_, rfl⟩
  rw [hD] at HC ⊢
  have ho := own_empty' (w.alloc (.cells D 26)) (w.heap.size + 1) (by simp) 3 1
  rw [World.size_alloc] at ho
  have HO := Lib.hid ho
  have HB := Lib.hid ((Blk.new w 26 D).alloc (.cells #[] 3))
  have Hb := Lib.hid ((below_alloc w (.cells D 26)).alloc (by simp) (.cells #[] 3))
  clear hD hd ho
  go_enter Tryd.func17, Tryd.ntmps17
  go_wp2_with fail
  go_loopw [3, 4, 5] (fun v s i wr => ∃ k : Nat, k ≤ 32 ∧ i = .int .i64 (k : Int) ∧ s = .int .i64 (cks d k : Int) ∧ wr.ownsRow (w.heap.size + 1) 3 1 v (2 * k) (nbC d (2 * k)) ∧ Blk wr w.heap.size 26 D ∧ Below w.heap.size w wr) (fun _ _ i _ => 32 - (intOf i).toNat)
  case atStart => exact ⟨0, by omega, rfl, rfl, HO.out, HB.out, Hb.out⟩
  case round =>
    clear HB Hb HO
    obtain ⟨k, hk, rfl, rfl, hown, hB, hb⟩ := hrel
    obtain ⟨va, vc, rfl⟩ := (Sl.of_own hown).form
    have Hown := Lib.hid hown
    have HB := Lib.hid hB
    have Hb := Lib.hid hb
    clear hown hB hb
    have hck := cks_le d k
    by_cases hlt : k < 32
    · have cx : wr.cell? ⟨w.heap.size, k, none⟩ = some (.int .u8 (bt d k : Int)) := by rw [HB.out.cell, HC.out k hlt]
      have hb256 := bt_lt d k
      have Hst := Lib.hid (nbC_step d k)
      have Hck := Lib.hid (show cks d (k + 1) = cks d k + (30 - nib d (2 * k) - nib d (2 * k + 1)) from rfl)
      rw [nib_0, nib_1] at Hst Hck
      obtain ⟨b, hbt⟩ : ∃ b, bt d k = b := ⟨_, rfl⟩
      rw [hbt] at cx hb256 Hst Hck
      obtain ⟨c, hc⟩ : ∃ c, cks d k = c := ⟨_, rfl⟩
      rw [hc] at hck Hck ⊢
      have i1 : (0 : Int) ≤ (k : Int) := by omega
      have i2 : (k : Int) < 32 := by omega
      have Hsz := Lib.hid (show w.heap.size + 1 ≤ wr.heap.size from HB.out.lt)
      clear hbt hc
      go_wp2_with (first
        | (at_builtin; refine wpList_append_sl _ rfl (.tmp 23) (.tmp 26) 33 rfl (w.heap.size + 1) 3 iu _ 8 Tryd.underlying33 hiu hu0 hu1 hu2 rfl (.slice va (2 * k) vc) (2 * k) (nbC d (2 * k)) rfl (Hown.out.alloc _) (.slice (some ⟨wr.heap.size, 0, none⟩) 2 2) 2 [.int .i64 ((b / 16 : Nat) : Int), .int .i64 ((b % 16 : Nat) : Int)] rfl ((Blk.new wr 3 #[.int .i64 ((b / 16 : Nat) : Int), .int .i64 ((b % 16 : Nat) : Int)]).sl rfl rfl) (by intro u hu; simp at hu; rcases hu with rfl | rfl <;> rfl) (by unfold maxLen; omega) (by omega) (by have := Hsz.out; rw [World.size_alloc]; omega) ?_
           intro v7 w7 hown7 hg7
           have hb7 := (Hb.out.alloc Hb.out.size _).grown hg7 (by have := Hb.out.size; rw [World.size_alloc]; omega) (fun k hk => by have := (Hown.out.lt _ hk).1; omega)
           have hB7 := blk_grown (HB.out.alloc _) hg7 (fun e => by have := (Hown.out.lt _ e.symm).1; omega)
           rw [Hst.out, show 2 * k + 2 = 2 * (k + 1) by omega] at hown7
           have Hb7 := Lib.hid hb7
           have HB7 := Lib.hid hB7
           have Hown7 := Lib.hid hown7
           clear hb7 hB7 hown7 hg7))
      refine ⟨⟨k + 1, by omega, by go_num, by rw [Hck.out]; congr 1; omega, Hown7.out, HB7.out, Hb7.out⟩, ?_⟩
      simp [intOf]; omega
    · have hk32 : k = 32 := by omega
      subst hk32
      have Hst := Lib.hid (nbC_all d _ rfl)
      obtain ⟨c, hc⟩ : ∃ c, cks d 32 = c := ⟨_, rfl⟩
      rw [hc] at hck Hst ⊢
      have Hsz := Lib.hid (show w.heap.size + 1 ≤ wr.heap.size from HB.out.lt)
      clear hc hlt
      go_wp2_with (first
        | (at_builtin; refine wpList_append_sl _ rfl (.tmp 35) (.tmp 43) 33 rfl (w.heap.size + 1) 3 iu _ 8 Tryd.underlying33 hiu hu0 hu1 hu2 rfl (.slice va (2 * 32) vc) (2 * 32) (nbC d (2 * 32)) rfl (Hown.out.alloc _) (.slice (some ⟨wr.heap.size, 0, none⟩) 3 3) 3 [.int .i64 ((c / 256 : Nat) : Int), .int .i64 ((c / 16 % 16 : Nat) : Int), .int .i64 ((c % 16 : Nat) : Int)] rfl ((Blk.new wr 3 #[.int .i64 ((c / 256 : Nat) : Int), .int .i64 ((c / 16 % 16 : Nat) : Int), .int .i64 ((c % 16 : Nat) : Int)]).sl rfl rfl) (by intro u hu; simp at hu; rcases hu with rfl | rfl | rfl <;> rfl) (by unfold maxLen; omega) (by omega) (by have := Hsz.out; rw [World.size_alloc]; omega) ?_
           intro v7 w7 hown7 hg7
           have hb7 := (Hb.out.alloc Hb.out.size _).grown hg7 (by have := Hb.out.size; rw [World.size_alloc]; omega) (fun k hk => by have := (Hown.out.lt _ hk).1; omega)
           have hown8 : w7.ownsRow (w.heap.size + 1) 3 1 v7 67 (digC d).toList := by rw [← Hst.out]; exact hown7
           have Hb7 := Lib.hid hb7
           have Hown7 := Lib.hid hown8
           clear hb7 hown7 hown8 hg7))
      go_ret
      exact ⟨_, rfl, own_mono Hown7.out (by omega), Hb7.out⟩
end Go.Proofs.YtiloaheaglcpbaaDoor
