/- Layer 1, the statements' helper 'sane': the examples of the chapter. -/
import Derived.Test.YtmlkfglnnepjjaaDoorReads
import Derived.Test.YtmlkfglnnepjjaaDoorPlace
import Derived.Lib.SlBytesConst
namespace Go.Proofs.YtmlkfglnnepjjaaDoor
open Go.RowKit

/-- Join of no tokens -/
theorem join_nil (w : World) : Calls Tryd.prog 19 #[.slice none 0 0] w fun e w' => e = .returned (.tuple #[.slice none 0 0, .int .i64 1]) ∧ w = w' := by
  go_enter Tryd.func19, Tryd.ntmps19
  go_wp2
  go_ret2
  exact ⟨rfl, rfl⟩
/-- Join of a TokEnd alone -/
theorem join_end (g : Nat) (w : World) (h0 : w.cell? ⟨g, 0, none⟩ = some (.int .i64 4)) (h1 : w.cell? ⟨g, 1, none⟩ = some (.string ⟨#[]⟩)) :
    Calls Tryd.prog 19 #[.slice (some ⟨g, 0, none⟩) 1 1] w fun e w' => e = .returned (.tuple #[.slice (some ⟨w.heap.size, 0, none⟩) 0 0, .int .i64 0]) ∧ Below w.heap.size w w' := by
  go_enter Tryd.func19, Tryd.ntmps19
  have hmk : ∀ w, (Instr.makeSlice 22 (.int .i64 0) (.int .i64 0)).run Tryd.prog w = .ok (.slice (some ⟨w.heap.size, 0, none⟩) 0 0) (w.alloc (.cells #[] 5)) := fun _ => by kernel_rfl
  go_wp2
  refine wp_loop_rounds 1 ?_
  rw [rounds_succ]
  go_wp2
  refine wp_loop_rounds 1 ?_
  rw [rounds_succ]
  go_wp2
  go_ret2
  exact ⟨rfl, (Below.refl _ _).alloc (Nat.le_refl _) _⟩
theorem kw_and (w : World) : Calls Tryd.prog 17 #[.string ⟨#[97, 110, 100]⟩] w fun e w' => e = .returned (.bool true) ∧ w = w' := by
  go_enter Tryd.func17, Tryd.ntmps17
  go_wp2
  go_ret
  exact ⟨rfl, rfl⟩
theorem kw_And (w : World) : Calls Tryd.prog 17 #[.string ⟨#[65, 110, 100]⟩] w fun e w' => e = .returned (.bool false) ∧ w = w' := by
  go_enter Tryd.func17, Tryd.ntmps17
  go_wp2
  go_ret
  exact ⟨rfl, rfl⟩

/-- the reading of the texts and offsets that a statement's literals name -/
theorem sl_lit (w : World) (xs : List Value) (t : TypeId) : Sl (w.alloc (.cells xs.toArray t)) 1 (.slice (some ⟨w.heap.size, 0, none⟩) xs.length xs.length) xs.length xs := by
  refine ⟨by simp, _, _, rfl, Nat.le_refl _, .inr ⟨w.heap.size, 0, rfl, fun j u hu => ?_⟩⟩
  have h := news_at w xs t j u hu
  have hadd : (⟨w.heap.size, 0, none⟩ : Addr).add j = ⟨w.heap.size, 0 + j, none⟩ := by unfold Addr.add; split <;> simp_all
  rw [← hadd]; exact h
theorem sl_lit_fr (w : World) (xs : List Value) (t : TypeId) (fr : Nat × Nat) : Sl (w.alloc (.cells xs.toArray t fr)) 1 (.slice (some ⟨w.heap.size, 0, none⟩) xs.length xs.length) xs.length xs := by
  refine ⟨by simp, _, _, rfl, Nat.le_refl _, .inr ⟨w.heap.size, 0, rfl, fun j u hu => ?_⟩⟩
  rw [Nat.zero_add, cell_of_row _ w.heap.size j xs.toArray t fr (heap_alloc_new w _)]
  simpa using hu
theorem sl_lit_at (w : World) (xs : List Value) (t : TypeId) (n : Nat) (h : n = w.heap.size) : Sl (w.alloc (.cells xs.toArray t)) 1 (.slice (some ⟨n, 0, none⟩) xs.length xs.length) xs.length xs := by
  subst h; exact sl_lit w xs t
theorem sl_nil (w : World) (size : Nat) : Sl w size (.slice none 0 0) 0 [] := ⟨by simp, _, _, rfl, Nat.le_refl _, .inl rfl⟩

set_option maxRecDepth 100000 in
set_option maxHeartbeats 1000000 in
theorem sane_any (w : World) (hT : TabW w) :
    Calls Tryd.prog 11 #[] w fun e w' => e = .returned (.bool true) ∧ Below w.heap.size w w' := by
  have hcs := fun (w : World) (C : Array Value) (n c : Nat) => Lib.run_convert_bytes_const (P := Tryd.prog) w 22 5 C n c Tryd.underlying22 Tryd.underlying5
  go_enter Tryd.func11, Tryd.ntmps11
  go_wp2_with fail
  refine (reads_true [] [] [] _ _ w (sl_nil _ _) (sl_nil _ _) (by decide) hT (by decide +kernel) (by decide +kernel) (by decide)).mono ?_
  rintro e w1 ⟨rfl, hb1⟩
  go_wp2_with fail
  refine (reads_true [35, 32, 120] [] [] _ _ w1 (sl_nil _ _) (sl_nil _ _) (by decide) (TabW_below hb1 (TabW_lt hT) hT) (by decide +kernel) (by decide +kernel) (by decide)).mono ?_
  rintro e w2 ⟨rfl, hb2⟩
  have hB2 := hb1.trans (hb2.mono hb1.size)
  go_wp2_with fail
  have hA3 : Below w2.heap.size w2 (w2.alloc (.cells #[.string ⟨#[65]⟩, .string ⟨#[45, 62]⟩, .string ⟨#[123]⟩, .string ⟨#[45, 53]⟩, .string ⟨#[125]⟩] 9)) := ((Below.refl w2.heap.size w2).alloc (Nat.le_refl _) _)
  refine (reads_true [65, 45, 62, 123, 45, 53, 125] [⟨#[65]⟩, ⟨#[45, 62]⟩, ⟨#[123]⟩, ⟨#[45, 53]⟩, ⟨#[125]⟩] [] _ _ (w2.alloc (.cells #[.string ⟨#[65]⟩, .string ⟨#[45, 62]⟩, .string ⟨#[123]⟩, .string ⟨#[45, 53]⟩, .string ⟨#[125]⟩] 9)) (sl_lit w2 [.string ⟨#[65]⟩, .string ⟨#[45, 62]⟩, .string ⟨#[123]⟩, .string ⟨#[45, 53]⟩, .string ⟨#[125]⟩] 9) (sl_nil _ _) (by decide) (TabW_below (hB2.trans (hA3.mono hB2.size)) (TabW_lt hT) hT) (by decide +kernel) (by decide +kernel) (by decide)).mono ?_
  rintro e w3 ⟨rfl, hb3⟩
  have hB3 := (hB2.trans (hA3.mono hB2.size)).trans (hb3.mono (Nat.le_trans hB2.size hA3.size))
  clear hb3 hA3
  go_wp2_with fail
  have hA4 : Below w3.heap.size w3 (w3.alloc (.cells #[.int .i64 0] 3)) := ((Below.refl w3.heap.size w3).alloc (Nat.le_refl _) _)
  refine (reads_true [45] [] [0] _ _ (w3.alloc (.cells #[.int .i64 0] 3)) (sl_nil _ _) (sl_lit w3 [.int .i64 0] 3) (by decide) (TabW_below (hB3.trans (hA4.mono hB3.size)) (TabW_lt hT) hT) (by decide +kernel) (by decide +kernel) (by decide)).mono ?_
  rintro e w4 ⟨rfl, hb4⟩
  have hB4 := (hB3.trans (hA4.mono hB3.size)).trans (hb4.mono (Nat.le_trans hB3.size hA4.size))
  clear hb4 hA4
  go_wp2_with fail
  have hA5 : Below w4.heap.size w4 ((w4.alloc (.cells #[.string ⟨#[95, 51, 95, 120]⟩] 9)).alloc (.cells #[.int .i64 5] 3)) := (((Below.refl w4.heap.size w4).alloc (Nat.le_refl _) _).alloc (by simp) _)
  refine (reads_true [95, 51, 95, 120, 32, 53, 120] [⟨#[95, 51, 95, 120]⟩] [5] _ _ ((w4.alloc (.cells #[.string ⟨#[95, 51, 95, 120]⟩] 9)).alloc (.cells #[.int .i64 5] 3)) ((sl_lit w4 [.string ⟨#[95, 51, 95, 120]⟩] 9).alloc _) (sl_lit_at (w4.alloc (.cells #[.string ⟨#[95, 51, 95, 120]⟩] 9)) [.int .i64 5] 3 (w4.heap.size + 1) (by simp)) (by decide) (TabW_below (hB4.trans (hA5.mono hB4.size)) (TabW_lt hT) hT) (by decide +kernel) (by decide +kernel) (by decide)).mono ?_
  rintro e w5 ⟨rfl, hb5⟩
  have hB5 := (hB4.trans (hA5.mono hB4.size)).trans (hb5.mono (Nat.le_trans hB4.size hA5.size))
  clear hb5 hA5
  go_wp2_with fail
  have hA6 : Below w5.heap.size w5 ((w5.alloc (.cells #[.string ⟨#[97, 58, 98]⟩, .string ⟨#[99]⟩] 9)).alloc (.cells #[.int .i64 3] 3)) := (((Below.refl w5.heap.size w5).alloc (Nat.le_refl _) _).alloc (by simp) _)
  refine (reads_true [97, 58, 98, 58, 99] [⟨#[97, 58, 98]⟩, ⟨#[99]⟩] [3] _ _ ((w5.alloc (.cells #[.string ⟨#[97, 58, 98]⟩, .string ⟨#[99]⟩] 9)).alloc (.cells #[.int .i64 3] 3)) ((sl_lit w5 [.string ⟨#[97, 58, 98]⟩, .string ⟨#[99]⟩] 9).alloc _) (sl_lit_at (w5.alloc (.cells #[.string ⟨#[97, 58, 98]⟩, .string ⟨#[99]⟩] 9)) [.int .i64 3] 3 (w5.heap.size + 1) (by simp)) (by decide) (TabW_below (hB5.trans (hA6.mono hB5.size)) (TabW_lt hT) hT) (by decide +kernel) (by decide +kernel) (by decide)).mono ?_
  rintro e w6 ⟨rfl, hb6⟩
  have hB6 := (hB5.trans (hA6.mono hB5.size)).trans (hb6.mono (Nat.le_trans hB5.size hA6.size))
  clear hb6 hA6
  go_wp2_with fail
  have hA7 : Below w6.heap.size w6 (w6.alloc (.cells #[.int .i64 0] 3)) := ((Below.refl w6.heap.size w6).alloc (Nat.le_refl _) _)
  refine (reads_true [48, 48, 55, 37, 36] [] [0] _ _ (w6.alloc (.cells #[.int .i64 0] 3)) (sl_nil _ _) (sl_lit w6 [.int .i64 0] 3) (by decide) (TabW_below (hB6.trans (hA7.mono hB6.size)) (TabW_lt hT) hT) (by decide +kernel) (by decide +kernel) (by decide)).mono ?_
  rintro e w7 ⟨rfl, hb7⟩
  have hB7 := (hB6.trans (hA7.mono hB6.size)).trans (hb7.mono (Nat.le_trans hB6.size hA7.size))
  clear hb7 hA7
  go_wp2_with fail
  have hA8 : Below w7.heap.size w7 (w7.alloc (.cells #[.int .i64 0] 3)) := ((Below.refl w7.heap.size w7).alloc (Nat.le_refl _) _)
  refine (reads_true [49, 48, 48, 48, 48, 48, 48, 48, 48, 48, 48, 48, 48, 48, 48, 48, 48, 48, 48] [] [0] _ _ (w7.alloc (.cells #[.int .i64 0] 3)) (sl_nil _ _) (sl_lit w7 [.int .i64 0] 3) (by decide) (TabW_below (hB7.trans (hA8.mono hB7.size)) (TabW_lt hT) hT) (by decide +kernel) (by decide +kernel) (by decide)).mono ?_
  rintro e w8 ⟨rfl, hb8⟩
  have hB8 := (hB7.trans (hA8.mono hB7.size)).trans (hb8.mono (Nat.le_trans hB7.size hA8.size))
  clear hb8 hA8
  go_wp2_with fail
  have hA : Below w8.heap.size w8 (w8.alloc (.cells #[.int .i64 4, .string ⟨#[]⟩, .int .i64 0] 35)) := (Below.refl _ _).alloc (Nat.le_refl _) _
  refine (join_end w8.heap.size _ (by simp [go_sem]) (by simp [go_sem])).mono ?_
  rintro e wj ⟨rfl, hbj⟩
  have hBj := (hB8.trans (hA.mono hB8.size)).trans (hbj.mono (Nat.le_trans hB8.size hA.size))
  clear hbj hA
  go_wp2_with fail
  refine (join_nil _).mono ?_
  rintro e w' ⟨rfl, rfl⟩
  go_wp2_with fail
  have hsb : Sl (wj.alloc (.cells #[.int .u8 97, .int .u8 98, .int .u8 10, .int .u8 99] 5 (4, 5))) 1 (.slice (some ⟨wj.heap.size, 0, none⟩) 4 4) 4 (bc [97, 98, 10, 99]) := sl_lit_fr wj [.int .u8 97, .int .u8 98, .int .u8 10, .int .u8 99] 5 (4, 5)
  have HP := Lib.hid (place_ok [97, 98, 10, 99] _ 4 _ hsb (by decide) (by decide))
  have hBf := (hBj.alloc hBj.size (.cells #[.int .u8 97, .int .u8 98, .int .u8 10, .int .u8 99] 5 (4, 5)))
  refine (HP.out).mono ?_
  rintro e w' ⟨rfl, rfl⟩
  have hpl : plc [97, 98, 10, 99] 4 = (2, 2) := by decide +kernel
  rw [hpl]
  clear hpl hsb HP hcs
  go_wp2_with fail
  refine (kw_and _).mono ?_
  rintro e w' ⟨rfl, rfl⟩
  go_wp2_with fail
  refine (kw_And _).mono ?_
  rintro e w' ⟨rfl, rfl⟩
  go_wp2_with fail
  go_ret
  exact ⟨rfl, hBf⟩
end Go.Proofs.YtmlkfglnnepjjaaDoor
