/- Intervals: Meet, Hull, Within. -/
import Derived.Test.YtnjpjjefhpbfgaaIvA
import Derived.Deep.RegionHeld3
namespace Go.Proofs.Ytnjpjjefhpbfgaa
open Go.RowKit

set_option maxRecDepth 100000 in
theorem less_any (a b : Int) (w : World) : Calls Try.prog 32 #[.int .i64 a, .int .i64 b] w fun e w' => e = .returned (.int .i64 (min a b)) ∧ w = w' := by
  go_enter Try.func32, Try.ntmps32
  go_wp2_with fail
  all_goals
    go_ret
    refine ⟨ret_int (by omega), rfl⟩
set_option maxRecDepth 100000 in
theorem greater_any (a b : Int) (w : World) : Calls Try.prog 31 #[.int .i64 a, .int .i64 b] w fun e w' => e = .returned (.int .i64 (max a b)) ∧ w = w' := by
  go_enter Try.func31, Try.ntmps31
  go_wp2_with fail
  all_goals
    go_ret
    refine ⟨ret_int (by omega), rfl⟩
theorem keep2 {W : World} {g k i : Nat} {u v z : Value} (h : k ≠ g) (hc : W.cell? ⟨k, i, none⟩ = some z) : ((W.setCell ⟨g, 0, none⟩ u).setCell ⟨g, 1, none⟩ v).drew.cell? ⟨k, i, none⟩ = some z := by
  have hu := (((Upd.refl (fun q => q = g) W).setCell (p := ⟨g, 0, none⟩) (.inl rfl) u).setCell (p := ⟨g, 1, none⟩) (.inl rfl) v).drew
  exact (hu.cell (p := ⟨k, i, none⟩) (World.block_lt_of_cell? W _ hc) h).trans hc
set_option maxRecDepth 100000 in
set_option maxHeartbeats 1000000 in
theorem of_meet (a b c d : Int) (w : World) : Calls Try.prog 33 #[.agg #[.func (.func 31) #[] #[], .func (.func 32) #[] #[]], .agg #[.int .i64 a, .int .i64 b], .agg #[.int .i64 c, .int .i64 d]] w fun e w' => e = .returned (.agg #[.int .i64 (max a c), .int .i64 (min b d)]) ∧ Below w.heap.size w w' := by
  have HL := Lib.hid (fun a b W => calls_flip (less_any a b W))
  have HG := Lib.hid (fun a b W => calls_flip (greater_any a b W))
  obtain ⟨x, hx⟩ : ∃ x, max a c = x := ⟨_, rfl⟩
  obtain ⟨y, hy⟩ : ∃ x, min b d = x := ⟨_, rfl⟩
  rw [hx, hy]
  have h1 := greater_any a c
  have h2 := less_any b d
  rw [hx] at h1
  rw [hy] at h2
  have H1 := Lib.hid (fun W => calls_flip (h1 W))
  have H2 := Lib.hid (fun W => calls_flip (h2 W))
  clear h1 h2 hx hy
  obtain ⟨W, hW⟩ : ∃ W, (((w.alloc (.cells #[.func (.func 31) #[] #[], .func (.func 32) #[] #[]] 51)).alloc (.cells #[.int .i64 a, .int .i64 b] 23)).alloc (.cells #[.int .i64 c, .int .i64 d] 23)).alloc (.cells #[.int .i64 0, .int .i64 0] 23) = W := ⟨_, rfl⟩
  have hb : Below w.heap.size w W := by rw [← hW]; exact (((below_alloc w _).alloc (by simp) _).alloc (by simp; omega) _).alloc (by simp; omega) _
  have q0 : Blk W w.heap.size 51 #[.func (.func 31) #[] #[], .func (.func 32) #[] #[]] := by rw [← hW]; exact (((Blk.new w _ _).alloc _).alloc _).alloc _
  have q1 : Blk W (w.heap.size + 1) 23 #[.int .i64 a, .int .i64 b] := by rw [← hW]; exact ((blk_new2 w _ _ _).alloc _).alloc _
  have q2 : Blk W (w.heap.size + 1 + 1) 23 #[.int .i64 c, .int .i64 d] := by
    rw [← hW]
    have h := blk_new2 (w.alloc (.cells #[.func (.func 31) #[] #[], .func (.func 32) #[] #[]] 51)) (.cells #[.int .i64 a, .int .i64 b] 23) 23 #[.int .i64 c, .int .i64 d]
    rw [World.size_alloc] at h
    exact h.alloc _
  have q3 : Blk W (w.heap.size + 1 + 1 + 1) 23 #[.int .i64 0, .int .i64 0] := by
    rw [← hW]
    have h := blk_new2 ((w.alloc (.cells #[.func (.func 31) #[] #[], .func (.func 32) #[] #[]] 51)).alloc (.cells #[.int .i64 a, .int .i64 b] 23)) (.cells #[.int .i64 c, .int .i64 d] 23) 23 #[.int .i64 0, .int .i64 0]
    simp only [World.size_alloc] at h
    exact h
  have Hb := Lib.hid hb
  have HW := Lib.hid hW
  have Hq := Lib.hid q3
  obtain ⟨c0, c1, _, _⟩ := cells2 q0
  obtain ⟨x0, x1, _, _⟩ := cells2 q1
  obtain ⟨y0, y1, _, _⟩ := cells2 q2
  obtain ⟨z0, z1, f0, f1⟩ := cells2 q3
  have n0 := Lib.hid (show w.heap.size ≠ w.heap.size + 1 + 1 + 1 by omega)
  have n1 := Lib.hid (show w.heap.size + 1 ≠ w.heap.size + 1 + 1 + 1 by omega)
  have n2 := Lib.hid (show w.heap.size + 1 + 1 ≠ w.heap.size + 1 + 1 + 1 by omega)
  clear hb hW q0 q1 q2 q3
  go_enter Try.func33, Try.ntmps33
  go_wp2_with (rw [HW.out])
  go_region_held3 (fun X => X.cell? ⟨w.heap.size, 0, none⟩ = some (.func (.func 31) #[] #[]) ∧ X.cell? ⟨w.heap.size, 1, none⟩ = some (.func (.func 32) #[] #[]) ∧ X.cell? ⟨w.heap.size + 1, 0, none⟩ = some (.int .i64 a) ∧ X.cell? ⟨w.heap.size + 1, 1, none⟩ = some (.int .i64 b) ∧ X.cell? ⟨w.heap.size + 1 + 1, 0, none⟩ = some (.int .i64 c) ∧ X.cell? ⟨w.heap.size + 1 + 1, 1, none⟩ = some (.int .i64 d))
    (first
      | (with_reducible exact ⟨c0, c1, x0, x1, y0, y1⟩)
      | (with_reducible exact ⟨keep2 n0.out c0, keep2 n0.out c1, keep2 n1.out x0, keep2 n1.out x1, keep2 n2.out y0, keep2 n2.out y1⟩)
      | go_keep)
    (first
      | (go_at_call 31; with_reducible refine Calls.mono (H1.out _) ?_; rintro e w9 ⟨rfl, rfl⟩)
      | (go_at_call 32; with_reducible refine Calls.mono (H2.out _) ?_; rintro e w9 ⟨rfl, rfl⟩))
  all_goals
    go_wp2_with fail
    exact bodyPost_ret (v := .agg #[.int .i64 x, .int .i64 y]) (by simp [results, Try.results33, go_sem, *]) rfl ⟨rfl, by (first | refine Below.drew ?_ | skip); (repeat (refine Below.setCell ?_ (by simp only []; omega) _)); first | exact Hb.out | exact Hb.out.drew⟩
set_option maxRecDepth 100000 in
set_option maxHeartbeats 1000000 in
theorem of_hull (a b c d : Int) (w : World) : Calls Try.prog 33 #[.agg #[.func (.func 32) #[] #[], .func (.func 31) #[] #[]], .agg #[.int .i64 a, .int .i64 b], .agg #[.int .i64 c, .int .i64 d]] w fun e w' => e = .returned (.agg #[.int .i64 (min a c), .int .i64 (max b d)]) ∧ Below w.heap.size w w' := by
  have HL := Lib.hid (fun a b W => calls_flip (less_any a b W))
  have HG := Lib.hid (fun a b W => calls_flip (greater_any a b W))
  obtain ⟨x, hx⟩ : ∃ x, min a c = x := ⟨_, rfl⟩
  obtain ⟨y, hy⟩ : ∃ x, max b d = x := ⟨_, rfl⟩
  rw [hx, hy]
  have h1 := less_any a c
  have h2 := greater_any b d
  rw [hx] at h1
  rw [hy] at h2
  have H1 := Lib.hid (fun W => calls_flip (h1 W))
  have H2 := Lib.hid (fun W => calls_flip (h2 W))
  clear h1 h2 hx hy
  obtain ⟨W, hW⟩ : ∃ W, (((w.alloc (.cells #[.func (.func 32) #[] #[], .func (.func 31) #[] #[]] 51)).alloc (.cells #[.int .i64 a, .int .i64 b] 23)).alloc (.cells #[.int .i64 c, .int .i64 d] 23)).alloc (.cells #[.int .i64 0, .int .i64 0] 23) = W := ⟨_, rfl⟩
  have hb : Below w.heap.size w W := by rw [← hW]; exact (((below_alloc w _).alloc (by simp) _).alloc (by simp; omega) _).alloc (by simp; omega) _
  have q0 : Blk W w.heap.size 51 #[.func (.func 32) #[] #[], .func (.func 31) #[] #[]] := by rw [← hW]; exact (((Blk.new w _ _).alloc _).alloc _).alloc _
  have q1 : Blk W (w.heap.size + 1) 23 #[.int .i64 a, .int .i64 b] := by rw [← hW]; exact ((blk_new2 w _ _ _).alloc _).alloc _
  have q2 : Blk W (w.heap.size + 1 + 1) 23 #[.int .i64 c, .int .i64 d] := by
    rw [← hW]
    have h := blk_new2 (w.alloc (.cells #[.func (.func 32) #[] #[], .func (.func 31) #[] #[]] 51)) (.cells #[.int .i64 a, .int .i64 b] 23) 23 #[.int .i64 c, .int .i64 d]
    rw [World.size_alloc] at h
    exact h.alloc _
  have q3 : Blk W (w.heap.size + 1 + 1 + 1) 23 #[.int .i64 0, .int .i64 0] := by
    rw [← hW]
    have h := blk_new2 ((w.alloc (.cells #[.func (.func 32) #[] #[], .func (.func 31) #[] #[]] 51)).alloc (.cells #[.int .i64 a, .int .i64 b] 23)) (.cells #[.int .i64 c, .int .i64 d] 23) 23 #[.int .i64 0, .int .i64 0]
    simp only [World.size_alloc] at h
    exact h
  have Hb := Lib.hid hb
  have HW := Lib.hid hW
  have Hq := Lib.hid q3
  obtain ⟨c0, c1, _, _⟩ := cells2 q0
  obtain ⟨x0, x1, _, _⟩ := cells2 q1
  obtain ⟨y0, y1, _, _⟩ := cells2 q2
  obtain ⟨z0, z1, f0, f1⟩ := cells2 q3
  have n0 := Lib.hid (show w.heap.size ≠ w.heap.size + 1 + 1 + 1 by omega)
  have n1 := Lib.hid (show w.heap.size + 1 ≠ w.heap.size + 1 + 1 + 1 by omega)
  have n2 := Lib.hid (show w.heap.size + 1 + 1 ≠ w.heap.size + 1 + 1 + 1 by omega)
  clear hb hW q0 q1 q2 q3
  go_enter Try.func33, Try.ntmps33
  go_wp2_with (rw [HW.out])
  go_region_held3 (fun X => X.cell? ⟨w.heap.size, 0, none⟩ = some (.func (.func 32) #[] #[]) ∧ X.cell? ⟨w.heap.size, 1, none⟩ = some (.func (.func 31) #[] #[]) ∧ X.cell? ⟨w.heap.size + 1, 0, none⟩ = some (.int .i64 a) ∧ X.cell? ⟨w.heap.size + 1, 1, none⟩ = some (.int .i64 b) ∧ X.cell? ⟨w.heap.size + 1 + 1, 0, none⟩ = some (.int .i64 c) ∧ X.cell? ⟨w.heap.size + 1 + 1, 1, none⟩ = some (.int .i64 d))
    (first
      | (with_reducible exact ⟨c0, c1, x0, x1, y0, y1⟩)
      | (with_reducible exact ⟨keep2 n0.out c0, keep2 n0.out c1, keep2 n1.out x0, keep2 n1.out x1, keep2 n2.out y0, keep2 n2.out y1⟩)
      | go_keep)
    (first
      | (go_at_call 32; with_reducible refine Calls.mono (H1.out _) ?_; rintro e w9 ⟨rfl, rfl⟩)
      | (go_at_call 31; with_reducible refine Calls.mono (H2.out _) ?_; rintro e w9 ⟨rfl, rfl⟩))
  all_goals
    go_wp2_with fail
    exact bodyPost_ret (v := .agg #[.int .i64 x, .int .i64 y]) (by simp [results, Try.results33, go_sem, *]) rfl ⟨rfl, by (first | refine Below.drew ?_ | skip); (repeat (refine Below.setCell ?_ (by simp only []; omega) _)); first | exact Hb.out | exact Hb.out.drew⟩
end Go.Proofs.Ytnjpjjefhpbfgaa
