/- Intervals: the statement on pairs. -/
import Derived.Test.YtnjpjjefhpbfgaaIvO
namespace Go.Proofs.Ytnjpjjefhpbfgaa
open Go.RowKit

/-- two values laid into a new block behind a call -/
theorem step_blk {w w1 w2 : World} (hb : Below w.heap.size w w1) (h2 : Below w1.heap.size w1 w2) (x y : Int) :
    Below w.heap.size w (w2.alloc (.cells #[.int .i64 x, .int .i64 y] 23)) ∧ Blk (w2.alloc (.cells #[.int .i64 x, .int .i64 y] 23)) w2.heap.size 23 #[.int .i64 x, .int .i64 y] ∧ Below w1.heap.size w1 (w2.alloc (.cells #[.int .i64 x, .int .i64 y] 23)) := by
  have h3 := h2.trans ((below_alloc w2 (.cells #[.int .i64 x, .int .i64 y] 23)).mono h2.size)
  exact ⟨hb.trans (h3.mono hb.size), Blk.new _ _ _, h3⟩
set_option maxRecDepth 100000 in
set_option maxHeartbeats 4000000 in
theorem pairs_any (a b c d : Int) (w : World) : Calls Try.prog 3 #[.agg #[.int .i64 a, .int .i64 b], .agg #[.int .i64 c, .int .i64 d]] w fun e w' => e = .returned (.bool true) ∧ Below w.heap.size w w' := by
  have q0 := (Blk.new w 23 #[.int .i64 a, .int .i64 b]).alloc (.cells #[.int .i64 c, .int .i64 d] 23)
  have q1 := blk_new2 w (.cells #[.int .i64 a, .int .i64 b] 23) 23 #[.int .i64 c, .int .i64 d]
  have hb := (below_alloc w (.cells #[.int .i64 a, .int .i64 b] 23)).alloc (by simp) (.cells #[.int .i64 c, .int .i64 d] 23)
  obtain ⟨W, hW⟩ : ∃ W, (w.alloc (.cells #[.int .i64 a, .int .i64 b] 23)).alloc (.cells #[.int .i64 c, .int .i64 d] 23) = W := ⟨_, rfl⟩
  rw [hW] at q0 q1 hb
  have HW := Lib.hid hW
  have HS := Lib.hid (sane_any W)
  have HM := Lib.hid (fun X => meet_any a b c d X)
  have HRM := Lib.hid (fun X => rmeet_any a b c d X)
  have HH := Lib.hid (fun X => hull_any a b c d X)
  have HRH := Lib.hid (fun X => rhull_any a b c d X)
  have HC := Lib.hid (fun X => check_any a b X)
  have HRC := Lib.hid (fun X => rcheck_any a b X)
  have HI := Lib.hid (fun X => within_any a b c d X)
  have HRI := Lib.hid (fun X => rwithin_any a b c d X)
  have Q0 := Lib.hid q0
  have Q1 := Lib.hid q1
  have Hb := Lib.hid hb
  obtain ⟨⟨m0, m1⟩, hm⟩ : ∃ x, meetV (a, b) (c, d) = x := ⟨_, rfl⟩
  obtain ⟨⟨u0, u1⟩, hu⟩ : ∃ x, hullV (a, b) (c, d) = x := ⟨_, rfl⟩
  obtain ⟨me, hme⟩ : ∃ x, meetE (a, b) (c, d) = x := ⟨_, rfl⟩
  obtain ⟨ue, hue⟩ : ∃ x, ckL [(a, b), (c, d)] = x := ⟨_, rfl⟩
  obtain ⟨ce, hce⟩ : ∃ x, ck (a, b) = x := ⟨_, rfl⟩
  obtain ⟨wi, hwi⟩ : ∃ x, within (a, b) (c, d) = x := ⟨_, rfl⟩
  rw [hm, hme] at HM HRM
  rw [hu, hue] at HH HRH
  rw [hce] at HC HRC
  rw [hwi] at HI HRI
  simp only [] at HM HRM HH HRH
  clear q0 q1 hb hW hm hu hme hue hce hwi
  go_enter Try.func3, Try.ntmps3
  go_wp2_with (rw [HW.out])
  refine HS.out.mono ?_
  rintro e w1 ⟨rfl, hb1⟩
  have P0 := Lib.hid (Q0.out.below hb1 Q0.out.lt)
  have P1 := Lib.hid (Q1.out.below hb1 Q1.out.lt)
  have Hb1 := Lib.hid (Hb.out.trans (hb1.mono Hb.out.size))
  clear hb1
  obtain ⟨x0, x1, _, _⟩ := cells2 P0.out
  obtain ⟨y0, y1, _, _⟩ := cells2 P1.out
  go_wp2_with fail
  refine (HM.out _).mono ?_
  rintro e w2 ⟨rfl, hb2⟩
  obtain ⟨h3, hB3, hb3⟩ := step_blk Hb1.out hb2 m0 m1
  have Ha3 := Lib.hid (World.size_alloc w2 (.cells #[.int .i64 m0, .int .i64 m1] 23))
  obtain ⟨w3, hw3⟩ : ∃ w3, w2.alloc (.cells #[.int .i64 m0, .int .i64 m1] 23) = w3 := ⟨_, rfl⟩
  rw [hw3] at h3 hB3 hb3
  have HW3 := Lib.hid hw3
  have M3 := Lib.hid hB3
  have Hb3 := Lib.hid h3
  have P03 := Lib.hid (P0.out.below hb3 P0.out.lt)
  have P13 := Lib.hid (P1.out.below hb3 P1.out.lt)
  clear hb2 h3 hB3 hb3 hw3 x0 x1 y0 y1
  obtain ⟨x0, x1, _, _⟩ := cells2 P03.out
  obtain ⟨y0, y1, _, _⟩ := cells2 P13.out
  go_wp2_with (rw [HW3.out])
  refine (HRM.out _).mono ?_
  rintro e w4 ⟨rfl, hb4⟩
  obtain ⟨h5, hB5, hb5⟩ := step_blk Hb3.out hb4 m0 m1
  obtain ⟨w5, hw5⟩ : ∃ w5, w4.alloc (.cells #[.int .i64 m0, .int .i64 m1] 23) = w5 := ⟨_, rfl⟩
  rw [hw5] at h5 hB5 hb5
  have HW5 := Lib.hid hw5
  have R5 := Lib.hid hB5
  have Hb5 := Lib.hid h5
  have M5 := Lib.hid (M3.out.below hb5 M3.out.lt)
  have P05 := Lib.hid (P03.out.below hb5 P03.out.lt)
  have P15 := Lib.hid (P13.out.below hb5 P13.out.lt)
  clear hb4 h5 hB5 hb5 hw5 x0 x1 y0 y1
  obtain ⟨x0, x1, _, _⟩ := cells2 P05.out
  obtain ⟨y0, y1, _, _⟩ := cells2 P15.out
  go_wp2_with (rw [HW5.out])
  refine (HH.out _).mono ?_
  rintro e w6 ⟨rfl, hb6⟩
  obtain ⟨h7, hB7, hb7⟩ := step_blk Hb5.out hb6 u0 u1
  obtain ⟨w7, hw7⟩ : ∃ w7, w6.alloc (.cells #[.int .i64 u0, .int .i64 u1] 23) = w7 := ⟨_, rfl⟩
  rw [hw7] at h7 hB7 hb7
  have HW7 := Lib.hid hw7
  have U7 := Lib.hid hB7
  have Hb7 := Lib.hid h7
  have M7 := Lib.hid (M5.out.below hb7 M5.out.lt)
  have R7 := Lib.hid (R5.out.below hb7 R5.out.lt)
  have P07 := Lib.hid (P05.out.below hb7 P05.out.lt)
  have P17 := Lib.hid (P15.out.below hb7 P15.out.lt)
  clear hb6 h7 hB7 hb7 hw7 x0 x1 y0 y1
  obtain ⟨x0, x1, _, _⟩ := cells2 P07.out
  obtain ⟨y0, y1, _, _⟩ := cells2 P17.out
  go_wp2_with (rw [HW7.out])
  refine (HRH.out _).mono ?_
  rintro e w8 ⟨rfl, hb8⟩
  obtain ⟨h9, hB9, hb9⟩ := step_blk Hb7.out hb8 u0 u1
  obtain ⟨w9, hw9⟩ : ∃ w9, w8.alloc (.cells #[.int .i64 u0, .int .i64 u1] 23) = w9 := ⟨_, rfl⟩
  rw [hw9] at h9 hB9 hb9
  have HW9 := Lib.hid hw9
  have V9 := Lib.hid hB9
  have Hb9 := Lib.hid h9
  have M9 := Lib.hid (M7.out.below hb9 M7.out.lt)
  have R9 := Lib.hid (R7.out.below hb9 R7.out.lt)
  have U9 := Lib.hid (U7.out.below hb9 U7.out.lt)
  have P09 := Lib.hid (P07.out.below hb9 P07.out.lt)
  have P19 := Lib.hid (P17.out.below hb9 P17.out.lt)
  clear hb8 h9 hB9 hb9 hw9 x0 x1 y0 y1 P0 P1 P03 P13 P05 P15 P07 P17
  obtain ⟨x0, x1, _, _⟩ := cells2 P09.out
  obtain ⟨y0, y1, _, _⟩ := cells2 P19.out
  obtain ⟨z0, z1, _, _⟩ := cells2 M9.out
  obtain ⟨z2, z3, _, _⟩ := cells2 R9.out
  obtain ⟨z4, z5, _, _⟩ := cells2 U9.out
  obtain ⟨z6, z7, _, _⟩ := cells2 V9.out
  have hbx : Below w9.heap.size w9 w9 := Below.refl _ _
  obtain ⟨S, hS⟩ : ∃ S : World → Prop, S = fun X => Below w9.heap.size w9 X ∧
    (X.cell? ⟨w.heap.size, 0, none⟩ = some (.int .i64 a) ∧ X.cell? ⟨w.heap.size, 1, none⟩ = some (.int .i64 b)) ∧ (X.cell? ⟨w.heap.size + 1, 0, none⟩ = some (.int .i64 c) ∧ X.cell? ⟨w.heap.size + 1, 1, none⟩ = some (.int .i64 d)) ∧
    (X.cell? ⟨w2.heap.size, 0, none⟩ = some (.int .i64 m0) ∧ X.cell? ⟨w2.heap.size, 1, none⟩ = some (.int .i64 m1)) ∧ (X.cell? ⟨w4.heap.size, 0, none⟩ = some (.int .i64 m0) ∧ X.cell? ⟨w4.heap.size, 1, none⟩ = some (.int .i64 m1)) ∧
    (X.cell? ⟨w6.heap.size, 0, none⟩ = some (.int .i64 u0) ∧ X.cell? ⟨w6.heap.size, 1, none⟩ = some (.int .i64 u1)) ∧ (X.cell? ⟨w8.heap.size, 0, none⟩ = some (.int .i64 u0) ∧ X.cell? ⟨w8.heap.size, 1, none⟩ = some (.int .i64 u1)) := ⟨_, rfl⟩
  have HSs := Lib.hid (show ∀ X, Below w9.heap.size w9 X → S X from fun X hX => by
    rw [hS]
    obtain ⟨a0, a1, _, _⟩ := cells2 (P09.out.below hX P09.out.lt)
    obtain ⟨a2, a3, _, _⟩ := cells2 (P19.out.below hX P19.out.lt)
    obtain ⟨a4, a5, _, _⟩ := cells2 (M9.out.below hX M9.out.lt)
    obtain ⟨a6, a7, _, _⟩ := cells2 (R9.out.below hX R9.out.lt)
    obtain ⟨a8, a9, _, _⟩ := cells2 (U9.out.below hX U9.out.lt)
    obtain ⟨b0, b1, _, _⟩ := cells2 (V9.out.below hX V9.out.lt)
    exact ⟨hX, ⟨a0, a1⟩, ⟨a2, a3⟩, ⟨a4, a5⟩, ⟨a6, a7⟩, ⟨a8, a9⟩, ⟨b0, b1⟩⟩)
  rw [hS] at HSs
  clear hS S
  go_wp2_with (rw [HW9.out])
  go_region_held3 (fun X => Below w9.heap.size w9 X ∧
    (X.cell? ⟨w.heap.size, 0, none⟩ = some (.int .i64 a) ∧ X.cell? ⟨w.heap.size, 1, none⟩ = some (.int .i64 b)) ∧ (X.cell? ⟨w.heap.size + 1, 0, none⟩ = some (.int .i64 c) ∧ X.cell? ⟨w.heap.size + 1, 1, none⟩ = some (.int .i64 d)) ∧
    (X.cell? ⟨w2.heap.size, 0, none⟩ = some (.int .i64 m0) ∧ X.cell? ⟨w2.heap.size, 1, none⟩ = some (.int .i64 m1)) ∧ (X.cell? ⟨w4.heap.size, 0, none⟩ = some (.int .i64 m0) ∧ X.cell? ⟨w4.heap.size, 1, none⟩ = some (.int .i64 m1)) ∧
    (X.cell? ⟨w6.heap.size, 0, none⟩ = some (.int .i64 u0) ∧ X.cell? ⟨w6.heap.size, 1, none⟩ = some (.int .i64 u1)) ∧ (X.cell? ⟨w8.heap.size, 0, none⟩ = some (.int .i64 u0) ∧ X.cell? ⟨w8.heap.size, 1, none⟩ = some (.int .i64 u1)))
    (first
      | (with_reducible exact HSs.out _ hbx)
      | (with_reducible exact HSs.out _ hbx.drew))
    (first
      | (go_at_call 15; with_reducible refine Calls.mono (HC.out _) ?_; rintro e wq ⟨rfl, hbq⟩; have hbx := (‹RowKit.Below w9.heap.size w9 _ ∧ _›).1.trans (hbq.mono (‹RowKit.Below w9.heap.size w9 _ ∧ _›).1.size))
      | (go_at_call 16; with_reducible refine Calls.mono (HRC.out _) ?_; rintro e wq ⟨rfl, hbq⟩; have hbx := (‹RowKit.Below w9.heap.size w9 _ ∧ _›).1.trans (hbq.mono (‹RowKit.Below w9.heap.size w9 _ ∧ _›).1.size))
      | (go_at_call 17; with_reducible refine Calls.mono (HI.out _) ?_; rintro e wq ⟨rfl, hbq⟩; have hbx := (‹RowKit.Below w9.heap.size w9 _ ∧ _›).1.trans (hbq.mono (‹RowKit.Below w9.heap.size w9 _ ∧ _›).1.size))
      | (go_at_call 18; with_reducible refine Calls.mono (HRI.out _) ?_; rintro e wq ⟨rfl, hbq⟩; have hbx := (‹RowKit.Below w9.heap.size w9 _ ∧ _›).1.trans (hbq.mono (‹RowKit.Below w9.heap.size w9 _ ∧ _›).1.size)))
  all_goals (have HbF := Lib.hid (Hb9.out.trans (hbx.mono Hb9.out.size)))
  all_goals (go_wp2_with fail)
  all_goals go_ret
  all_goals (exact ⟨ret_bool (by first | rfl | simp), HbF.out⟩)
end Go.Proofs.Ytnjpjjefhpbfgaa
