/- Intervals: the lattice, valid inputs. -/
import Derived.Test.YtnjpjjefhpbfgaaIvV
import Derived.Test.YtnjpjjefhpbfgaaIvQ
namespace Go.Proofs.Ytnjpjjefhpbfgaa
open Go.RowKit

set_option maxRecDepth 100000 in
set_option maxHeartbeats 8000000 in
theorem lat_walk (a b c d e f m0 m1 me u0 u1 : Int) (wik wjk whk wki wkj wkm : Bool) (w : World)
    (ha : ck (a, b) = 0) (hc : ck (c, d) = 0) (he : ck (e, f) = 0)
    (hm : meetV (a, b) (c, d) = (m0, m1)) (hme : meetE (a, b) (c, d) = me) (hu : hullV (a, b) (c, d) = (u0, u1))
    (hih : within (a, b) (u0, u1) = true) (hjh : within (c, d) (u0, u1) = true) (hik : within (a, b) (e, f) = wik) (hjk : within (c, d) (e, f) = wjk) (hhk : within (u0, u1) (e, f) = whk) (hk1 : (wik && wjk) = whk)
    (hki : within (e, f) (a, b) = wki) (hkj : within (e, f) (c, d) = wkj) (hkm : within (e, f) (m0, m1) = wkm)
    (hcase : (me = 80 ∧ (wki = false ∨ wki = true ∧ wkj = false)) ∨ (me = 0 ∧ within (m0, m1) (a, b) = true ∧ within (m0, m1) (c, d) = true ∧ (wki && wkj) = wkm)) :
    Calls Try.prog 6 #[.agg #[.int .i64 a, .int .i64 b], .agg #[.int .i64 c, .int .i64 d], .agg #[.int .i64 e, .int .i64 f]] w fun e w' => e = .returned (.bool true) ∧ Below w.heap.size w w' := by
  have q0 := ((Blk.new w 23 #[.int .i64 a, .int .i64 b]).alloc (.cells #[.int .i64 c, .int .i64 d] 23)).alloc (.cells #[.int .i64 e, .int .i64 f] 23)
  have q1 := (blk_new2 w (.cells #[.int .i64 a, .int .i64 b] 23) 23 #[.int .i64 c, .int .i64 d]).alloc (.cells #[.int .i64 e, .int .i64 f] 23)
  have q2 := blk_new2 (w.alloc (.cells #[.int .i64 a, .int .i64 b] 23)) (.cells #[.int .i64 c, .int .i64 d] 23) 23 #[.int .i64 e, .int .i64 f]
  rw [World.size_alloc] at q2
  have hb := ((below_alloc w (.cells #[.int .i64 a, .int .i64 b] 23)).alloc (by simp) (.cells #[.int .i64 c, .int .i64 d] 23)).alloc (by simp; omega) (.cells #[.int .i64 e, .int .i64 f] 23)
  obtain ⟨W, hW⟩ : ∃ W, ((w.alloc (.cells #[.int .i64 a, .int .i64 b] 23)).alloc (.cells #[.int .i64 c, .int .i64 d] 23)).alloc (.cells #[.int .i64 e, .int .i64 f] 23) = W := ⟨_, rfl⟩
  rw [hW] at q0 q1 q2 hb
  have P00 := Lib.hid q0
  have P10 := Lib.hid q1
  have P20 := Lib.hid q2
  have Hb0 := Lib.hid hb
  have HW := Lib.hid hW
  have HS := Lib.hid (fun X => sane_any X)
  have HCI := Lib.hid (fun X => check_any a b X)
  have HCJ := Lib.hid (fun X => check_any c d X)
  have HCK := Lib.hid (fun X => check_any e f X)
  obtain ⟨x0, x1, _, _⟩ := cells2 q0
  obtain ⟨y0, y1, _, _⟩ := cells2 q1
  obtain ⟨z0, z1, _, _⟩ := cells2 q2
  clear q0 q1 q2 hb hW
  rw [ha] at HCI
  rw [hc] at HCJ
  rw [he] at HCK
  have HM := Lib.hid (fun X => meet_any a b c d X)
  have HH := Lib.hid (fun X => hull_any a b c d X)
  rw [hm, hme] at HM
  rw [hu, ckL2_ok ha hc] at HH
  simp only [] at HM HH
  have HIH := Lib.hid (fun X => within_any a b u0 u1 X)
  rw [hih] at HIH
  have HJH := Lib.hid (fun X => within_any c d u0 u1 X)
  rw [hjh] at HJH
  have HIK := Lib.hid (fun X => within_any a b e f X)
  rw [hik] at HIK
  have HJK := Lib.hid (fun X => within_any c d e f X)
  rw [hjk] at HJK
  have HHK := Lib.hid (fun X => within_any u0 u1 e f X)
  rw [hhk] at HHK
  have HKI := Lib.hid (fun X => within_any e f a b X)
  rw [hki] at HKI
  have HKJ := Lib.hid (fun X => within_any e f c d X)
  rw [hkj] at HKJ
  have HKM := Lib.hid (fun X => within_any e f m0 m1 X)
  rw [hkm] at HKM
  have HMI := Lib.hid (fun X => within_any m0 m1 a b X)
  have HMJ := Lib.hid (fun X => within_any m0 m1 c d X)
  have HCase := Lib.hid hcase
  clear ha hc he hm hme hu hih hjh hik hjk hhk hki hkj hkm hcase
  go_enter Try.func6, Try.ntmps6
  go_wp2_with (rw [HW.out])
  refine (HS.out _).mono ?_
  rintro _ w1 ⟨rfl, hb1⟩
  have P01 := Lib.hid (P00.out.below hb1 P00.out.lt)
  have P11 := Lib.hid (P10.out.below hb1 P10.out.lt)
  have P21 := Lib.hid (P20.out.below hb1 P20.out.lt)
  have Hb1 := Lib.hid (Hb0.out.trans (hb1.mono Hb0.out.size))
  clear hb1 P00 P10 P20 x0 x1 y0 y1 z0 z1
  obtain ⟨x0, x1, _, _⟩ := cells2 P01.out
  obtain ⟨y0, y1, _, _⟩ := cells2 P11.out
  obtain ⟨z0, z1, _, _⟩ := cells2 P21.out
  go_wp2_with fail
  refine (HCI.out _).mono ?_
  rintro _ w2 ⟨rfl, hb2⟩
  have P02 := Lib.hid (P01.out.below hb2 P01.out.lt)
  have P12 := Lib.hid (P11.out.below hb2 P11.out.lt)
  have P22 := Lib.hid (P21.out.below hb2 P21.out.lt)
  have Hb2 := Lib.hid (Hb1.out.trans (hb2.mono Hb1.out.size))
  clear hb2 P01 P11 P21 x0 x1 y0 y1 z0 z1
  obtain ⟨x0, x1, _, _⟩ := cells2 P02.out
  obtain ⟨y0, y1, _, _⟩ := cells2 P12.out
  obtain ⟨z0, z1, _, _⟩ := cells2 P22.out
  go_wp2_with fail
  refine (HCJ.out _).mono ?_
  rintro _ w3 ⟨rfl, hb3⟩
  have P03 := Lib.hid (P02.out.below hb3 P02.out.lt)
  have P13 := Lib.hid (P12.out.below hb3 P12.out.lt)
  have P23 := Lib.hid (P22.out.below hb3 P22.out.lt)
  have Hb3 := Lib.hid (Hb2.out.trans (hb3.mono Hb2.out.size))
  clear hb3 P02 P12 P22 x0 x1 y0 y1 z0 z1
  obtain ⟨x0, x1, _, _⟩ := cells2 P03.out
  obtain ⟨y0, y1, _, _⟩ := cells2 P13.out
  obtain ⟨z0, z1, _, _⟩ := cells2 P23.out
  go_wp2_with fail
  refine (HCK.out _).mono ?_
  rintro _ w4 ⟨rfl, hb4⟩
  have P04 := Lib.hid (P03.out.below hb4 P03.out.lt)
  have P14 := Lib.hid (P13.out.below hb4 P13.out.lt)
  have P24 := Lib.hid (P23.out.below hb4 P23.out.lt)
  have Hb4 := Lib.hid (Hb3.out.trans (hb4.mono Hb3.out.size))
  clear hb4 P03 P13 P23 x0 x1 y0 y1 z0 z1
  obtain ⟨x0, x1, _, _⟩ := cells2 P04.out
  obtain ⟨y0, y1, _, _⟩ := cells2 P14.out
  obtain ⟨z0, z1, _, _⟩ := cells2 P24.out
  go_wp2_with fail
  refine (HM.out _).mono ?_
  rintro _ w5 ⟨rfl, hb5⟩
  obtain ⟨h6, hB6, hb6⟩ := step_blk Hb4.out hb5 m0 m1
  obtain ⟨w6, hw6⟩ : ∃ W, w5.alloc (.cells #[.int .i64 m0, .int .i64 m1] 23) = W := ⟨_, rfl⟩
  rw [hw6] at h6 hB6 hb6
  have HW6 := Lib.hid hw6
  have B6 := Lib.hid hB6
  have Hb6 := Lib.hid h6
  have P06 := Lib.hid (P04.out.below hb6 P04.out.lt)
  have P16 := Lib.hid (P14.out.below hb6 P14.out.lt)
  have P26 := Lib.hid (P24.out.below hb6 P24.out.lt)
  clear hb5 h6 hB6 hb6 hw6 P04 P14 P24 x0 x1 y0 y1 z0 z1
  obtain ⟨x0, x1, _, _⟩ := cells2 P06.out
  obtain ⟨y0, y1, _, _⟩ := cells2 P16.out
  obtain ⟨z0, z1, _, _⟩ := cells2 P26.out
  go_wp2_with (rw [HW6.out])
  refine (HH.out _).mono ?_
  rintro _ w7 ⟨rfl, hb7⟩
  obtain ⟨h8, hB8, hb8⟩ := step_blk Hb6.out hb7 u0 u1
  obtain ⟨w8, hw8⟩ : ∃ W, w7.alloc (.cells #[.int .i64 u0, .int .i64 u1] 23) = W := ⟨_, rfl⟩
  rw [hw8] at h8 hB8 hb8
  have HW8 := Lib.hid hw8
  have B8 := Lib.hid hB8
  have Hb8 := Lib.hid h8
  have P08 := Lib.hid (P06.out.below hb8 P06.out.lt)
  have P18 := Lib.hid (P16.out.below hb8 P16.out.lt)
  have P28 := Lib.hid (P26.out.below hb8 P26.out.lt)
  have M8 := Lib.hid (B6.out.below hb8 B6.out.lt)
  clear hb7 h8 hB8 hb8 hw8 P06 P16 P26 x0 x1 y0 y1 z0 z1
  obtain ⟨x0, x1, _, _⟩ := cells2 P08.out
  obtain ⟨y0, y1, _, _⟩ := cells2 P18.out
  obtain ⟨z0, z1, _, _⟩ := cells2 P28.out
  obtain ⟨v0, v1, _, _⟩ := cells2 M8.out
  obtain ⟨v2, v3, _, _⟩ := cells2 B8.out
  have hbx : Below w8.heap.size w8 w8 := Below.refl _ _
  obtain ⟨S, hS⟩ : ∃ S : World → Prop, S = fun X => Below w8.heap.size w8 X ∧ (X.cell? ⟨w.heap.size, 0, none⟩ = some (.int .i64 a) ∧ X.cell? ⟨w.heap.size, 1, none⟩ = some (.int .i64 b)) ∧ (X.cell? ⟨w.heap.size + 1, 0, none⟩ = some (.int .i64 c) ∧ X.cell? ⟨w.heap.size + 1, 1, none⟩ = some (.int .i64 d)) ∧ (X.cell? ⟨w.heap.size + 1 + 1, 0, none⟩ = some (.int .i64 e) ∧ X.cell? ⟨w.heap.size + 1 + 1, 1, none⟩ = some (.int .i64 f)) ∧ (X.cell? ⟨w5.heap.size, 0, none⟩ = some (.int .i64 m0) ∧ X.cell? ⟨w5.heap.size, 1, none⟩ = some (.int .i64 m1)) ∧ (X.cell? ⟨w7.heap.size, 0, none⟩ = some (.int .i64 u0) ∧ X.cell? ⟨w7.heap.size, 1, none⟩ = some (.int .i64 u1)) := ⟨_, rfl⟩
  have HSs := Lib.hid (show ∀ X, Below w8.heap.size w8 X → S X from fun X hX => by
    rw [hS]
    obtain ⟨a0, a1, _, _⟩ := cells2 (P08.out.below hX P08.out.lt)
    obtain ⟨a2, a3, _, _⟩ := cells2 (P18.out.below hX P18.out.lt)
    obtain ⟨a4, a5, _, _⟩ := cells2 (P28.out.below hX P28.out.lt)
    obtain ⟨a6, a7, _, _⟩ := cells2 (M8.out.below hX M8.out.lt)
    obtain ⟨a8, a9, _, _⟩ := cells2 (B8.out.below hX B8.out.lt)
    exact ⟨hX, ⟨a0, a1⟩, ⟨a2, a3⟩, ⟨a4, a5⟩, ⟨a6, a7⟩, ⟨a8, a9⟩⟩)
  rw [hS] at HSs
  clear hS S
  go_wp2_with (rw [HW8.out])
  have hmx : Try.prog.follows .mixedOrders = true := by kernel_rfl
  cases wik
  · subst hk1
    simp only [Bool.false_and] at HHK
    refine wp_region_noPanic ?_
    refine wp_region_held_drew (S := fun X => Below w8.heap.size w8 X ∧ (X.cell? ⟨w.heap.size, 0, none⟩ = some (.int .i64 a) ∧ X.cell? ⟨w.heap.size, 1, none⟩ = some (.int .i64 b)) ∧ (X.cell? ⟨w.heap.size + 1, 0, none⟩ = some (.int .i64 c) ∧ X.cell? ⟨w.heap.size + 1, 1, none⟩ = some (.int .i64 d)) ∧ (X.cell? ⟨w.heap.size + 1 + 1, 0, none⟩ = some (.int .i64 e) ∧ X.cell? ⟨w.heap.size + 1 + 1, 1, none⟩ = some (.int .i64 f)) ∧ (X.cell? ⟨w5.heap.size, 0, none⟩ = some (.int .i64 m0) ∧ X.cell? ⟨w5.heap.size, 1, none⟩ = some (.int .i64 m1)) ∧ (X.cell? ⟨w7.heap.size, 0, none⟩ = some (.int .i64 u0) ∧ X.cell? ⟨w7.heap.size, 1, none⟩ = some (.int .i64 u1))) (by kernel_rfl) (by first | exact HSs.out _ hbx.drew | exact HSs.out _ hbx) (fun hHeld => ?_)
    refine wpAnyH_take (i := 0) (oi := { dst := some 48, op := Op.move (Operand.tmp 10), type := 25, pos := "law.go:115", after := #[], guard := none }) (v := ?_) rfl (by kernel_rfl) (by kernel_rfl) (by kernel_rfl) (fun _ _ _ h => h) (Or.inl ⟨by rfl, ?_⟩) (by assumption) ?_
    rotate_left
    · (intro w hSw; (try dsimp only at hSw); go_simp <;> with_reducible rfl)
    try simp only [Act.put, List.setIfInBounds_toArray, List.set_cons_zero, List.set_cons_succ]
    refine wpAnyH_take (i := 1) (oi := { dst := some 49, op := Op.binOp BinOp.neq 25 (Operand.tmp 48) (Operand.const (Value.int IntKind.i64 0)) 25, type := 4, pos := "law.go:115", after := #[{ on := 0, ground := Ground.data }], guard := none }) (v := ?_) rfl (by kernel_rfl) (by kernel_rfl) (by kernel_rfl) (fun _ _ _ h => h) (Or.inl ⟨by rfl, ?_⟩) (by assumption) ?_
    rotate_left
    · (intro w hSw; (try dsimp only at hSw); go_simp <;> with_reducible rfl)
    try simp only [Act.put, List.setIfInBounds_toArray, List.set_cons_zero, List.set_cons_succ]
    refine wpAnyH_take (i := 2) (oi := { dst := some 50, op := Op.move (Operand.tmp 49), type := 4, pos := "law.go:115", after := #[{ on := 1, ground := Ground.data }], guard := none }) (v := ?_) rfl (by kernel_rfl) (by kernel_rfl) (by kernel_rfl) (fun _ _ _ h => h) (Or.inl ⟨by rfl, ?_⟩) (by assumption) ?_
    rotate_left
    · (intro w hSw; (try dsimp only at hSw); go_simp <;> with_reducible rfl)
    try simp only [Act.put, List.setIfInBounds_toArray, List.set_cons_zero, List.set_cons_succ]
    refine wpAnyH_take (i := 3) (oi := { dst := some 51, op := Op.load 23 (Operand.tmp 3), type := 23, pos := "law.go:115", after := #[{ on := 2, ground := Ground.guard }], guard := some (2, false) }) (v := ?_) rfl (by kernel_rfl) (by kernel_rfl) (by kernel_rfl) (fun _ _ _ h => h) (Or.inl ⟨by rfl, ?_⟩) (by assumption) ?_
    rotate_left
    · (intro w hSw; (try dsimp only at hSw); go_simp <;> with_reducible rfl)
    try simp only [Act.put, List.setIfInBounds_toArray, List.set_cons_zero, List.set_cons_succ]
    refine wpAnyH_take (i := 4) (oi := { dst := some 52, op := Op.load 23 (Operand.tmp 9), type := 23, pos := "law.go:115", after := #[{ on := 2, ground := Ground.guard }], guard := some (2, false) }) (v := ?_) rfl (by kernel_rfl) (by kernel_rfl) (by kernel_rfl) (fun _ _ _ h => h) (Or.inl ⟨by rfl, ?_⟩) (by assumption) ?_
    rotate_left
    · (intro w hSw; (try dsimp only at hSw); go_simp <;> with_reducible rfl)
    try simp only [Act.put, List.setIfInBounds_toArray, List.set_cons_zero, List.set_cons_succ]
    refine wpAnyH_ready (rs := [5]) (by kernel_rfl) (by simp) ?_
    refine AllReadyH.cons (o := { dst := some 53, op := Op.call { callee := Callee.value (Operand.func 17), args := #[Operand.tmp 51, Operand.tmp 52], argTypes := #[23, 23] }, type := 4, pos := "law.go:115", after := #[{ on := 3, ground := Ground.data }, { on := 4, ground := Ground.data }, { on := 2, ground := Ground.chain }, { on := 2, ground := Ground.guard }], guard := some (2, false) }) rfl (fun K hK => ?_) AllReadyH.nil
    go_simp
    refine Calls.mono (HIH.out _) ?_
    rintro _ wq ⟨rfl, hbq⟩
    replace hbx := hHeld.1.trans (hbq.mono hHeld.1.size)
    refine hK.out _ _ (HSs.out _ hbx) (fun hHeld2 => ?_)
    clear hHeld hK K
    have hHeld := hHeld2
    clear hHeld2 hbq
    try simp only [Act.put, List.setIfInBounds_toArray, List.set_cons_zero, List.set_cons_succ]
    refine wpAnyH_take (i := 6) (oi := { dst := some 54, op := Op.unOp UnOp.not 4 (Operand.tmp 53), type := 4, pos := "law.go:115", after := #[{ on := 5, ground := Ground.data }, { on := 2, ground := Ground.guard }], guard := some (2, false) }) (v := ?_) rfl (by kernel_rfl) (by kernel_rfl) (by kernel_rfl) (fun _ _ _ h => h) (Or.inl ⟨by rfl, ?_⟩) (by assumption) ?_
    rotate_left
    · (intro w hSw; (try dsimp only at hSw); go_simp <;> with_reducible rfl)
    try simp only [Act.put, List.setIfInBounds_toArray, List.set_cons_zero, List.set_cons_succ]
    refine wpAnyH_take (i := 7) (oi := { dst := some 55, op := Op.pick (Operand.tmp 50) (Operand.const (Value.bool true)) (Operand.tmp 54), type := 4, pos := "law.go:115", after := #[{ on := 2, ground := Ground.data }, { on := 6, ground := Ground.data }], guard := none }) (v := ?_) rfl (by kernel_rfl) (by kernel_rfl) (by kernel_rfl) (fun _ _ _ h => h) (Or.inl ⟨by rfl, ?_⟩) (by assumption) ?_
    rotate_left
    · (intro w hSw; (try dsimp only at hSw); go_simp <;> with_reducible rfl)
    try simp only [Act.put, List.setIfInBounds_toArray, List.set_cons_zero, List.set_cons_succ]
    refine wpAnyH_take (i := 8) (oi := { dst := some 56, op := Op.move (Operand.tmp 55), type := 4, pos := "law.go:115", after := #[{ on := 7, ground := Ground.data }, { on := 5, ground := Ground.chain }], guard := none }) (v := ?_) rfl (by kernel_rfl) (by kernel_rfl) (by kernel_rfl) (fun _ _ _ h => h) (Or.inl ⟨by rfl, ?_⟩) (by assumption) ?_
    rotate_left
    · (intro w hSw; (try dsimp only at hSw); go_simp <;> with_reducible rfl)
    try simp only [Act.put, List.setIfInBounds_toArray, List.set_cons_zero, List.set_cons_succ]
    refine wpAnyH_take (i := 9) (oi := { dst := some 57, op := Op.load 23 (Operand.tmp 4), type := 23, pos := "law.go:115", after := #[{ on := 8, ground := Ground.guard }], guard := some (8, false) }) (v := ?_) rfl (by kernel_rfl) (by kernel_rfl) (by kernel_rfl) (fun _ _ _ h => h) (Or.inl ⟨by rfl, ?_⟩) (by assumption) ?_
    rotate_left
    · (intro w hSw; (try dsimp only at hSw); go_simp <;> with_reducible rfl)
    try simp only [Act.put, List.setIfInBounds_toArray, List.set_cons_zero, List.set_cons_succ]
    refine wpAnyH_take (i := 10) (oi := { dst := some 58, op := Op.load 23 (Operand.tmp 9), type := 23, pos := "law.go:115", after := #[{ on := 8, ground := Ground.guard }], guard := some (8, false) }) (v := ?_) rfl (by kernel_rfl) (by kernel_rfl) (by kernel_rfl) (fun _ _ _ h => h) (Or.inl ⟨by rfl, ?_⟩) (by assumption) ?_
    rotate_left
    · (intro w hSw; (try dsimp only at hSw); go_simp <;> with_reducible rfl)
    try simp only [Act.put, List.setIfInBounds_toArray, List.set_cons_zero, List.set_cons_succ]
    refine wpAnyH_ready (rs := [11]) (by kernel_rfl) (by simp) ?_
    refine AllReadyH.cons (o := { dst := some 59, op := Op.call { callee := Callee.value (Operand.func 17), args := #[Operand.tmp 57, Operand.tmp 58], argTypes := #[23, 23] }, type := 4, pos := "law.go:115", after := #[{ on := 9, ground := Ground.data }, { on := 10, ground := Ground.data }, { on := 8, ground := Ground.chain }, { on := 8, ground := Ground.guard }], guard := some (8, false) }) rfl (fun K hK => ?_) AllReadyH.nil
    go_simp
    refine Calls.mono (HJH.out _) ?_
    rintro _ wq ⟨rfl, hbq⟩
    replace hbx := hHeld.1.trans (hbq.mono hHeld.1.size)
    refine hK.out _ _ (HSs.out _ hbx) (fun hHeld2 => ?_)
    clear hHeld hK K
    have hHeld := hHeld2
    clear hHeld2 hbq
    try simp only [Act.put, List.setIfInBounds_toArray, List.set_cons_zero, List.set_cons_succ]
    refine wpAnyH_take (i := 12) (oi := { dst := some 60, op := Op.unOp UnOp.not 4 (Operand.tmp 59), type := 4, pos := "law.go:115", after := #[{ on := 11, ground := Ground.data }, { on := 8, ground := Ground.guard }], guard := some (8, false) }) (v := ?_) rfl (by kernel_rfl) (by kernel_rfl) (by kernel_rfl) (fun _ _ _ h => h) (Or.inl ⟨by rfl, ?_⟩) (by assumption) ?_
    rotate_left
    · (intro w hSw; (try dsimp only at hSw); go_simp <;> with_reducible rfl)
    try simp only [Act.put, List.setIfInBounds_toArray, List.set_cons_zero, List.set_cons_succ]
    refine wpAnyH_take (i := 13) (oi := { dst := some 61, op := Op.pick (Operand.tmp 56) (Operand.const (Value.bool true)) (Operand.tmp 60), type := 4, pos := "law.go:115", after := #[{ on := 8, ground := Ground.data }, { on := 12, ground := Ground.data }], guard := none }) (v := ?_) rfl (by kernel_rfl) (by kernel_rfl) (by kernel_rfl) (fun _ _ _ h => h) (Or.inl ⟨by rfl, ?_⟩) (by assumption) ?_
    rotate_left
    · (intro w hSw; (try dsimp only at hSw); go_simp <;> with_reducible rfl)
    try simp only [Act.put, List.setIfInBounds_toArray, List.set_cons_zero, List.set_cons_succ]
    refine wpAnyH_take (i := 14) (oi := { dst := some 62, op := Op.move (Operand.tmp 61), type := 4, pos := "law.go:115", after := #[{ on := 13, ground := Ground.data }, { on := 11, ground := Ground.chain }], guard := none }) (v := ?_) rfl (by kernel_rfl) (by kernel_rfl) (by kernel_rfl) (fun _ _ _ h => h) (Or.inl ⟨by rfl, ?_⟩) (by assumption) ?_
    rotate_left
    · (intro w hSw; (try dsimp only at hSw); go_simp <;> with_reducible rfl)
    try simp only [Act.put, List.setIfInBounds_toArray, List.set_cons_zero, List.set_cons_succ]
    refine wpAnyH_take (i := 15) (oi := { dst := some 63, op := Op.load 23 (Operand.tmp 3), type := 23, pos := "law.go:115", after := #[{ on := 14, ground := Ground.guard }], guard := some (14, false) }) (v := ?_) rfl (by kernel_rfl) (by kernel_rfl) (by kernel_rfl) (fun _ _ _ h => h) (Or.inl ⟨by rfl, ?_⟩) (by assumption) ?_
    rotate_left
    · (intro w hSw; (try dsimp only at hSw); go_simp <;> with_reducible rfl)
    try simp only [Act.put, List.setIfInBounds_toArray, List.set_cons_zero, List.set_cons_succ]
    refine wpAnyH_take (i := 16) (oi := { dst := some 64, op := Op.load 23 (Operand.tmp 5), type := 23, pos := "law.go:115", after := #[{ on := 14, ground := Ground.guard }], guard := some (14, false) }) (v := ?_) rfl (by kernel_rfl) (by kernel_rfl) (by kernel_rfl) (fun _ _ _ h => h) (Or.inl ⟨by rfl, ?_⟩) (by assumption) ?_
    rotate_left
    · (intro w hSw; (try dsimp only at hSw); go_simp <;> with_reducible rfl)
    try simp only [Act.put, List.setIfInBounds_toArray, List.set_cons_zero, List.set_cons_succ]
    refine wpAnyH_take (i := 23) (oi := { dst := some 71, op := Op.load 23 (Operand.tmp 9), type := 23, pos := "law.go:115", after := #[{ on := 14, ground := Ground.guard }], guard := some (14, false) }) (v := ?_) rfl (by kernel_rfl) (by kernel_rfl) (by kernel_rfl) (fun _ _ _ h => h) (Or.inl ⟨by rfl, ?_⟩) (by assumption) ?_
    rotate_left
    · (intro w hSw; (try dsimp only at hSw); go_simp <;> with_reducible rfl)
    try simp only [Act.put, List.setIfInBounds_toArray, List.set_cons_zero, List.set_cons_succ]
    refine wpAnyH_take (i := 24) (oi := { dst := some 72, op := Op.load 23 (Operand.tmp 5), type := 23, pos := "law.go:115", after := #[{ on := 14, ground := Ground.guard }], guard := some (14, false) }) (v := ?_) rfl (by kernel_rfl) (by kernel_rfl) (by kernel_rfl) (fun _ _ _ h => h) (Or.inl ⟨by rfl, ?_⟩) (by assumption) ?_
    rotate_left
    · (intro w hSw; (try dsimp only at hSw); go_simp <;> with_reducible rfl)
    try simp only [Act.put, List.setIfInBounds_toArray, List.set_cons_zero, List.set_cons_succ]
    refine wpAnyH_ready (rs := [17]) (by kernel_rfl) (by simp) ?_
    refine AllReadyH.cons (o := { dst := some 65, op := Op.call { callee := Callee.value (Operand.func 17), args := #[Operand.tmp 63, Operand.tmp 64], argTypes := #[23, 23] }, type := 4, pos := "law.go:115", after := #[{ on := 15, ground := Ground.data }, { on := 16, ground := Ground.data }, { on := 14, ground := Ground.chain }, { on := 14, ground := Ground.guard }], guard := some (14, false) }) rfl (fun K hK => ?_) AllReadyH.nil
    go_simp
    refine Calls.mono (HIK.out _) ?_
    rintro _ wq ⟨rfl, hbq⟩
    replace hbx := hHeld.1.trans (hbq.mono hHeld.1.size)
    refine hK.out _ _ (HSs.out _ hbx) (fun hHeld2 => ?_)
    clear hHeld hK K
    have hHeld := hHeld2
    clear hHeld2 hbq
    try simp only [Act.put, List.setIfInBounds_toArray, List.set_cons_zero, List.set_cons_succ]
    refine wpAnyH_take (i := 18) (oi := { dst := some 66, op := Op.move (Operand.tmp 65), type := 4, pos := "law.go:115", after := #[{ on := 17, ground := Ground.data }, { on := 17, ground := Ground.chain }, { on := 14, ground := Ground.guard }], guard := some (14, false) }) (v := ?_) rfl (by kernel_rfl) (by kernel_rfl) (by kernel_rfl) (fun _ _ _ h => h) (Or.inl ⟨by rfl, ?_⟩) (by assumption) ?_
    rotate_left
    · (intro w hSw; (try dsimp only at hSw); go_simp <;> with_reducible rfl)
    try simp only [Act.put, List.setIfInBounds_toArray, List.set_cons_zero, List.set_cons_succ]
    refine wpAnyH_take (i := 19) (oi := { dst := some 67, op := Op.load 23 (Operand.tmp 4), type := 23, pos := "law.go:115", after := #[{ on := 18, ground := Ground.guard }], guard := some (18, true) }) (v := undef) rfl (by kernel_rfl) (by kernel_rfl) (by kernel_rfl) (fun _ _ _ h => h) (Or.inr ⟨by rfl, rfl⟩) (by assumption) ?_
    try simp only [Act.put, List.setIfInBounds_toArray, List.set_cons_zero, List.set_cons_succ]
    refine wpAnyH_take (i := 20) (oi := { dst := some 68, op := Op.load 23 (Operand.tmp 5), type := 23, pos := "law.go:115", after := #[{ on := 18, ground := Ground.guard }], guard := some (18, true) }) (v := undef) rfl (by kernel_rfl) (by kernel_rfl) (by kernel_rfl) (fun _ _ _ h => h) (Or.inr ⟨by rfl, rfl⟩) (by assumption) ?_
    try simp only [Act.put, List.setIfInBounds_toArray, List.set_cons_zero, List.set_cons_succ]
    refine wpAnyH_take (i := 21) (oi := { dst := some 69, op := Op.call { callee := Callee.value (Operand.func 17), args := #[Operand.tmp 67, Operand.tmp 68], argTypes := #[23, 23] }, type := 4, pos := "law.go:115", after := #[{ on := 19, ground := Ground.data }, { on := 20, ground := Ground.data }, { on := 18, ground := Ground.chain }, { on := 18, ground := Ground.guard }], guard := some (18, true) }) (v := undef) rfl (by kernel_rfl) (by kernel_rfl) (by kernel_rfl) (fun _ _ _ h => h) (Or.inr ⟨by rfl, rfl⟩) (by assumption) ?_
    try simp only [Act.put, List.setIfInBounds_toArray, List.set_cons_zero, List.set_cons_succ]
    refine wpAnyH_take (i := 22) (oi := { dst := some 70, op := Op.pick (Operand.tmp 66) (Operand.tmp 69) (Operand.const (Value.bool false)), type := 4, pos := "law.go:115", after := #[{ on := 18, ground := Ground.data }, { on := 21, ground := Ground.data }, { on := 14, ground := Ground.guard }], guard := some (14, false) }) (v := ?_) rfl (by kernel_rfl) (by kernel_rfl) (by kernel_rfl) (fun _ _ _ h => h) (Or.inl ⟨by rfl, ?_⟩) (by assumption) ?_
    rotate_left
    · (intro w hSw; (try dsimp only at hSw); go_simp <;> with_reducible rfl)
    try simp only [Act.put, List.setIfInBounds_toArray, List.set_cons_zero, List.set_cons_succ]
    refine wpAnyH_ready (rs := [25]) (by kernel_rfl) (by simp) ?_
    refine AllReadyH.cons (o := { dst := some 73, op := Op.call { callee := Callee.value (Operand.func 17), args := #[Operand.tmp 71, Operand.tmp 72], argTypes := #[23, 23] }, type := 4, pos := "law.go:115", after := #[{ on := 23, ground := Ground.data }, { on := 24, ground := Ground.data }, { on := 21, ground := Ground.chain }, { on := 14, ground := Ground.guard }], guard := some (14, false) }) rfl (fun K hK => ?_) AllReadyH.nil
    go_simp
    refine Calls.mono (HHK.out _) ?_
    rintro _ wq ⟨rfl, hbq⟩
    replace hbx := hHeld.1.trans (hbq.mono hHeld.1.size)
    refine hK.out _ _ (HSs.out _ hbx) (fun hHeld2 => ?_)
    clear hHeld hK K
    have hHeld := hHeld2
    clear hHeld2 hbq
    try simp only [Act.put, List.setIfInBounds_toArray, List.set_cons_zero, List.set_cons_succ]
    refine wpAnyH_take (i := 26) (oi := { dst := some 74, op := Op.binOp BinOp.neq 4 (Operand.tmp 70) (Operand.tmp 73) 4, type := 4, pos := "law.go:115", after := #[{ on := 22, ground := Ground.data }, { on := 25, ground := Ground.data }, { on := 14, ground := Ground.guard }], guard := some (14, false) }) (v := ?_) rfl (by kernel_rfl) (by kernel_rfl) (by kernel_rfl) (fun _ _ _ h => h) (Or.inl ⟨by rfl, ?_⟩) (by assumption) ?_
    rotate_left
    · (intro w hSw; (try dsimp only at hSw); go_simp <;> with_reducible rfl)
    try simp only [Act.put, List.setIfInBounds_toArray, List.set_cons_zero, List.set_cons_succ]
    refine wpAnyH_take (i := 27) (oi := { dst := some 75, op := Op.pick (Operand.tmp 62) (Operand.const (Value.bool true)) (Operand.tmp 74), type := 4, pos := "law.go:115", after := #[{ on := 14, ground := Ground.data }, { on := 26, ground := Ground.data }], guard := none }) (v := ?_) rfl (by kernel_rfl) (by kernel_rfl) (by kernel_rfl) (fun _ _ _ h => h) (Or.inl ⟨by rfl, ?_⟩) (by assumption) ?_
    rotate_left
    · (intro w hSw; (try dsimp only at hSw); go_simp <;> with_reducible rfl)
    try simp only [Act.put, List.setIfInBounds_toArray, List.set_cons_zero, List.set_cons_succ]
    refine wpAnyH_done (by kernel_rfl) ?_ _
    refine NoPanic.normal ?_
    all_goals (
      clear HIH HJH HIK HJK HHK x0 x1 y0 y1 z0 z1 v0 v1 v2 v3
      have P09 := Lib.hid (P08.out.below hbx P08.out.lt)
      have P19 := Lib.hid (P18.out.below hbx P18.out.lt)
      have P29 := Lib.hid (P28.out.below hbx P28.out.lt)
      have Hb9 := Lib.hid (Hb8.out.trans (hbx.mono Hb8.out.size))
      obtain ⟨x0, x1, _, _⟩ := cells2 P09.out
      obtain ⟨y0, y1, _, _⟩ := cells2 P19.out
      obtain ⟨z0, z1, _, _⟩ := cells2 P29.out
      rcases HCase.out with ⟨rfl, rfl | ⟨rfl, rfl⟩⟩ | ⟨rfl, hmi, hmj, hkm⟩
      · clear HCase hbx
        go_wp2_with fail
        refine (HKI.out _).mono ?_
        rintro _ w10 ⟨rfl, hb10⟩
        have P010 := Lib.hid (P09.out.below hb10 P09.out.lt)
        have P110 := Lib.hid (P19.out.below hb10 P19.out.lt)
        have P210 := Lib.hid (P29.out.below hb10 P29.out.lt)
        have Hb10 := Lib.hid (Hb9.out.trans (hb10.mono Hb9.out.size))
        clear hb10 P09 P19 P29 x0 x1 y0 y1 z0 z1
        obtain ⟨x0, x1, _, _⟩ := cells2 P010.out
        obtain ⟨y0, y1, _, _⟩ := cells2 P110.out
        obtain ⟨z0, z1, _, _⟩ := cells2 P210.out
        go_wp2_with fail
        go_ret
        exact ⟨ret_bool (by first | rfl | simp), Hb10.out⟩
      · clear HCase hbx
        go_wp2_with fail
        refine (HKI.out _).mono ?_
        rintro _ w10 ⟨rfl, hb10⟩
        have P010 := Lib.hid (P09.out.below hb10 P09.out.lt)
        have P110 := Lib.hid (P19.out.below hb10 P19.out.lt)
        have P210 := Lib.hid (P29.out.below hb10 P29.out.lt)
        have Hb10 := Lib.hid (Hb9.out.trans (hb10.mono Hb9.out.size))
        clear hb10 P09 P19 P29 x0 x1 y0 y1 z0 z1
        obtain ⟨x0, x1, _, _⟩ := cells2 P010.out
        obtain ⟨y0, y1, _, _⟩ := cells2 P110.out
        obtain ⟨z0, z1, _, _⟩ := cells2 P210.out
        go_wp2_with fail
        refine (HKJ.out _).mono ?_
        rintro _ w11 ⟨rfl, hb11⟩
        have P011 := Lib.hid (P010.out.below hb11 P010.out.lt)
        have P111 := Lib.hid (P110.out.below hb11 P110.out.lt)
        have P211 := Lib.hid (P210.out.below hb11 P210.out.lt)
        have Hb11 := Lib.hid (Hb10.out.trans (hb11.mono Hb10.out.size))
        clear hb11 P010 P110 P210 x0 x1 y0 y1 z0 z1
        obtain ⟨x0, x1, _, _⟩ := cells2 P011.out
        obtain ⟨y0, y1, _, _⟩ := cells2 P111.out
        obtain ⟨z0, z1, _, _⟩ := cells2 P211.out
        go_wp2_with fail
        go_ret
        exact ⟨ret_bool (by first | rfl | simp), Hb11.out⟩
      · rw [hmi] at HMI
        rw [hmj] at HMJ
        clear HCase hmi hmj
        cases wki
        · simp only [Bool.false_and] at hkm
          subst hkm
          go_wp2_with fail
          refine wp_region_noPanic ?_
          refine wp_region_held_drew (S := fun X => Below w8.heap.size w8 X ∧ (X.cell? ⟨w.heap.size, 0, none⟩ = some (.int .i64 a) ∧ X.cell? ⟨w.heap.size, 1, none⟩ = some (.int .i64 b)) ∧ (X.cell? ⟨w.heap.size + 1, 0, none⟩ = some (.int .i64 c) ∧ X.cell? ⟨w.heap.size + 1, 1, none⟩ = some (.int .i64 d)) ∧ (X.cell? ⟨w.heap.size + 1 + 1, 0, none⟩ = some (.int .i64 e) ∧ X.cell? ⟨w.heap.size + 1 + 1, 1, none⟩ = some (.int .i64 f)) ∧ (X.cell? ⟨w5.heap.size, 0, none⟩ = some (.int .i64 m0) ∧ X.cell? ⟨w5.heap.size, 1, none⟩ = some (.int .i64 m1)) ∧ (X.cell? ⟨w7.heap.size, 0, none⟩ = some (.int .i64 u0) ∧ X.cell? ⟨w7.heap.size, 1, none⟩ = some (.int .i64 u1))) (by kernel_rfl) (by first | exact HSs.out _ hbx.drew | exact HSs.out _ hbx) (fun hHeld => ?_)
          refine wpAnyH_take (i := 0) (oi := { dst := some 91, op := Op.load 23 (Operand.tmp 7), type := 23, pos := "law.go:121", after := #[], guard := none }) (v := ?_) rfl (by kernel_rfl) (by kernel_rfl) (by kernel_rfl) (fun _ _ _ h => h) (Or.inl ⟨by rfl, ?_⟩) (by assumption) ?_
          rotate_left
          · (intro w hSw; (try dsimp only at hSw); go_simp <;> with_reducible rfl)
          try simp only [Act.put, List.setIfInBounds_toArray, List.set_cons_zero, List.set_cons_succ]
          refine wpAnyH_take (i := 1) (oi := { dst := some 92, op := Op.load 23 (Operand.tmp 3), type := 23, pos := "law.go:121", after := #[], guard := none }) (v := ?_) rfl (by kernel_rfl) (by kernel_rfl) (by kernel_rfl) (fun _ _ _ h => h) (Or.inl ⟨by rfl, ?_⟩) (by assumption) ?_
          rotate_left
          · (intro w hSw; (try dsimp only at hSw); go_simp <;> with_reducible rfl)
          try simp only [Act.put, List.setIfInBounds_toArray, List.set_cons_zero, List.set_cons_succ]
          refine wpAnyH_ready (rs := [2]) (by kernel_rfl) (by simp) ?_
          refine AllReadyH.cons (o := { dst := some 93, op := Op.call { callee := Callee.value (Operand.func 17), args := #[Operand.tmp 91, Operand.tmp 92], argTypes := #[23, 23] }, type := 4, pos := "law.go:121", after := #[{ on := 0, ground := Ground.data }, { on := 1, ground := Ground.data }], guard := none }) rfl (fun K hK => ?_) AllReadyH.nil
          go_simp
          refine Calls.mono (HMI.out _) ?_
          rintro _ wq ⟨rfl, hbq⟩
          replace hbx := hHeld.1.trans (hbq.mono hHeld.1.size)
          refine hK.out _ _ (HSs.out _ hbx) (fun hHeld2 => ?_)
          clear hHeld hK K
          have hHeld := hHeld2
          clear hHeld2 hbq
          try simp only [Act.put, List.setIfInBounds_toArray, List.set_cons_zero, List.set_cons_succ]
          refine wpAnyH_take (i := 3) (oi := { dst := some 94, op := Op.move (Operand.tmp 93), type := 4, pos := "law.go:121", after := #[{ on := 2, ground := Ground.data }, { on := 2, ground := Ground.chain }], guard := none }) (v := ?_) rfl (by kernel_rfl) (by kernel_rfl) (by kernel_rfl) (fun _ _ _ h => h) (Or.inl ⟨by rfl, ?_⟩) (by assumption) ?_
          rotate_left
          · (intro w hSw; (try dsimp only at hSw); go_simp <;> with_reducible rfl)
          try simp only [Act.put, List.setIfInBounds_toArray, List.set_cons_zero, List.set_cons_succ]
          refine wpAnyH_take (i := 4) (oi := { dst := some 95, op := Op.load 23 (Operand.tmp 7), type := 23, pos := "law.go:121", after := #[{ on := 3, ground := Ground.guard }], guard := some (3, true) }) (v := ?_) rfl (by kernel_rfl) (by kernel_rfl) (by kernel_rfl) (fun _ _ _ h => h) (Or.inl ⟨by rfl, ?_⟩) (by assumption) ?_
          rotate_left
          · (intro w hSw; (try dsimp only at hSw); go_simp <;> with_reducible rfl)
          try simp only [Act.put, List.setIfInBounds_toArray, List.set_cons_zero, List.set_cons_succ]
          refine wpAnyH_take (i := 5) (oi := { dst := some 96, op := Op.load 23 (Operand.tmp 4), type := 23, pos := "law.go:121", after := #[{ on := 3, ground := Ground.guard }], guard := some (3, true) }) (v := ?_) rfl (by kernel_rfl) (by kernel_rfl) (by kernel_rfl) (fun _ _ _ h => h) (Or.inl ⟨by rfl, ?_⟩) (by assumption) ?_
          rotate_left
          · (intro w hSw; (try dsimp only at hSw); go_simp <;> with_reducible rfl)
          try simp only [Act.put, List.setIfInBounds_toArray, List.set_cons_zero, List.set_cons_succ]
          refine wpAnyH_ready (rs := [6]) (by kernel_rfl) (by simp) ?_
          refine AllReadyH.cons (o := { dst := some 97, op := Op.call { callee := Callee.value (Operand.func 17), args := #[Operand.tmp 95, Operand.tmp 96], argTypes := #[23, 23] }, type := 4, pos := "law.go:121", after := #[{ on := 4, ground := Ground.data }, { on := 5, ground := Ground.data }, { on := 3, ground := Ground.chain }, { on := 3, ground := Ground.guard }], guard := some (3, true) }) rfl (fun K hK => ?_) AllReadyH.nil
          go_simp
          refine Calls.mono (HMJ.out _) ?_
          rintro _ wq ⟨rfl, hbq⟩
          replace hbx := hHeld.1.trans (hbq.mono hHeld.1.size)
          refine hK.out _ _ (HSs.out _ hbx) (fun hHeld2 => ?_)
          clear hHeld hK K
          have hHeld := hHeld2
          clear hHeld2 hbq
          try simp only [Act.put, List.setIfInBounds_toArray, List.set_cons_zero, List.set_cons_succ]
          refine wpAnyH_take (i := 7) (oi := { dst := some 98, op := Op.pick (Operand.tmp 94) (Operand.tmp 97) (Operand.const (Value.bool false)), type := 4, pos := "law.go:121", after := #[{ on := 3, ground := Ground.data }, { on := 6, ground := Ground.data }], guard := none }) (v := ?_) rfl (by kernel_rfl) (by kernel_rfl) (by kernel_rfl) (fun _ _ _ h => h) (Or.inl ⟨by rfl, ?_⟩) (by assumption) ?_
          rotate_left
          · (intro w hSw; (try dsimp only at hSw); go_simp <;> with_reducible rfl)
          try simp only [Act.put, List.setIfInBounds_toArray, List.set_cons_zero, List.set_cons_succ]
          refine wpAnyH_take (i := 8) (oi := { dst := some 99, op := Op.move (Operand.tmp 98), type := 4, pos := "law.go:121", after := #[{ on := 7, ground := Ground.data }, { on := 6, ground := Ground.chain }], guard := none }) (v := ?_) rfl (by kernel_rfl) (by kernel_rfl) (by kernel_rfl) (fun _ _ _ h => h) (Or.inl ⟨by rfl, ?_⟩) (by assumption) ?_
          rotate_left
          · (intro w hSw; (try dsimp only at hSw); go_simp <;> with_reducible rfl)
          try simp only [Act.put, List.setIfInBounds_toArray, List.set_cons_zero, List.set_cons_succ]
          refine wpAnyH_take (i := 9) (oi := { dst := some 100, op := Op.load 23 (Operand.tmp 5), type := 23, pos := "law.go:121", after := #[{ on := 8, ground := Ground.guard }], guard := some (8, true) }) (v := ?_) rfl (by kernel_rfl) (by kernel_rfl) (by kernel_rfl) (fun _ _ _ h => h) (Or.inl ⟨by rfl, ?_⟩) (by assumption) ?_
          rotate_left
          · (intro w hSw; (try dsimp only at hSw); go_simp <;> with_reducible rfl)
          try simp only [Act.put, List.setIfInBounds_toArray, List.set_cons_zero, List.set_cons_succ]
          refine wpAnyH_take (i := 10) (oi := { dst := some 101, op := Op.load 23 (Operand.tmp 3), type := 23, pos := "law.go:121", after := #[{ on := 8, ground := Ground.guard }], guard := some (8, true) }) (v := ?_) rfl (by kernel_rfl) (by kernel_rfl) (by kernel_rfl) (fun _ _ _ h => h) (Or.inl ⟨by rfl, ?_⟩) (by assumption) ?_
          rotate_left
          · (intro w hSw; (try dsimp only at hSw); go_simp <;> with_reducible rfl)
          try simp only [Act.put, List.setIfInBounds_toArray, List.set_cons_zero, List.set_cons_succ]
          refine wpAnyH_take (i := 17) (oi := { dst := some 108, op := Op.load 23 (Operand.tmp 5), type := 23, pos := "law.go:121", after := #[{ on := 8, ground := Ground.guard }], guard := some (8, true) }) (v := ?_) rfl (by kernel_rfl) (by kernel_rfl) (by kernel_rfl) (fun _ _ _ h => h) (Or.inl ⟨by rfl, ?_⟩) (by assumption) ?_
          rotate_left
          · (intro w hSw; (try dsimp only at hSw); go_simp <;> with_reducible rfl)
          try simp only [Act.put, List.setIfInBounds_toArray, List.set_cons_zero, List.set_cons_succ]
          refine wpAnyH_take (i := 18) (oi := { dst := some 109, op := Op.load 23 (Operand.tmp 7), type := 23, pos := "law.go:121", after := #[{ on := 8, ground := Ground.guard }], guard := some (8, true) }) (v := ?_) rfl (by kernel_rfl) (by kernel_rfl) (by kernel_rfl) (fun _ _ _ h => h) (Or.inl ⟨by rfl, ?_⟩) (by assumption) ?_
          rotate_left
          · (intro w hSw; (try dsimp only at hSw); go_simp <;> with_reducible rfl)
          try simp only [Act.put, List.setIfInBounds_toArray, List.set_cons_zero, List.set_cons_succ]
          refine wpAnyH_ready (rs := [11]) (by kernel_rfl) (by simp) ?_
          refine AllReadyH.cons (o := { dst := some 102, op := Op.call { callee := Callee.value (Operand.func 17), args := #[Operand.tmp 100, Operand.tmp 101], argTypes := #[23, 23] }, type := 4, pos := "law.go:121", after := #[{ on := 9, ground := Ground.data }, { on := 10, ground := Ground.data }, { on := 8, ground := Ground.chain }, { on := 8, ground := Ground.guard }], guard := some (8, true) }) rfl (fun K hK => ?_) AllReadyH.nil
          go_simp
          refine Calls.mono (HKI.out _) ?_
          rintro _ wq ⟨rfl, hbq⟩
          replace hbx := hHeld.1.trans (hbq.mono hHeld.1.size)
          refine hK.out _ _ (HSs.out _ hbx) (fun hHeld2 => ?_)
          clear hHeld hK K
          have hHeld := hHeld2
          clear hHeld2 hbq
          try simp only [Act.put, List.setIfInBounds_toArray, List.set_cons_zero, List.set_cons_succ]
          refine wpAnyH_take (i := 12) (oi := { dst := some 103, op := Op.move (Operand.tmp 102), type := 4, pos := "law.go:121", after := #[{ on := 11, ground := Ground.data }, { on := 11, ground := Ground.chain }, { on := 8, ground := Ground.guard }], guard := some (8, true) }) (v := ?_) rfl (by kernel_rfl) (by kernel_rfl) (by kernel_rfl) (fun _ _ _ h => h) (Or.inl ⟨by rfl, ?_⟩) (by assumption) ?_
          rotate_left
          · (intro w hSw; (try dsimp only at hSw); go_simp <;> with_reducible rfl)
          try simp only [Act.put, List.setIfInBounds_toArray, List.set_cons_zero, List.set_cons_succ]
          refine wpAnyH_take (i := 13) (oi := { dst := some 104, op := Op.load 23 (Operand.tmp 5), type := 23, pos := "law.go:121", after := #[{ on := 12, ground := Ground.guard }], guard := some (12, true) }) (v := undef) rfl (by kernel_rfl) (by kernel_rfl) (by kernel_rfl) (fun _ _ _ h => h) (Or.inr ⟨by rfl, rfl⟩) (by assumption) ?_
          try simp only [Act.put, List.setIfInBounds_toArray, List.set_cons_zero, List.set_cons_succ]
          refine wpAnyH_take (i := 14) (oi := { dst := some 105, op := Op.load 23 (Operand.tmp 4), type := 23, pos := "law.go:121", after := #[{ on := 12, ground := Ground.guard }], guard := some (12, true) }) (v := undef) rfl (by kernel_rfl) (by kernel_rfl) (by kernel_rfl) (fun _ _ _ h => h) (Or.inr ⟨by rfl, rfl⟩) (by assumption) ?_
          try simp only [Act.put, List.setIfInBounds_toArray, List.set_cons_zero, List.set_cons_succ]
          refine wpAnyH_take (i := 15) (oi := { dst := some 106, op := Op.call { callee := Callee.value (Operand.func 17), args := #[Operand.tmp 104, Operand.tmp 105], argTypes := #[23, 23] }, type := 4, pos := "law.go:121", after := #[{ on := 13, ground := Ground.data }, { on := 14, ground := Ground.data }, { on := 12, ground := Ground.chain }, { on := 12, ground := Ground.guard }], guard := some (12, true) }) (v := undef) rfl (by kernel_rfl) (by kernel_rfl) (by kernel_rfl) (fun _ _ _ h => h) (Or.inr ⟨by rfl, rfl⟩) (by assumption) ?_
          try simp only [Act.put, List.setIfInBounds_toArray, List.set_cons_zero, List.set_cons_succ]
          refine wpAnyH_take (i := 16) (oi := { dst := some 107, op := Op.pick (Operand.tmp 103) (Operand.tmp 106) (Operand.const (Value.bool false)), type := 4, pos := "law.go:121", after := #[{ on := 12, ground := Ground.data }, { on := 15, ground := Ground.data }, { on := 8, ground := Ground.guard }], guard := some (8, true) }) (v := ?_) rfl (by kernel_rfl) (by kernel_rfl) (by kernel_rfl) (fun _ _ _ h => h) (Or.inl ⟨by rfl, ?_⟩) (by assumption) ?_
          rotate_left
          · (intro w hSw; (try dsimp only at hSw); go_simp <;> with_reducible rfl)
          try simp only [Act.put, List.setIfInBounds_toArray, List.set_cons_zero, List.set_cons_succ]
          refine wpAnyH_ready (rs := [19]) (by kernel_rfl) (by simp) ?_
          refine AllReadyH.cons (o := { dst := some 110, op := Op.call { callee := Callee.value (Operand.func 17), args := #[Operand.tmp 108, Operand.tmp 109], argTypes := #[23, 23] }, type := 4, pos := "law.go:121", after := #[{ on := 17, ground := Ground.data }, { on := 18, ground := Ground.data }, { on := 15, ground := Ground.chain }, { on := 8, ground := Ground.guard }], guard := some (8, true) }) rfl (fun K hK => ?_) AllReadyH.nil
          go_simp
          refine Calls.mono (HKM.out _) ?_
          rintro _ wq ⟨rfl, hbq⟩
          replace hbx := hHeld.1.trans (hbq.mono hHeld.1.size)
          refine hK.out _ _ (HSs.out _ hbx) (fun hHeld2 => ?_)
          clear hHeld hK K
          have hHeld := hHeld2
          clear hHeld2 hbq
          try simp only [Act.put, List.setIfInBounds_toArray, List.set_cons_zero, List.set_cons_succ]
          refine wpAnyH_take (i := 20) (oi := { dst := some 111, op := Op.binOp BinOp.eql 4 (Operand.tmp 107) (Operand.tmp 110) 4, type := 4, pos := "law.go:121", after := #[{ on := 16, ground := Ground.data }, { on := 19, ground := Ground.data }, { on := 8, ground := Ground.guard }], guard := some (8, true) }) (v := ?_) rfl (by kernel_rfl) (by kernel_rfl) (by kernel_rfl) (fun _ _ _ h => h) (Or.inl ⟨by rfl, ?_⟩) (by assumption) ?_
          rotate_left
          · (intro w hSw; (try dsimp only at hSw); go_simp <;> with_reducible rfl)
          try simp only [Act.put, List.setIfInBounds_toArray, List.set_cons_zero, List.set_cons_succ]
          refine wpAnyH_take (i := 21) (oi := { dst := some 112, op := Op.pick (Operand.tmp 99) (Operand.tmp 111) (Operand.const (Value.bool false)), type := 4, pos := "law.go:121", after := #[{ on := 8, ground := Ground.data }, { on := 20, ground := Ground.data }], guard := none }) (v := ?_) rfl (by kernel_rfl) (by kernel_rfl) (by kernel_rfl) (fun _ _ _ h => h) (Or.inl ⟨by rfl, ?_⟩) (by assumption) ?_
          rotate_left
          · (intro w hSw; (try dsimp only at hSw); go_simp <;> with_reducible rfl)
          try simp only [Act.put, List.setIfInBounds_toArray, List.set_cons_zero, List.set_cons_succ]
          refine wpAnyH_take (i := 22) (oi := { dst := some 6, op := Op.assign (Operand.tmp 112), type := 4, pos := "law.go:121", after := #[{ on := 21, ground := Ground.data }, { on := 19, ground := Ground.chain }, { on := 0, ground := Ground.phase }, { on := 1, ground := Ground.phase }, { on := 2, ground := Ground.phase }, { on := 3, ground := Ground.phase }, { on := 4, ground := Ground.phase }, { on := 5, ground := Ground.phase }, { on := 6, ground := Ground.phase }, { on := 7, ground := Ground.phase }, { on := 8, ground := Ground.phase }, { on := 9, ground := Ground.phase }, { on := 10, ground := Ground.phase }, { on := 11, ground := Ground.phase }, { on := 12, ground := Ground.phase }, { on := 13, ground := Ground.phase }, { on := 14, ground := Ground.phase }, { on := 15, ground := Ground.phase }, { on := 16, ground := Ground.phase }, { on := 17, ground := Ground.phase }, { on := 18, ground := Ground.phase }, { on := 19, ground := Ground.phase }, { on := 20, ground := Ground.phase }, { on := 21, ground := Ground.phase }], guard := none }) (v := ?_) rfl (by kernel_rfl) (by kernel_rfl) (by kernel_rfl) (fun _ _ _ h => h) (Or.inl ⟨by rfl, ?_⟩) (by assumption) ?_
          rotate_left
          · (intro w hSw; (try dsimp only at hSw); go_simp <;> with_reducible rfl)
          try simp only [Act.put, List.setIfInBounds_toArray, List.set_cons_zero, List.set_cons_succ]
          refine wpAnyH_done (by kernel_rfl) ?_ _
          refine NoPanic.normal ?_
          all_goals (have HbF := Lib.hid (Hb8.out.trans (hbx.mono Hb8.out.size)))
          all_goals (go_wp2_with fail)
          all_goals go_ret
          all_goals (exact ⟨ret_bool (by first | rfl | simp), HbF.out⟩)
        · simp only [Bool.true_and] at hkm
          subst hkm
          go_wp2_with fail
          first
          | skip; go_region_held3 (fun X => Below w8.heap.size w8 X ∧ (X.cell? ⟨w.heap.size, 0, none⟩ = some (.int .i64 a) ∧ X.cell? ⟨w.heap.size, 1, none⟩ = some (.int .i64 b)) ∧ (X.cell? ⟨w.heap.size + 1, 0, none⟩ = some (.int .i64 c) ∧ X.cell? ⟨w.heap.size + 1, 1, none⟩ = some (.int .i64 d)) ∧ (X.cell? ⟨w.heap.size + 1 + 1, 0, none⟩ = some (.int .i64 e) ∧ X.cell? ⟨w.heap.size + 1 + 1, 1, none⟩ = some (.int .i64 f)) ∧ (X.cell? ⟨w5.heap.size, 0, none⟩ = some (.int .i64 m0) ∧ X.cell? ⟨w5.heap.size, 1, none⟩ = some (.int .i64 m1)) ∧ (X.cell? ⟨w7.heap.size, 0, none⟩ = some (.int .i64 u0) ∧ X.cell? ⟨w7.heap.size, 1, none⟩ = some (.int .i64 u1)))
            (first
              | (with_reducible exact HSs.out _ hbx)
              | (with_reducible exact HSs.out _ hbx.drew)
              | (with_reducible exact HSs.out _ (‹RowKit.Below w8.heap.size w8 _ ∧ _›).1.drew))
            (first
              | (go_at_call 17; with_reducible refine Calls.mono (HMI.out _) ?_; rintro _ wq ⟨rfl, hbq⟩; have hbx := (‹RowKit.Below w8.heap.size w8 _ ∧ _›).1.trans (hbq.mono (‹RowKit.Below w8.heap.size w8 _ ∧ _›).1.size))
              | (go_at_call 17; with_reducible refine Calls.mono (HMJ.out _) ?_; rintro _ wq ⟨rfl, hbq⟩; have hbx := (‹RowKit.Below w8.heap.size w8 _ ∧ _›).1.trans (hbq.mono (‹RowKit.Below w8.heap.size w8 _ ∧ _›).1.size))
              | (go_at_call 17; with_reducible refine Calls.mono (HKI.out _) ?_; rintro _ wq ⟨rfl, hbq⟩; have hbx := (‹RowKit.Below w8.heap.size w8 _ ∧ _›).1.trans (hbq.mono (‹RowKit.Below w8.heap.size w8 _ ∧ _›).1.size))
              | (go_at_call 17; with_reducible refine Calls.mono (HKJ.out _) ?_; rintro _ wq ⟨rfl, hbq⟩; have hbx := (‹RowKit.Below w8.heap.size w8 _ ∧ _›).1.trans (hbq.mono (‹RowKit.Below w8.heap.size w8 _ ∧ _›).1.size))
              | (go_at_call 17; with_reducible refine Calls.mono (HKM.out _) ?_; rintro _ wq ⟨rfl, hbq⟩; have hbx := (‹RowKit.Below w8.heap.size w8 _ ∧ _›).1.trans (hbq.mono (‹RowKit.Below w8.heap.size w8 _ ∧ _›).1.size)))
          | fail
          all_goals (have HbF := Lib.hid (Hb8.out.trans (hbx.mono Hb8.out.size)))
          all_goals (go_wp2_with fail)
          all_goals go_ret
          all_goals (exact ⟨ret_bool (by first | rfl | simp), HbF.out⟩)
      )
  · simp only [Bool.true_and] at hk1
    subst hk1
    first
    | skip; go_region_held3 (fun X => Below w8.heap.size w8 X ∧ (X.cell? ⟨w.heap.size, 0, none⟩ = some (.int .i64 a) ∧ X.cell? ⟨w.heap.size, 1, none⟩ = some (.int .i64 b)) ∧ (X.cell? ⟨w.heap.size + 1, 0, none⟩ = some (.int .i64 c) ∧ X.cell? ⟨w.heap.size + 1, 1, none⟩ = some (.int .i64 d)) ∧ (X.cell? ⟨w.heap.size + 1 + 1, 0, none⟩ = some (.int .i64 e) ∧ X.cell? ⟨w.heap.size + 1 + 1, 1, none⟩ = some (.int .i64 f)) ∧ (X.cell? ⟨w5.heap.size, 0, none⟩ = some (.int .i64 m0) ∧ X.cell? ⟨w5.heap.size, 1, none⟩ = some (.int .i64 m1)) ∧ (X.cell? ⟨w7.heap.size, 0, none⟩ = some (.int .i64 u0) ∧ X.cell? ⟨w7.heap.size, 1, none⟩ = some (.int .i64 u1)))
      (first
        | (with_reducible exact HSs.out _ hbx)
        | (with_reducible exact HSs.out _ hbx.drew)
        | (with_reducible exact HSs.out _ (‹RowKit.Below w8.heap.size w8 _ ∧ _›).1.drew))
      (first
        | (go_at_call 17; with_reducible refine Calls.mono (HIH.out _) ?_; rintro _ wq ⟨rfl, hbq⟩; have hbx := (‹RowKit.Below w8.heap.size w8 _ ∧ _›).1.trans (hbq.mono (‹RowKit.Below w8.heap.size w8 _ ∧ _›).1.size))
        | (go_at_call 17; with_reducible refine Calls.mono (HJH.out _) ?_; rintro _ wq ⟨rfl, hbq⟩; have hbx := (‹RowKit.Below w8.heap.size w8 _ ∧ _›).1.trans (hbq.mono (‹RowKit.Below w8.heap.size w8 _ ∧ _›).1.size))
        | (go_at_call 17; with_reducible refine Calls.mono (HIK.out _) ?_; rintro _ wq ⟨rfl, hbq⟩; have hbx := (‹RowKit.Below w8.heap.size w8 _ ∧ _›).1.trans (hbq.mono (‹RowKit.Below w8.heap.size w8 _ ∧ _›).1.size))
        | (go_at_call 17; with_reducible refine Calls.mono (HJK.out _) ?_; rintro _ wq ⟨rfl, hbq⟩; have hbx := (‹RowKit.Below w8.heap.size w8 _ ∧ _›).1.trans (hbq.mono (‹RowKit.Below w8.heap.size w8 _ ∧ _›).1.size))
        | (go_at_call 17; with_reducible refine Calls.mono (HHK.out _) ?_; rintro _ wq ⟨rfl, hbq⟩; have hbx := (‹RowKit.Below w8.heap.size w8 _ ∧ _›).1.trans (hbq.mono (‹RowKit.Below w8.heap.size w8 _ ∧ _›).1.size)))
    | fail
    all_goals (
      clear HIH HJH HIK HJK HHK x0 x1 y0 y1 z0 z1 v0 v1 v2 v3
      have P09 := Lib.hid (P08.out.below hbx P08.out.lt)
      have P19 := Lib.hid (P18.out.below hbx P18.out.lt)
      have P29 := Lib.hid (P28.out.below hbx P28.out.lt)
      have Hb9 := Lib.hid (Hb8.out.trans (hbx.mono Hb8.out.size))
      obtain ⟨x0, x1, _, _⟩ := cells2 P09.out
      obtain ⟨y0, y1, _, _⟩ := cells2 P19.out
      obtain ⟨z0, z1, _, _⟩ := cells2 P29.out
      rcases HCase.out with ⟨rfl, rfl | ⟨rfl, rfl⟩⟩ | ⟨rfl, hmi, hmj, hkm⟩
      · clear HCase hbx
        go_wp2_with fail
        refine (HKI.out _).mono ?_
        rintro _ w10 ⟨rfl, hb10⟩
        have P010 := Lib.hid (P09.out.below hb10 P09.out.lt)
        have P110 := Lib.hid (P19.out.below hb10 P19.out.lt)
        have P210 := Lib.hid (P29.out.below hb10 P29.out.lt)
        have Hb10 := Lib.hid (Hb9.out.trans (hb10.mono Hb9.out.size))
        clear hb10 P09 P19 P29 x0 x1 y0 y1 z0 z1
        obtain ⟨x0, x1, _, _⟩ := cells2 P010.out
        obtain ⟨y0, y1, _, _⟩ := cells2 P110.out
        obtain ⟨z0, z1, _, _⟩ := cells2 P210.out
        go_wp2_with fail
        go_ret
        exact ⟨ret_bool (by first | rfl | simp), Hb10.out⟩
      · clear HCase hbx
        go_wp2_with fail
        refine (HKI.out _).mono ?_
        rintro _ w10 ⟨rfl, hb10⟩
        have P010 := Lib.hid (P09.out.below hb10 P09.out.lt)
        have P110 := Lib.hid (P19.out.below hb10 P19.out.lt)
        have P210 := Lib.hid (P29.out.below hb10 P29.out.lt)
        have Hb10 := Lib.hid (Hb9.out.trans (hb10.mono Hb9.out.size))
        clear hb10 P09 P19 P29 x0 x1 y0 y1 z0 z1
        obtain ⟨x0, x1, _, _⟩ := cells2 P010.out
        obtain ⟨y0, y1, _, _⟩ := cells2 P110.out
        obtain ⟨z0, z1, _, _⟩ := cells2 P210.out
        go_wp2_with fail
        refine (HKJ.out _).mono ?_
        rintro _ w11 ⟨rfl, hb11⟩
        have P011 := Lib.hid (P010.out.below hb11 P010.out.lt)
        have P111 := Lib.hid (P110.out.below hb11 P110.out.lt)
        have P211 := Lib.hid (P210.out.below hb11 P210.out.lt)
        have Hb11 := Lib.hid (Hb10.out.trans (hb11.mono Hb10.out.size))
        clear hb11 P010 P110 P210 x0 x1 y0 y1 z0 z1
        obtain ⟨x0, x1, _, _⟩ := cells2 P011.out
        obtain ⟨y0, y1, _, _⟩ := cells2 P111.out
        obtain ⟨z0, z1, _, _⟩ := cells2 P211.out
        go_wp2_with fail
        go_ret
        exact ⟨ret_bool (by first | rfl | simp), Hb11.out⟩
      · rw [hmi] at HMI
        rw [hmj] at HMJ
        clear HCase hmi hmj
        cases wki
        · simp only [Bool.false_and] at hkm
          subst hkm
          go_wp2_with fail
          refine wp_region_noPanic ?_
          refine wp_region_held_drew (S := fun X => Below w8.heap.size w8 X ∧ (X.cell? ⟨w.heap.size, 0, none⟩ = some (.int .i64 a) ∧ X.cell? ⟨w.heap.size, 1, none⟩ = some (.int .i64 b)) ∧ (X.cell? ⟨w.heap.size + 1, 0, none⟩ = some (.int .i64 c) ∧ X.cell? ⟨w.heap.size + 1, 1, none⟩ = some (.int .i64 d)) ∧ (X.cell? ⟨w.heap.size + 1 + 1, 0, none⟩ = some (.int .i64 e) ∧ X.cell? ⟨w.heap.size + 1 + 1, 1, none⟩ = some (.int .i64 f)) ∧ (X.cell? ⟨w5.heap.size, 0, none⟩ = some (.int .i64 m0) ∧ X.cell? ⟨w5.heap.size, 1, none⟩ = some (.int .i64 m1)) ∧ (X.cell? ⟨w7.heap.size, 0, none⟩ = some (.int .i64 u0) ∧ X.cell? ⟨w7.heap.size, 1, none⟩ = some (.int .i64 u1))) (by kernel_rfl) (by first | exact HSs.out _ hbx.drew | exact HSs.out _ hbx) (fun hHeld => ?_)
          refine wpAnyH_take (i := 0) (oi := { dst := some 91, op := Op.load 23 (Operand.tmp 7), type := 23, pos := "law.go:121", after := #[], guard := none }) (v := ?_) rfl (by kernel_rfl) (by kernel_rfl) (by kernel_rfl) (fun _ _ _ h => h) (Or.inl ⟨by rfl, ?_⟩) (by assumption) ?_
          rotate_left
          · (intro w hSw; (try dsimp only at hSw); go_simp <;> with_reducible rfl)
          try simp only [Act.put, List.setIfInBounds_toArray, List.set_cons_zero, List.set_cons_succ]
          refine wpAnyH_take (i := 1) (oi := { dst := some 92, op := Op.load 23 (Operand.tmp 3), type := 23, pos := "law.go:121", after := #[], guard := none }) (v := ?_) rfl (by kernel_rfl) (by kernel_rfl) (by kernel_rfl) (fun _ _ _ h => h) (Or.inl ⟨by rfl, ?_⟩) (by assumption) ?_
          rotate_left
          · (intro w hSw; (try dsimp only at hSw); go_simp <;> with_reducible rfl)
          try simp only [Act.put, List.setIfInBounds_toArray, List.set_cons_zero, List.set_cons_succ]
          refine wpAnyH_ready (rs := [2]) (by kernel_rfl) (by simp) ?_
          refine AllReadyH.cons (o := { dst := some 93, op := Op.call { callee := Callee.value (Operand.func 17), args := #[Operand.tmp 91, Operand.tmp 92], argTypes := #[23, 23] }, type := 4, pos := "law.go:121", after := #[{ on := 0, ground := Ground.data }, { on := 1, ground := Ground.data }], guard := none }) rfl (fun K hK => ?_) AllReadyH.nil
          go_simp
          refine Calls.mono (HMI.out _) ?_
          rintro _ wq ⟨rfl, hbq⟩
          replace hbx := hHeld.1.trans (hbq.mono hHeld.1.size)
          refine hK.out _ _ (HSs.out _ hbx) (fun hHeld2 => ?_)
          clear hHeld hK K
          have hHeld := hHeld2
          clear hHeld2 hbq
          try simp only [Act.put, List.setIfInBounds_toArray, List.set_cons_zero, List.set_cons_succ]
          refine wpAnyH_take (i := 3) (oi := { dst := some 94, op := Op.move (Operand.tmp 93), type := 4, pos := "law.go:121", after := #[{ on := 2, ground := Ground.data }, { on := 2, ground := Ground.chain }], guard := none }) (v := ?_) rfl (by kernel_rfl) (by kernel_rfl) (by kernel_rfl) (fun _ _ _ h => h) (Or.inl ⟨by rfl, ?_⟩) (by assumption) ?_
          rotate_left
          · (intro w hSw; (try dsimp only at hSw); go_simp <;> with_reducible rfl)
          try simp only [Act.put, List.setIfInBounds_toArray, List.set_cons_zero, List.set_cons_succ]
          refine wpAnyH_take (i := 4) (oi := { dst := some 95, op := Op.load 23 (Operand.tmp 7), type := 23, pos := "law.go:121", after := #[{ on := 3, ground := Ground.guard }], guard := some (3, true) }) (v := ?_) rfl (by kernel_rfl) (by kernel_rfl) (by kernel_rfl) (fun _ _ _ h => h) (Or.inl ⟨by rfl, ?_⟩) (by assumption) ?_
          rotate_left
          · (intro w hSw; (try dsimp only at hSw); go_simp <;> with_reducible rfl)
          try simp only [Act.put, List.setIfInBounds_toArray, List.set_cons_zero, List.set_cons_succ]
          refine wpAnyH_take (i := 5) (oi := { dst := some 96, op := Op.load 23 (Operand.tmp 4), type := 23, pos := "law.go:121", after := #[{ on := 3, ground := Ground.guard }], guard := some (3, true) }) (v := ?_) rfl (by kernel_rfl) (by kernel_rfl) (by kernel_rfl) (fun _ _ _ h => h) (Or.inl ⟨by rfl, ?_⟩) (by assumption) ?_
          rotate_left
          · (intro w hSw; (try dsimp only at hSw); go_simp <;> with_reducible rfl)
          try simp only [Act.put, List.setIfInBounds_toArray, List.set_cons_zero, List.set_cons_succ]
          refine wpAnyH_ready (rs := [6]) (by kernel_rfl) (by simp) ?_
          refine AllReadyH.cons (o := { dst := some 97, op := Op.call { callee := Callee.value (Operand.func 17), args := #[Operand.tmp 95, Operand.tmp 96], argTypes := #[23, 23] }, type := 4, pos := "law.go:121", after := #[{ on := 4, ground := Ground.data }, { on := 5, ground := Ground.data }, { on := 3, ground := Ground.chain }, { on := 3, ground := Ground.guard }], guard := some (3, true) }) rfl (fun K hK => ?_) AllReadyH.nil
          go_simp
          refine Calls.mono (HMJ.out _) ?_
          rintro _ wq ⟨rfl, hbq⟩
          replace hbx := hHeld.1.trans (hbq.mono hHeld.1.size)
          refine hK.out _ _ (HSs.out _ hbx) (fun hHeld2 => ?_)
          clear hHeld hK K
          have hHeld := hHeld2
          clear hHeld2 hbq
          try simp only [Act.put, List.setIfInBounds_toArray, List.set_cons_zero, List.set_cons_succ]
          refine wpAnyH_take (i := 7) (oi := { dst := some 98, op := Op.pick (Operand.tmp 94) (Operand.tmp 97) (Operand.const (Value.bool false)), type := 4, pos := "law.go:121", after := #[{ on := 3, ground := Ground.data }, { on := 6, ground := Ground.data }], guard := none }) (v := ?_) rfl (by kernel_rfl) (by kernel_rfl) (by kernel_rfl) (fun _ _ _ h => h) (Or.inl ⟨by rfl, ?_⟩) (by assumption) ?_
          rotate_left
          · (intro w hSw; (try dsimp only at hSw); go_simp <;> with_reducible rfl)
          try simp only [Act.put, List.setIfInBounds_toArray, List.set_cons_zero, List.set_cons_succ]
          refine wpAnyH_take (i := 8) (oi := { dst := some 99, op := Op.move (Operand.tmp 98), type := 4, pos := "law.go:121", after := #[{ on := 7, ground := Ground.data }, { on := 6, ground := Ground.chain }], guard := none }) (v := ?_) rfl (by kernel_rfl) (by kernel_rfl) (by kernel_rfl) (fun _ _ _ h => h) (Or.inl ⟨by rfl, ?_⟩) (by assumption) ?_
          rotate_left
          · (intro w hSw; (try dsimp only at hSw); go_simp <;> with_reducible rfl)
          try simp only [Act.put, List.setIfInBounds_toArray, List.set_cons_zero, List.set_cons_succ]
          refine wpAnyH_take (i := 9) (oi := { dst := some 100, op := Op.load 23 (Operand.tmp 5), type := 23, pos := "law.go:121", after := #[{ on := 8, ground := Ground.guard }], guard := some (8, true) }) (v := ?_) rfl (by kernel_rfl) (by kernel_rfl) (by kernel_rfl) (fun _ _ _ h => h) (Or.inl ⟨by rfl, ?_⟩) (by assumption) ?_
          rotate_left
          · (intro w hSw; (try dsimp only at hSw); go_simp <;> with_reducible rfl)
          try simp only [Act.put, List.setIfInBounds_toArray, List.set_cons_zero, List.set_cons_succ]
          refine wpAnyH_take (i := 10) (oi := { dst := some 101, op := Op.load 23 (Operand.tmp 3), type := 23, pos := "law.go:121", after := #[{ on := 8, ground := Ground.guard }], guard := some (8, true) }) (v := ?_) rfl (by kernel_rfl) (by kernel_rfl) (by kernel_rfl) (fun _ _ _ h => h) (Or.inl ⟨by rfl, ?_⟩) (by assumption) ?_
          rotate_left
          · (intro w hSw; (try dsimp only at hSw); go_simp <;> with_reducible rfl)
          try simp only [Act.put, List.setIfInBounds_toArray, List.set_cons_zero, List.set_cons_succ]
          refine wpAnyH_take (i := 17) (oi := { dst := some 108, op := Op.load 23 (Operand.tmp 5), type := 23, pos := "law.go:121", after := #[{ on := 8, ground := Ground.guard }], guard := some (8, true) }) (v := ?_) rfl (by kernel_rfl) (by kernel_rfl) (by kernel_rfl) (fun _ _ _ h => h) (Or.inl ⟨by rfl, ?_⟩) (by assumption) ?_
          rotate_left
          · (intro w hSw; (try dsimp only at hSw); go_simp <;> with_reducible rfl)
          try simp only [Act.put, List.setIfInBounds_toArray, List.set_cons_zero, List.set_cons_succ]
          refine wpAnyH_take (i := 18) (oi := { dst := some 109, op := Op.load 23 (Operand.tmp 7), type := 23, pos := "law.go:121", after := #[{ on := 8, ground := Ground.guard }], guard := some (8, true) }) (v := ?_) rfl (by kernel_rfl) (by kernel_rfl) (by kernel_rfl) (fun _ _ _ h => h) (Or.inl ⟨by rfl, ?_⟩) (by assumption) ?_
          rotate_left
          · (intro w hSw; (try dsimp only at hSw); go_simp <;> with_reducible rfl)
          try simp only [Act.put, List.setIfInBounds_toArray, List.set_cons_zero, List.set_cons_succ]
          refine wpAnyH_ready (rs := [11]) (by kernel_rfl) (by simp) ?_
          refine AllReadyH.cons (o := { dst := some 102, op := Op.call { callee := Callee.value (Operand.func 17), args := #[Operand.tmp 100, Operand.tmp 101], argTypes := #[23, 23] }, type := 4, pos := "law.go:121", after := #[{ on := 9, ground := Ground.data }, { on := 10, ground := Ground.data }, { on := 8, ground := Ground.chain }, { on := 8, ground := Ground.guard }], guard := some (8, true) }) rfl (fun K hK => ?_) AllReadyH.nil
          go_simp
          refine Calls.mono (HKI.out _) ?_
          rintro _ wq ⟨rfl, hbq⟩
          replace hbx := hHeld.1.trans (hbq.mono hHeld.1.size)
          refine hK.out _ _ (HSs.out _ hbx) (fun hHeld2 => ?_)
          clear hHeld hK K
          have hHeld := hHeld2
          clear hHeld2 hbq
          try simp only [Act.put, List.setIfInBounds_toArray, List.set_cons_zero, List.set_cons_succ]
          refine wpAnyH_take (i := 12) (oi := { dst := some 103, op := Op.move (Operand.tmp 102), type := 4, pos := "law.go:121", after := #[{ on := 11, ground := Ground.data }, { on := 11, ground := Ground.chain }, { on := 8, ground := Ground.guard }], guard := some (8, true) }) (v := ?_) rfl (by kernel_rfl) (by kernel_rfl) (by kernel_rfl) (fun _ _ _ h => h) (Or.inl ⟨by rfl, ?_⟩) (by assumption) ?_
          rotate_left
          · (intro w hSw; (try dsimp only at hSw); go_simp <;> with_reducible rfl)
          try simp only [Act.put, List.setIfInBounds_toArray, List.set_cons_zero, List.set_cons_succ]
          refine wpAnyH_take (i := 13) (oi := { dst := some 104, op := Op.load 23 (Operand.tmp 5), type := 23, pos := "law.go:121", after := #[{ on := 12, ground := Ground.guard }], guard := some (12, true) }) (v := undef) rfl (by kernel_rfl) (by kernel_rfl) (by kernel_rfl) (fun _ _ _ h => h) (Or.inr ⟨by rfl, rfl⟩) (by assumption) ?_
          try simp only [Act.put, List.setIfInBounds_toArray, List.set_cons_zero, List.set_cons_succ]
          refine wpAnyH_take (i := 14) (oi := { dst := some 105, op := Op.load 23 (Operand.tmp 4), type := 23, pos := "law.go:121", after := #[{ on := 12, ground := Ground.guard }], guard := some (12, true) }) (v := undef) rfl (by kernel_rfl) (by kernel_rfl) (by kernel_rfl) (fun _ _ _ h => h) (Or.inr ⟨by rfl, rfl⟩) (by assumption) ?_
          try simp only [Act.put, List.setIfInBounds_toArray, List.set_cons_zero, List.set_cons_succ]
          refine wpAnyH_take (i := 15) (oi := { dst := some 106, op := Op.call { callee := Callee.value (Operand.func 17), args := #[Operand.tmp 104, Operand.tmp 105], argTypes := #[23, 23] }, type := 4, pos := "law.go:121", after := #[{ on := 13, ground := Ground.data }, { on := 14, ground := Ground.data }, { on := 12, ground := Ground.chain }, { on := 12, ground := Ground.guard }], guard := some (12, true) }) (v := undef) rfl (by kernel_rfl) (by kernel_rfl) (by kernel_rfl) (fun _ _ _ h => h) (Or.inr ⟨by rfl, rfl⟩) (by assumption) ?_
          try simp only [Act.put, List.setIfInBounds_toArray, List.set_cons_zero, List.set_cons_succ]
          refine wpAnyH_take (i := 16) (oi := { dst := some 107, op := Op.pick (Operand.tmp 103) (Operand.tmp 106) (Operand.const (Value.bool false)), type := 4, pos := "law.go:121", after := #[{ on := 12, ground := Ground.data }, { on := 15, ground := Ground.data }, { on := 8, ground := Ground.guard }], guard := some (8, true) }) (v := ?_) rfl (by kernel_rfl) (by kernel_rfl) (by kernel_rfl) (fun _ _ _ h => h) (Or.inl ⟨by rfl, ?_⟩) (by assumption) ?_
          rotate_left
          · (intro w hSw; (try dsimp only at hSw); go_simp <;> with_reducible rfl)
          try simp only [Act.put, List.setIfInBounds_toArray, List.set_cons_zero, List.set_cons_succ]
          refine wpAnyH_ready (rs := [19]) (by kernel_rfl) (by simp) ?_
          refine AllReadyH.cons (o := { dst := some 110, op := Op.call { callee := Callee.value (Operand.func 17), args := #[Operand.tmp 108, Operand.tmp 109], argTypes := #[23, 23] }, type := 4, pos := "law.go:121", after := #[{ on := 17, ground := Ground.data }, { on := 18, ground := Ground.data }, { on := 15, ground := Ground.chain }, { on := 8, ground := Ground.guard }], guard := some (8, true) }) rfl (fun K hK => ?_) AllReadyH.nil
          go_simp
          refine Calls.mono (HKM.out _) ?_
          rintro _ wq ⟨rfl, hbq⟩
          replace hbx := hHeld.1.trans (hbq.mono hHeld.1.size)
          refine hK.out _ _ (HSs.out _ hbx) (fun hHeld2 => ?_)
          clear hHeld hK K
          have hHeld := hHeld2
          clear hHeld2 hbq
          try simp only [Act.put, List.setIfInBounds_toArray, List.set_cons_zero, List.set_cons_succ]
          refine wpAnyH_take (i := 20) (oi := { dst := some 111, op := Op.binOp BinOp.eql 4 (Operand.tmp 107) (Operand.tmp 110) 4, type := 4, pos := "law.go:121", after := #[{ on := 16, ground := Ground.data }, { on := 19, ground := Ground.data }, { on := 8, ground := Ground.guard }], guard := some (8, true) }) (v := ?_) rfl (by kernel_rfl) (by kernel_rfl) (by kernel_rfl) (fun _ _ _ h => h) (Or.inl ⟨by rfl, ?_⟩) (by assumption) ?_
          rotate_left
          · (intro w hSw; (try dsimp only at hSw); go_simp <;> with_reducible rfl)
          try simp only [Act.put, List.setIfInBounds_toArray, List.set_cons_zero, List.set_cons_succ]
          refine wpAnyH_take (i := 21) (oi := { dst := some 112, op := Op.pick (Operand.tmp 99) (Operand.tmp 111) (Operand.const (Value.bool false)), type := 4, pos := "law.go:121", after := #[{ on := 8, ground := Ground.data }, { on := 20, ground := Ground.data }], guard := none }) (v := ?_) rfl (by kernel_rfl) (by kernel_rfl) (by kernel_rfl) (fun _ _ _ h => h) (Or.inl ⟨by rfl, ?_⟩) (by assumption) ?_
          rotate_left
          · (intro w hSw; (try dsimp only at hSw); go_simp <;> with_reducible rfl)
          try simp only [Act.put, List.setIfInBounds_toArray, List.set_cons_zero, List.set_cons_succ]
          refine wpAnyH_take (i := 22) (oi := { dst := some 6, op := Op.assign (Operand.tmp 112), type := 4, pos := "law.go:121", after := #[{ on := 21, ground := Ground.data }, { on := 19, ground := Ground.chain }, { on := 0, ground := Ground.phase }, { on := 1, ground := Ground.phase }, { on := 2, ground := Ground.phase }, { on := 3, ground := Ground.phase }, { on := 4, ground := Ground.phase }, { on := 5, ground := Ground.phase }, { on := 6, ground := Ground.phase }, { on := 7, ground := Ground.phase }, { on := 8, ground := Ground.phase }, { on := 9, ground := Ground.phase }, { on := 10, ground := Ground.phase }, { on := 11, ground := Ground.phase }, { on := 12, ground := Ground.phase }, { on := 13, ground := Ground.phase }, { on := 14, ground := Ground.phase }, { on := 15, ground := Ground.phase }, { on := 16, ground := Ground.phase }, { on := 17, ground := Ground.phase }, { on := 18, ground := Ground.phase }, { on := 19, ground := Ground.phase }, { on := 20, ground := Ground.phase }, { on := 21, ground := Ground.phase }], guard := none }) (v := ?_) rfl (by kernel_rfl) (by kernel_rfl) (by kernel_rfl) (fun _ _ _ h => h) (Or.inl ⟨by rfl, ?_⟩) (by assumption) ?_
          rotate_left
          · (intro w hSw; (try dsimp only at hSw); go_simp <;> with_reducible rfl)
          try simp only [Act.put, List.setIfInBounds_toArray, List.set_cons_zero, List.set_cons_succ]
          refine wpAnyH_done (by kernel_rfl) ?_ _
          refine NoPanic.normal ?_
          all_goals (have HbF := Lib.hid (Hb8.out.trans (hbx.mono Hb8.out.size)))
          all_goals (go_wp2_with fail)
          all_goals go_ret
          all_goals (exact ⟨ret_bool (by first | rfl | simp), HbF.out⟩)
        · simp only [Bool.true_and] at hkm
          subst hkm
          go_wp2_with fail
          first
          | skip; go_region_held3 (fun X => Below w8.heap.size w8 X ∧ (X.cell? ⟨w.heap.size, 0, none⟩ = some (.int .i64 a) ∧ X.cell? ⟨w.heap.size, 1, none⟩ = some (.int .i64 b)) ∧ (X.cell? ⟨w.heap.size + 1, 0, none⟩ = some (.int .i64 c) ∧ X.cell? ⟨w.heap.size + 1, 1, none⟩ = some (.int .i64 d)) ∧ (X.cell? ⟨w.heap.size + 1 + 1, 0, none⟩ = some (.int .i64 e) ∧ X.cell? ⟨w.heap.size + 1 + 1, 1, none⟩ = some (.int .i64 f)) ∧ (X.cell? ⟨w5.heap.size, 0, none⟩ = some (.int .i64 m0) ∧ X.cell? ⟨w5.heap.size, 1, none⟩ = some (.int .i64 m1)) ∧ (X.cell? ⟨w7.heap.size, 0, none⟩ = some (.int .i64 u0) ∧ X.cell? ⟨w7.heap.size, 1, none⟩ = some (.int .i64 u1)))
            (first
              | (with_reducible exact HSs.out _ hbx)
              | (with_reducible exact HSs.out _ hbx.drew)
              | (with_reducible exact HSs.out _ (‹RowKit.Below w8.heap.size w8 _ ∧ _›).1.drew))
            (first
              | (go_at_call 17; with_reducible refine Calls.mono (HMI.out _) ?_; rintro _ wq ⟨rfl, hbq⟩; have hbx := (‹RowKit.Below w8.heap.size w8 _ ∧ _›).1.trans (hbq.mono (‹RowKit.Below w8.heap.size w8 _ ∧ _›).1.size))
              | (go_at_call 17; with_reducible refine Calls.mono (HMJ.out _) ?_; rintro _ wq ⟨rfl, hbq⟩; have hbx := (‹RowKit.Below w8.heap.size w8 _ ∧ _›).1.trans (hbq.mono (‹RowKit.Below w8.heap.size w8 _ ∧ _›).1.size))
              | (go_at_call 17; with_reducible refine Calls.mono (HKI.out _) ?_; rintro _ wq ⟨rfl, hbq⟩; have hbx := (‹RowKit.Below w8.heap.size w8 _ ∧ _›).1.trans (hbq.mono (‹RowKit.Below w8.heap.size w8 _ ∧ _›).1.size))
              | (go_at_call 17; with_reducible refine Calls.mono (HKJ.out _) ?_; rintro _ wq ⟨rfl, hbq⟩; have hbx := (‹RowKit.Below w8.heap.size w8 _ ∧ _›).1.trans (hbq.mono (‹RowKit.Below w8.heap.size w8 _ ∧ _›).1.size))
              | (go_at_call 17; with_reducible refine Calls.mono (HKM.out _) ?_; rintro _ wq ⟨rfl, hbq⟩; have hbx := (‹RowKit.Below w8.heap.size w8 _ ∧ _›).1.trans (hbq.mono (‹RowKit.Below w8.heap.size w8 _ ∧ _›).1.size)))
          | fail
          all_goals (have HbF := Lib.hid (Hb8.out.trans (hbx.mono Hb8.out.size)))
          all_goals (go_wp2_with fail)
          all_goals go_ret
          all_goals (exact ⟨ret_bool (by first | rfl | simp), HbF.out⟩)
      )
end Go.Proofs.Ytnjpjjefhpbfgaa
