/- Signing: the statement SigningKeySpec, the walk. Signing: the statement SigningKeySpec, all cases. -/
import Derived.Test.YtiloaheaglcpbaaDoorSgR16
import Derived.Test.YtiloaheaglcpbaaDoorSgY1
namespace Go.Proofs.YtiloaheaglcpbaaDoor
open Go.RowKit

set_option maxRecDepth 100000 in
set_option maxHeartbeats 4000000 in
theorem ks_b (d : List UInt8) (hd : d.length = 32) (sa : Option Addr) (sn sc : Nat) (smany : Int) (hsn : sn ≤ 200)
    (XL : List UInt8) (xa : Option Addr) (xn xc : Nat) (xm xe : Int) (hxl : XL.length = xn) (ka : Option Addr) (kn kc : Nat) (km ku : Int) (P : List UInt8) (hP : P.length = 32) (pe : Int) (w : World)
    (hX : Sl w 1 (.slice xa xn xc) xn (bc XL))
    (hNew : ∀ W, Below w.heap.size w W → Calls Tryd.prog 12 #[.slice sa sn sc, .int .i64 smany] W fun e w' => e = .returned (.tuple #[.agg #[.slice xa xn xc, .int .i64 xm, .int .i64 0], .int .i64 xe]) ∧ Below W.heap.size W w')
    (hRNew : ∀ W, Below w.heap.size w W → Calls Tryd.prog 13 #[.slice sa sn sc, .int .i64 smany] W fun e w' => ∃ ya yc, e = .returned (.tuple #[.agg #[.slice ya xn yc, .int .i64 xm, .int .i64 0], .int .i64 xe]) ∧ Sl w' 1 (.slice ya xn yc) xn (bc XL) ∧ Below W.heap.size W w')
    (hPub : ∀ W, Below w.heap.size w W → Calls Tryd.prog 20 #[.agg #[.slice ka kn kc, .int .i64 km, .int .i64 ku]] W fun e w' => e = .returned (.tuple #[arrV P, .int .i64 pe]) ∧ Below W.heap.size W w')
    (hRPub : ∀ W, Below w.heap.size w W → Calls Tryd.prog 21 #[.agg #[.slice ka kn kc, .int .i64 km, .int .i64 ku]] W fun e w' => e = .returned (.tuple #[arrV P, .int .i64 pe]) ∧ Below W.heap.size W w') (hf : decide (km ≤ 2 ∧ kn ≤ 100 ∧ 0 ≤ 300) = false) (hk : isKeyB kn km ku = false) :
    Calls Tryd.prog 3 #[.slice sa sn sc, .int .i64 smany, .agg #[.slice ka kn kc, .int .i64 km, .int .i64 ku], arrV d] w fun e w' => e = .returned (.bool true) ∧ Below w.heap.size w w' := by
  have HSane := Lib.hid (fun W => sane_any W)
  have HNew := Lib.hid hNew
  have HRNew := Lib.hid hRNew
  have HPub := Lib.hid hPub
  have HRPub := Lib.hid hRPub
  have HSX := Lib.hid (fun W (hb : Below w.heap.size w W) => hX.next hb)
  have HSK := Lib.hid (fun ya yc W h1 h2 => samekey_any XL xn hxl xa xc ya yc xm 0 W h1 h2)
  have HDg := Lib.hid (fun W => digits_any d hd W)
  have HRD := Lib.hid (fun W => rdigits_any d hd W)
  have HSm := Lib.hid (fun (a a' : Option Addr) (c c' : Nat) W h1 h2 => same_any ((List.range 67).map fun j => (dig d j : Int)) 67 (by simp) (by omega) a c a' c' W h1 h2)
  have HdC := Lib.hid (show (digC d).toList = ((List.range 67).map fun j => (dig d j : Int)).map (Value.int .i64) by simp [digC, Function.comp_def])
  have HF := Lib.hid (fun W => few_any ka kn kc km ku none 0 0 W)
  have HVal := Lib.hid (fun W => rvalid_any ka kn kc km ku W)
  rw [hf] at HF
  rw [hk] at HVal
  clear hf hk
  have HO := Lib.hid (And.intro (show (bc P).length = 32 by rw [bc_len, hP]) (bc_one P))
  have heq := Lib.hid (fun W => eq_dg W P P hP hP)
  have HlD := Lib.hid (show (bc d).length = 32 by rw [bc_len, hd])
  unfold arrV at HPub HRPub HDg HRD ⊢
  obtain ⟨DP, hDP⟩ : ∃ D, bc P = D := ⟨_, rfl⟩
  obtain ⟨DD, hDD⟩ : ∃ D, bc d = D := ⟨_, rfl⟩
  rw [hDP] at HPub HRPub HO
  simp only [hDP] at heq
  rw [hDD] at HDg HRD HlD ⊢
  have hK0 := (Blk.new w 24 #[.slice ka kn kc, .int .i64 km, .int .i64 ku]).alloc (.cells DD.toArray 26)
  have hD0 := Blk.new (w.alloc (.cells #[.slice ka kn kc, .int .i64 km, .int .i64 ku] 24)) 26 DD.toArray
  rw [World.size_alloc] at hD0
  have hb0 := (below_alloc w (.cells #[.slice ka kn kc, .int .i64 km, .int .i64 ku] 24)).alloc (by simp) (.cells DD.toArray 26)
  obtain ⟨w0, hw0⟩ : ∃ w0, (w.alloc (.cells #[.slice ka kn kc, .int .i64 km, .int .i64 ku] 24)).alloc (.cells DD.toArray 26) = w0 := ⟨_, rfl⟩
  rw [hw0] at hK0 hD0 hb0
  have HW0 := Lib.hid hw0
  have HK0 := Lib.hid hK0
  have HD0 := Lib.hid hD0
  have Hb0 := Lib.hid hb0
  have j1 : ¬ (200 : Int) < (sn : Int) := by omega
  clear hX hNew hRNew hPub hRPub hxl hd hP hDP hDD hK0 hD0 hb0 hw0 hsn
  go_enter Tryd.func3, Tryd.ntmps3
  go_wp2_with (first
    | (rw [HW0.out]
       refine (HSane.out _).mono ?_
       rintro e w1 ⟨rfl, hb1⟩
       have HK1 := Lib.hid (HK0.out.below hb1 HK0.out.lt)
       have HD1 := Lib.hid (HD0.out.below hb1 HD0.out.lt)
       have Hb1 := Lib.hid (Hb0.out.trans (hb1.mono Hb0.out.size))
       clear hb1)
    | (refine (HNew.out _ Hb1.out).mono ?_
       rintro e w2 ⟨rfl, hb2⟩
       have hbb := Hb1.out.trans (hb2.mono Hb1.out.size)
       have hK2 := HK1.out.below hb2 HK1.out.lt
       have hD2 := HD1.out.below hb2 HD1.out.lt
       have hN := Blk.new w2 24 #[.slice xa xn xc, .int .i64 xm, .int .i64 0]
       have hK3 := hK2.alloc (.cells #[.slice xa xn xc, .int .i64 xm, .int .i64 0] 24)
       have hD3 := hD2.alloc (.cells #[.slice xa xn xc, .int .i64 xm, .int .i64 0] 24)
       have hb3 := hbb.alloc hbb.size (.cells #[.slice xa xn xc, .int .i64 xm, .int .i64 0] 24)
       obtain ⟨w3, hw3⟩ : ∃ w3, w2.alloc (.cells #[.slice xa xn xc, .int .i64 xm, .int .i64 0] 24) = w3 := ⟨_, rfl⟩
       rw [hw3] at hN hK3 hD3 hb3
       have HW3 := Lib.hid hw3
       have HX3 := Lib.hid hN
       have HK3 := Lib.hid hK3
       have HD3 := Lib.hid hD3
       have Hb3 := Lib.hid hb3
       clear hb2 hbb hK2 hD2 hN hK3 hD3 hb3 hw3)
    | (rw [HW3.out]
       refine (HRNew.out _ Hb3.out).mono ?_
       rintro e w4 ⟨ya, yc, rfl, hsl, hb4⟩
       have hbb := Hb3.out.trans (hb4.mono Hb3.out.size)
       have hK4 := (HK3.out.below hb4 HK3.out.lt).alloc (.cells #[.slice ya xn yc, .int .i64 xm, .int .i64 0] 24)
       have hD4 := (HD3.out.below hb4 HD3.out.lt).alloc (.cells #[.slice ya xn yc, .int .i64 xm, .int .i64 0] 24)
       have hX4 := (HX3.out.below hb4 HX3.out.lt).alloc (.cells #[.slice ya xn yc, .int .i64 xm, .int .i64 0] 24)
       have hN := Blk.new w4 24 #[.slice ya xn yc, .int .i64 xm, .int .i64 0]
       have hb5 := hbb.alloc hbb.size (.cells #[.slice ya xn yc, .int .i64 xm, .int .i64 0] 24)
       have hsl5 := hsl.alloc (.cells #[.slice ya xn yc, .int .i64 xm, .int .i64 0] 24)
       obtain ⟨w5, hw5⟩ : ∃ w5, w4.alloc (.cells #[.slice ya xn yc, .int .i64 xm, .int .i64 0] 24) = w5 := ⟨_, rfl⟩
       rw [hw5] at hN hK4 hD4 hX4 hb5 hsl5
       have HW5 := Lib.hid hw5
       have HY5 := Lib.hid hN
       have HX5 := Lib.hid hX4
       have HK5 := Lib.hid hK4
       have HD5 := Lib.hid hD4
       have Hb5 := Lib.hid hb5
       have HSY := Lib.hid hsl5
       clear hb4 hbb hK4 hD4 hX4 hN hb5 hsl hsl5 hw5))
  rw [HW5.out]
  refine wp_region_held_drew (S := fun w' => Below w5.heap.size w5 w') (by kernel_rfl) ((Below.refl _ _).drew) (fun hHeld => ?_)
  refine wpAnyH_take (i := 0) (oi := { dst := some 34, op := Op.move (Operand.tmp 10), type := 28, pos := "law.go:53", after := #[], guard := none }) (v := ?_) rfl (by kernel_rfl) (by kernel_rfl) (by kernel_rfl) (fun _ _ _ h => h) (Or.inl ⟨by rfl, ?_⟩) hHeld ?_
  rotate_left
  · intro W hSw
    clear hSw
    go_simp
    try with_reducible rfl
  try simp only [Act.put, List.setIfInBounds_toArray, List.set_cons_zero, List.set_cons_succ]
  refine wpAnyH_take (i := 1) (oi := { dst := some 35, op := Op.move (Operand.tmp 12), type := 28, pos := "law.go:53", after := #[], guard := none }) (v := ?_) rfl (by kernel_rfl) (by kernel_rfl) (by kernel_rfl) (fun _ _ _ h => h) (Or.inl ⟨by rfl, ?_⟩) hHeld ?_
  rotate_left
  · intro W hSw
    clear hSw
    go_simp
    try with_reducible rfl
  try simp only [Act.put, List.setIfInBounds_toArray, List.set_cons_zero, List.set_cons_succ]
  refine wpAnyH_take (i := 2) (oi := { dst := some 36, op := Op.binOp BinOp.neq 28 (Operand.tmp 34) (Operand.tmp 35) 28, type := 4, pos := "law.go:53", after := #[{ on := 0, ground := Ground.data }, { on := 1, ground := Ground.data }], guard := none }) (v := ?_) rfl (by kernel_rfl) (by kernel_rfl) (by kernel_rfl) (fun _ _ _ h => h) (Or.inl ⟨by rfl, ?_⟩) hHeld ?_
  rotate_left
  · intro W hSw
    clear hSw
    go_simp
    try with_reducible rfl
  try simp only [Act.put, List.setIfInBounds_toArray, List.set_cons_zero, List.set_cons_succ]
  refine wpAnyH_take (i := 3) (oi := { dst := some 37, op := Op.move (Operand.tmp 36), type := 4, pos := "law.go:53", after := #[{ on := 2, ground := Ground.data }], guard := none }) (v := ?_) rfl (by kernel_rfl) (by kernel_rfl) (by kernel_rfl) (fun _ _ _ h => h) (Or.inl ⟨by rfl, ?_⟩) hHeld ?_
  rotate_left
  · intro W hSw
    clear hSw
    go_simp
    try with_reducible rfl
  try simp only [Act.put, List.setIfInBounds_toArray, List.set_cons_zero, List.set_cons_succ]
  refine wpAnyH_take (i := 4) (oi := { dst := some 38, op := Op.load 24 (Operand.tmp 9), type := 24, pos := "law.go:53", after := #[{ on := 3, ground := Ground.guard }], guard := some (3, false) }) (v := ?_) rfl (by kernel_rfl) (by kernel_rfl) (by kernel_rfl) (fun _ _ _ h => h) (Or.inl ⟨by rfl, ?_⟩) hHeld ?_
  rotate_left
  · intro W hSw
    obtain ⟨c0, c1, c2, f0, f1, f2⟩ := cells3 (HX5.out.below hSw HX5.out.lt)
    go_simp
    try with_reducible rfl
  try simp only [Act.put, List.setIfInBounds_toArray, List.set_cons_zero, List.set_cons_succ]
  refine wpAnyH_take (i := 5) (oi := { dst := some 39, op := Op.load 24 (Operand.tmp 11), type := 24, pos := "law.go:53", after := #[{ on := 3, ground := Ground.guard }], guard := some (3, false) }) (v := ?_) rfl (by kernel_rfl) (by kernel_rfl) (by kernel_rfl) (fun _ _ _ h => h) (Or.inl ⟨by rfl, ?_⟩) hHeld ?_
  rotate_left
  · intro W hSw
    obtain ⟨c0, c1, c2, f0, f1, f2⟩ := cells3 (HY5.out.below hSw HY5.out.lt)
    go_simp
    try with_reducible rfl
  try simp only [Act.put, List.setIfInBounds_toArray, List.set_cons_zero, List.set_cons_succ]
  refine wpAnyH_ready (rs := [6]) (by kernel_rfl) (by simp) ?_
  refine AllReadyH.cons (o := { dst := some 40, op := Op.call { callee := Callee.value (Operand.func 14), args := #[Operand.tmp 38, Operand.tmp 39], argTypes := #[24, 24] }, type := 4, pos := "law.go:53", after := #[{ on := 4, ground := Ground.data }, { on := 5, ground := Ground.data }, { on := 3, ground := Ground.chain }, { on := 3, ground := Ground.guard }], guard := some (3, false) }) rfl (fun K hK => ?_) AllReadyH.nil
  go_simp
  go_at_call 14
  refine (HSK.out _ _ _ (HSX.out _ (Hb5.out.trans (hHeld.mono Hb5.out.size))) (HSY.out.next hHeld)).mono ?_
  rintro e w6 ⟨rfl, hb6⟩
  have hH6 : Below w5.heap.size w5 w6 := hHeld.trans (hb6.mono hHeld.size)
  refine hK.out _ _ hH6 (fun hHeld => ?_)
  clear hb6
  clear hK K
  try simp only [Act.put, List.setIfInBounds_toArray, List.set_cons_zero, List.set_cons_succ]
  refine wpAnyH_take (i := 7) (oi := { dst := some 41, op := Op.unOp UnOp.not 4 (Operand.tmp 40), type := 4, pos := "law.go:53", after := #[{ on := 6, ground := Ground.data }, { on := 3, ground := Ground.guard }], guard := some (3, false) }) (v := ?_) rfl (by kernel_rfl) (by kernel_rfl) (by kernel_rfl) (fun _ _ _ h => h) (Or.inl ⟨by rfl, ?_⟩) hHeld ?_
  rotate_left
  · intro W hSw
    clear hSw
    go_simp
    try with_reducible rfl
  try simp only [Act.put, List.setIfInBounds_toArray, List.set_cons_zero, List.set_cons_succ]
  refine wpAnyH_take (i := 8) (oi := { dst := some 42, op := Op.pick (Operand.tmp 37) (Operand.const (Value.bool true)) (Operand.tmp 41), type := 4, pos := "law.go:53", after := #[{ on := 3, ground := Ground.data }, { on := 7, ground := Ground.data }], guard := none }) (v := ?_) rfl (by kernel_rfl) (by kernel_rfl) (by kernel_rfl) (fun _ _ _ h => h) (Or.inl ⟨by rfl, ?_⟩) hHeld ?_
  rotate_left
  · intro W hSw
    clear hSw
    go_simp
    try with_reducible rfl
  try simp only [Act.put, List.setIfInBounds_toArray, List.set_cons_zero, List.set_cons_succ]
  refine wpAnyH_take (i := 9) (oi := { dst := some 43, op := Op.move (Operand.tmp 42), type := 4, pos := "law.go:53", after := #[{ on := 8, ground := Ground.data }, { on := 6, ground := Ground.chain }], guard := none }) (v := ?_) rfl (by kernel_rfl) (by kernel_rfl) (by kernel_rfl) (fun _ _ _ h => h) (Or.inl ⟨by rfl, ?_⟩) hHeld ?_
  rotate_left
  · intro W hSw
    clear hSw
    go_simp
    try with_reducible rfl
  try simp only [Act.put, List.setIfInBounds_toArray, List.set_cons_zero, List.set_cons_succ]
  refine wpAnyH_take (i := 10) (oi := { dst := some 44, op := Op.load 26 (Operand.tmp 7), type := 26, pos := "law.go:53", after := #[{ on := 9, ground := Ground.guard }], guard := some (9, false) }) rfl (by kernel_rfl) (by kernel_rfl) (by kernel_rfl) (fun _ _ _ h => h) (yieldsIf_load_mid (by rfl) _ _ rfl (w.heap.size + 1) _ rfl DD _ (fun W h => Blk.range (HD5.out.below h HD5.out.lt)) Tryd.underlying26 rfl (by rw [HlD.out]; exact infoDg)) hHeld ?_
  try simp only [Act.put, List.setIfInBounds_toArray, List.set_cons_zero, List.set_cons_succ]
  refine wpAnyH_take (i := 12) (oi := { dst := some 46, op := Op.load 26 (Operand.tmp 7), type := 26, pos := "law.go:53", after := #[{ on := 9, ground := Ground.guard }], guard := some (9, false) }) rfl (by kernel_rfl) (by kernel_rfl) (by kernel_rfl) (fun _ _ _ h => h) (yieldsIf_load_mid (by rfl) _ _ rfl (w.heap.size + 1) _ rfl DD _ (fun W h => Blk.range (HD5.out.below h HD5.out.lt)) Tryd.underlying26 rfl (by rw [HlD.out]; exact infoDg)) hHeld ?_
  try simp only [Act.put, List.setIfInBounds_toArray, List.set_cons_zero, List.set_cons_succ]
  refine wpAnyH_ready (rs := [11]) (by kernel_rfl) (by simp) ?_
  refine AllReadyH.cons (o := { dst := some 45, op := Op.call { callee := Callee.value (Operand.func 16), args := #[Operand.tmp 44], argTypes := #[26] }, type := 33, pos := "law.go:53", after := #[{ on := 10, ground := Ground.data }, { on := 9, ground := Ground.chain }, { on := 9, ground := Ground.guard }], guard := some (9, false) }) rfl (fun K hK => ?_) AllReadyH.nil
  go_simp
  go_at_call 16
  refine (HDg.out _).mono ?_
  rintro e w7 ⟨gx, rfl, hx, _, hb7⟩
  have hH7 : Below w5.heap.size w5 w7 := hHeld.trans (hb7.mono hHeld.size)
  refine hK.out _ _ hH7 (fun hHeld => ?_)
  clear hb7
  clear hK K
  try simp only [Act.put, List.setIfInBounds_toArray, List.set_cons_zero, List.set_cons_succ]
  refine wpAnyH_ready (rs := [13]) (by kernel_rfl) (by simp) ?_
  refine AllReadyH.cons (o := { dst := some 47, op := Op.call { callee := Callee.value (Operand.func 17), args := #[Operand.tmp 46], argTypes := #[26] }, type := 33, pos := "law.go:53", after := #[{ on := 12, ground := Ground.data }, { on := 11, ground := Ground.chain }, { on := 9, ground := Ground.guard }], guard := some (9, false) }) rfl (fun K hK => ?_) AllReadyH.nil
  go_simp
  go_at_call 17
  refine (HRD.out _).mono ?_
  rintro e w8 ⟨v8, rfl, hown8, hb8⟩
  have hH8 : Below w5.heap.size w5 w8 := hHeld.trans (hb8.mono hHeld.size)
  obtain ⟨va, vc, rfl⟩ := (Sl.of_own hown8).form
  have hx8 := hx.below hb8 hx.lt
  have hs8 := Sl.of_own hown8
  rw [HdC.out] at hs8
  refine hK.out _ _ hH8 (fun hHeld => ?_)
  clear hb8 hown8 hx
  clear hK K
  try simp only [Act.put, List.setIfInBounds_toArray, List.set_cons_zero, List.set_cons_succ]
  refine wpAnyH_ready (rs := [14]) (by kernel_rfl) (by simp) ?_
  refine AllReadyH.cons (o := { dst := some 48, op := Op.call { callee := Callee.value (Operand.func 15), args := #[Operand.tmp 45, Operand.tmp 47], argTypes := #[33, 33] }, type := 4, pos := "law.go:53", after := #[{ on := 11, ground := Ground.data }, { on := 13, ground := Ground.data }, { on := 13, ground := Ground.chain }, { on := 9, ground := Ground.guard }], guard := some (9, false) }) rfl (fun K hK => ?_) AllReadyH.nil
  go_simp
  go_at_call 15
  refine (HSm.out _ _ _ _ _ (hx8.sl HdC.out (by simp)) hs8).mono ?_
  rintro e w9 ⟨rfl, kq, rfl⟩
  have hH9 : Below w5.heap.size w5 (w8.drewN kq) := blw_drewN hH8 kq
  refine hK.out _ _ hH9 (fun hHeld => ?_)
  clear hx8 hs8
  clear hK K
  try simp only [Act.put, List.setIfInBounds_toArray, List.set_cons_zero, List.set_cons_succ]
  refine wpAnyH_take (i := 15) (oi := { dst := some 49, op := Op.unOp UnOp.not 4 (Operand.tmp 48), type := 4, pos := "law.go:53", after := #[{ on := 14, ground := Ground.data }, { on := 9, ground := Ground.guard }], guard := some (9, false) }) (v := ?_) rfl (by kernel_rfl) (by kernel_rfl) (by kernel_rfl) (fun _ _ _ h => h) (Or.inl ⟨by rfl, ?_⟩) hHeld ?_
  rotate_left
  · intro W hSw
    clear hSw
    go_simp
    try with_reducible rfl
  try simp only [Act.put, List.setIfInBounds_toArray, List.set_cons_zero, List.set_cons_succ]
  refine wpAnyH_take (i := 16) (oi := { dst := some 50, op := Op.pick (Operand.tmp 43) (Operand.const (Value.bool true)) (Operand.tmp 49), type := 4, pos := "law.go:53", after := #[{ on := 9, ground := Ground.data }, { on := 15, ground := Ground.data }], guard := none }) (v := ?_) rfl (by kernel_rfl) (by kernel_rfl) (by kernel_rfl) (fun _ _ _ h => h) (Or.inl ⟨by rfl, ?_⟩) hHeld ?_
  rotate_left
  · intro W hSw
    clear hSw
    go_simp
    try with_reducible rfl
  try simp only [Act.put, List.setIfInBounds_toArray, List.set_cons_zero, List.set_cons_succ]
  refine wpAnyH_done (by kernel_rfl) ?_ _
  obtain ⟨w10, hw10⟩ : ∃ w10, w8.drewN kq = w10 := ⟨_, rfl⟩
  rw [hw10] at hHeld ⊢
  have HK10 := Lib.hid (HK5.out.below hHeld HK5.out.lt)
  have Hb10 := Lib.hid (Hb5.out.trans (hHeld.mono Hb5.out.size))
  clear hHeld hw10
  obtain ⟨c0, c1, c2, f0, f1, f2⟩ := cells3 HK10.out
  go_wp2_with (first
    | (with_reducible refine Calls.mono (HF.out _) ?_
       rintro e w11 ⟨rfl, hb11⟩
       have HK11 := Lib.hid (HK10.out.below hb11 HK10.out.lt)
       have Hb11 := Lib.hid (Hb10.out.trans (hb11.mono Hb10.out.size))
       clear hb11 c0 c1 c2 f0 f1 f2
       obtain ⟨c0, c1, c2, f0, f1, f2⟩ := cells3 HK11.out)
    | (with_reducible refine Calls.mono (HVal.out _) ?_
       rintro e w16 ⟨rfl, hb16⟩
       have HK16 := Lib.hid (HK11.out.below hb16 HK11.out.lt)
       have Hb16 := Lib.hid (Hb11.out.trans (hb16.mono Hb11.out.size))
       clear hb16 c0 c1 c2 f0 f1 f2
       obtain ⟨c0, c1, c2, f0, f1, f2⟩ := cells3 HK16.out)
    | (with_reducible refine Calls.mono (HPub.out _ Hb16.out) ?_
       rintro e w12 ⟨rfl, hb12⟩
       have hbb := Hb16.out.trans (hb12.mono Hb16.out.size)
       have hB := Blk.new w12 26 #[.int .u8 0, .int .u8 0, .int .u8 0, .int .u8 0, .int .u8 0, .int .u8 0, .int .u8 0, .int .u8 0, .int .u8 0, .int .u8 0, .int .u8 0, .int .u8 0, .int .u8 0, .int .u8 0, .int .u8 0, .int .u8 0, .int .u8 0, .int .u8 0, .int .u8 0, .int .u8 0, .int .u8 0, .int .u8 0, .int .u8 0, .int .u8 0, .int .u8 0, .int .u8 0, .int .u8 0, .int .u8 0, .int .u8 0, .int .u8 0, .int .u8 0, .int .u8 0]
       have hxK := (HK16.out.below hb12 HK16.out.lt)
       have hlK := hxK.lt
       have hyK := (hxK.alloc (.cells #[.int .u8 0, .int .u8 0, .int .u8 0, .int .u8 0, .int .u8 0, .int .u8 0, .int .u8 0, .int .u8 0, .int .u8 0, .int .u8 0, .int .u8 0, .int .u8 0, .int .u8 0, .int .u8 0, .int .u8 0, .int .u8 0, .int .u8 0, .int .u8 0, .int .u8 0, .int .u8 0, .int .u8 0, .int .u8 0, .int .u8 0, .int .u8 0, .int .u8 0, .int .u8 0, .int .u8 0, .int .u8 0, .int .u8 0, .int .u8 0, .int .u8 0, .int .u8 0] 26)).farRow (show w.heap.size ≠ w12.heap.size by omega) DP.toArray
       have hBr := hB.setRow DP.toArray
       have hbc := setRow_below (g := w12.heap.size) (hbb.alloc hbb.size (.cells #[.int .u8 0, .int .u8 0, .int .u8 0, .int .u8 0, .int .u8 0, .int .u8 0, .int .u8 0, .int .u8 0, .int .u8 0, .int .u8 0, .int .u8 0, .int .u8 0, .int .u8 0, .int .u8 0, .int .u8 0, .int .u8 0, .int .u8 0, .int .u8 0, .int .u8 0, .int .u8 0, .int .u8 0, .int .u8 0, .int .u8 0, .int .u8 0, .int .u8 0, .int .u8 0, .int .u8 0, .int .u8 0, .int .u8 0, .int .u8 0, .int .u8 0, .int .u8 0] 26)) hbb.size DP.toArray
       have hbd := setRow_below (g := w12.heap.size) (hb12.alloc hb12.size (.cells #[.int .u8 0, .int .u8 0, .int .u8 0, .int .u8 0, .int .u8 0, .int .u8 0, .int .u8 0, .int .u8 0, .int .u8 0, .int .u8 0, .int .u8 0, .int .u8 0, .int .u8 0, .int .u8 0, .int .u8 0, .int .u8 0, .int .u8 0, .int .u8 0, .int .u8 0, .int .u8 0, .int .u8 0, .int .u8 0, .int .u8 0, .int .u8 0, .int .u8 0, .int .u8 0, .int .u8 0, .int .u8 0, .int .u8 0, .int .u8 0, .int .u8 0, .int .u8 0] 26)) hb12.size DP.toArray
       obtain ⟨w13, hw13⟩ : ∃ w13, (w12.alloc (.cells #[.int .u8 0, .int .u8 0, .int .u8 0, .int .u8 0, .int .u8 0, .int .u8 0, .int .u8 0, .int .u8 0, .int .u8 0, .int .u8 0, .int .u8 0, .int .u8 0, .int .u8 0, .int .u8 0, .int .u8 0, .int .u8 0, .int .u8 0, .int .u8 0, .int .u8 0, .int .u8 0, .int .u8 0, .int .u8 0, .int .u8 0, .int .u8 0, .int .u8 0, .int .u8 0, .int .u8 0, .int .u8 0, .int .u8 0, .int .u8 0, .int .u8 0, .int .u8 0] 26)).setRow w12.heap.size DP.toArray = w13 := ⟨_, rfl⟩
       rw [hw13] at hBr hbc hbd hyK
       have HW13 := Lib.hid hw13
       have HB13 := Lib.hid hB
       have HP13 := Lib.hid hBr
       have Hb13 := Lib.hid hbc
       have Hs13 := Lib.hid hbd
       have HK13 := Lib.hid hyK
       clear hb12 hbb hB hBr hbc hbd hw13 hxK hlK hyK
       clear c0 c1 c2 f0 f1 f2
       obtain ⟨c0, c1, c2, f0, f1, f2⟩ := cells3 HK13.out)
    | (refine wpList_store_row rfl 26 _ _ rfl w12.heap.size DP.toArray rfl rfl 26 _ HB13.out (by rw [List.size_toArray, HO.out.1]; exact infoDg) (show 32 = DP.length from HO.out.1.symm) (all_oneCell_toArray HO.out.2) ?_; rw [HW13.out])
    | (with_reducible refine Calls.mono (HRPub.out _ Hb13.out) ?_
       rintro e w14 ⟨rfl, hb14⟩
       have hbb := Hb13.out.trans (hb14.mono Hb13.out.size)
       have hB := Blk.new w14 26 #[.int .u8 0, .int .u8 0, .int .u8 0, .int .u8 0, .int .u8 0, .int .u8 0, .int .u8 0, .int .u8 0, .int .u8 0, .int .u8 0, .int .u8 0, .int .u8 0, .int .u8 0, .int .u8 0, .int .u8 0, .int .u8 0, .int .u8 0, .int .u8 0, .int .u8 0, .int .u8 0, .int .u8 0, .int .u8 0, .int .u8 0, .int .u8 0, .int .u8 0, .int .u8 0, .int .u8 0, .int .u8 0, .int .u8 0, .int .u8 0, .int .u8 0, .int .u8 0]
       have hxK := (HK13.out.below hb14 HK13.out.lt)
       have hlK := hxK.lt
       have hyK := (hxK.alloc (.cells #[.int .u8 0, .int .u8 0, .int .u8 0, .int .u8 0, .int .u8 0, .int .u8 0, .int .u8 0, .int .u8 0, .int .u8 0, .int .u8 0, .int .u8 0, .int .u8 0, .int .u8 0, .int .u8 0, .int .u8 0, .int .u8 0, .int .u8 0, .int .u8 0, .int .u8 0, .int .u8 0, .int .u8 0, .int .u8 0, .int .u8 0, .int .u8 0, .int .u8 0, .int .u8 0, .int .u8 0, .int .u8 0, .int .u8 0, .int .u8 0, .int .u8 0, .int .u8 0] 26)).farRow (show w.heap.size ≠ w14.heap.size by omega) DP.toArray
       have hxP := (HP13.out.below hb14 HP13.out.lt)
       have hlP := hxP.lt
       have hyP := (hxP.alloc (.cells #[.int .u8 0, .int .u8 0, .int .u8 0, .int .u8 0, .int .u8 0, .int .u8 0, .int .u8 0, .int .u8 0, .int .u8 0, .int .u8 0, .int .u8 0, .int .u8 0, .int .u8 0, .int .u8 0, .int .u8 0, .int .u8 0, .int .u8 0, .int .u8 0, .int .u8 0, .int .u8 0, .int .u8 0, .int .u8 0, .int .u8 0, .int .u8 0, .int .u8 0, .int .u8 0, .int .u8 0, .int .u8 0, .int .u8 0, .int .u8 0, .int .u8 0, .int .u8 0] 26)).farRow (show w12.heap.size ≠ w14.heap.size by omega) DP.toArray
       have hBr := hB.setRow DP.toArray
       have hbc := setRow_below (g := w14.heap.size) (hbb.alloc hbb.size (.cells #[.int .u8 0, .int .u8 0, .int .u8 0, .int .u8 0, .int .u8 0, .int .u8 0, .int .u8 0, .int .u8 0, .int .u8 0, .int .u8 0, .int .u8 0, .int .u8 0, .int .u8 0, .int .u8 0, .int .u8 0, .int .u8 0, .int .u8 0, .int .u8 0, .int .u8 0, .int .u8 0, .int .u8 0, .int .u8 0, .int .u8 0, .int .u8 0, .int .u8 0, .int .u8 0, .int .u8 0, .int .u8 0, .int .u8 0, .int .u8 0, .int .u8 0, .int .u8 0] 26)) hbb.size DP.toArray
       have hbd := setRow_below (g := w14.heap.size) (hb14.alloc hb14.size (.cells #[.int .u8 0, .int .u8 0, .int .u8 0, .int .u8 0, .int .u8 0, .int .u8 0, .int .u8 0, .int .u8 0, .int .u8 0, .int .u8 0, .int .u8 0, .int .u8 0, .int .u8 0, .int .u8 0, .int .u8 0, .int .u8 0, .int .u8 0, .int .u8 0, .int .u8 0, .int .u8 0, .int .u8 0, .int .u8 0, .int .u8 0, .int .u8 0, .int .u8 0, .int .u8 0, .int .u8 0, .int .u8 0, .int .u8 0, .int .u8 0, .int .u8 0, .int .u8 0] 26)) hb14.size DP.toArray
       obtain ⟨w15, hw15⟩ : ∃ w15, (w14.alloc (.cells #[.int .u8 0, .int .u8 0, .int .u8 0, .int .u8 0, .int .u8 0, .int .u8 0, .int .u8 0, .int .u8 0, .int .u8 0, .int .u8 0, .int .u8 0, .int .u8 0, .int .u8 0, .int .u8 0, .int .u8 0, .int .u8 0, .int .u8 0, .int .u8 0, .int .u8 0, .int .u8 0, .int .u8 0, .int .u8 0, .int .u8 0, .int .u8 0, .int .u8 0, .int .u8 0, .int .u8 0, .int .u8 0, .int .u8 0, .int .u8 0, .int .u8 0, .int .u8 0] 26)).setRow w14.heap.size DP.toArray = w15 := ⟨_, rfl⟩
       rw [hw15] at hBr hbc hbd hyK hyP
       have HW15 := Lib.hid hw15
       have HB15 := Lib.hid hB
       have HC15 := Lib.hid hBr
       have Hb15 := Lib.hid hbc
       have Hs15 := Lib.hid hbd
       have HK15 := Lib.hid hyK
       have HP15 := Lib.hid hyP
       clear hb14 hbb hB hBr hbc hbd hw15 hxK hlK hyK hxP hlP hyP
       have heq15 := heq.out w15
       clear c0 c1 c2 f0 f1 f2
       obtain ⟨c0, c1, c2, f0, f1, f2⟩ := cells3 HK15.out)
    | (refine wpList_store_row rfl 26 _ _ rfl w14.heap.size DP.toArray rfl rfl 26 _ HB15.out (by rw [List.size_toArray, HO.out.1]; exact infoDg) (show 32 = DP.length from HO.out.1.symm) (all_oneCell_toArray HO.out.2) ?_; rw [HW15.out])
    | (refine wpList_load_row_g (by first | rfl | simp [Region.wanted, yielded]) 26 _ rfl w12.heap.size rfl 26 DP.toArray (0, 0) _ HP15.out Tryd.underlying26 rfl (by rw [List.size_toArray, HO.out.1]; exact infoDg) ?_)
    | (refine wpList_load_row_g (by first | rfl | simp [Region.wanted, yielded]) 26 _ rfl w14.heap.size rfl 26 DP.toArray (0, 0) _ HC15.out Tryd.underlying26 rfl (by rw [List.size_toArray, HO.out.1]; exact infoDg) ?_))
  go_ret
  exact ⟨rfl, Hb15.out⟩

set_option maxRecDepth 100000 in
set_option maxHeartbeats 4000000 in
theorem ks_c (d : List UInt8) (hd : d.length = 32) (sa : Option Addr) (sn sc : Nat) (smany : Int) (hsn : sn ≤ 200)
    (XL : List UInt8) (xa : Option Addr) (xn xc : Nat) (xm xe : Int) (hxl : XL.length = xn) (ka : Option Addr) (kn kc : Nat) (km ku : Int) (P : List UInt8) (hP : P.length = 32) (_pe : Int) (w : World)
    (hX : Sl w 1 (.slice xa xn xc) xn (bc XL))
    (hNew : ∀ W, Below w.heap.size w W → Calls Tryd.prog 12 #[.slice sa sn sc, .int .i64 smany] W fun e w' => e = .returned (.tuple #[.agg #[.slice xa xn xc, .int .i64 xm, .int .i64 0], .int .i64 xe]) ∧ Below W.heap.size W w')
    (hRNew : ∀ W, Below w.heap.size w W → Calls Tryd.prog 13 #[.slice sa sn sc, .int .i64 smany] W fun e w' => ∃ ya yc, e = .returned (.tuple #[.agg #[.slice ya xn yc, .int .i64 xm, .int .i64 0], .int .i64 xe]) ∧ Sl w' 1 (.slice ya xn yc) xn (bc XL) ∧ Below W.heap.size W w')
    (hf : decide (km ≤ 2 ∧ kn ≤ 100 ∧ 0 ≤ 300) = false) (hk : isKeyB kn km ku = true) :
    Calls Tryd.prog 3 #[.slice sa sn sc, .int .i64 smany, .agg #[.slice ka kn kc, .int .i64 km, .int .i64 ku], arrV d] w fun e w' => e = .returned (.bool true) ∧ Below w.heap.size w w' := by
  have HSane := Lib.hid (fun W => sane_any W)
  have HNew := Lib.hid hNew
  have HRNew := Lib.hid hRNew
  have HSX := Lib.hid (fun W (hb : Below w.heap.size w W) => hX.next hb)
  have HSK := Lib.hid (fun ya yc W h1 h2 => samekey_any XL xn hxl xa xc ya yc xm 0 W h1 h2)
  have HDg := Lib.hid (fun W => digits_any d hd W)
  have HRD := Lib.hid (fun W => rdigits_any d hd W)
  have HSm := Lib.hid (fun (a a' : Option Addr) (c c' : Nat) W h1 h2 => same_any ((List.range 67).map fun j => (dig d j : Int)) 67 (by simp) (by omega) a c a' c' W h1 h2)
  have HdC := Lib.hid (show (digC d).toList = ((List.range 67).map fun j => (dig d j : Int)).map (Value.int .i64) by simp [digC, Function.comp_def])
  have HF := Lib.hid (fun W => few_any ka kn kc km ku none 0 0 W)
  have HVal := Lib.hid (fun W => rvalid_any ka kn kc km ku W)
  rw [hf] at HF
  rw [hk] at HVal
  clear hf hk
  have HO := Lib.hid (And.intro (show (bc P).length = 32 by rw [bc_len, hP]) (bc_one P))
  have heq := Lib.hid (fun W => eq_dg W P P hP hP)
  have HlD := Lib.hid (show (bc d).length = 32 by rw [bc_len, hd])
  unfold arrV at HDg HRD ⊢
  obtain ⟨DP, hDP⟩ : ∃ D, bc P = D := ⟨_, rfl⟩
  obtain ⟨DD, hDD⟩ : ∃ D, bc d = D := ⟨_, rfl⟩
  rw [hDP] at HO
  simp only [hDP] at heq
  rw [hDD] at HDg HRD HlD ⊢
  have hK0 := (Blk.new w 24 #[.slice ka kn kc, .int .i64 km, .int .i64 ku]).alloc (.cells DD.toArray 26)
  have hD0 := Blk.new (w.alloc (.cells #[.slice ka kn kc, .int .i64 km, .int .i64 ku] 24)) 26 DD.toArray
  rw [World.size_alloc] at hD0
  have hb0 := (below_alloc w (.cells #[.slice ka kn kc, .int .i64 km, .int .i64 ku] 24)).alloc (by simp) (.cells DD.toArray 26)
  obtain ⟨w0, hw0⟩ : ∃ w0, (w.alloc (.cells #[.slice ka kn kc, .int .i64 km, .int .i64 ku] 24)).alloc (.cells DD.toArray 26) = w0 := ⟨_, rfl⟩
  rw [hw0] at hK0 hD0 hb0
  have HW0 := Lib.hid hw0
  have HK0 := Lib.hid hK0
  have HD0 := Lib.hid hD0
  have Hb0 := Lib.hid hb0
  have j1 : ¬ (200 : Int) < (sn : Int) := by omega
  clear hX hNew hRNew hxl hd hP hDP hDD hK0 hD0 hb0 hw0 hsn
  go_enter Tryd.func3, Tryd.ntmps3
  go_wp2_with (first
    | (rw [HW0.out]
       refine (HSane.out _).mono ?_
       rintro e w1 ⟨rfl, hb1⟩
       have HK1 := Lib.hid (HK0.out.below hb1 HK0.out.lt)
       have HD1 := Lib.hid (HD0.out.below hb1 HD0.out.lt)
       have Hb1 := Lib.hid (Hb0.out.trans (hb1.mono Hb0.out.size))
       clear hb1)
    | (refine (HNew.out _ Hb1.out).mono ?_
       rintro e w2 ⟨rfl, hb2⟩
       have hbb := Hb1.out.trans (hb2.mono Hb1.out.size)
       have hK2 := HK1.out.below hb2 HK1.out.lt
       have hD2 := HD1.out.below hb2 HD1.out.lt
       have hN := Blk.new w2 24 #[.slice xa xn xc, .int .i64 xm, .int .i64 0]
       have hK3 := hK2.alloc (.cells #[.slice xa xn xc, .int .i64 xm, .int .i64 0] 24)
       have hD3 := hD2.alloc (.cells #[.slice xa xn xc, .int .i64 xm, .int .i64 0] 24)
       have hb3 := hbb.alloc hbb.size (.cells #[.slice xa xn xc, .int .i64 xm, .int .i64 0] 24)
       obtain ⟨w3, hw3⟩ : ∃ w3, w2.alloc (.cells #[.slice xa xn xc, .int .i64 xm, .int .i64 0] 24) = w3 := ⟨_, rfl⟩
       rw [hw3] at hN hK3 hD3 hb3
       have HW3 := Lib.hid hw3
       have HX3 := Lib.hid hN
       have HK3 := Lib.hid hK3
       have HD3 := Lib.hid hD3
       have Hb3 := Lib.hid hb3
       clear hb2 hbb hK2 hD2 hN hK3 hD3 hb3 hw3)
    | (rw [HW3.out]
       refine (HRNew.out _ Hb3.out).mono ?_
       rintro e w4 ⟨ya, yc, rfl, hsl, hb4⟩
       have hbb := Hb3.out.trans (hb4.mono Hb3.out.size)
       have hK4 := (HK3.out.below hb4 HK3.out.lt).alloc (.cells #[.slice ya xn yc, .int .i64 xm, .int .i64 0] 24)
       have hD4 := (HD3.out.below hb4 HD3.out.lt).alloc (.cells #[.slice ya xn yc, .int .i64 xm, .int .i64 0] 24)
       have hX4 := (HX3.out.below hb4 HX3.out.lt).alloc (.cells #[.slice ya xn yc, .int .i64 xm, .int .i64 0] 24)
       have hN := Blk.new w4 24 #[.slice ya xn yc, .int .i64 xm, .int .i64 0]
       have hb5 := hbb.alloc hbb.size (.cells #[.slice ya xn yc, .int .i64 xm, .int .i64 0] 24)
       have hsl5 := hsl.alloc (.cells #[.slice ya xn yc, .int .i64 xm, .int .i64 0] 24)
       obtain ⟨w5, hw5⟩ : ∃ w5, w4.alloc (.cells #[.slice ya xn yc, .int .i64 xm, .int .i64 0] 24) = w5 := ⟨_, rfl⟩
       rw [hw5] at hN hK4 hD4 hX4 hb5 hsl5
       have HW5 := Lib.hid hw5
       have HY5 := Lib.hid hN
       have HX5 := Lib.hid hX4
       have HK5 := Lib.hid hK4
       have HD5 := Lib.hid hD4
       have Hb5 := Lib.hid hb5
       have HSY := Lib.hid hsl5
       clear hb4 hbb hK4 hD4 hX4 hN hb5 hsl hsl5 hw5))
  rw [HW5.out]
  refine wp_region_held_drew (S := fun w' => Below w5.heap.size w5 w') (by kernel_rfl) ((Below.refl _ _).drew) (fun hHeld => ?_)
  refine wpAnyH_take (i := 0) (oi := { dst := some 34, op := Op.move (Operand.tmp 10), type := 28, pos := "law.go:53", after := #[], guard := none }) (v := ?_) rfl (by kernel_rfl) (by kernel_rfl) (by kernel_rfl) (fun _ _ _ h => h) (Or.inl ⟨by rfl, ?_⟩) hHeld ?_
  rotate_left
  · intro W hSw
    clear hSw
    go_simp
    try with_reducible rfl
  try simp only [Act.put, List.setIfInBounds_toArray, List.set_cons_zero, List.set_cons_succ]
  refine wpAnyH_take (i := 1) (oi := { dst := some 35, op := Op.move (Operand.tmp 12), type := 28, pos := "law.go:53", after := #[], guard := none }) (v := ?_) rfl (by kernel_rfl) (by kernel_rfl) (by kernel_rfl) (fun _ _ _ h => h) (Or.inl ⟨by rfl, ?_⟩) hHeld ?_
  rotate_left
  · intro W hSw
    clear hSw
    go_simp
    try with_reducible rfl
  try simp only [Act.put, List.setIfInBounds_toArray, List.set_cons_zero, List.set_cons_succ]
  refine wpAnyH_take (i := 2) (oi := { dst := some 36, op := Op.binOp BinOp.neq 28 (Operand.tmp 34) (Operand.tmp 35) 28, type := 4, pos := "law.go:53", after := #[{ on := 0, ground := Ground.data }, { on := 1, ground := Ground.data }], guard := none }) (v := ?_) rfl (by kernel_rfl) (by kernel_rfl) (by kernel_rfl) (fun _ _ _ h => h) (Or.inl ⟨by rfl, ?_⟩) hHeld ?_
  rotate_left
  · intro W hSw
    clear hSw
    go_simp
    try with_reducible rfl
  try simp only [Act.put, List.setIfInBounds_toArray, List.set_cons_zero, List.set_cons_succ]
  refine wpAnyH_take (i := 3) (oi := { dst := some 37, op := Op.move (Operand.tmp 36), type := 4, pos := "law.go:53", after := #[{ on := 2, ground := Ground.data }], guard := none }) (v := ?_) rfl (by kernel_rfl) (by kernel_rfl) (by kernel_rfl) (fun _ _ _ h => h) (Or.inl ⟨by rfl, ?_⟩) hHeld ?_
  rotate_left
  · intro W hSw
    clear hSw
    go_simp
    try with_reducible rfl
  try simp only [Act.put, List.setIfInBounds_toArray, List.set_cons_zero, List.set_cons_succ]
  refine wpAnyH_take (i := 4) (oi := { dst := some 38, op := Op.load 24 (Operand.tmp 9), type := 24, pos := "law.go:53", after := #[{ on := 3, ground := Ground.guard }], guard := some (3, false) }) (v := ?_) rfl (by kernel_rfl) (by kernel_rfl) (by kernel_rfl) (fun _ _ _ h => h) (Or.inl ⟨by rfl, ?_⟩) hHeld ?_
  rotate_left
  · intro W hSw
    obtain ⟨c0, c1, c2, f0, f1, f2⟩ := cells3 (HX5.out.below hSw HX5.out.lt)
    go_simp
    try with_reducible rfl
  try simp only [Act.put, List.setIfInBounds_toArray, List.set_cons_zero, List.set_cons_succ]
  refine wpAnyH_take (i := 5) (oi := { dst := some 39, op := Op.load 24 (Operand.tmp 11), type := 24, pos := "law.go:53", after := #[{ on := 3, ground := Ground.guard }], guard := some (3, false) }) (v := ?_) rfl (by kernel_rfl) (by kernel_rfl) (by kernel_rfl) (fun _ _ _ h => h) (Or.inl ⟨by rfl, ?_⟩) hHeld ?_
  rotate_left
  · intro W hSw
    obtain ⟨c0, c1, c2, f0, f1, f2⟩ := cells3 (HY5.out.below hSw HY5.out.lt)
    go_simp
    try with_reducible rfl
  try simp only [Act.put, List.setIfInBounds_toArray, List.set_cons_zero, List.set_cons_succ]
  refine wpAnyH_ready (rs := [6]) (by kernel_rfl) (by simp) ?_
  refine AllReadyH.cons (o := { dst := some 40, op := Op.call { callee := Callee.value (Operand.func 14), args := #[Operand.tmp 38, Operand.tmp 39], argTypes := #[24, 24] }, type := 4, pos := "law.go:53", after := #[{ on := 4, ground := Ground.data }, { on := 5, ground := Ground.data }, { on := 3, ground := Ground.chain }, { on := 3, ground := Ground.guard }], guard := some (3, false) }) rfl (fun K hK => ?_) AllReadyH.nil
  go_simp
  go_at_call 14
  refine (HSK.out _ _ _ (HSX.out _ (Hb5.out.trans (hHeld.mono Hb5.out.size))) (HSY.out.next hHeld)).mono ?_
  rintro e w6 ⟨rfl, hb6⟩
  have hH6 : Below w5.heap.size w5 w6 := hHeld.trans (hb6.mono hHeld.size)
  refine hK.out _ _ hH6 (fun hHeld => ?_)
  clear hb6
  clear hK K
  try simp only [Act.put, List.setIfInBounds_toArray, List.set_cons_zero, List.set_cons_succ]
  refine wpAnyH_take (i := 7) (oi := { dst := some 41, op := Op.unOp UnOp.not 4 (Operand.tmp 40), type := 4, pos := "law.go:53", after := #[{ on := 6, ground := Ground.data }, { on := 3, ground := Ground.guard }], guard := some (3, false) }) (v := ?_) rfl (by kernel_rfl) (by kernel_rfl) (by kernel_rfl) (fun _ _ _ h => h) (Or.inl ⟨by rfl, ?_⟩) hHeld ?_
  rotate_left
  · intro W hSw
    clear hSw
    go_simp
    try with_reducible rfl
  try simp only [Act.put, List.setIfInBounds_toArray, List.set_cons_zero, List.set_cons_succ]
  refine wpAnyH_take (i := 8) (oi := { dst := some 42, op := Op.pick (Operand.tmp 37) (Operand.const (Value.bool true)) (Operand.tmp 41), type := 4, pos := "law.go:53", after := #[{ on := 3, ground := Ground.data }, { on := 7, ground := Ground.data }], guard := none }) (v := ?_) rfl (by kernel_rfl) (by kernel_rfl) (by kernel_rfl) (fun _ _ _ h => h) (Or.inl ⟨by rfl, ?_⟩) hHeld ?_
  rotate_left
  · intro W hSw
    clear hSw
    go_simp
    try with_reducible rfl
  try simp only [Act.put, List.setIfInBounds_toArray, List.set_cons_zero, List.set_cons_succ]
  refine wpAnyH_take (i := 9) (oi := { dst := some 43, op := Op.move (Operand.tmp 42), type := 4, pos := "law.go:53", after := #[{ on := 8, ground := Ground.data }, { on := 6, ground := Ground.chain }], guard := none }) (v := ?_) rfl (by kernel_rfl) (by kernel_rfl) (by kernel_rfl) (fun _ _ _ h => h) (Or.inl ⟨by rfl, ?_⟩) hHeld ?_
  rotate_left
  · intro W hSw
    clear hSw
    go_simp
    try with_reducible rfl
  try simp only [Act.put, List.setIfInBounds_toArray, List.set_cons_zero, List.set_cons_succ]
  refine wpAnyH_take (i := 10) (oi := { dst := some 44, op := Op.load 26 (Operand.tmp 7), type := 26, pos := "law.go:53", after := #[{ on := 9, ground := Ground.guard }], guard := some (9, false) }) rfl (by kernel_rfl) (by kernel_rfl) (by kernel_rfl) (fun _ _ _ h => h) (yieldsIf_load_mid (by rfl) _ _ rfl (w.heap.size + 1) _ rfl DD _ (fun W h => Blk.range (HD5.out.below h HD5.out.lt)) Tryd.underlying26 rfl (by rw [HlD.out]; exact infoDg)) hHeld ?_
  try simp only [Act.put, List.setIfInBounds_toArray, List.set_cons_zero, List.set_cons_succ]
  refine wpAnyH_take (i := 12) (oi := { dst := some 46, op := Op.load 26 (Operand.tmp 7), type := 26, pos := "law.go:53", after := #[{ on := 9, ground := Ground.guard }], guard := some (9, false) }) rfl (by kernel_rfl) (by kernel_rfl) (by kernel_rfl) (fun _ _ _ h => h) (yieldsIf_load_mid (by rfl) _ _ rfl (w.heap.size + 1) _ rfl DD _ (fun W h => Blk.range (HD5.out.below h HD5.out.lt)) Tryd.underlying26 rfl (by rw [HlD.out]; exact infoDg)) hHeld ?_
  try simp only [Act.put, List.setIfInBounds_toArray, List.set_cons_zero, List.set_cons_succ]
  refine wpAnyH_ready (rs := [11]) (by kernel_rfl) (by simp) ?_
  refine AllReadyH.cons (o := { dst := some 45, op := Op.call { callee := Callee.value (Operand.func 16), args := #[Operand.tmp 44], argTypes := #[26] }, type := 33, pos := "law.go:53", after := #[{ on := 10, ground := Ground.data }, { on := 9, ground := Ground.chain }, { on := 9, ground := Ground.guard }], guard := some (9, false) }) rfl (fun K hK => ?_) AllReadyH.nil
  go_simp
  go_at_call 16
  refine (HDg.out _).mono ?_
  rintro e w7 ⟨gx, rfl, hx, _, hb7⟩
  have hH7 : Below w5.heap.size w5 w7 := hHeld.trans (hb7.mono hHeld.size)
  refine hK.out _ _ hH7 (fun hHeld => ?_)
  clear hb7
  clear hK K
  try simp only [Act.put, List.setIfInBounds_toArray, List.set_cons_zero, List.set_cons_succ]
  refine wpAnyH_ready (rs := [13]) (by kernel_rfl) (by simp) ?_
  refine AllReadyH.cons (o := { dst := some 47, op := Op.call { callee := Callee.value (Operand.func 17), args := #[Operand.tmp 46], argTypes := #[26] }, type := 33, pos := "law.go:53", after := #[{ on := 12, ground := Ground.data }, { on := 11, ground := Ground.chain }, { on := 9, ground := Ground.guard }], guard := some (9, false) }) rfl (fun K hK => ?_) AllReadyH.nil
  go_simp
  go_at_call 17
  refine (HRD.out _).mono ?_
  rintro e w8 ⟨v8, rfl, hown8, hb8⟩
  have hH8 : Below w5.heap.size w5 w8 := hHeld.trans (hb8.mono hHeld.size)
  obtain ⟨va, vc, rfl⟩ := (Sl.of_own hown8).form
  have hx8 := hx.below hb8 hx.lt
  have hs8 := Sl.of_own hown8
  rw [HdC.out] at hs8
  refine hK.out _ _ hH8 (fun hHeld => ?_)
  clear hb8 hown8 hx
  clear hK K
  try simp only [Act.put, List.setIfInBounds_toArray, List.set_cons_zero, List.set_cons_succ]
  refine wpAnyH_ready (rs := [14]) (by kernel_rfl) (by simp) ?_
  refine AllReadyH.cons (o := { dst := some 48, op := Op.call { callee := Callee.value (Operand.func 15), args := #[Operand.tmp 45, Operand.tmp 47], argTypes := #[33, 33] }, type := 4, pos := "law.go:53", after := #[{ on := 11, ground := Ground.data }, { on := 13, ground := Ground.data }, { on := 13, ground := Ground.chain }, { on := 9, ground := Ground.guard }], guard := some (9, false) }) rfl (fun K hK => ?_) AllReadyH.nil
  go_simp
  go_at_call 15
  refine (HSm.out _ _ _ _ _ (hx8.sl HdC.out (by simp)) hs8).mono ?_
  rintro e w9 ⟨rfl, kq, rfl⟩
  have hH9 : Below w5.heap.size w5 (w8.drewN kq) := blw_drewN hH8 kq
  refine hK.out _ _ hH9 (fun hHeld => ?_)
  clear hx8 hs8
  clear hK K
  try simp only [Act.put, List.setIfInBounds_toArray, List.set_cons_zero, List.set_cons_succ]
  refine wpAnyH_take (i := 15) (oi := { dst := some 49, op := Op.unOp UnOp.not 4 (Operand.tmp 48), type := 4, pos := "law.go:53", after := #[{ on := 14, ground := Ground.data }, { on := 9, ground := Ground.guard }], guard := some (9, false) }) (v := ?_) rfl (by kernel_rfl) (by kernel_rfl) (by kernel_rfl) (fun _ _ _ h => h) (Or.inl ⟨by rfl, ?_⟩) hHeld ?_
  rotate_left
  · intro W hSw
    clear hSw
    go_simp
    try with_reducible rfl
  try simp only [Act.put, List.setIfInBounds_toArray, List.set_cons_zero, List.set_cons_succ]
  refine wpAnyH_take (i := 16) (oi := { dst := some 50, op := Op.pick (Operand.tmp 43) (Operand.const (Value.bool true)) (Operand.tmp 49), type := 4, pos := "law.go:53", after := #[{ on := 9, ground := Ground.data }, { on := 15, ground := Ground.data }], guard := none }) (v := ?_) rfl (by kernel_rfl) (by kernel_rfl) (by kernel_rfl) (fun _ _ _ h => h) (Or.inl ⟨by rfl, ?_⟩) hHeld ?_
  rotate_left
  · intro W hSw
    clear hSw
    go_simp
    try with_reducible rfl
  try simp only [Act.put, List.setIfInBounds_toArray, List.set_cons_zero, List.set_cons_succ]
  refine wpAnyH_done (by kernel_rfl) ?_ _
  obtain ⟨w10, hw10⟩ : ∃ w10, w8.drewN kq = w10 := ⟨_, rfl⟩
  rw [hw10] at hHeld ⊢
  have HK10 := Lib.hid (HK5.out.below hHeld HK5.out.lt)
  have Hb10 := Lib.hid (Hb5.out.trans (hHeld.mono Hb5.out.size))
  clear hHeld hw10
  obtain ⟨c0, c1, c2, f0, f1, f2⟩ := cells3 HK10.out
  go_wp2_with (first
    | (with_reducible refine Calls.mono (HF.out _) ?_
       rintro e w11 ⟨rfl, hb11⟩
       have HK11 := Lib.hid (HK10.out.below hb11 HK10.out.lt)
       have Hb11 := Lib.hid (Hb10.out.trans (hb11.mono Hb10.out.size))
       clear hb11 c0 c1 c2 f0 f1 f2
       obtain ⟨c0, c1, c2, f0, f1, f2⟩ := cells3 HK11.out)
    | (with_reducible refine Calls.mono (HVal.out _) ?_
       rintro e w16 ⟨rfl, hb16⟩
       have HK16 := Lib.hid (HK11.out.below hb16 HK11.out.lt)
       have Hb16 := Lib.hid (Hb11.out.trans (hb16.mono Hb11.out.size))
       clear hb16 c0 c1 c2 f0 f1 f2
       obtain ⟨c0, c1, c2, f0, f1, f2⟩ := cells3 HK16.out))
  go_ret
  exact ⟨rfl, Hb16.out⟩

set_option maxRecDepth 100000 in
set_option maxHeartbeats 1000000 in
theorem ks_long (D : Array Value) (sa : Option Addr) (sn sc : Nat) (smany : Int) (hsn : ¬ sn ≤ 200) (ka : Option Addr) (kn kc : Nat) (km ku : Int) (w : World) :
    Calls Tryd.prog 3 #[.slice sa sn sc, .int .i64 smany, .agg #[.slice ka kn kc, .int .i64 km, .int .i64 ku], .agg D] w fun e w' => e = .returned (.bool true) ∧ Below w.heap.size w w' := by
  have HSane := Lib.hid (fun W => sane_any W)
  have Hb0 := Lib.hid ((below_alloc w (.cells #[.slice ka kn kc, .int .i64 km, .int .i64 ku] 24)).alloc (by simp) (.cells D 26))
  have j1 : (200 : Int) < (sn : Int) := by omega
  clear hsn
  go_enter Tryd.func3, Tryd.ntmps3
  go_wp2_with (first
    | (refine (HSane.out _).mono ?_
       rintro e w1 ⟨rfl, hb1⟩
       have Hb1 := Lib.hid (Hb0.out.trans (hb1.mono Hb0.out.size))
       clear hb1))
  go_ret
  exact ⟨rfl, Hb1.out⟩

theorem ks_any (d : List UInt8) (hd : d.length = 32) (seed : List UInt8) (sn : Nat) (hs : seed.length = sn) (sa : Option Addr) (sc : Nat) (smany : Int) (kseed : List UInt8) (kn : Nat) (hkn : kseed.length = kn) (ka : Option Addr) (kc : Nat) (km ku : Int)
    (w : World) (hy : Sl w 1 (.slice sa sn sc) sn (bc seed)) (hk : Sl w 1 (.slice ka kn kc) kn (bc kseed)) (hT : Tabs w) :
    Calls Tryd.prog 3 #[.slice sa sn sc, .int .i64 smany, .agg #[.slice ka kn kc, .int .i64 km, .int .i64 ku], arrV d] w fun e w' => e = .returned (.bool true) ∧ Below w.heap.size w w' := by
  by_cases hsn : sn ≤ 200
  · obtain ⟨XL, xa, xn, xc, xm, xe, hxl, hX, hNew, hRNew⟩ : ∃ (XL : List UInt8) (xa : Option Addr) (xn xc : Nat) (xm xe : Int), XL.length = xn ∧ Sl w 1 (.slice xa xn xc) xn (bc XL) ∧
        (∀ W, Below w.heap.size w W → Calls Tryd.prog 12 #[.slice sa sn sc, .int .i64 smany] W fun e w' => e = .returned (.tuple #[.agg #[.slice xa xn xc, .int .i64 xm, .int .i64 0], .int .i64 xe]) ∧ Below W.heap.size W w') ∧
        (∀ W, Below w.heap.size w W → Calls Tryd.prog 13 #[.slice sa sn sc, .int .i64 smany] W fun e w' => ∃ ya yc, e = .returned (.tuple #[.agg #[.slice ya xn yc, .int .i64 xm, .int .i64 0], .int .i64 xe]) ∧ Sl w' 1 (.slice ya xn yc) xn (bc XL) ∧ Below W.heap.size W w') := by
      cases hb : isKeyB sn smany 0
      · refine ⟨[], none, 0, 0, 0, 320, rfl, sl_nil w 1, fun W _ => ?_, fun W hbw => ?_⟩
        · have := new_any sa sn sc smany W
          rw [hb] at this
          exact this
        · have := rnew_any seed sn hs (by omega) sa sc smany W (hy.next hbw)
          rw [hb] at this
          refine this.mono ?_
          rintro e w' ⟨a', c', he, _, hbw'⟩
          exact ⟨none, 0, he, sl_nil w' 1, hbw'⟩
      · refine ⟨seed, sa, sn, sc, smany, 0, hs, hy, fun W _ => ?_, fun W hbw => ?_⟩
        · have := new_any sa sn sc smany W
          rw [hb] at this
          exact this
        · have := rnew_any seed sn hs (by omega) sa sc smany W (hy.next hbw)
          rw [hb] at this
          refine this.mono ?_
          rintro e w' ⟨a', c', he, hsl, hbw'⟩
          exact ⟨a', c', he, hsl, hbw'⟩
    cases hv : isKeyB kn km ku
    · have hPub := fun W (_ : Below w.heap.size w W) => public_bad ka kn kc km ku hv W
      have hRPub := fun W (_ : Below w.heap.size w W) => rpublic_bad ka kn kc km ku hv W
      rw [← zb_arr] at hPub hRPub
      cases hf : decide (km ≤ 2 ∧ kn ≤ 100 ∧ 0 ≤ 300)
      · exact ks_b d hd sa sn sc smany hsn XL xa xn xc xm xe hxl ka kn kc km ku zb rfl 320 w hX hNew hRNew hPub hRPub hf hv
      · exact ks_a d hd sa sn sc smany hsn XL xa xn xc xm xe hxl ka kn kc km ku zb rfl 320 w hX hNew hRNew hPub hRPub hf
    · cases hf : decide (km ≤ 2 ∧ kn ≤ 100 ∧ 0 ≤ 300)
      · exact ks_c d hd sa sn sc smany hsn XL xa xn xc xm xe hxl ka kn kc km ku zb rfl 320 w hX hNew hRNew hf hv
      · have hf' := of_decide_eq_true hf
        have hk9 := isKeyB_t hv
        obtain ⟨m, rfl⟩ : ∃ m : Nat, km = (m : Int) := ⟨km.toNat, by omega⟩
        have hm : m = 1 ∨ m = 2 := by omega
        exact ks_a d hd sa sn sc smany hsn XL xa xn xc xm xe hxl ka kn kc m ku (pub kseed m) (pub_len _ _) 0 w hX hNew hRNew (fun W hb => public_ok kseed kn hkn ka kc m hm ku hv W (hk.next hb) (hT.next hb)) (fun W hb => rpublic_ok kseed kn hkn ka kc m hm ku hv W (hk.next hb)) hf
  · exact ks_long (bc d).toArray sa sn sc smany hsn ka kn kc km ku w
end Go.Proofs.YtiloaheaglcpbaaDoor
