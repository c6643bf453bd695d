/- Digests: climbing in the reference, one step. -/
import Derived.Test.YtiloaheaglcpbaaDoorSgQ2
import Derived.Test.YtiloaheaglcpbaaDoorSgT4
namespace Go.Proofs.YtiloaheaglcpbaaDoor
open Go.RowKit

set_option maxRecDepth 100000 in
set_option maxHeartbeats 1000000 in
theorem rclb_left (d : List UInt8) (hd : d.length = 32) (at_ n L m g po cap : Nat) (hL : L = m + 1) (hm9 : m ≤ 256) (h2 : 2 ≤ n) (hx : n ≤ 256) (_han : at_ < n) (hmc : m + 1 ≤ cap) (hside : at_ < hf n) (C PV : List UInt8) (hC : C.length = 32) (hPV : PV.length = 32) (w : World) (hr : w.rangeAt g (po + m * 32) (bc PV))
    (hIH : ∀ W, Below w.heap.size w W → Calls Tryd.prog 61 #[arrV d, .int .i64 (at_ : Nat), .int .i64 ((hf n) : Nat), .slice (some ⟨g, po, none⟩) m cap] W fun e w' => e = .returned (arrV C) ∧ Below W.heap.size W w') :
    Calls Tryd.prog 61 #[arrV d, .int .i64 (at_ : Int), .int .i64 (n : Int), .slice (some ⟨g, po, none⟩) L cap] w fun e w' => e = .returned (arrV (nd C PV)) ∧ Below w.heap.size w w' := by
  have hlt : g < w.heap.size := by
    have := hr 0 _ (by rw [bt_cell (d := PV) (k := 0) (by omega)])
    exact World.block_lt_of_cell? w _ this
  have hF := hf_facts n h2
  have HH := Lib.hid (fun W => half_any n h2 hx W)
  have HC := Lib.hid hIH
  have HN := Lib.hid (fun W => rnode_any C PV hC hPV W)
  have Hl1 := Lib.hid (show (bc (nd C PV)).length = 32 by rw [bc_len, nd_len])
  have Ho1 := Lib.hid (bc_one (nd C PV))
  have HlD := Lib.hid (show (bc d).length = 32 by rw [bc_len, hd])
  have HlP := Lib.hid (show (bc PV).length = 32 by rw [bc_len, hPV])
  have HoP := Lib.hid (bc_one PV)
  unfold arrV at HC HN
  obtain ⟨D1, hD1⟩ : ∃ D1, bc (nd C PV) = D1 := ⟨_, rfl⟩
  have HA := Lib.hid (show arrV (nd C PV) = .agg D1.toArray by unfold arrV; rw [hD1])
  rw [hD1] at HN Hl1 Ho1
  obtain ⟨D, hD⟩ : ∃ D, bc d = D := ⟨_, rfl⟩
  obtain ⟨VP, hVP⟩ : ∃ D, bc PV = D := ⟨_, rfl⟩
  obtain ⟨VC, hVC⟩ : ∃ D, bc C = D := ⟨_, rfl⟩
  rw [hD] at HC HlD
  rw [hVP] at HN HlP HoP hr
  rw [hVC] at HC HN
  have HAd := Lib.hid (show arrV d = .agg D.toArray by unfold arrV; rw [hD])
  obtain ⟨kk, hkk⟩ : ∃ kk, hf n = kk := ⟨_, rfl⟩
  rw [hkk] at HH HC hside hF
  have i1 : ((n : Int) == 1) = false := by simp; omega
  have i2 : (at_ : Int) < (kk : Int) := by omega
  have s1 : IntKind.i64.wrap ((L : Int) - 1) = (m : Int) := by rw [IntKind.wrap_i64]; omega
  have i3 : (m : Int) ≤ (cap : Int) := by omega
  have i4 : (m : Int) < (L : Int) := by omega
  have q4 := ((Blk.new w 26 D.toArray).alloc (.cells #[.int .u8 0, .int .u8 0, .int .u8 0, .int .u8 0, .int .u8 0, .int .u8 0, .int .u8 0, .int .u8 0, .int .u8 0, .int .u8 0, .int .u8 0, .int .u8 0, .int .u8 0, .int .u8 0, .int .u8 0, .int .u8 0, .int .u8 0, .int .u8 0, .int .u8 0, .int .u8 0, .int .u8 0, .int .u8 0, .int .u8 0, .int .u8 0, .int .u8 0, .int .u8 0, .int .u8 0, .int .u8 0, .int .u8 0, .int .u8 0, .int .u8 0, .int .u8 0] 26)).alloc (.cells #[.int .u8 0, .int .u8 0, .int .u8 0, .int .u8 0, .int .u8 0, .int .u8 0, .int .u8 0, .int .u8 0, .int .u8 0, .int .u8 0, .int .u8 0, .int .u8 0, .int .u8 0, .int .u8 0, .int .u8 0, .int .u8 0, .int .u8 0, .int .u8 0, .int .u8 0, .int .u8 0, .int .u8 0, .int .u8 0, .int .u8 0, .int .u8 0, .int .u8 0, .int .u8 0, .int .u8 0, .int .u8 0, .int .u8 0, .int .u8 0, .int .u8 0, .int .u8 0] 26)
  have q8 := (Blk.new (w.alloc (.cells D.toArray 26)) 26 #[.int .u8 0, .int .u8 0, .int .u8 0, .int .u8 0, .int .u8 0, .int .u8 0, .int .u8 0, .int .u8 0, .int .u8 0, .int .u8 0, .int .u8 0, .int .u8 0, .int .u8 0, .int .u8 0, .int .u8 0, .int .u8 0, .int .u8 0, .int .u8 0, .int .u8 0, .int .u8 0, .int .u8 0, .int .u8 0, .int .u8 0, .int .u8 0, .int .u8 0, .int .u8 0, .int .u8 0, .int .u8 0, .int .u8 0, .int .u8 0, .int .u8 0, .int .u8 0]).alloc (.cells #[.int .u8 0, .int .u8 0, .int .u8 0, .int .u8 0, .int .u8 0, .int .u8 0, .int .u8 0, .int .u8 0, .int .u8 0, .int .u8 0, .int .u8 0, .int .u8 0, .int .u8 0, .int .u8 0, .int .u8 0, .int .u8 0, .int .u8 0, .int .u8 0, .int .u8 0, .int .u8 0, .int .u8 0, .int .u8 0, .int .u8 0, .int .u8 0, .int .u8 0, .int .u8 0, .int .u8 0, .int .u8 0, .int .u8 0, .int .u8 0, .int .u8 0, .int .u8 0] 26)
  have q10 := Blk.new ((w.alloc (.cells D.toArray 26)).alloc (.cells #[.int .u8 0, .int .u8 0, .int .u8 0, .int .u8 0, .int .u8 0, .int .u8 0, .int .u8 0, .int .u8 0, .int .u8 0, .int .u8 0, .int .u8 0, .int .u8 0, .int .u8 0, .int .u8 0, .int .u8 0, .int .u8 0, .int .u8 0, .int .u8 0, .int .u8 0, .int .u8 0, .int .u8 0, .int .u8 0, .int .u8 0, .int .u8 0, .int .u8 0, .int .u8 0, .int .u8 0, .int .u8 0, .int .u8 0, .int .u8 0, .int .u8 0, .int .u8 0] 26)) 26 #[.int .u8 0, .int .u8 0, .int .u8 0, .int .u8 0, .int .u8 0, .int .u8 0, .int .u8 0, .int .u8 0, .int .u8 0, .int .u8 0, .int .u8 0, .int .u8 0, .int .u8 0, .int .u8 0, .int .u8 0, .int .u8 0, .int .u8 0, .int .u8 0, .int .u8 0, .int .u8 0, .int .u8 0, .int .u8 0, .int .u8 0, .int .u8 0, .int .u8 0, .int .u8 0, .int .u8 0, .int .u8 0, .int .u8 0, .int .u8 0, .int .u8 0, .int .u8 0]
  have hbw := ((below_alloc w (.cells D.toArray 26)).alloc (by simp) (.cells #[.int .u8 0, .int .u8 0, .int .u8 0, .int .u8 0, .int .u8 0, .int .u8 0, .int .u8 0, .int .u8 0, .int .u8 0, .int .u8 0, .int .u8 0, .int .u8 0, .int .u8 0, .int .u8 0, .int .u8 0, .int .u8 0, .int .u8 0, .int .u8 0, .int .u8 0, .int .u8 0, .int .u8 0, .int .u8 0, .int .u8 0, .int .u8 0, .int .u8 0, .int .u8 0, .int .u8 0, .int .u8 0, .int .u8 0, .int .u8 0, .int .u8 0, .int .u8 0] 26)).alloc (by simp; omega) (.cells #[.int .u8 0, .int .u8 0, .int .u8 0, .int .u8 0, .int .u8 0, .int .u8 0, .int .u8 0, .int .u8 0, .int .u8 0, .int .u8 0, .int .u8 0, .int .u8 0, .int .u8 0, .int .u8 0, .int .u8 0, .int .u8 0, .int .u8 0, .int .u8 0, .int .u8 0, .int .u8 0, .int .u8 0, .int .u8 0, .int .u8 0, .int .u8 0, .int .u8 0, .int .u8 0, .int .u8 0, .int .u8 0, .int .u8 0, .int .u8 0, .int .u8 0, .int .u8 0] 26)
  have hbv := (below_alloc w (.cells D.toArray 26)).alloc (by simp) (.cells #[.int .u8 0, .int .u8 0, .int .u8 0, .int .u8 0, .int .u8 0, .int .u8 0, .int .u8 0, .int .u8 0, .int .u8 0, .int .u8 0, .int .u8 0, .int .u8 0, .int .u8 0, .int .u8 0, .int .u8 0, .int .u8 0, .int .u8 0, .int .u8 0, .int .u8 0, .int .u8 0, .int .u8 0, .int .u8 0, .int .u8 0, .int .u8 0, .int .u8 0, .int .u8 0, .int .u8 0, .int .u8 0, .int .u8 0, .int .u8 0, .int .u8 0, .int .u8 0] 26)
  simp only [World.size_alloc] at q8 q10
  have Hr := Lib.hid (rangeAt_below hr hbv hlt)
  have H4 := Lib.hid q4
  have H8 := Lib.hid q8
  have H10 := Lib.hid q10
  have Hbw := Lib.hid hbw
  clear q4 q8 q10 hbw hbv hr hlt hd hC hPV hD1 hD hVP hVC hIH hkk hside hF h2 hx hL hm9 hmc _han
  rw [HAd.out, HA.out]
  go_enter Tryd.func61, Tryd.ntmps61
  go_wp2_with (first
    | (refine (HH.out _).mono ?_
       rintro e wh ⟨rfl, rfl⟩)
    | (refine wpList_load_mid rfl 26 _ rfl g (po + m * 32) ?_ VP _ Hr.out Tryd.underlying26 rfl (by rw [HlP.out]; exact infoDg) ?_; (first | rfl | (simp; done)))
    | (refine wpList_store_row rfl 26 _ _ rfl (w.heap.size + 1 + 1) VP.toArray rfl rfl 26 _ H10.out (by rw [List.size_toArray, HlP.out]; exact infoDg) (show 32 = VP.length from HlP.out.symm) (all_oneCell_toArray HoP.out) ?_))
  have q4 := H4.out.farRow (show w.heap.size ≠ w.heap.size + 1 + 1 by omega) VP.toArray
  have q8 := H8.out.farRow (show w.heap.size + 1 ≠ w.heap.size + 1 + 1 by omega) VP.toArray
  have q10 := H10.out.setRow VP.toArray
  have qb := setRow_below Hbw.out (show w.heap.size ≤ w.heap.size + 1 + 1 by omega) VP.toArray
  obtain ⟨w4, hw4⟩ : ∃ w4, World.setRow (((w.alloc (.cells D.toArray 26)).alloc (.cells #[.int .u8 0, .int .u8 0, .int .u8 0, .int .u8 0, .int .u8 0, .int .u8 0, .int .u8 0, .int .u8 0, .int .u8 0, .int .u8 0, .int .u8 0, .int .u8 0, .int .u8 0, .int .u8 0, .int .u8 0, .int .u8 0, .int .u8 0, .int .u8 0, .int .u8 0, .int .u8 0, .int .u8 0, .int .u8 0, .int .u8 0, .int .u8 0, .int .u8 0, .int .u8 0, .int .u8 0, .int .u8 0, .int .u8 0, .int .u8 0, .int .u8 0, .int .u8 0] 26)).alloc (.cells #[.int .u8 0, .int .u8 0, .int .u8 0, .int .u8 0, .int .u8 0, .int .u8 0, .int .u8 0, .int .u8 0, .int .u8 0, .int .u8 0, .int .u8 0, .int .u8 0, .int .u8 0, .int .u8 0, .int .u8 0, .int .u8 0, .int .u8 0, .int .u8 0, .int .u8 0, .int .u8 0, .int .u8 0, .int .u8 0, .int .u8 0, .int .u8 0, .int .u8 0, .int .u8 0, .int .u8 0, .int .u8 0, .int .u8 0, .int .u8 0, .int .u8 0, .int .u8 0] 26)) (w.heap.size + 1 + 1) VP.toArray = w4 := ⟨_, rfl⟩
  rw [hw4] at q4 q8 q10 qb ⊢
  clear hw4 H4 H8 H10 Hbw Hr
  have r4 := q4.range
  have r10 := q10.range
  have t8 := there_blk q8 (n := 32) rfl
  have l10 := q10.lt
  clear q4 q8 q10
  refine wp_region_held_drew (S := fun W => W.rangeAt w.heap.size 0 D ∧ W.rangeAt (w.heap.size + 1 + 1) 0 VP ∧ Below w.heap.size w W ∧ w.heap.size + 3 ≤ W.heap.size ∧ W.there (w.heap.size + 1) 0 32) (by kernel_rfl) ⟨r4, r10, qb.drew, l10, by simp only [World.there_drew]; exact t8⟩ (fun hHeld => ?_)
  clear r4 r10 t8 l10 qb
  refine wpAnyH_take (i := 0) (oi := { dst := some 26, op := Op.load 26 (Operand.tmp 4), type := 26, pos := "ref.go:150", after := #[], guard := none }) rfl (by kernel_rfl) (by kernel_rfl) (by kernel_rfl) (fun _ _ _ h => h) (yieldsIf_load_mid (by rfl) _ _ rfl w.heap.size _ rfl D _ (fun W h => h.1) Tryd.underlying26 rfl (by first | (rw [HlD.out]; exact infoDg) | (rw [HlP.out]; exact infoDg))) hHeld ?_
  try simp only [Act.put, List.setIfInBounds_toArray, List.set_cons_zero, List.set_cons_succ]
  refine wpAnyH_take (i := 1) (oi := { dst := some 27, op := Op.move (Operand.tmp 1), type := 3, pos := "ref.go:150", after := #[], guard := none }) (v := ?_) rfl (by kernel_rfl) (by kernel_rfl) (by kernel_rfl) (fun _ _ _ h => h) (Or.inl ⟨by rfl, ?_⟩) hHeld ?_
  rotate_left
  · intro W hSw
    clear hSw
    go_simp
    try with_reducible rfl
  try simp only [Act.put, List.setIfInBounds_toArray, List.set_cons_zero, List.set_cons_succ]
  refine wpAnyH_take (i := 2) (oi := { dst := some 28, op := Op.move (Operand.tmp 9), type := 3, pos := "ref.go:150", after := #[], guard := none }) (v := ?_) rfl (by kernel_rfl) (by kernel_rfl) (by kernel_rfl) (fun _ _ _ h => h) (Or.inl ⟨by rfl, ?_⟩) hHeld ?_
  rotate_left
  · intro W hSw
    clear hSw
    go_simp
    try with_reducible rfl
  try simp only [Act.put, List.setIfInBounds_toArray, List.set_cons_zero, List.set_cons_succ]
  refine wpAnyH_take (i := 3) (oi := { dst := some 29, op := Op.move (Operand.tmp 3), type := 40, pos := "ref.go:150", after := #[], guard := none }) (v := ?_) rfl (by kernel_rfl) (by kernel_rfl) (by kernel_rfl) (fun _ _ _ h => h) (Or.inl ⟨by rfl, ?_⟩) hHeld ?_
  rotate_left
  · intro W hSw
    clear hSw
    go_simp
    try with_reducible rfl
  try simp only [Act.put, List.setIfInBounds_toArray, List.set_cons_zero, List.set_cons_succ]
  refine wpAnyH_take (i := 4) (oi := { dst := some 30, op := Op.move (Operand.tmp 3), type := 40, pos := "ref.go:150", after := #[], guard := none }) (v := ?_) rfl (by kernel_rfl) (by kernel_rfl) (by kernel_rfl) (fun _ _ _ h => h) (Or.inl ⟨by rfl, ?_⟩) hHeld ?_
  rotate_left
  · intro W hSw
    clear hSw
    go_simp
    try with_reducible rfl
  try simp only [Act.put, List.setIfInBounds_toArray, List.set_cons_zero, List.set_cons_succ]
  refine wpAnyH_take (i := 5) (oi := { dst := some 31, op := Op.call { callee := Callee.builtin Builtin.len, args := #[Operand.tmp 30], argTypes := #[40] }, type := 3, pos := "ref.go:150", after := #[{ on := 4, ground := Ground.data }], guard := none }) (v := ?_) rfl (by kernel_rfl) (by kernel_rfl) (by kernel_rfl) (fun _ _ _ h => h) (Or.inl ⟨by rfl, ?_⟩) hHeld ?_
  rotate_left
  · intro W hSw
    clear hSw
    go_simp
    try with_reducible rfl
  try simp only [Act.put, List.setIfInBounds_toArray, List.set_cons_zero, List.set_cons_succ]
  refine wpAnyH_take (i := 6) (oi := { dst := some 32, op := Op.binOp BinOp.sub 3 (Operand.tmp 31) (Operand.const (Value.int IntKind.i64 1)) 3, type := 3, pos := "ref.go:150", after := #[{ on := 5, ground := Ground.data }], guard := none }) (v := ?_) rfl (by kernel_rfl) (by kernel_rfl) (by kernel_rfl) (fun _ _ _ h => h) (Or.inl ⟨by rfl, ?_⟩) hHeld ?_
  rotate_left
  · intro W hSw
    clear hSw
    go_simp
    try with_reducible rfl
  try simp only [Act.put, List.setIfInBounds_toArray, List.set_cons_zero, List.set_cons_succ]
  refine wpAnyH_take (i := 7) (oi := { dst := some 33, op := Op.slice 40 (Operand.tmp 29) none (some (Operand.tmp 32)) none, type := 40, pos := "ref.go:150", after := #[{ on := 3, ground := Ground.data }, { on := 6, ground := Ground.data }], guard := none }) (v := ?_) rfl (by kernel_rfl) (by kernel_rfl) (by kernel_rfl) (fun _ _ _ h => h) (Or.inl ⟨by rfl, ?_⟩) hHeld ?_
  rotate_left
  · intro W hSw
    clear hSw
    go_simp
    try with_reducible rfl
  try simp only [Act.put, List.setIfInBounds_toArray, List.set_cons_zero, List.set_cons_succ]
  refine wpAnyH_take (i := 9) (oi := { dst := some 35, op := Op.load 26 (Operand.tmp 10), type := 26, pos := "ref.go:150", after := #[], guard := none }) rfl (by kernel_rfl) (by kernel_rfl) (by kernel_rfl) (fun _ _ _ h => h) (yieldsIf_load_mid (by rfl) _ _ rfl (w.heap.size + 1 + 1) _ rfl VP _ (fun W h => h.2.1) Tryd.underlying26 rfl (by first | (rw [HlD.out]; exact infoDg) | (rw [HlP.out]; exact infoDg))) hHeld ?_
  try simp only [Act.put, List.setIfInBounds_toArray, List.set_cons_zero, List.set_cons_succ]
  refine wpAnyH_ready (rs := [8]) (by kernel_rfl) (by simp) ?_
  refine AllReadyH.cons (o := { dst := some 34, op := Op.call { callee := Callee.value (Operand.func 61), args := #[Operand.tmp 26, Operand.tmp 27, Operand.tmp 28, Operand.tmp 33], argTypes := #[26, 3, 3, 40] }, type := 26, pos := "ref.go:150", after := #[{ on := 0, ground := Ground.data }, { on := 1, ground := Ground.data }, { on := 2, ground := Ground.data }, { on := 7, ground := Ground.data }], guard := none }) rfl (fun K hK => ?_) AllReadyH.nil
  go_simp
  go_at_call 61
  refine (HC.out _ hHeld.2.2.1).mono ?_
  rintro e w5 ⟨rfl, hb5⟩
  refine hK.out _ _ ⟨rangeAt_below hHeld.1 hb5 (by have := hHeld.2.2.2.1; omega), rangeAt_below hHeld.2.1 hb5 (by have := hHeld.2.2.2.1; omega), hHeld.2.2.1.trans (hb5.mono hHeld.2.2.1.size), Nat.le_trans hHeld.2.2.2.1 hb5.size, there_below hHeld.2.2.2.2 hb5 (by have := hHeld.2.2.2.1; omega)⟩ (fun hHeld => ?_)
  clear hb5
  clear hK K
  try simp only [Act.put, List.setIfInBounds_toArray, List.set_cons_zero, List.set_cons_succ]
  refine wpAnyH_ready (rs := [10]) (by kernel_rfl) (by simp) ?_
  refine AllReadyH.cons (o := { dst := some 36, op := Op.call { callee := Callee.value (Operand.func 58), args := #[Operand.tmp 34, Operand.tmp 35], argTypes := #[26, 26] }, type := 26, pos := "ref.go:150", after := #[{ on := 8, ground := Ground.data }, { on := 9, ground := Ground.data }, { on := 8, ground := Ground.chain }], guard := none }) rfl (fun K hK => ?_) AllReadyH.nil
  go_simp
  go_at_call 58
  refine (HN.out _).mono ?_
  rintro e w6 ⟨rfl, hb6⟩
  refine hK.out _ _ ⟨rangeAt_below hHeld.1 hb6 (by have := hHeld.2.2.2.1; omega), rangeAt_below hHeld.2.1 hb6 (by have := hHeld.2.2.2.1; omega), hHeld.2.2.1.trans (hb6.mono hHeld.2.2.1.size), Nat.le_trans hHeld.2.2.2.1 hb6.size, there_below hHeld.2.2.2.2 hb6 (by have := hHeld.2.2.2.1; omega)⟩ (fun hHeld => ?_)
  have ht := hHeld.2.2.2.2
  clear hb6
  clear hK K
  try simp only [Act.put, List.setIfInBounds_toArray, List.set_cons_zero, List.set_cons_succ]
  refine wpAnyH_ready (rs := [11]) (by kernel_rfl) (by simp) ?_
  refine AllReadyH.cons (o := { dst := none, op := Op.store 26 (Operand.tmp 8) (Operand.tmp 36), type := 0, pos := "ref.go:150", after := #[{ on := 10, ground := Ground.data }, { on := 10, ground := Ground.chain }, { on := 0, ground := Ground.phase }, { on := 1, ground := Ground.phase }, { on := 2, ground := Ground.phase }, { on := 3, ground := Ground.phase }, { on := 4, ground := Ground.phase }, { on := 5, ground := Ground.phase }, { on := 6, ground := Ground.phase }, { on := 7, ground := Ground.phase }, { on := 8, ground := Ground.phase }, { on := 9, ground := Ground.phase }, { on := 10, ground := Ground.phase }], guard := none }) rfl (fun K hK => ?_) AllReadyH.nil
  rw [if_pos (by rfl)]
  refine wp_store_mid 26 _ _ rfl (w.heap.size + 1) 0 D1.toArray rfl rfl (by rw [show D1.toArray.size = 32 from Hl1.out]; exact ht) (by rw [List.size_toArray, Hl1.out]; exact infoDg) (all_oneCell_toArray Ho1.out) ?_
  refine hK.out _ _ ⟨World.rangeAt_setCells_apart hHeld.1 _ _ _ (Or.inl (by omega)), World.rangeAt_setCells_apart hHeld.2.1 _ _ _ (Or.inl (by omega)), setCells_below _ _ _ hHeld.2.2.1 (by omega), Nat.le_trans hHeld.2.2.2.1 (setCells_below (B := 0) _ _ _ (Below.refl 0 _) (Nat.zero_le _)).size, World.there_setCells ht _ _ _⟩ (fun hHeld => ?_)
  have Hr := Lib.hid (World.rangeAt_setCells_same _ (w.heap.size + 1) 0 D1 (by rw [Hl1.out]; exact ht))
  have Hbz := Lib.hid hHeld.2.2.1
  clear hHeld ht
  clear hK K
  refine wpAnyH_done (by kernel_rfl) ?_ _
  go_wp2_with fail
  refine bodyPost_ret (v := .agg D1.toArray) (results_cell_mid rfl _ _ (w.heap.size + 1) D1 _ rfl Hr.out Tryd.underlying26 rfl (by rw [Hl1.out]; exact infoDg)) rfl ?_
  exact ⟨rfl, Hbz.out⟩

set_option maxRecDepth 100000 in
set_option maxHeartbeats 1000000 in
theorem rclb_right (d : List UInt8) (hd : d.length = 32) (at_ n L m g po cap : Nat) (hL : L = m + 1) (hm9 : m ≤ 256) (h2 : 2 ≤ n) (hx : n ≤ 256) (han : at_ < n) (hmc : m + 1 ≤ cap) (hside : ¬ at_ < hf n) (C PV : List UInt8) (hC : C.length = 32) (hPV : PV.length = 32) (w : World) (hr : w.rangeAt g (po + m * 32) (bc PV))
    (hIH : ∀ W, Below w.heap.size w W → Calls Tryd.prog 61 #[arrV d, .int .i64 ((at_ - hf n) : Nat), .int .i64 ((n - hf n) : Nat), .slice (some ⟨g, po, none⟩) m cap] W fun e w' => e = .returned (arrV C) ∧ Below W.heap.size W w') :
    Calls Tryd.prog 61 #[arrV d, .int .i64 (at_ : Int), .int .i64 (n : Int), .slice (some ⟨g, po, none⟩) L cap] w fun e w' => e = .returned (arrV (nd PV C)) ∧ Below w.heap.size w w' := by
  have hlt : g < w.heap.size := by
    have := hr 0 _ (by rw [bt_cell (d := PV) (k := 0) (by omega)])
    exact World.block_lt_of_cell? w _ this
  have hF := hf_facts n h2
  have HH := Lib.hid (fun W => half_any n h2 hx W)
  have HC := Lib.hid hIH
  have HN := Lib.hid (fun W => rnode_any PV C hPV hC W)
  have Hl1 := Lib.hid (show (bc (nd PV C)).length = 32 by rw [bc_len, nd_len])
  have Ho1 := Lib.hid (bc_one (nd PV C))
  have HlD := Lib.hid (show (bc d).length = 32 by rw [bc_len, hd])
  have HlP := Lib.hid (show (bc PV).length = 32 by rw [bc_len, hPV])
  have HoP := Lib.hid (bc_one PV)
  unfold arrV at HC HN
  obtain ⟨D1, hD1⟩ : ∃ D1, bc (nd PV C) = D1 := ⟨_, rfl⟩
  have HA := Lib.hid (show arrV (nd PV C) = .agg D1.toArray by unfold arrV; rw [hD1])
  rw [hD1] at HN Hl1 Ho1
  obtain ⟨D, hD⟩ : ∃ D, bc d = D := ⟨_, rfl⟩
  obtain ⟨VP, hVP⟩ : ∃ D, bc PV = D := ⟨_, rfl⟩
  obtain ⟨VC, hVC⟩ : ∃ D, bc C = D := ⟨_, rfl⟩
  rw [hD] at HC HlD
  rw [hVP] at HN HlP HoP hr
  rw [hVC] at HC HN
  have HAd := Lib.hid (show arrV d = .agg D.toArray by unfold arrV; rw [hD])
  obtain ⟨kk, hkk⟩ : ∃ kk, hf n = kk := ⟨_, rfl⟩
  rw [hkk] at HH HC hside hF
  have i1 : ((n : Int) == 1) = false := by simp; omega
  have i2 : ¬ (at_ : Int) < (kk : Int) := by omega
  have s1 : IntKind.i64.wrap ((L : Int) - 1) = (m : Int) := by rw [IntKind.wrap_i64]; omega
  have i3 : (m : Int) ≤ (cap : Int) := by omega
  have i4 : (m : Int) < (L : Int) := by omega
  have s2 : IntKind.i64.wrap ((at_ : Int) - (kk : Int)) = ((at_ - kk : Nat) : Int) := by rw [IntKind.wrap_i64]; omega
  have s3 : IntKind.i64.wrap ((n : Int) - (kk : Int)) = ((n - kk : Nat) : Int) := by rw [IntKind.wrap_i64]; omega
  obtain ⟨a2, ha2⟩ : ∃ a2, at_ - kk = a2 := ⟨_, rfl⟩
  obtain ⟨n2, hn2⟩ : ∃ n2, n - kk = n2 := ⟨_, rfl⟩
  rw [ha2] at s2 HC
  rw [hn2] at s3 HC
  clear ha2 hn2
  have q4 := ((Blk.new w 26 D.toArray).alloc (.cells #[.int .u8 0, .int .u8 0, .int .u8 0, .int .u8 0, .int .u8 0, .int .u8 0, .int .u8 0, .int .u8 0, .int .u8 0, .int .u8 0, .int .u8 0, .int .u8 0, .int .u8 0, .int .u8 0, .int .u8 0, .int .u8 0, .int .u8 0, .int .u8 0, .int .u8 0, .int .u8 0, .int .u8 0, .int .u8 0, .int .u8 0, .int .u8 0, .int .u8 0, .int .u8 0, .int .u8 0, .int .u8 0, .int .u8 0, .int .u8 0, .int .u8 0, .int .u8 0] 26)).alloc (.cells #[.int .u8 0, .int .u8 0, .int .u8 0, .int .u8 0, .int .u8 0, .int .u8 0, .int .u8 0, .int .u8 0, .int .u8 0, .int .u8 0, .int .u8 0, .int .u8 0, .int .u8 0, .int .u8 0, .int .u8 0, .int .u8 0, .int .u8 0, .int .u8 0, .int .u8 0, .int .u8 0, .int .u8 0, .int .u8 0, .int .u8 0, .int .u8 0, .int .u8 0, .int .u8 0, .int .u8 0, .int .u8 0, .int .u8 0, .int .u8 0, .int .u8 0, .int .u8 0] 26)
  have q8 := (Blk.new (w.alloc (.cells D.toArray 26)) 26 #[.int .u8 0, .int .u8 0, .int .u8 0, .int .u8 0, .int .u8 0, .int .u8 0, .int .u8 0, .int .u8 0, .int .u8 0, .int .u8 0, .int .u8 0, .int .u8 0, .int .u8 0, .int .u8 0, .int .u8 0, .int .u8 0, .int .u8 0, .int .u8 0, .int .u8 0, .int .u8 0, .int .u8 0, .int .u8 0, .int .u8 0, .int .u8 0, .int .u8 0, .int .u8 0, .int .u8 0, .int .u8 0, .int .u8 0, .int .u8 0, .int .u8 0, .int .u8 0]).alloc (.cells #[.int .u8 0, .int .u8 0, .int .u8 0, .int .u8 0, .int .u8 0, .int .u8 0, .int .u8 0, .int .u8 0, .int .u8 0, .int .u8 0, .int .u8 0, .int .u8 0, .int .u8 0, .int .u8 0, .int .u8 0, .int .u8 0, .int .u8 0, .int .u8 0, .int .u8 0, .int .u8 0, .int .u8 0, .int .u8 0, .int .u8 0, .int .u8 0, .int .u8 0, .int .u8 0, .int .u8 0, .int .u8 0, .int .u8 0, .int .u8 0, .int .u8 0, .int .u8 0] 26)
  have q10 := Blk.new ((w.alloc (.cells D.toArray 26)).alloc (.cells #[.int .u8 0, .int .u8 0, .int .u8 0, .int .u8 0, .int .u8 0, .int .u8 0, .int .u8 0, .int .u8 0, .int .u8 0, .int .u8 0, .int .u8 0, .int .u8 0, .int .u8 0, .int .u8 0, .int .u8 0, .int .u8 0, .int .u8 0, .int .u8 0, .int .u8 0, .int .u8 0, .int .u8 0, .int .u8 0, .int .u8 0, .int .u8 0, .int .u8 0, .int .u8 0, .int .u8 0, .int .u8 0, .int .u8 0, .int .u8 0, .int .u8 0, .int .u8 0] 26)) 26 #[.int .u8 0, .int .u8 0, .int .u8 0, .int .u8 0, .int .u8 0, .int .u8 0, .int .u8 0, .int .u8 0, .int .u8 0, .int .u8 0, .int .u8 0, .int .u8 0, .int .u8 0, .int .u8 0, .int .u8 0, .int .u8 0, .int .u8 0, .int .u8 0, .int .u8 0, .int .u8 0, .int .u8 0, .int .u8 0, .int .u8 0, .int .u8 0, .int .u8 0, .int .u8 0, .int .u8 0, .int .u8 0, .int .u8 0, .int .u8 0, .int .u8 0, .int .u8 0]
  have hbw := ((below_alloc w (.cells D.toArray 26)).alloc (by simp) (.cells #[.int .u8 0, .int .u8 0, .int .u8 0, .int .u8 0, .int .u8 0, .int .u8 0, .int .u8 0, .int .u8 0, .int .u8 0, .int .u8 0, .int .u8 0, .int .u8 0, .int .u8 0, .int .u8 0, .int .u8 0, .int .u8 0, .int .u8 0, .int .u8 0, .int .u8 0, .int .u8 0, .int .u8 0, .int .u8 0, .int .u8 0, .int .u8 0, .int .u8 0, .int .u8 0, .int .u8 0, .int .u8 0, .int .u8 0, .int .u8 0, .int .u8 0, .int .u8 0] 26)).alloc (by simp; omega) (.cells #[.int .u8 0, .int .u8 0, .int .u8 0, .int .u8 0, .int .u8 0, .int .u8 0, .int .u8 0, .int .u8 0, .int .u8 0, .int .u8 0, .int .u8 0, .int .u8 0, .int .u8 0, .int .u8 0, .int .u8 0, .int .u8 0, .int .u8 0, .int .u8 0, .int .u8 0, .int .u8 0, .int .u8 0, .int .u8 0, .int .u8 0, .int .u8 0, .int .u8 0, .int .u8 0, .int .u8 0, .int .u8 0, .int .u8 0, .int .u8 0, .int .u8 0, .int .u8 0] 26)
  have hbv := (below_alloc w (.cells D.toArray 26)).alloc (by simp) (.cells #[.int .u8 0, .int .u8 0, .int .u8 0, .int .u8 0, .int .u8 0, .int .u8 0, .int .u8 0, .int .u8 0, .int .u8 0, .int .u8 0, .int .u8 0, .int .u8 0, .int .u8 0, .int .u8 0, .int .u8 0, .int .u8 0, .int .u8 0, .int .u8 0, .int .u8 0, .int .u8 0, .int .u8 0, .int .u8 0, .int .u8 0, .int .u8 0, .int .u8 0, .int .u8 0, .int .u8 0, .int .u8 0, .int .u8 0, .int .u8 0, .int .u8 0, .int .u8 0] 26)
  simp only [World.size_alloc] at q8 q10
  have Hr := Lib.hid (rangeAt_below hr hbv hlt)
  have H4 := Lib.hid q4
  have H8 := Lib.hid q8
  have H10 := Lib.hid q10
  have Hbw := Lib.hid hbw
  clear q4 q8 q10 hbw hbv hr hlt hd hC hPV hD1 hD hVP hVC hIH hkk hside hF h2 hx hL hm9 hmc han
  rw [HAd.out, HA.out]
  go_enter Tryd.func61, Tryd.ntmps61
  go_wp2_with (first
    | (refine (HH.out _).mono ?_
       rintro e wh ⟨rfl, rfl⟩)
    | (refine wpList_load_mid rfl 26 _ rfl g (po + m * 32) ?_ VP _ Hr.out Tryd.underlying26 rfl (by rw [HlP.out]; exact infoDg) ?_; (first | rfl | (simp; done)))
    | (refine wpList_store_row rfl 26 _ _ rfl (w.heap.size + 1 + 1) VP.toArray rfl rfl 26 _ H10.out (by rw [List.size_toArray, HlP.out]; exact infoDg) (show 32 = VP.length from HlP.out.symm) (all_oneCell_toArray HoP.out) ?_))
  have q4 := H4.out.farRow (show w.heap.size ≠ w.heap.size + 1 + 1 by omega) VP.toArray
  have q8 := H8.out.farRow (show w.heap.size + 1 ≠ w.heap.size + 1 + 1 by omega) VP.toArray
  have q10 := H10.out.setRow VP.toArray
  have qb := setRow_below Hbw.out (show w.heap.size ≤ w.heap.size + 1 + 1 by omega) VP.toArray
  obtain ⟨w4, hw4⟩ : ∃ w4, World.setRow (((w.alloc (.cells D.toArray 26)).alloc (.cells #[.int .u8 0, .int .u8 0, .int .u8 0, .int .u8 0, .int .u8 0, .int .u8 0, .int .u8 0, .int .u8 0, .int .u8 0, .int .u8 0, .int .u8 0, .int .u8 0, .int .u8 0, .int .u8 0, .int .u8 0, .int .u8 0, .int .u8 0, .int .u8 0, .int .u8 0, .int .u8 0, .int .u8 0, .int .u8 0, .int .u8 0, .int .u8 0, .int .u8 0, .int .u8 0, .int .u8 0, .int .u8 0, .int .u8 0, .int .u8 0, .int .u8 0, .int .u8 0] 26)).alloc (.cells #[.int .u8 0, .int .u8 0, .int .u8 0, .int .u8 0, .int .u8 0, .int .u8 0, .int .u8 0, .int .u8 0, .int .u8 0, .int .u8 0, .int .u8 0, .int .u8 0, .int .u8 0, .int .u8 0, .int .u8 0, .int .u8 0, .int .u8 0, .int .u8 0, .int .u8 0, .int .u8 0, .int .u8 0, .int .u8 0, .int .u8 0, .int .u8 0, .int .u8 0, .int .u8 0, .int .u8 0, .int .u8 0, .int .u8 0, .int .u8 0, .int .u8 0, .int .u8 0] 26)) (w.heap.size + 1 + 1) VP.toArray = w4 := ⟨_, rfl⟩
  rw [hw4] at q4 q8 q10 qb ⊢
  clear hw4 H4 H8 H10 Hbw Hr
  have r4 := q4.range
  have r10 := q10.range
  have t8 := there_blk q8 (n := 32) rfl
  have l10 := q10.lt
  clear q4 q8 q10
  refine wp_region_held_drew (S := fun W => W.rangeAt w.heap.size 0 D ∧ W.rangeAt (w.heap.size + 1 + 1) 0 VP ∧ Below w.heap.size w W ∧ w.heap.size + 3 ≤ W.heap.size ∧ W.there (w.heap.size + 1) 0 32) (by kernel_rfl) ⟨r4, r10, qb.drew, l10, by simp only [World.there_drew]; exact t8⟩ (fun hHeld => ?_)
  clear r4 r10 t8 l10 qb
  refine wpAnyH_take (i := 0) (oi := { dst := some 37, op := Op.load 26 (Operand.tmp 10), type := 26, pos := "ref.go:152", after := #[], guard := none }) rfl (by kernel_rfl) (by kernel_rfl) (by kernel_rfl) (fun _ _ _ h => h) (yieldsIf_load_mid (by rfl) _ _ rfl (w.heap.size + 1 + 1) _ rfl VP _ (fun W h => h.2.1) Tryd.underlying26 rfl (by first | (rw [HlD.out]; exact infoDg) | (rw [HlP.out]; exact infoDg))) hHeld ?_
  try simp only [Act.put, List.setIfInBounds_toArray, List.set_cons_zero, List.set_cons_succ]
  refine wpAnyH_take (i := 1) (oi := { dst := some 38, op := Op.load 26 (Operand.tmp 4), type := 26, pos := "ref.go:152", after := #[], guard := none }) rfl (by kernel_rfl) (by kernel_rfl) (by kernel_rfl) (fun _ _ _ h => h) (yieldsIf_load_mid (by rfl) _ _ rfl w.heap.size _ rfl D _ (fun W h => h.1) Tryd.underlying26 rfl (by first | (rw [HlD.out]; exact infoDg) | (rw [HlP.out]; exact infoDg))) hHeld ?_
  try simp only [Act.put, List.setIfInBounds_toArray, List.set_cons_zero, List.set_cons_succ]
  refine wpAnyH_take (i := 2) (oi := { dst := some 39, op := Op.move (Operand.tmp 1), type := 3, pos := "ref.go:152", after := #[], guard := none }) (v := ?_) rfl (by kernel_rfl) (by kernel_rfl) (by kernel_rfl) (fun _ _ _ h => h) (Or.inl ⟨by rfl, ?_⟩) hHeld ?_
  rotate_left
  · intro W hSw
    clear hSw
    go_simp
    try with_reducible rfl
  try simp only [Act.put, List.setIfInBounds_toArray, List.set_cons_zero, List.set_cons_succ]
  refine wpAnyH_take (i := 3) (oi := { dst := some 40, op := Op.move (Operand.tmp 9), type := 3, pos := "ref.go:152", after := #[], guard := none }) (v := ?_) rfl (by kernel_rfl) (by kernel_rfl) (by kernel_rfl) (fun _ _ _ h => h) (Or.inl ⟨by rfl, ?_⟩) hHeld ?_
  rotate_left
  · intro W hSw
    clear hSw
    go_simp
    try with_reducible rfl
  try simp only [Act.put, List.setIfInBounds_toArray, List.set_cons_zero, List.set_cons_succ]
  refine wpAnyH_take (i := 4) (oi := { dst := some 41, op := Op.binOp BinOp.sub 3 (Operand.tmp 39) (Operand.tmp 40) 3, type := 3, pos := "ref.go:152", after := #[{ on := 2, ground := Ground.data }, { on := 3, ground := Ground.data }], guard := none }) (v := ?_) rfl (by kernel_rfl) (by kernel_rfl) (by kernel_rfl) (fun _ _ _ h => h) (Or.inl ⟨by rfl, ?_⟩) hHeld ?_
  rotate_left
  · intro W hSw
    clear hSw
    go_simp
    try with_reducible rfl
  try simp only [Act.put, List.setIfInBounds_toArray, List.set_cons_zero, List.set_cons_succ]
  refine wpAnyH_take (i := 5) (oi := { dst := some 42, op := Op.move (Operand.tmp 2), type := 3, pos := "ref.go:152", after := #[], guard := none }) (v := ?_) rfl (by kernel_rfl) (by kernel_rfl) (by kernel_rfl) (fun _ _ _ h => h) (Or.inl ⟨by rfl, ?_⟩) hHeld ?_
  rotate_left
  · intro W hSw
    clear hSw
    go_simp
    try with_reducible rfl
  try simp only [Act.put, List.setIfInBounds_toArray, List.set_cons_zero, List.set_cons_succ]
  refine wpAnyH_take (i := 6) (oi := { dst := some 43, op := Op.move (Operand.tmp 9), type := 3, pos := "ref.go:152", after := #[], guard := none }) (v := ?_) rfl (by kernel_rfl) (by kernel_rfl) (by kernel_rfl) (fun _ _ _ h => h) (Or.inl ⟨by rfl, ?_⟩) hHeld ?_
  rotate_left
  · intro W hSw
    clear hSw
    go_simp
    try with_reducible rfl
  try simp only [Act.put, List.setIfInBounds_toArray, List.set_cons_zero, List.set_cons_succ]
  refine wpAnyH_take (i := 7) (oi := { dst := some 44, op := Op.binOp BinOp.sub 3 (Operand.tmp 42) (Operand.tmp 43) 3, type := 3, pos := "ref.go:152", after := #[{ on := 5, ground := Ground.data }, { on := 6, ground := Ground.data }], guard := none }) (v := ?_) rfl (by kernel_rfl) (by kernel_rfl) (by kernel_rfl) (fun _ _ _ h => h) (Or.inl ⟨by rfl, ?_⟩) hHeld ?_
  rotate_left
  · intro W hSw
    clear hSw
    go_simp
    try with_reducible rfl
  try simp only [Act.put, List.setIfInBounds_toArray, List.set_cons_zero, List.set_cons_succ]
  refine wpAnyH_take (i := 8) (oi := { dst := some 45, op := Op.move (Operand.tmp 3), type := 40, pos := "ref.go:152", after := #[], guard := none }) (v := ?_) rfl (by kernel_rfl) (by kernel_rfl) (by kernel_rfl) (fun _ _ _ h => h) (Or.inl ⟨by rfl, ?_⟩) hHeld ?_
  rotate_left
  · intro W hSw
    clear hSw
    go_simp
    try with_reducible rfl
  try simp only [Act.put, List.setIfInBounds_toArray, List.set_cons_zero, List.set_cons_succ]
  refine wpAnyH_take (i := 9) (oi := { dst := some 46, op := Op.move (Operand.tmp 3), type := 40, pos := "ref.go:152", after := #[], guard := none }) (v := ?_) rfl (by kernel_rfl) (by kernel_rfl) (by kernel_rfl) (fun _ _ _ h => h) (Or.inl ⟨by rfl, ?_⟩) hHeld ?_
  rotate_left
  · intro W hSw
    clear hSw
    go_simp
    try with_reducible rfl
  try simp only [Act.put, List.setIfInBounds_toArray, List.set_cons_zero, List.set_cons_succ]
  refine wpAnyH_take (i := 10) (oi := { dst := some 47, op := Op.call { callee := Callee.builtin Builtin.len, args := #[Operand.tmp 46], argTypes := #[40] }, type := 3, pos := "ref.go:152", after := #[{ on := 9, ground := Ground.data }], guard := none }) (v := ?_) rfl (by kernel_rfl) (by kernel_rfl) (by kernel_rfl) (fun _ _ _ h => h) (Or.inl ⟨by rfl, ?_⟩) hHeld ?_
  rotate_left
  · intro W hSw
    clear hSw
    go_simp
    try with_reducible rfl
  try simp only [Act.put, List.setIfInBounds_toArray, List.set_cons_zero, List.set_cons_succ]
  refine wpAnyH_take (i := 11) (oi := { dst := some 48, op := Op.binOp BinOp.sub 3 (Operand.tmp 47) (Operand.const (Value.int IntKind.i64 1)) 3, type := 3, pos := "ref.go:152", after := #[{ on := 10, ground := Ground.data }], guard := none }) (v := ?_) rfl (by kernel_rfl) (by kernel_rfl) (by kernel_rfl) (fun _ _ _ h => h) (Or.inl ⟨by rfl, ?_⟩) hHeld ?_
  rotate_left
  · intro W hSw
    clear hSw
    go_simp
    try with_reducible rfl
  try simp only [Act.put, List.setIfInBounds_toArray, List.set_cons_zero, List.set_cons_succ]
  refine wpAnyH_take (i := 12) (oi := { dst := some 49, op := Op.slice 40 (Operand.tmp 45) none (some (Operand.tmp 48)) none, type := 40, pos := "ref.go:152", after := #[{ on := 8, ground := Ground.data }, { on := 11, ground := Ground.data }], guard := none }) (v := ?_) rfl (by kernel_rfl) (by kernel_rfl) (by kernel_rfl) (fun _ _ _ h => h) (Or.inl ⟨by rfl, ?_⟩) hHeld ?_
  rotate_left
  · intro W hSw
    clear hSw
    go_simp
    try with_reducible rfl
  try simp only [Act.put, List.setIfInBounds_toArray, List.set_cons_zero, List.set_cons_succ]
  refine wpAnyH_ready (rs := [13]) (by kernel_rfl) (by simp) ?_
  refine AllReadyH.cons (o := { dst := some 50, op := Op.call { callee := Callee.value (Operand.func 61), args := #[Operand.tmp 38, Operand.tmp 41, Operand.tmp 44, Operand.tmp 49], argTypes := #[26, 3, 3, 40] }, type := 26, pos := "ref.go:152", after := #[{ on := 1, ground := Ground.data }, { on := 4, ground := Ground.data }, { on := 7, ground := Ground.data }, { on := 12, ground := Ground.data }], guard := none }) rfl (fun K hK => ?_) AllReadyH.nil
  go_simp
  go_at_call 61
  refine (HC.out _ hHeld.2.2.1).mono ?_
  rintro e w5 ⟨rfl, hb5⟩
  refine hK.out _ _ ⟨rangeAt_below hHeld.1 hb5 (by have := hHeld.2.2.2.1; omega), rangeAt_below hHeld.2.1 hb5 (by have := hHeld.2.2.2.1; omega), hHeld.2.2.1.trans (hb5.mono hHeld.2.2.1.size), Nat.le_trans hHeld.2.2.2.1 hb5.size, there_below hHeld.2.2.2.2 hb5 (by have := hHeld.2.2.2.1; omega)⟩ (fun hHeld => ?_)
  clear hb5
  clear hK K
  try simp only [Act.put, List.setIfInBounds_toArray, List.set_cons_zero, List.set_cons_succ]
  refine wpAnyH_ready (rs := [14]) (by kernel_rfl) (by simp) ?_
  refine AllReadyH.cons (o := { dst := some 51, op := Op.call { callee := Callee.value (Operand.func 58), args := #[Operand.tmp 37, Operand.tmp 50], argTypes := #[26, 26] }, type := 26, pos := "ref.go:152", after := #[{ on := 0, ground := Ground.data }, { on := 13, ground := Ground.data }, { on := 13, ground := Ground.chain }], guard := none }) rfl (fun K hK => ?_) AllReadyH.nil
  go_simp
  go_at_call 58
  refine (HN.out _).mono ?_
  rintro e w6 ⟨rfl, hb6⟩
  refine hK.out _ _ ⟨rangeAt_below hHeld.1 hb6 (by have := hHeld.2.2.2.1; omega), rangeAt_below hHeld.2.1 hb6 (by have := hHeld.2.2.2.1; omega), hHeld.2.2.1.trans (hb6.mono hHeld.2.2.1.size), Nat.le_trans hHeld.2.2.2.1 hb6.size, there_below hHeld.2.2.2.2 hb6 (by have := hHeld.2.2.2.1; omega)⟩ (fun hHeld => ?_)
  have ht := hHeld.2.2.2.2
  clear hb6
  clear hK K
  try simp only [Act.put, List.setIfInBounds_toArray, List.set_cons_zero, List.set_cons_succ]
  refine wpAnyH_ready (rs := [15]) (by kernel_rfl) (by simp) ?_
  refine AllReadyH.cons (o := { dst := none, op := Op.store 26 (Operand.tmp 8) (Operand.tmp 51), type := 0, pos := "ref.go:152", after := #[{ on := 14, ground := Ground.data }, { on := 14, ground := Ground.chain }, { on := 0, ground := Ground.phase }, { on := 1, ground := Ground.phase }, { on := 2, ground := Ground.phase }, { on := 3, ground := Ground.phase }, { on := 4, ground := Ground.phase }, { on := 5, ground := Ground.phase }, { on := 6, ground := Ground.phase }, { on := 7, ground := Ground.phase }, { on := 8, ground := Ground.phase }, { on := 9, ground := Ground.phase }, { on := 10, ground := Ground.phase }, { on := 11, ground := Ground.phase }, { on := 12, ground := Ground.phase }, { on := 13, ground := Ground.phase }, { on := 14, ground := Ground.phase }], guard := none }) rfl (fun K hK => ?_) AllReadyH.nil
  rw [if_pos (by rfl)]
  refine wp_store_mid 26 _ _ rfl (w.heap.size + 1) 0 D1.toArray rfl rfl (by rw [show D1.toArray.size = 32 from Hl1.out]; exact ht) (by rw [List.size_toArray, Hl1.out]; exact infoDg) (all_oneCell_toArray Ho1.out) ?_
  refine hK.out _ _ ⟨World.rangeAt_setCells_apart hHeld.1 _ _ _ (Or.inl (by omega)), World.rangeAt_setCells_apart hHeld.2.1 _ _ _ (Or.inl (by omega)), setCells_below _ _ _ hHeld.2.2.1 (by omega), Nat.le_trans hHeld.2.2.2.1 (setCells_below (B := 0) _ _ _ (Below.refl 0 _) (Nat.zero_le _)).size, World.there_setCells ht _ _ _⟩ (fun hHeld => ?_)
  have Hr := Lib.hid (World.rangeAt_setCells_same _ (w.heap.size + 1) 0 D1 (by rw [Hl1.out]; exact ht))
  have Hbz := Lib.hid hHeld.2.2.1
  clear hHeld ht
  clear hK K
  refine wpAnyH_done (by kernel_rfl) ?_ _
  go_wp2_with fail
  refine bodyPost_ret (v := .agg D1.toArray) (results_cell_mid rfl _ _ (w.heap.size + 1) D1 _ rfl Hr.out Tryd.underlying26 rfl (by rw [Hl1.out]; exact infoDg)) rfl ?_
  exact ⟨rfl, Hbz.out⟩

set_option maxRecDepth 100000 in
set_option maxHeartbeats 1000000 in
theorem rclb_one (d : List UInt8) (hd : d.length = 32) (at_ : Nat) (pa : Option Addr) (L cap : Nat) (w : World) :
    Calls Tryd.prog 61 #[arrV d, .int .i64 (at_ : Int), .int .i64 1, .slice pa L cap] w fun e w' => e = .returned (arrV (lf d)) ∧ Below w.heap.size w w' := by
  have Htg := Lib.hid (fun v W (hs : Sl W 1 v 32 (bc d)) => rtagged_any ⟨#[108, 101, 97, 102]⟩ (by decide) d 32 hd (by omega) v W hs)
  rw [show tg (sB ⟨#[108, 101, 97, 102]⟩) d = lf d from rfl] at Htg
  have Hl1 := Lib.hid (show (bc (lf d)).length = 32 by rw [bc_len, lf_len])
  have Ho1 := Lib.hid (bc_one (lf d))
  have HlD := Lib.hid (show (bc d).length = 32 by rw [bc_len, hd])
  unfold arrV at Htg ⊢
  obtain ⟨D, hD⟩ : ∃ D, bc d = D := ⟨_, rfl⟩
  obtain ⟨D1, hD1⟩ : ∃ D1, bc (lf d) = D1 := ⟨_, rfl⟩
  rw [hD] at Htg HlD ⊢
  rw [hD1] at Htg Hl1 Ho1 ⊢
  have q4 := (Blk.new w 26 D.toArray).alloc (.cells #[.int .u8 0, .int .u8 0, .int .u8 0, .int .u8 0, .int .u8 0, .int .u8 0, .int .u8 0, .int .u8 0, .int .u8 0, .int .u8 0, .int .u8 0, .int .u8 0, .int .u8 0, .int .u8 0, .int .u8 0, .int .u8 0, .int .u8 0, .int .u8 0, .int .u8 0, .int .u8 0, .int .u8 0, .int .u8 0, .int .u8 0, .int .u8 0, .int .u8 0, .int .u8 0, .int .u8 0, .int .u8 0, .int .u8 0, .int .u8 0, .int .u8 0, .int .u8 0] 26)
  have q8 := Blk.new (w.alloc (.cells D.toArray 26)) 26 #[.int .u8 0, .int .u8 0, .int .u8 0, .int .u8 0, .int .u8 0, .int .u8 0, .int .u8 0, .int .u8 0, .int .u8 0, .int .u8 0, .int .u8 0, .int .u8 0, .int .u8 0, .int .u8 0, .int .u8 0, .int .u8 0, .int .u8 0, .int .u8 0, .int .u8 0, .int .u8 0, .int .u8 0, .int .u8 0, .int .u8 0, .int .u8 0, .int .u8 0, .int .u8 0, .int .u8 0, .int .u8 0, .int .u8 0, .int .u8 0, .int .u8 0, .int .u8 0]
  have hbw := (below_alloc w (.cells D.toArray 26)).alloc (by simp) (.cells #[.int .u8 0, .int .u8 0, .int .u8 0, .int .u8 0, .int .u8 0, .int .u8 0, .int .u8 0, .int .u8 0, .int .u8 0, .int .u8 0, .int .u8 0, .int .u8 0, .int .u8 0, .int .u8 0, .int .u8 0, .int .u8 0, .int .u8 0, .int .u8 0, .int .u8 0, .int .u8 0, .int .u8 0, .int .u8 0, .int .u8 0, .int .u8 0, .int .u8 0, .int .u8 0, .int .u8 0, .int .u8 0, .int .u8 0, .int .u8 0, .int .u8 0, .int .u8 0] 26)
  simp only [World.size_alloc] at q8
  have Hs := Lib.hid (q4.sl rfl HlD.out)
  have HB := Lib.hid q8
  have Hb := Lib.hid hbw
  clear q4 q8 hbw hd hD hD1
  go_enter Tryd.func61, Tryd.ntmps61
  go_wp2_with (first
    | (refine (Htg.out _ _ Hs.out).mono ?_
       rintro e w8 ⟨rfl, hb8⟩
       have HB8 := Lib.hid (HB.out.below hb8 HB.out.lt)
       have Hb8 := Lib.hid (Hb.out.trans (hb8.mono Hb.out.size))
       clear hb8)
    | (refine wpList_store_row rfl 26 _ _ rfl (w.heap.size + 1) D1.toArray rfl rfl 26 _ HB8.out (by rw [List.size_toArray, Hl1.out]; exact infoDg) (show 32 = D1.length from Hl1.out.symm) (all_oneCell_toArray Ho1.out) ?_))
  refine bodyPost_ret (v := .agg D1.toArray) (results_cell_row rfl _ _ (w.heap.size + 1) 26 D1.toArray (0, 0) _ rfl (HB8.out.setRow D1.toArray) Tryd.underlying26 rfl (by rw [List.size_toArray, Hl1.out]; exact infoDg)) rfl ?_
  exact ⟨rfl, setRow_below Hb8.out (by omega) _⟩
/-- the digest of a list out of an element, its path and its sides -/
def clm (P : Nat → List UInt8) (x : List UInt8) : List Bool → List UInt8
  | [] => lf x
  | b :: r => if b then nd (clm P x r) (P r.length) else nd (P r.length) (clm P x r)
theorem clm_len (P : Nat → List UInt8) (x : List UInt8) : ∀ r, (clm P x r).length = 32
  | [] => lf_len x
  | true :: _ => nd_len _ _
  | false :: _ => nd_len _ _
/-- a slice of digests reads as E, wherever it begins -/
def Ro (W : World) (a : Option Addr) (n : Nat) (E : Nat → List UInt8) : Prop := (∀ k, k < n → ∃ g o, a = some ⟨g, o, none⟩ ∧ W.rangeAt g (o + k * 32) (bc (E k))) ∧ ∀ k, (E k).length = 32
theorem Ro.next {W W' : World} {a : Option Addr} {n : Nat} {E : Nat → List UInt8} (h : Ro W a n E) (hb : Below W.heap.size W W') : Ro W' a n E :=
  ⟨fun k hk => by
    obtain ⟨g, o, rfl, hr⟩ := h.1 k hk
    refine ⟨g, o, rfl, rangeAt_below hr hb ?_⟩
    have := hr 0 _ (by rw [bt_cell (d := E k) (k := 0) (by rw [h.2]; omega)])
    exact World.block_lt_of_cell? W _ this, h.2⟩
theorem Ro.less {W : World} {a : Option Addr} {n k : Nat} {E : Nat → List UInt8} (h : Ro W a n E) (hk : k ≤ n) : Ro W a k E := ⟨fun j hj => h.1 j (by omega), h.2⟩
theorem rclb_any (d : List UInt8) (hd : d.length = 32) (P : Nat → List UInt8) : ∀ (f at_ n : Nat), n ≤ f → at_ < n → n ≤ 256 → ∀ (pa : Option Addr) (L cap : Nat) (w : World), L = (sd at_ n).length → L ≤ cap → Ro w pa L P →
    Calls Tryd.prog 61 #[arrV d, .int .i64 (at_ : Int), .int .i64 (n : Int), .slice pa L cap] w fun e w' => e = .returned (arrV (clm P d (sd at_ n))) ∧ Below w.heap.size w w'
  | 0, at_, n, h, ha, _, _, _, _, _, _, _, _ => by omega
  | f + 1, at_, n, h, ha, hx, pa, L, cap, w, hL, hc, hr => by
    by_cases h1 : n = 1
    · subst h1
      rw [sd_one _ _ (Nat.le_refl _)]
      exact rclb_one d hd at_ pa L cap w
    · have h2 := hf_facts n (by omega)
      have hsl := sd_len n at_ n (Nat.le_refl _)
      by_cases hl : at_ < hf n
      · rw [sd_left _ _ (by omega) hl] at hL hsl ⊢
        rw [List.length_cons] at hL hsl
        obtain ⟨g, po, rfl, hg⟩ := hr.1 (sd at_ (hf n)).length (by omega)
        rw [clm, if_pos rfl]
        exact rclb_left d hd at_ n L _ g po cap hL (by omega) (by omega) hx ha (by omega) hl _ _ (clm_len _ _ _) (hr.2 _) w hg (fun W hb => rclb_any d hd P f at_ (hf n) (by omega) hl (by omega) _ _ cap W rfl (by omega) ((hr.next hb).less (by omega)))
      · rw [sd_right _ _ (by omega) hl] at hL hsl ⊢
        rw [List.length_cons] at hL hsl
        obtain ⟨g, po, rfl, hg⟩ := hr.1 (sd (at_ - hf n) (n - hf n)).length (by omega)
        rw [clm, if_neg (by decide)]
        exact rclb_right d hd at_ n L _ g po cap hL (by omega) (by omega) hx ha (by omega) hl _ _ (clm_len _ _ _) (hr.2 _) w hg (fun W hb => rclb_any d hd P f (at_ - hf n) (n - hf n) (by omega) (by omega) (by omega) _ _ cap W rfl (by omega) ((hr.next hb).less (by omega)))
end Go.Proofs.YtiloaheaglcpbaaDoor
