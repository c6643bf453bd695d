/- Signing: the statement SigningAntichain, the walk. -/
import Derived.Test.YtiloaheaglcpbaaDoorSgD
import Derived.Deep.RegionHeld3
import Derived.Deep.DeepCutAuto
import Derived.Deep.MidRow
namespace Go.Proofs.YtiloaheaglcpbaaDoor
open Go.RowKit

theorem nib_all : ∀ v : Nat, v < 256 → bits BinOp.and IntKind.i64 (wrap64 (v : Int) / 2 ^ 4) 15 = ((v / 16 : Nat) : Int) ∧ bits BinOp.and IntKind.i64 (wrap64 (v : Int) / 2 ^ 0) 15 = ((v % 16 : Nat) : Int) := by decide +kernel
theorem nib_bits (d : List UInt8) (k : Nat) : bits BinOp.and IntKind.i64 (wrap64 (bt d (k / 2) : Int) / 2 ^ (4 - k % 2 * 4)) 15 = (nib d k : Int) := by
  obtain ⟨h1, h2⟩ := nib_all _ (bt_lt d (k / 2))
  unfold nib
  split
  · rename_i h; rw [h]; exact h1
  · rename_i h; rw [show k % 2 = 1 by omega]; exact h2
theorem eq_dg (w : World) (a b : List UInt8) (ha : a.length = 32) (hb : b.length = 32) : (Op.equalIn 10000 26 (.agg (bc a).toArray) (.agg (bc b).toArray)).run Tryd.prog w = .ok (decide (a = b)) w := by
  obtain ⟨i0, hi, hz0, hz1, hz2⟩ := info_parts infoU8
  exact eq_bytes 26 5 32 w i0 Tryd.underlying26 Tryd.underlying5 hi (by kernel_rfl) a b ha hb
def sg (a : List UInt8) : Nat → Nat
  | 0 => 0
  | k + 1 => sg a k + (if k < 64 then dig a k else 0)
theorem sg_le (a : List UInt8) (k : Nat) : sg a k ≤ 15 * k := by
  induction k with
  | zero => simp [sg]
  | succ k ih => rw [sg]; have := dig_lt a k; split <;> omega
def blw (a b : List UInt8) (k : Nat) : Bool := (List.range k).all fun j => decide (dig a j ≤ dig b j)
theorem blw_succ (a b : List UInt8) (k : Nat) : blw a b (k + 1) = (blw a b k && decide (dig a k ≤ dig b k)) := by
  simp [blw, List.range_succ]
theorem cks_sg (a : List UInt8) (k : Nat) (h : k ≤ 32) : cks a k + sg a (2 * k) = 30 * k := by
  induction k with
  | zero => rfl
  | succ k ih =>
    have := ih (by omega)
    have h1 := nib_lt a (2 * k)
    have h2 := nib_lt a (2 * k + 1)
    rw [cks, show 2 * (k + 1) = 2 * k + 1 + 1 by omega, sg, sg, if_pos (by omega), if_pos (by omega), dig_lo a _ (by omega), dig_lo a _ (by omega)]
    omega
theorem sg_67 (a : List UInt8) : sg a 67 = sg a 64 := by simp [sg]
theorem cks_digs (a : List UInt8) : dig a 64 * 256 + dig a 65 * 16 + dig a 66 = cks a 32 := by
  have := cks_le a 32
  simp only [dig, Nat.reduceLT, if_false, if_true, Nat.reduceEqDiff]
  omega
theorem sg_sum (a : List UInt8) : sg a 67 + dig a 64 * 256 + dig a 65 * 16 + dig a 66 = 960 := by
  have h1 : cks a 32 + sg a 64 = 30 * 32 := cks_sg a 32 (by omega)
  have h2 := cks_digs a
  rw [sg_67]
  omega
theorem sg_mono {a b : List UInt8} (h : ∀ j, j < 64 → dig a j ≤ dig b j) (k : Nat) (hk : k ≤ 64) : sg a k ≤ sg b k ∧ (sg a k = sg b k → ∀ j, j < k → dig a j = dig b j) := by
  induction k with
  | zero => exact ⟨by simp [sg], fun _ j hj => by omega⟩
  | succ k ih =>
    obtain ⟨h1, h2⟩ := ih (by omega)
    have h3 := h k (by omega)
    rw [sg, sg, if_pos (by omega), if_pos (by omega)]
    refine ⟨by omega, fun he j hj => ?_⟩
    rcases Nat.lt_or_ge j k with hl | hl
    · exact h2 (by omega) j hl
    · obtain rfl : j = k := by omega
      omega
theorem bt_of_dig {a b : List UInt8} (h : ∀ j, j < 64 → dig a j = dig b j) (k : Nat) (hk : k < 32) : bt a k = bt b k := by
  have h1 := h (2 * k) (by omega)
  have h2 := h (2 * k + 1) (by omega)
  rw [dig_lo _ _ (by omega), dig_lo _ _ (by omega), nib_0, nib_0] at h1
  rw [dig_lo _ _ (by omega), dig_lo _ _ (by omega), nib_1, nib_1] at h2
  omega
theorem anti {a b : List UInt8} (h : blw a b 67 = true) (ha : a.length = 32) (hb : b.length = 32) : a = b := by
  have hall : ∀ j, j < 67 → dig a j ≤ dig b j := fun j hj => of_decide_eq_true (List.all_eq_true.1 h j (by simpa using hj))
  obtain ⟨h1, h2⟩ := sg_mono (fun j hj => hall j (by omega)) 64 (Nat.le_refl _)
  have c1 : cks a 32 + sg a 64 = 30 * 32 := cks_sg a 32 (by omega)
  have c2 : cks b 32 + sg b 64 = 30 * 32 := cks_sg b 32 (by omega)
  have d1 := cks_digs a
  have d2 := cks_digs b
  have e1 := hall 64 (by omega)
  have e2 := hall 65 (by omega)
  have e3 := hall 66 (by omega)
  have hd := h2 (by omega)
  apply List.ext_getElem (by omega)
  intro k hk hk'
  have := bt_of_dig hd k (by omega)
  unfold bt at this
  rw [List.getD_eq_getElem?_getD, List.getD_eq_getElem?_getD, List.getElem?_eq_getElem hk, List.getElem?_eq_getElem hk'] at this
  exact UInt8.toNat_inj.1 this
set_option maxRecDepth 100000 in
set_option maxHeartbeats 1000000 in
theorem antichain_any (a b : List UInt8) (ha : a.length = 32) (hb : b.length = 32) (w : World) :
    Calls Tryd.prog 8 #[arrV a, arrV b] w fun e w' => e = .returned (.bool true) ∧ Below w.heap.size w w' := by
  have HD1 := Lib.hid (fun W => digits_any a ha W)
  have HD2 := Lib.hid (fun W => digits_any b hb W)
  have HA := Lib.hid (fun j (h : j < 32) => bt_cell (d := a) (k := j) (by omega))
  have hAl := bc_len a
  have hBl := bc_len b
  unfold arrV at HD1 HD2 ⊢
  rw [ha] at hAl
  rw [hb] at hBl
  obtain ⟨A, hA⟩ : ∃ A, bc a = A := ⟨_, rfl⟩
  obtain ⟨B, hB⟩ : ∃ B, bc b = B := ⟨_, rfl⟩
  rw [hA] at HD1 HA hAl ⊢
  rw [hB] at HD2 hBl ⊢
  have HAB := Lib.hid (show bc a = A ∧ bc b = B ∧ a.length = 32 ∧ b.length = 32 from ⟨hA, hB, ha, hb⟩)
  clear ha hb hA hB
  have hb0 : Below w.heap.size w ((w.alloc (.cells A.toArray 26)).alloc (.cells B.toArray 26)) := (below_alloc w _).alloc (by simp) _
  have h1 := (Blk.new w 26 A.toArray).alloc (.cells B.toArray 26)
  have h2 := Blk.new (w.alloc (.cells A.toArray 26)) 26 B.toArray
  rw [World.size_alloc] at h2
  have Hb0 := Lib.hid hb0
  have H1 := Lib.hid h1
  have H2 := Lib.hid h2
  clear hb0 h1 h2
  have HAl := Lib.hid hAl
  have HBl := Lib.hid hBl
  clear hAl hBl
  go_enter Tryd.func8, Tryd.ntmps8
  go_wp2_with fail
  refine (sane_any _).mono ?_
  rintro e w1 ⟨rfl, hb1⟩
  have H1x := Lib.hid (H1.out.below hb1 H1.out.lt)
  have H2x := Lib.hid (H2.out.below hb1 H2.out.lt)
  have Hb1 := Lib.hid (Hb0.out.trans (hb1.mono Hb0.out.size))
  have hg1 : w.heap.size < w1.heap.size := H1x.out.lt
  have hg2 : w.heap.size + 1 < w1.heap.size := H2x.out.lt
  clear hb1 H1 H2 Hb0
  go_wp2_with fail
  obtain ⟨g1, hg1e⟩ : ∃ g1, w.heap.size = g1 := ⟨_, rfl⟩
  rw [hg1e] at hg1 hg2 H1x H2x ⊢
  have Hge := Lib.hid hg1e
  clear hg1e
  go_cut [5, 6] (fun x y wx => ∃ gx gy, x = .slice (some ⟨gx, 0, none⟩) 67 67 ∧ y = .slice (some ⟨gy, 0, none⟩) 67 67 ∧ Blk wx gx 55 (digC a) ∧ Blk wx gy 55 (digC b) ∧ Below w1.heap.size w1 wx)
  case first =>
    have q1 := H1x.out.range
    have q2 := H2x.out.range
    have u2 : (Tryd.prog.info? 26).map (·.size) = some A.length := by rw [HAl.out]; exact infoDg
    have u3 : (Tryd.prog.info? 26).map (·.size) = some B.length := by rw [HBl.out]; exact infoDg
    refine wp_region_held_drew (S := fun w' => w'.rangeAt g1 0 A ∧ w'.rangeAt (g1 + 1) 0 B) (by kernel_rfl) ⟨q1, q2⟩ (fun hHeld => ?_)
    refine wpAnyH_take (i := 0) (oi := { dst := some 12, op := .load 26 (.tmp 2), type := 26, pos := "law.go:126", after := #[], guard := none }) rfl (by kernel_rfl) (by kernel_rfl) (by kernel_rfl) (fun _ _ _ h => h) (yieldsIf_load_mid (by rfl) _ _ rfl _ _ rfl A _ (fun _ h => h.1) Tryd.underlying26 rfl u2) hHeld ?_
    try simp only [Act.put, List.setIfInBounds_toArray, List.set_cons_zero, List.set_cons_succ]
    refine wpAnyH_take (i := 2) (oi := { dst := some 14, op := .load 26 (.tmp 3), type := 26, pos := "law.go:126", after := #[], guard := none }) rfl (by kernel_rfl) (by kernel_rfl) (by kernel_rfl) (fun _ _ _ h => h) (yieldsIf_load_mid (by rfl) _ _ rfl _ _ rfl B _ (fun _ h => h.2) Tryd.underlying26 rfl u3) hHeld ?_
    try simp only [Act.put, List.setIfInBounds_toArray, List.set_cons_zero, List.set_cons_succ]
    refine wpAnyH_ready (rs := [1]) (by kernel_rfl) (by simp) ?_
    refine AllReadyH.cons (o := { dst := some 13, op := .call { callee := .value (.func 16), args := #[.tmp 12], argTypes := #[26] }, type := 33, pos := "law.go:126", after := #[{ on := 0, ground := .data }], guard := none }) rfl (fun K hK => ?_) AllReadyH.nil
    go_simp
    go_at_call 16
    refine (HD1.out _).mono ?_
    rintro e w3 ⟨gx, rfl, hBx, hgx, hb3⟩
    refine hK.out _ _ ⟨rangeAt_below hHeld.1 hb3 (by simp; omega), rangeAt_below hHeld.2 hb3 (by simp; omega)⟩ (fun hHeld => ?_)
    clear hK K
    try simp only [Act.put, List.setIfInBounds_toArray, List.set_cons_zero, List.set_cons_succ]
    refine wpAnyH_ready (rs := [3]) (by kernel_rfl) (by simp) ?_
    refine AllReadyH.cons (o := { dst := some 15, op := .call { callee := .value (.func 16), args := #[.tmp 14], argTypes := #[26] }, type := 33, pos := "law.go:126", after := #[{ on := 2, ground := .data }, { on := 1, ground := .chain }], guard := none }) rfl (fun K hK => ?_) AllReadyH.nil
    go_simp
    go_at_call 16
    refine (HD2.out _).mono ?_
    rintro e w4 ⟨gy, rfl, hBy, hgy, hb4⟩
    refine hK.out _ _ ⟨rangeAt_below hHeld.1 hb4 (by have := hb3.size; simp at this; omega), rangeAt_below hHeld.2 hb4 (by have := hb3.size; simp at this; omega)⟩ (fun hHeld => ?_)
    clear hK K
    try simp only [Act.put, List.setIfInBounds_toArray, List.set_cons_zero, List.set_cons_succ]
    refine wpAnyH_ready (rs := [4]) (by kernel_rfl) (by simp) ?_
    refine AllReadyH.cons rfl (fun K hK => ?_) AllReadyH.nil
    go_simp
    refine hK.out _ _ hHeld (fun hHeld => ?_)
    clear hK K
    refine wpAnyH_ready (rs := [5]) (by kernel_rfl) (by simp) ?_
    refine AllReadyH.cons rfl (fun K hK => ?_) AllReadyH.nil
    go_simp
    refine hK.out _ _ hHeld (fun hHeld => ?_)
    clear hK K
    refine wpAnyH_done (by kernel_rfl) ?_ _
    go_wp2_with fail
    go_meet
    exact ⟨gx, gy, rfl, rfl, hBx.below hb4 hBx.lt, hBy, (Below.refl _ _).drew.trans (hb3.trans (hb4.mono hb3.size))⟩
  case rest =>
    obtain ⟨gx, gy, rfl, rfl, hX, hY, hb2⟩ := hcut
    have HX := Lib.hid hX
    have HY := Lib.hid hY
    have H1y := Lib.hid (H1x.out.below hb2 hg1)
    have H2y := Lib.hid (H2x.out.below hb2 hg2)
    have Hb2 := Lib.hid (Hb1.out.trans (hb2.mono Hb1.out.size))
    clear hX hY H1x H2x hb2 Hb1 hg1 hg2
    go_wp2_with fail
    go_loopw [7, 8, 9] (fun s bl i wr => ∃ (k : Nat), k ≤ 67 ∧ i = .int .i64 k ∧ s = .int .i64 (sg a k : Int) ∧ bl = .bool (blw a b k) ∧ Blk wr gx 55 (digC a) ∧ Blk wr gy 55 (digC b) ∧ Blk wr g1 26 A.toArray ∧ Blk wr (g1 + 1) 26 B.toArray ∧ Below w.heap.size w wr) (fun _ _ i _ => 67 - (intOf i).toNat)
    case atStart => exact ⟨0, by omega, rfl, rfl, rfl, HX.out, HY.out, H1y.out, H2y.out, Hb2.out⟩
    case round =>
      clear HX HY H1y H2y Hb2
      obtain ⟨k, hk, rfl, rfl, rfl, hX, hY, h1, h2, hb⟩ := hrel
      have HX := Lib.hid hX
      have HY := Lib.hid hY
      have H1 := Lib.hid h1
      have H2 := Lib.hid h2
      have Hb := Lib.hid hb
      have hs := sg_le a k
      clear hX hY h1 h2 hb
      by_cases hlt : k < 67
      · have cx : wr.cell? ⟨gx, k, none⟩ = some (.int .i64 (dig a k : Int)) := by rw [HX.out.cell, digC_at a k hlt]
        have cy : wr.cell? ⟨gy, k, none⟩ = some (.int .i64 (dig b k : Int)) := by rw [HY.out.cell, digC_at b k hlt]
        have hda := dig_lt a k
        obtain ⟨x, hx⟩ : ∃ x, dig a k = x := ⟨_, rfl⟩
        obtain ⟨y, hy⟩ : ∃ y, dig b k = y := ⟨_, rfl⟩
        obtain ⟨s, hsg⟩ : ∃ s, sg a k = s := ⟨_, rfl⟩
        obtain ⟨bb, hbl⟩ : ∃ bb, blw a b k = bb := ⟨_, rfl⟩
        rw [hx] at cx hda
        rw [hy] at cy
        rw [hsg] at hs ⊢
        rw [hbl]
        have Hxy := Lib.hid (show dig a k = x ∧ dig b k = y ∧ sg a k = s ∧ blw a b k = bb from ⟨hx, hy, hsg, hbl⟩)
        clear hx hy hsg hbl
        have d1 : decide ((x : Int) < 0) = false := decide_eq_false (by omega)
        have d2 : decide ((15 : Int) < (x : Int)) = false := decide_eq_false (by omega)
        have i1 : (0 : Int) ≤ (k : Int) := by omega
        have i2 : (k : Int) < 67 := by omega
        by_cases h64 : k < 64
        · have d3 : decide ((k : Int) < 64) = true := decide_eq_true (by omega)
          have ca : wr.cell? ⟨g1, k / 2, none⟩ = some (.int .u8 (bt a (k / 2) : Int)) := by
            rw [H1.out.cell]; simpa using HA.out (k / 2) (by omega)
          go_wp2_with fail
          go_quiet (fail)
          have hn : ((x : Int) != bits BinOp.and IntKind.i64 (wrap64 (bt a (k / 2) : Int) / 2 ^ (4 - k % 2 * 4)) 15) = false := by
            rw [nib_bits, ← Hxy.out.1, dig_lo a k h64]; simp
          clear ca d1 d2
          go_wp2_with fail
          cases bb
          · go_quiet (fail)
            go_wp2_with fail
            go_roundw
            case rel => exact ⟨k + 1, by omega, by go_num, by rw [sg, if_pos h64, Hxy.out.1, Hxy.out.2.2.1]; rfl, by rw [blw_succ, Hxy.out.2.2.2]; rfl, HX.out.drewN _, HY.out.drewN _, H1.out.drewN _, H2.out.drewN _, blw_drewN Hb.out _⟩
            case measure => simp [intOf]; omega
          · go_quiet (fail)
            go_wp2_with fail
            go_roundw
            case rel => exact ⟨k + 1, by omega, by go_num, by rw [sg, if_pos h64, Hxy.out.1, Hxy.out.2.2.1]; rfl, by rw [blw_succ, Hxy.out.2.2.2, Hxy.out.1, Hxy.out.2.1]; simp, HX.out.drewN _, HY.out.drewN _, H1.out.drewN _, H2.out.drewN _, blw_drewN Hb.out _⟩
            case measure => simp [intOf]; omega
        · have d3 : decide ((k : Int) < 64) = false := decide_eq_false (by omega)
          go_wp2_with fail
          go_quiet (fail)
          clear d1 d2
          go_wp2_with fail
          cases bb
          · go_quiet (fail)
            go_wp2_with fail
            go_roundw
            case rel => exact ⟨k + 1, by omega, by go_num, by rw [sg, if_neg h64, Hxy.out.2.2.1]; rfl, by rw [blw_succ, Hxy.out.2.2.2]; rfl, HX.out.drewN _, HY.out.drewN _, H1.out.drewN _, H2.out.drewN _, blw_drewN Hb.out _⟩
            case measure => simp [intOf]; omega
          · go_quiet (fail)
            go_wp2_with fail
            go_roundw
            case rel => exact ⟨k + 1, by omega, by go_num, by rw [sg, if_neg h64, Hxy.out.2.2.1]; rfl, by rw [blw_succ, Hxy.out.2.2.2, Hxy.out.1, Hxy.out.2.1]; simp, HX.out.drewN _, HY.out.drewN _, H1.out.drewN _, H2.out.drewN _, blw_drewN Hb.out _⟩
            case measure => simp [intOf]; omega
      · have hk67 : k = 67 := by omega
        subst hk67
        have c64 : wr.cell? ⟨gx, 64, none⟩ = some (.int .i64 (dig a 64 : Int)) := by rw [HX.out.cell, digC_at a 64 (by omega)]
        have c65 : wr.cell? ⟨gx, 65, none⟩ = some (.int .i64 (dig a 65 : Int)) := by rw [HX.out.cell, digC_at a 65 (by omega)]
        have c66 : wr.cell? ⟨gx, 66, none⟩ = some (.int .i64 (dig a 66 : Int)) := by rw [HX.out.cell, digC_at a 66 (by omega)]
        have hsum := sg_sum a
        have l64 := dig_lt a 64
        have l65 := dig_lt a 65
        have l66 := dig_lt a 66
        obtain ⟨x, hx⟩ : ∃ x, dig a 64 = x := ⟨_, rfl⟩
        obtain ⟨y, hy⟩ : ∃ y, dig a 65 = y := ⟨_, rfl⟩
        obtain ⟨z, hz⟩ : ∃ z, dig a 66 = z := ⟨_, rfl⟩
        obtain ⟨s, hsg⟩ : ∃ s, sg a 67 = s := ⟨_, rfl⟩
        obtain ⟨bb, hbl⟩ : ∃ bb, blw a b 67 = bb := ⟨_, rfl⟩
        rw [hx] at c64 l64 hsum
        rw [hy] at c65 l65 hsum
        rw [hz] at c66 l66 hsum
        rw [hsg] at hs hsum ⊢
        rw [hbl]
        have Hbl := Lib.hid hbl
        clear hx hy hz hsg hbl
        have s1 : IntKind.i64.wrap ((x : Int) * 256) = x * 256 := IntWalk.i64_in _ (by omega)
        have s2 : IntKind.i64.wrap ((s : Int) + x * 256) = s + x * 256 := IntWalk.i64_in _ (by omega)
        have s3 : IntKind.i64.wrap ((y : Int) * 16) = y * 16 := IntWalk.i64_in _ (by omega)
        have s4 : IntKind.i64.wrap ((s : Int) + x * 256 + y * 16) = s + x * 256 + y * 16 := IntWalk.i64_in _ (by omega)
        have s5 : IntKind.i64.wrap ((s : Int) + x * 256 + y * 16 + z) = s + x * 256 + y * 16 + z := IntWalk.i64_in _ (by omega)
        have hd : ((s : Int) + x * 256 + y * 16 + z == 960) = true := by simp; omega
        go_wp2_with fail
        cases bb
        · go_quiet (fail)
          go_wp2_with fail
          go_ret
          exact ⟨rfl, blw_drewN Hb.out _⟩
        · have hab := anti Hbl.out HAB.out.2.2.1 HAB.out.2.2.2
          have q1 := H1.out.range
          have q2 := H2.out.range
          have u2 : (Tryd.prog.info? 26).map (·.size) = some A.length := by rw [HAl.out]; exact infoDg
          have u3 : (Tryd.prog.info? 26).map (·.size) = some B.length := by rw [HBl.out]; exact infoDg
          have heq : ∀ n, (Op.equalIn 10000 26 (.agg A.toArray) (.agg B.toArray)).run Tryd.prog (wr.drewN n) = .ok true (wr.drewN n) := fun n => by
            have := eq_dg (wr.drewN n) a b HAB.out.2.2.1 HAB.out.2.2.2
            rw [HAB.out.1, HAB.out.2.1, decide_eq_true hab] at this
            exact this
          clear hab
          refine wp_region_quiet_lit (by kernel_rfl) (by kernel_rfl) ?_
          repeat (first
            | (go_big_quiet_want; refine quiet_load_row 26 _ rfl g1 0 rfl A _ q1 Tryd.underlying26 rfl u2 ?_; try simp only [Act.put, List.setIfInBounds_toArray, List.set_cons_zero, List.set_cons_succ]; go_big_quiet_on)
            | (go_big_quiet_want; refine quiet_load_row 26 _ rfl (g1 + 1) 0 rfl B _ q2 Tryd.underlying26 rfl u3 ?_; try simp only [Act.put, List.setIfInBounds_toArray, List.set_cons_zero, List.set_cons_succ]; go_big_quiet_on)
            | (go_big_quiet_step (fail)))
          refine wpQuiet_nil ?_
          intro _ hw'
          obtain ⟨nq, hw''⟩ := hw'
          subst hw''
          go_wp2_with fail
          go_ret
          exact ⟨rfl, blw_drewN Hb.out _⟩
end Go.Proofs.YtiloaheaglcpbaaDoor
