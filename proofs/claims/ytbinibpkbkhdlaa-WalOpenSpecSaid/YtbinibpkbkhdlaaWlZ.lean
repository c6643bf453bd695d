/- Wal: the statements' sane returns true. -/
import Derived.Test.YtbinibpkbkhdlaaWlY
import Derived.Lib.SlBytesConst
namespace Go.Proofs.Ytbinibpkbkhdlaa
open Go.RowKit

theorem mk113 (w : World) : (Instr.makeSlice 25 (.int .i64 113) (.int .i64 113)).run Try.prog w = .ok (.slice (some ⟨w.heap.size, 0, none⟩) 113 113) (w.alloc (.cells (zc 113) 5)) := mk_any 113 (by omega) w
theorem blk_drew {w : World} {g : Nat} {t : TypeId} {cs : Array Value} (h : Blk w g t cs) : Blk w.drew g t cs := h
theorem zc_113 : (zc 113).toList = bc (List.replicate 113 0) := by kernel_rfl
theorem sl_lit_fr (w : World) (xs : List Value) (t : TypeId) (fr : Nat × Nat) : Sl (w.alloc (.cells xs.toArray t fr)) 1 (.slice (some ⟨w.heap.size, 0, none⟩) xs.length xs.length) xs.length xs := by
  refine ⟨by simp, _, _, rfl, Nat.le_refl _, .inr ⟨w.heap.size, 0, rfl, fun j u hu => ?_⟩⟩
  rw [Nat.zero_add, cell_of_row _ w.heap.size j xs.toArray t fr (heap_alloc_new w _)]
  simpa using hu
def d9 : List UInt8 := [49, 50, 51, 52, 53, 54, 55, 56, 57]
theorem mark_ab (w : World) : w.alloc (.cells #[.int .u8 97, .int .u8 98] 5 ((#[.int .u8 97, .int .u8 98] : Array Value).size, (#[.int .u8 97, .int .u8 98] : Array Value).size + 1)) = w.alloc (.cells #[.int .u8 97, .int .u8 98] 5 (2, 3)) ∧
    w.alloc (.cells (bc abL).toArray 5 ((bc abL).toArray.size, (bc abL).toArray.size + 1)) = w.alloc (.cells #[.int .u8 97, .int .u8 98] 5 (2, 3)) := ⟨rfl, rfl⟩
set_option maxRecDepth 100000 in
set_option maxHeartbeats 4000000 in
theorem sane_any (w : World) : Calls Try.prog 9 #[] w fun e w' => e = .returned (.bool true) ∧ Below w.heap.size w w' := by
  have HNew := Lib.hid (new_any 2 (by omega) (by omega) w)
  go_enter Try.func9, Try.ntmps9
  go_wp2_with fail
  refine HNew.out.mono ?_
  rintro e w1 ⟨d, rfl, ⟨vd, rfl, hsd⟩, hb1⟩
  obtain ⟨da, dc, rfl⟩ := hsd.len
  rw [show (newD 2).secs.length = 2 from rfl] at hsd ⊢
  unfold dkAgg
  rw [show (newD 2).left = -1 from rfl, show (newD 2).tear = 0 from rfl, show (newD 2).stop = false from rfl]
  have HD := Lib.hid (show DkV w1 (.agg #[.slice da 2 dc, .int .i64 (-1), .int .i64 0, .bool false]) (newD 2) from ⟨_, rfl, hsd⟩)
  have Hw := Lib.hid hb1
  clear hsd hb1 HNew
  have hq := Blk.new w1 24 #[.slice da 2 dc, .int .i64 (-1), .int .i64 0, .bool false]
  have hz := below_alloc w1 (.cells #[.slice da 2 dc, .int .i64 (-1), .int .i64 0, .bool false] 24)
  obtain ⟨v1, hw⟩ : ∃ x, w1.alloc (.cells #[.slice da 2 dc, .int .i64 (-1), .int .i64 0, .bool false] 24) = x := ⟨_, rfl⟩
  rw [hw] at hq hz
  have HV1 := Lib.hid hw
  have HD := Lib.hid (HD.out.next hz)
  have Hw := Lib.hid (Hw.out.trans (hz.mono Hw.out.size))
  have Q1 := Lib.hid hq
  clear hq hz hw
  obtain ⟨aQ10, aQ11, aQ12, aQ13, _, _, _, _⟩ := dkCells Q1.out
  go_wp2_with (rw [HV1.out])
  clear aQ10 aQ11 aQ12 aQ13
  have HOp := Lib.hid (open_any (newD 2) _ 0 1 v1 HD.out)
  rw [op_a.1, op_a.2] at HOp
  refine HOp.out.mono ?_
  rintro e w2 ⟨x, rfl, ⟨vx, rfl, hsx⟩, hb⟩
  obtain ⟨xa, xc, rfl⟩ := hsx.len
  simp only [List.length_nil] at hsx ⊢
  unfold lgAgg
  simp only []
  have Q1 := Lib.hid (Q1.out.below hb Q1.out.lt)
  have HD := Lib.hid (HD.out.next hb)
  have Hw := Lib.hid (Hw.out.trans (hb.mono Hw.out.size))
  have Hx := Lib.hid hsx
  clear hsx hb HOp
  have hq := Blk.new w2 29 #[.int .i64 0, .int .i64 1, .slice xa 0 xc, .int .i64 0]
  have hz := below_alloc w2 (.cells #[.int .i64 0, .int .i64 1, .slice xa 0 xc, .int .i64 0] 29)
  obtain ⟨v2, hw⟩ : ∃ x, w2.alloc (.cells #[.int .i64 0, .int .i64 1, .slice xa 0 xc, .int .i64 0] 29) = x := ⟨_, rfl⟩
  rw [hw] at hq hz
  have HV2 := Lib.hid hw
  have Q1 := Lib.hid (Q1.out.below hz Q1.out.lt)
  have HD := Lib.hid (HD.out.next hz)
  have Hx := Lib.hid (Hx.out.next hz)
  have Hw := Lib.hid (Hw.out.trans (hz.mono Hw.out.size))
  have Q2 := Lib.hid hq
  clear hq hz hw
  obtain ⟨aQ10, aQ11, aQ12, aQ13, _, _, _, _⟩ := dkCells Q1.out
  obtain ⟨aQ20, aQ21, aQ22, aQ23, _, _, _, _⟩ := dkCells Q2.out
  go_wp2_with (rw [HV2.out])
  clear aQ10 aQ11 aQ12 aQ13 aQ20 aQ21 aQ22 aQ23
  have HOp := Lib.hid (open_any (newD 2) _ 0 0 v2 HD.out)
  rw [op_b.1, op_b.2] at HOp
  refine HOp.out.mono ?_
  rintro e w3 ⟨x, rfl, ⟨vx, rfl, hsx⟩, hb⟩
  obtain ⟨ya, yc, rfl⟩ := hsx.len
  simp only [List.length_nil] at hsx ⊢
  unfold lgAgg
  simp only []
  have Q1 := Lib.hid (Q1.out.below hb Q1.out.lt)
  have Q2 := Lib.hid (Q2.out.below hb Q2.out.lt)
  have HD := Lib.hid (HD.out.next hb)
  have Hx := Lib.hid (Hx.out.next hb)
  have Hw := Lib.hid (Hw.out.trans (hb.mono Hw.out.size))
  have Hy := Lib.hid hsx
  clear hsx hb HOp
  have hq := Blk.new w3 29 #[.int .i64 0, .int .i64 0, .slice ya 0 yc, .int .i64 0]
  have hz := below_alloc w3 (.cells #[.int .i64 0, .int .i64 0, .slice ya 0 yc, .int .i64 0] 29)
  obtain ⟨v3, hw⟩ : ∃ x, w3.alloc (.cells #[.int .i64 0, .int .i64 0, .slice ya 0 yc, .int .i64 0] 29) = x := ⟨_, rfl⟩
  rw [hw] at hq hz
  have HV3 := Lib.hid hw
  have Q1 := Lib.hid (Q1.out.below hz Q1.out.lt)
  have Q2 := Lib.hid (Q2.out.below hz Q2.out.lt)
  have HD := Lib.hid (HD.out.next hz)
  have Hx := Lib.hid (Hx.out.next hz)
  have Hy := Lib.hid (Hy.out.next hz)
  have Hw := Lib.hid (Hw.out.trans (hz.mono Hw.out.size))
  have Q3 := Lib.hid hq
  clear hq hz hw
  obtain ⟨aQ10, aQ11, aQ12, aQ13, _, _, _, _⟩ := dkCells Q1.out
  obtain ⟨aQ20, aQ21, aQ22, aQ23, _, _, _, _⟩ := dkCells Q2.out
  obtain ⟨aQ30, aQ31, aQ32, aQ33, _, _, _, _⟩ := dkCells Q3.out
  go_upto_region 4 with (rw [HV3.out])
  go_cut [7, 8] (fun s7 s8 wx => ∃ g7 va vc, s7 = .pointer (some ⟨g7, 0, none⟩) ∧ s8 = .int .i64 2 ∧ Blk wx g7 29 #[.int .i64 0, .int .i64 0, .slice va 0 vc, .int .i64 0] ∧ Below v3.heap.size v3 wx)
  case first =>
    have hmk := mk113
    have hz0 := zc_113
    obtain ⟨E, hE⟩ : ∃ E, zc 113 = E := ⟨_, rfl⟩
    rw [hE] at hz0
    simp only [hE] at hmk
    obtain ⟨rp, hrp⟩ : ∃ rp, List.replicate 113 (0 : UInt8) = rp := ⟨_, rfl⟩
    rw [hrp] at hz0
    have Hrp := Lib.hid (show rp.length = 113 by rw [← hrp]; exact List.length_replicate)
    have Hz0 := Lib.hid hz0
    clear hz0 hE hrp
    have HAp := Lib.hid (fun W g (hb : Below v3.heap.size v3 W) (hk : Blk W g 5 E) => append_any ⟨0, 1, [], 0⟩ (.agg #[.int .i64 0, .int .i64 1, .slice xa 0 xc, .int .i64 0]) rp 113 Hrp.out (some ⟨g, 0, none⟩) 113 W ⟨_, rfl, Hx.out.next hb⟩ (by simp) (hk.sl Hz0.out (by rw [bc_len, Hrp.out])))
    rw [(ap_a rp Hrp.out).1, (ap_a rp Hrp.out).2] at HAp
    have HA : Calls Try.prog 16 #[.agg #[.int .i64 0, .int .i64 1, .slice xa 0 xc, .int .i64 0], .slice (some ⟨v3.heap.size, 0, none⟩) 113 113] (v3.alloc (.cells E 5)).drew
        fun e w' => ∃ va vc, e = .returned (.tuple #[.agg #[.int .i64 0, .int .i64 0, .slice va 0 vc, .int .i64 0], .int .i64 2]) ∧ Below v3.heap.size v3 w' := by
      have hb : Below v3.heap.size v3 (v3.alloc (.cells E 5)) := (Below.refl _ v3).alloc (Nat.le_refl _) _
      have hk : Blk (v3.alloc (.cells E 5)) (v3.heap.size) 5 E := Blk.new v3 _ E
      refine (HAp.out (v3.alloc (.cells E 5)).drew _ hb.drew (blk_drew hk)).mono ?_
      rintro e w4 ⟨lx, rfl, ⟨vl, rfl, hsl⟩, hbl⟩
      obtain ⟨va, vc, rfl⟩ := hsl.len
      refine ⟨va, vc, rfl, hb.drew.trans (hbl.mono (by simp; try omega))⟩
    have HA := Lib.hid HA
    have HB : Calls Try.prog 16 #[.agg #[.int .i64 0, .int .i64 1, .slice xa 0 xc, .int .i64 0], .slice (some ⟨v3.heap.size, 0, none⟩) 113 113] ((v3.alloc (.cells E 5)).alloc (.cells #[.int .i64 0, .int .i64 0, .slice none 0 0, .int .i64 0] 29)).drew
        fun e w' => ∃ va vc, e = .returned (.tuple #[.agg #[.int .i64 0, .int .i64 0, .slice va 0 vc, .int .i64 0], .int .i64 2]) ∧ Below v3.heap.size v3 w' ∧ Blk w' (v3.heap.size + 1) 29 #[.int .i64 0, .int .i64 0, .slice none 0 0, .int .i64 0] := by
      have hb : Below v3.heap.size v3 ((v3.alloc (.cells E 5)).alloc (.cells #[.int .i64 0, .int .i64 0, .slice none 0 0, .int .i64 0] 29)) := ((Below.refl _ v3).alloc (Nat.le_refl _) _).alloc (by simp) _
      have hk : Blk ((v3.alloc (.cells E 5)).alloc (.cells #[.int .i64 0, .int .i64 0, .slice none 0 0, .int .i64 0] 29)) (v3.heap.size) 5 E := (Blk.new v3 _ E).alloc _
      have hg : Blk ((v3.alloc (.cells E 5)).alloc (.cells #[.int .i64 0, .int .i64 0, .slice none 0 0, .int .i64 0] 29)) (v3.heap.size + 1) 29 #[.int .i64 0, .int .i64 0, .slice none 0 0, .int .i64 0] := by have h := Blk.new (v3.alloc (.cells E 5)) 29 #[.int .i64 0, .int .i64 0, .slice none 0 0, .int .i64 0]; rw [show (v3.alloc (.cells E 5)).heap.size = v3.heap.size + 1 by simp] at h; exact h
      refine (HAp.out ((v3.alloc (.cells E 5)).alloc (.cells #[.int .i64 0, .int .i64 0, .slice none 0 0, .int .i64 0] 29)).drew _ hb.drew (blk_drew hk)).mono ?_
      rintro e w4 ⟨lx, rfl, ⟨vl, rfl, hsl⟩, hbl⟩
      obtain ⟨va, vc, rfl⟩ := hsl.len
      refine ⟨va, vc, rfl, hb.drew.trans (hbl.mono (by simp; try omega)), (blk_drew hg).below hbl (blk_drew hg).lt⟩
    have HB := Lib.hid HB
    have HC : Calls Try.prog 16 #[.agg #[.int .i64 0, .int .i64 1, .slice xa 0 xc, .int .i64 0], .slice (some ⟨v3.heap.size + 1, 0, none⟩) 113 113] ((v3.alloc (.cells #[.int .i64 0, .int .i64 0, .slice none 0 0, .int .i64 0] 29)).alloc (.cells E 5)).drew
        fun e w' => ∃ va vc, e = .returned (.tuple #[.agg #[.int .i64 0, .int .i64 0, .slice va 0 vc, .int .i64 0], .int .i64 2]) ∧ Below v3.heap.size v3 w' ∧ Blk w' (v3.heap.size) 29 #[.int .i64 0, .int .i64 0, .slice none 0 0, .int .i64 0] := by
      have hb : Below v3.heap.size v3 ((v3.alloc (.cells #[.int .i64 0, .int .i64 0, .slice none 0 0, .int .i64 0] 29)).alloc (.cells E 5)) := ((Below.refl _ v3).alloc (Nat.le_refl _) _).alloc (by simp) _
      have hk : Blk ((v3.alloc (.cells #[.int .i64 0, .int .i64 0, .slice none 0 0, .int .i64 0] 29)).alloc (.cells E 5)) (v3.heap.size + 1) 5 E := by have h := Blk.new (v3.alloc (.cells #[.int .i64 0, .int .i64 0, .slice none 0 0, .int .i64 0] 29)) 5 E; rw [show (v3.alloc (.cells #[.int .i64 0, .int .i64 0, .slice none 0 0, .int .i64 0] 29)).heap.size = v3.heap.size + 1 by simp] at h; exact h
      have hg : Blk ((v3.alloc (.cells #[.int .i64 0, .int .i64 0, .slice none 0 0, .int .i64 0] 29)).alloc (.cells E 5)) (v3.heap.size) 29 #[.int .i64 0, .int .i64 0, .slice none 0 0, .int .i64 0] := (Blk.new v3 _ #[.int .i64 0, .int .i64 0, .slice none 0 0, .int .i64 0]).alloc _
      refine (HAp.out ((v3.alloc (.cells #[.int .i64 0, .int .i64 0, .slice none 0 0, .int .i64 0] 29)).alloc (.cells E 5)).drew _ hb.drew (blk_drew hk)).mono ?_
      rintro e w4 ⟨lx, rfl, ⟨vl, rfl, hsl⟩, hbl⟩
      obtain ⟨va, vc, rfl⟩ := hsl.len
      refine ⟨va, vc, rfl, hb.drew.trans (hbl.mono (by simp; try omega)), (blk_drew hg).below hbl (blk_drew hg).lt⟩
    have HC := Lib.hid HC
    clear HAp
    have lt2 := Q2.out.lt
    have lt3 : w2.heap.size < v3.heap.size + 1 := by omega
    go_region_law
      (first
        | (go_simp; go_at_call 16
           first
             | (with_reducible refine HA.out.mono ?_
                rintro e w4 ⟨va, vc, rfl, hbA⟩)
             | (with_reducible refine HB.out.mono ?_
                rintro e w4 ⟨va, vc, rfl, hbA, hq7⟩
                obtain ⟨c0, c1, c2, c3, c4, c5, c6, c7⟩ := dkCells hq7)
             | (with_reducible refine HC.out.mono ?_
                rintro e w4 ⟨va, vc, rfl, hbA, hq7⟩
                obtain ⟨c0, c1, c2, c3, c4, c5, c6, c7⟩ := dkCells hq7)))
    all_goals
      go_wp2_with fail
      go_meet
      first
        | exact ⟨_, va, vc, rfl, rfl, (((hq7.set_ 0 _).set_ 1 _).set_ 2 _).set_ 3 _, (((hbA.setCell (p := ⟨_, 0, none⟩) (by simp) _).setCell (p := ⟨_, 1, none⟩) (by simp) _).setCell (p := ⟨_, 2, none⟩) (by simp) _).setCell (p := ⟨_, 3, none⟩) (by simp) _⟩
        | exact ⟨_, va, vc, rfl, rfl, Blk.new _ _ _, hbA.alloc hbA.size _⟩
  obtain ⟨g7, va, vc, rfl, rfl, hq, hb⟩ := hcut
  clear aQ10 aQ11 aQ12 aQ13 aQ20 aQ21 aQ22 aQ23 aQ30 aQ31 aQ32 aQ33
  have Q1 := Lib.hid (Q1.out.below hb Q1.out.lt)
  have Q2 := Lib.hid (Q2.out.below hb Q2.out.lt)
  have Q3 := Lib.hid (Q3.out.below hb Q3.out.lt)
  have HD := Lib.hid (HD.out.next hb)
  have Hx := Lib.hid (Hx.out.next hb)
  have Hy := Lib.hid (Hy.out.next hb)
  have Hw := Lib.hid (Hw.out.trans (hb.mono Hw.out.size))
  have Q7 := Lib.hid hq
  clear hq hb
  obtain ⟨aQ10, aQ11, aQ12, aQ13, _, _, _, _⟩ := dkCells Q1.out
  obtain ⟨aQ20, aQ21, aQ22, aQ23, _, _, _, _⟩ := dkCells Q2.out
  obtain ⟨aQ30, aQ31, aQ32, aQ33, _, _, _, _⟩ := dkCells Q3.out
  obtain ⟨aQ70, aQ71, aQ72, aQ73, _, _, _, _⟩ := dkCells Q7.out
  have hcv := Lib.run_convert_bytes_const (P := Try.prog) wc 25 5 #[.int .u8 97, .int .u8 98] 2 2 Try.underlying25 Try.underlying5
  have hz := below_alloc wc (.cells #[.int .u8 97, .int .u8 98] 5 (2, 3))
  have hq := sl_lit_fr wc (bc abL) 5 ((bc abL).toArray.size, (bc abL).toArray.size + 1)
  have hw := mark_ab wc
  obtain ⟨v4, hv⟩ : ∃ x, wc.alloc (.cells #[.int .u8 97, .int .u8 98] 5 (2, 3)) = x := ⟨_, rfl⟩
  rw [hv] at hz hw
  rw [hw.1] at hcv
  rw [hw.2] at hq
  clear hw hv
  have Q1 := Lib.hid (Q1.out.below hz Q1.out.lt)
  have Q2 := Lib.hid (Q2.out.below hz Q2.out.lt)
  have Q3 := Lib.hid (Q3.out.below hz Q3.out.lt)
  have Q7 := Lib.hid (Q7.out.below hz Q7.out.lt)
  have HD := Lib.hid (HD.out.next hz)
  have Hx := Lib.hid (Hx.out.next hz)
  have Hy := Lib.hid (Hy.out.next hz)
  have Hw := Lib.hid (Hw.out.trans (hz.mono Hw.out.size))
  have HSl := Lib.hid (show Sl v4 1 (.slice (some ⟨wc.heap.size, 0, none⟩) 2 2) 2 (bc abL) from hq)
  clear hq hz
  go_wp2_with fail
  clear hcv
  have HAp := Lib.hid (append_any ⟨0, 1, [], 0⟩ (.agg #[.int .i64 0, .int .i64 1, .slice xa 0 xc, .int .i64 0]) abL 2 rfl (some ⟨wc.heap.size, 0, none⟩) 2 v4 ⟨_, rfl, Hx.out⟩ (by simp) HSl.out)
  rw [ap_b.1, ap_b.2] at HAp
  refine HAp.out.mono ?_
  rintro e w5 ⟨lx, rfl, ⟨vl, rfl, hsl⟩, hb⟩
  obtain ⟨za, zc, rfl⟩ := hsl.len
  simp only [List.length_nil, List.length_cons, Nat.zero_add] at hsl ⊢
  unfold lgAgg
  simp only []
  clear aQ10 aQ11 aQ12 aQ13 aQ20 aQ21 aQ22 aQ23 aQ30 aQ31 aQ32 aQ33 aQ70 aQ71 aQ72 aQ73
  have Q1 := Lib.hid (Q1.out.below hb Q1.out.lt)
  have Q2 := Lib.hid (Q2.out.below hb Q2.out.lt)
  have Q3 := Lib.hid (Q3.out.below hb Q3.out.lt)
  have Q7 := Lib.hid (Q7.out.below hb Q7.out.lt)
  have HD := Lib.hid (HD.out.next hb)
  have Hx := Lib.hid (Hx.out.next hb)
  have Hy := Lib.hid (Hy.out.next hb)
  have Hw := Lib.hid (Hw.out.trans (hb.mono Hw.out.size))
  have Hz := Lib.hid hsl
  clear hsl hb HAp HSl
  have hq := Blk.new w5 29 #[.int .i64 0, .int .i64 1, .slice za 1 zc, .int .i64 0]
  have hz := below_alloc w5 (.cells #[.int .i64 0, .int .i64 1, .slice za 1 zc, .int .i64 0] 29)
  obtain ⟨v5, hw⟩ : ∃ x, w5.alloc (.cells #[.int .i64 0, .int .i64 1, .slice za 1 zc, .int .i64 0] 29) = x := ⟨_, rfl⟩
  rw [hw] at hq hz
  have HV5 := Lib.hid hw
  have Q1 := Lib.hid (Q1.out.below hz Q1.out.lt)
  have Q2 := Lib.hid (Q2.out.below hz Q2.out.lt)
  have Q3 := Lib.hid (Q3.out.below hz Q3.out.lt)
  have Q7 := Lib.hid (Q7.out.below hz Q7.out.lt)
  have HD := Lib.hid (HD.out.next hz)
  have Hx := Lib.hid (Hx.out.next hz)
  have Hy := Lib.hid (Hy.out.next hz)
  have Hz := Lib.hid (Hz.out.next hz)
  have Hw := Lib.hid (Hw.out.trans (hz.mono Hw.out.size))
  have Q5 := Lib.hid hq
  clear hq hz hw
  obtain ⟨aQ10, aQ11, aQ12, aQ13, _, _, _, _⟩ := dkCells Q1.out
  obtain ⟨aQ20, aQ21, aQ22, aQ23, _, _, _, _⟩ := dkCells Q2.out
  obtain ⟨aQ30, aQ31, aQ32, aQ33, _, _, _, _⟩ := dkCells Q3.out
  obtain ⟨aQ70, aQ71, aQ72, aQ73, _, _, _, _⟩ := dkCells Q7.out
  obtain ⟨aQ50, aQ51, aQ52, aQ53, _, _, _, _⟩ := dkCells Q5.out
  go_wp2_with (rw [HV5.out])
  clear aQ10 aQ11 aQ12 aQ13 aQ20 aQ21 aQ22 aQ23 aQ30 aQ31 aQ32 aQ33 aQ70 aQ71 aQ72 aQ73 aQ50 aQ51 aQ52 aQ53
  have HSy := Lib.hid (sync1_any abL (by decide) _ _ v5 ⟨_, rfl, Hz.out⟩ HD.out)
  refine HSy.out.mono ?_
  rintro e w6 ⟨x, d, rfl, ⟨vx, rfl, hsx⟩, ⟨vd, rfl, hsd⟩, hb⟩
  obtain ⟨pa, pc, rfl⟩ := hsx.len
  obtain ⟨qa, qc, rfl⟩ := hsd.len
  simp only [List.length_nil, List.length_cons, Nat.zero_add] at hsx hsd ⊢
  unfold lgAgg dkAgg
  simp only []
  have Q1 := Lib.hid (Q1.out.below hb Q1.out.lt)
  have Q2 := Lib.hid (Q2.out.below hb Q2.out.lt)
  have Q3 := Lib.hid (Q3.out.below hb Q3.out.lt)
  have Q7 := Lib.hid (Q7.out.below hb Q7.out.lt)
  have Q5 := Lib.hid (Q5.out.below hb Q5.out.lt)
  have HD := Lib.hid (HD.out.next hb)
  have Hx := Lib.hid (Hx.out.next hb)
  have Hy := Lib.hid (Hy.out.next hb)
  have Hz := Lib.hid (Hz.out.next hb)
  have Hw := Lib.hid (Hw.out.trans (hb.mono Hw.out.size))
  have HC := Lib.hid (show DkV w6 (.agg #[.slice qa 2 qc, .int .i64 (-1), .int .i64 0, .bool false]) ⟨[lay2 1#32 0 abL, zeros], -1, 0, false⟩ from ⟨_, rfl, hsd⟩)
  clear hsx hsd hb HSy
  obtain ⟨v7, hw⟩ : ∃ x, (w6.alloc (.cells #[.int .i64 0, .int .i64 1, .slice pa 1 pc, .int .i64 1] 29)).alloc (.cells #[.slice qa 2 qc, .int .i64 (-1), .int .i64 0, .bool false] 24) = x := ⟨_, rfl⟩
  have hq := (Blk.new w6 29 #[.int .i64 0, .int .i64 1, .slice pa 1 pc, .int .i64 1]).alloc (.cells #[.slice qa 2 qc, .int .i64 (-1), .int .i64 0, .bool false] 24)
  have hz := (below_alloc w6 (.cells #[.int .i64 0, .int .i64 1, .slice pa 1 pc, .int .i64 1] 29)).alloc (by simp) (.cells #[.slice qa 2 qc, .int .i64 (-1), .int .i64 0, .bool false] 24)
  rw [hw] at hq hz
  have Q1 := Lib.hid (Q1.out.below hz Q1.out.lt)
  have Q2 := Lib.hid (Q2.out.below hz Q2.out.lt)
  have Q3 := Lib.hid (Q3.out.below hz Q3.out.lt)
  have Q7 := Lib.hid (Q7.out.below hz Q7.out.lt)
  have Q5 := Lib.hid (Q5.out.below hz Q5.out.lt)
  have HD := Lib.hid (HD.out.next hz)
  have Hx := Lib.hid (Hx.out.next hz)
  have Hy := Lib.hid (Hy.out.next hz)
  have Hz := Lib.hid (Hz.out.next hz)
  have HC := Lib.hid (HC.out.next hz)
  have Hw := Lib.hid (Hw.out.trans (hz.mono Hw.out.size))
  have HV7 := Lib.hid hw
  have Q11 := Lib.hid hq
  clear hq hz hw
  go_wp2_with fail
  rw [HV7.out]
  have HOp := Lib.hid (open_any ⟨[lay2 1#32 0 abL, zeros], -1, 0, false⟩ _ 0 1 v7 HC.out)
  rw [op_c.1, op_c.2] at HOp
  refine HOp.out.mono ?_
  rintro e w8 ⟨x, rfl, ⟨vx, rfl, hsx⟩, hb⟩
  obtain ⟨ua, uc, rfl⟩ := hsx.len
  simp only [List.length_nil, List.length_cons, Nat.zero_add] at hsx ⊢
  unfold lgAgg
  simp only []
  have Q1 := Lib.hid (Q1.out.below hb Q1.out.lt)
  have Q2 := Lib.hid (Q2.out.below hb Q2.out.lt)
  have Q3 := Lib.hid (Q3.out.below hb Q3.out.lt)
  have Q7 := Lib.hid (Q7.out.below hb Q7.out.lt)
  have Q5 := Lib.hid (Q5.out.below hb Q5.out.lt)
  have Q11 := Lib.hid (Q11.out.below hb Q11.out.lt)
  have HD := Lib.hid (HD.out.next hb)
  have Hx := Lib.hid (Hx.out.next hb)
  have Hy := Lib.hid (Hy.out.next hb)
  have Hz := Lib.hid (Hz.out.next hb)
  have HC := Lib.hid (HC.out.next hb)
  have Hw := Lib.hid (Hw.out.trans (hb.mono Hw.out.size))
  have Hu := Lib.hid hsx
  clear hsx hb HOp
  obtain ⟨bQ20, bQ21, bQ22, bQ23, _, _, _, _⟩ := dkCells Q2.out
  have blt := Q2.out.lt
  have hq := Blk.new w8 29 #[.int .i64 0, .int .i64 1, .slice ua 1 uc, .int .i64 1]
  have hz := below_alloc w8 (.cells #[.int .i64 0, .int .i64 1, .slice ua 1 uc, .int .i64 1] 29)
  obtain ⟨v14, hw⟩ : ∃ x, w8.alloc (.cells #[.int .i64 0, .int .i64 1, .slice ua 1 uc, .int .i64 1] 29) = x := ⟨_, rfl⟩
  rw [hw] at hq hz
  have HV14 := Lib.hid hw
  have Q1 := Lib.hid (Q1.out.below hz Q1.out.lt)
  have Q2 := Lib.hid (Q2.out.below hz Q2.out.lt)
  have Q3 := Lib.hid (Q3.out.below hz Q3.out.lt)
  have Q7 := Lib.hid (Q7.out.below hz Q7.out.lt)
  have Q5 := Lib.hid (Q5.out.below hz Q5.out.lt)
  have Q11 := Lib.hid (Q11.out.below hz Q11.out.lt)
  have HD := Lib.hid (HD.out.next hz)
  have Hx := Lib.hid (Hx.out.next hz)
  have Hy := Lib.hid (Hy.out.next hz)
  have Hz := Lib.hid (Hz.out.next hz)
  have HC := Lib.hid (HC.out.next hz)
  have Hu := Lib.hid (Hu.out.next hz)
  have Hw := Lib.hid (Hw.out.trans (hz.mono Hw.out.size))
  have Q14 := Lib.hid hq
  clear hq hz hw
  obtain ⟨aQ10, aQ11, aQ12, aQ13, _, _, _, _⟩ := dkCells Q1.out
  obtain ⟨aQ20, aQ21, aQ22, aQ23, _, _, _, _⟩ := dkCells Q2.out
  obtain ⟨aQ30, aQ31, aQ32, aQ33, _, _, _, _⟩ := dkCells Q3.out
  obtain ⟨aQ70, aQ71, aQ72, aQ73, _, _, _, _⟩ := dkCells Q7.out
  obtain ⟨aQ50, aQ51, aQ52, aQ53, _, _, _, _⟩ := dkCells Q5.out
  obtain ⟨aQ110, aQ111, aQ112, aQ113, _, _, _, _⟩ := dkCells Q11.out
  obtain ⟨aQ140, aQ141, aQ142, aQ143, _, _, _, _⟩ := dkCells Q14.out
  go_wp2_with (rw [HV14.out])
  clear aQ10 aQ11 aQ12 aQ13 aQ20 aQ21 aQ22 aQ23 aQ30 aQ31 aQ32 aQ33 aQ70 aQ71 aQ72 aQ73 aQ50 aQ51 aQ52 aQ53 aQ110 aQ111 aQ112 aQ113 aQ140 aQ141 aQ142 aQ143
  clear bQ20 bQ21 bQ22 bQ23 blt
  have HRm := Lib.hid (room_any ⟨0, 1, [], 0⟩ (.agg #[.int .i64 0, .int .i64 1, .slice xa 0 xc, .int .i64 0]) v14 ⟨_, rfl, Hx.out⟩ (by simp))
  rw [rm_a] at HRm
  refine HRm.out.mono ?_
  rintro e w9 ⟨rfl, hb⟩
  have Q1 := Lib.hid (Q1.out.below hb Q1.out.lt)
  have Q2 := Lib.hid (Q2.out.below hb Q2.out.lt)
  have Q3 := Lib.hid (Q3.out.below hb Q3.out.lt)
  have Q7 := Lib.hid (Q7.out.below hb Q7.out.lt)
  have Q5 := Lib.hid (Q5.out.below hb Q5.out.lt)
  have Q11 := Lib.hid (Q11.out.below hb Q11.out.lt)
  have Q14 := Lib.hid (Q14.out.below hb Q14.out.lt)
  have HD := Lib.hid (HD.out.next hb)
  have Hx := Lib.hid (Hx.out.next hb)
  have Hy := Lib.hid (Hy.out.next hb)
  have Hz := Lib.hid (Hz.out.next hb)
  have HC := Lib.hid (HC.out.next hb)
  have Hu := Lib.hid (Hu.out.next hb)
  have Hw := Lib.hid (Hw.out.trans (hb.mono Hw.out.size))
  clear hb HRm
  obtain ⟨ug, uoff, e', _, hcs⟩ := Hu.out.at_ Nat.zero_lt_one
  cases e'
  obtain ⟨sa, sc, hrow, hsr⟩ := hcs 0 abL rfl
  have hcs1 := conv_bytes hsr
  rw [Nat.add_zero] at hrow
  rw [show mkS abL = ⟨#[97, 98]⟩ from rfl, show abL.length = 2 from rfl] at hcs1
  rw [show abL.length = 2 from rfl] at hrow
  clear hcs hsr
  have hcv := Lib.run_convert_bytes_const (P := Try.prog) w9 25 5 #[.int .u8 49, .int .u8 50, .int .u8 51, .int .u8 52, .int .u8 53, .int .u8 54, .int .u8 55, .int .u8 56, .int .u8 57] 9 9 Try.underlying25 Try.underlying5
  have hz := below_alloc w9 (.cells (bc d9).toArray 5 ((bc d9).toArray.size, (bc d9).toArray.size + 1))
  have hq := sl_lit_fr w9 (bc d9) 5 ((bc d9).toArray.size, (bc d9).toArray.size + 1)
  obtain ⟨v9, hv⟩ : ∃ x, w9.alloc (.cells (bc d9).toArray 5 ((bc d9).toArray.size, (bc d9).toArray.size + 1)) = x := ⟨_, rfl⟩
  rw [hv] at hz hq
  rw [show w9.alloc (.cells #[.int .u8 49, .int .u8 50, .int .u8 51, .int .u8 52, .int .u8 53, .int .u8 54, .int .u8 55, .int .u8 56, .int .u8 57] 5 ((#[.int .u8 49, .int .u8 50, .int .u8 51, .int .u8 52, .int .u8 53, .int .u8 54, .int .u8 55, .int .u8 56, .int .u8 57] : Array Value).size, (#[.int .u8 49, .int .u8 50, .int .u8 51, .int .u8 52, .int .u8 53, .int .u8 54, .int .u8 55, .int .u8 56, .int .u8 57] : Array Value).size + 1)) = v9 from hv] at hcv
  have HS9 := Lib.hid (sum_any d9 9 rfl (by unfold maxLen; omega) (some ⟨w9.heap.size, 0, none⟩) 9 v9 hq)
  rw [show wv (crc d9) = .int .u32 3421780262 by rw [show d9 = [49, 50, 51, 52, 53, 54, 55, 56, 57] from rfl, crc_a]; rfl] at HS9
  have HS0 := Lib.hid (sum_any [] 0 rfl (by unfold maxLen; omega) none 0 v9 (sl_nil v9 1))
  rw [show wv (crc []) = .int .u32 0 by rw [crc_0]; rfl] at HS0
  obtain ⟨aQ10, aQ11, aQ12, aQ13, _, _, _, _⟩ := dkCells Q1.out
  obtain ⟨aQ20, aQ21, aQ22, aQ23, _, _, _, _⟩ := dkCells Q2.out
  obtain ⟨aQ30, aQ31, aQ32, aQ33, _, _, _, _⟩ := dkCells Q3.out
  obtain ⟨aQ70, aQ71, aQ72, aQ73, _, _, _, _⟩ := dkCells Q7.out
  obtain ⟨aQ50, aQ51, aQ52, aQ53, _, _, _, _⟩ := dkCells Q5.out
  obtain ⟨aQ110, aQ111, aQ112, aQ113, _, _, _, _⟩ := dkCells Q11.out
  obtain ⟨aQ140, aQ141, aQ142, aQ143, _, _, _, _⟩ := dkCells Q14.out
  have Hw := Lib.hid (Hw.out.trans (hz.mono Hw.out.size))
  clear hz hq hv
  go_wp2_with fail
  refine HS9.out.mono ?_
  rintro e w10 ⟨rfl, rfl⟩
  go_wp2_with fail
  refine HS0.out.mono ?_
  rintro e w10 ⟨rfl, rfl⟩
  go_wp2_with fail
  exact bodyPost_ret (v := .bool true) (by simp [results, Try.results9, go_sem, *]) rfl ⟨rfl, Hw.out⟩
end Go.Proofs.Ytbinibpkbkhdlaa
