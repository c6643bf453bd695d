/- Intervals: the examples. -/
import Derived.Test.YtnjpjjefhpbfgaaIvN
import Derived.Test.YtnjpjjefhpbfgaaIvK
namespace Go.Proofs.Ytnjpjjefhpbfgaa
open Go.RowKit

theorem rd_lit3 (w : World) (a b c d e f : Int) : Rd (w.alloc (.cells #[.int .i64 a, .int .i64 b, .int .i64 c, .int .i64 d, .int .i64 e, .int .i64 f] 23)) (.slice (some ⟨w.heap.size, 0, none⟩) 3 3) [(a, b), (c, d), (e, f)] :=
  (Blk.new w 23 #[.int .i64 a, .int .i64 b, .int .i64 c, .int .i64 d, .int .i64 e, .int .i64 f]).sl rfl rfl
theorem ex_uni : uni [(5, 6), (1, 2), (3, 3)] = [(1, 3), (5, 6)] := by
  rw [← uni_sorted (s := [(1, 2), (3, 3), (5, 6)]) (by decide) (by unfold Srt; simp) (by intro i hi; simp at hi; rcases hi with rfl | rfl | rfl <;> decide)]
  decide
theorem ex_uni2 : uni [(1, 3), (5, 6)] = [(1, 3), (5, 6)] := by
  rw [← uni_sorted (s := [(1, 3), (5, 6)]) (by decide) (by unfold Srt; simp) (by intro i hi; simp at hi; rcases hi with rfl | rfl <;> decide)]
  decide
theorem ex_union : unR [(5, 6), (1, 2), (3, 3)] = [(1, 3), (5, 6)] := by rw [unR, if_pos (by decide), ex_uni]
theorem ex_inside : insR (1, 3) [(1, 3), (5, 6)] = true := by rw [insR, if_pos (by decide), ex_uni2]; decide
theorem ex_without : woR (0, 9) [(1, 3), (5, 6)] = [(0, 0), (4, 4), (7, 9)] := by rw [woR, if_pos (by decide), ex_uni2]; decide
theorem same_self (u : List Iv) (n : Nat) (hn : u.length = n) (hml : n ≤ maxLen) (a : Option Addr) (cap : Nat) (b : Option Addr) (cap2 : Nat) (w : World) (hu : Rd w (.slice a n cap) u) (hv : Rd w (.slice b n cap2) u) :
    Calls Try.prog 25 #[.slice a n cap, .slice b n cap2] w fun e w' => e = .returned (.bool true) ∧ Below w.heap.size w w' := by
  have h := same_any u u n n hn hn hml a cap b cap2 w hu hv
  rwa [decide_eq_true rfl] at h
set_option maxRecDepth 100000 in
set_option maxHeartbeats 4000000 in
theorem sane_any (w : World) : Calls Try.prog 10 #[] w fun e w' => e = .returned (.bool true) ∧ Below w.heap.size w w' := by
  have HUn := Lib.hid (union_any [(5, 6), (1, 2), (3, 3)] 3 rfl (by omega) _ 3 _ (rd_lit3 w 5 6 1 2 3 3))
  have hb0 := below_alloc w (.cells #[.int .i64 5, .int .i64 6, .int .i64 1, .int .i64 2, .int .i64 3, .int .i64 3] 23)
  have HB0 := Lib.hid hb0
  have HE1 := Lib.hid (show ckL [(5, 6), (1, 2), (3, 3)] = 0 by decide)
  clear hb0
  go_enter Try.func10, Try.ntmps10
  go_wp2_with fail
  refine HUn.out.mono ?_
  rintro e w1 ⟨u, rfl, hu, hb1⟩
  rw [ex_union] at hu
  rw [HE1.out]
  obtain ⟨ua, uc, rfl⟩ := (Ow.rd hu).len
  have Hu := Lib.hid (Ow.rd hu)
  have Hb1 := Lib.hid (HB0.out.trans (hb1.mono HB0.out.size))
  clear hu hb1
  have HIn := Lib.hid (inside_any 1 3 [(1, 3), (5, 6)] 2 rfl (by omega) _ _ w1 Hu.out)
  rw [ex_inside, show ckL [(1, 3), (1, 3), (5, 6)] = 0 by decide] at HIn
  go_wp2_with fail
  refine HIn.out.mono ?_
  rintro e w2 ⟨rfl, hb2⟩
  have Hu2 := Lib.hid (Hu.out.next hb2)
  have Hb2 := Lib.hid (Hb1.out.trans (hb2.mono Hb1.out.size))
  clear hb2
  have HWo := Lib.hid (without_any 0 9 [(1, 3), (5, 6)] 2 rfl (by omega) _ _ w2 Hu2.out)
  rw [ex_without, show ckL [(0, 9), (1, 3), (5, 6)] = 0 by decide] at HWo
  go_wp2_with fail
  refine HWo.out.mono ?_
  rintro e w3 ⟨v, rfl, hv, hb3⟩
  obtain ⟨va, vc, rfl⟩ := hv.len
  have Hv := Lib.hid hv
  have Hu3 := Lib.hid (Hu2.out.next hb3)
  have Hb3 := Lib.hid (Hb2.out.trans (hb3.mono Hb2.out.size))
  clear hb3 hv
  have HM1 := Lib.hid (meet_any 1 5 4 9 w3)
  rw [show meetV (1, 5) (4, 9) = (4, 5) by decide, show meetE (1, 5) (4, 9) = 0 by decide] at HM1
  go_wp2_with fail
  refine HM1.out.mono ?_
  rintro e w4 ⟨rfl, hb4⟩
  have Hu4 := Lib.hid (Hu3.out.next hb4)
  have Hv4 := Lib.hid (Hv.out.next hb4)
  have Hb4 := Lib.hid (Hb3.out.trans (hb4.mono Hb3.out.size))
  clear hb4
  have hbn := below_alloc w4 (.cells #[.int .i64 4, .int .i64 5] 23)
  have HX := Lib.hid (Blk.new w4 23 #[.int .i64 4, .int .i64 5])
  have Hbn := Lib.hid hbn
  obtain ⟨w5, hw5⟩ : ∃ w5, w4.alloc (.cells #[.int .i64 4, .int .i64 5] 23) = w5 := ⟨_, rfl⟩
  rw [hw5] at HX Hbn
  have Hu5 := Lib.hid (Hu4.out.next Hbn.out)
  have Hv5 := Lib.hid (Hv4.out.next Hbn.out)
  have Hb5 := Lib.hid (Hb4.out.trans (Hbn.out.mono Hb4.out.size))
  have HW5 := Lib.hid hw5
  clear hw5 hbn
  have HM2 := Lib.hid (meet_any 1 2 3 4 w5)
  rw [show meetV (1, 2) (3, 4) = (0, 0) by decide, show meetE (1, 2) (3, 4) = 80 by decide] at HM2
  go_wp2_with (rw [HW5.out])
  refine HM2.out.mono ?_
  rintro e w6 ⟨rfl, hb6⟩
  have hbn := below_alloc w6 (.cells #[.int .i64 0, .int .i64 0] 23)
  have Hb67 := Lib.hid (hb6.trans (hbn.mono hb6.size))
  have Hu7 := Lib.hid (Hu5.out.next Hb67.out)
  have Hv7 := Lib.hid (Hv5.out.next Hb67.out)
  have Hb7 := Lib.hid (Hb5.out.trans (Hb67.out.mono Hb5.out.size))
  obtain ⟨x0, x1, _, _⟩ := cells2 (HX.out.below Hb67.out HX.out.lt)
  have hn8 := below_alloc (w6.alloc (.cells #[.int .i64 0, .int .i64 0] 23)) (.cells #[.int .i64 1, .int .i64 3, .int .i64 5, .int .i64 6] 23)
  have HS1 := Lib.hid (same_self [(1, 3), (5, 6)] 2 rfl (by unfold maxLen; omega) ua uc _ 2 _ (Hu7.out.next hn8) (rd_lit2 (w6.alloc (.cells #[.int .i64 0, .int .i64 0] 23)) 1 3 5 6))
  have Hn8 := Lib.hid hn8
  rw [World.size_alloc] at HS1
  clear hb6 hbn hn8
  go_wp2_with fail
  refine HS1.out.mono ?_
  rintro e w8 ⟨rfl, hb8⟩
  have Hb78 := Lib.hid (Hn8.out.trans (hb8.mono Hn8.out.size))
  have Hv8 := Lib.hid (Hv7.out.next Hb78.out)
  have Hb8 := Lib.hid (Hb7.out.trans (Hb78.out.mono Hb7.out.size))
  have hn9 := below_alloc w8 (.cells #[.int .i64 0, .int .i64 0, .int .i64 4, .int .i64 4, .int .i64 7, .int .i64 9] 23)
  have HS2 := Lib.hid (same_self [(0, 0), (4, 4), (7, 9)] 3 rfl (by unfold maxLen; omega) va vc _ 3 _ (Hv8.out.next hn9) (rd_lit3 w8 0 0 4 4 7 9))
  have Hn9 := Lib.hid hn9
  clear hb8 hn9 x0 x1
  go_wp2_with fail
  refine HS2.out.mono ?_
  rintro e w9 ⟨rfl, hb9⟩
  have Hb9 := Lib.hid (Hb8.out.trans ((Hn9.out.trans (hb9.mono Hn9.out.size)).mono Hb8.out.size))
  have HC1 := Lib.hid (check_any 3 2 w9)
  rw [show ck (3, 2) = 80 by decide] at HC1
  clear hb9
  go_wp2_with fail
  refine HC1.out.mono ?_
  rintro e w10 ⟨rfl, hb10⟩
  have Hb10 := Lib.hid (Hb9.out.trans (hb10.mono Hb9.out.size))
  have HC2 := Lib.hid (check_any 0 1099511627777 w10)
  rw [show ck (0, 1099511627777) = 1 by decide] at HC2
  clear hb10
  go_wp2_with fail
  refine HC2.out.mono ?_
  rintro e w11 ⟨rfl, hb11⟩
  have Hb11 := Lib.hid (Hb10.out.trans (hb11.mono Hb10.out.size))
  clear hb11
  go_wp2_with fail
  go_ret
  exact ⟨ret_bool (by first | rfl | (simp; done)), Hb11.out⟩
end Go.Proofs.Ytnjpjjefhpbfgaa
