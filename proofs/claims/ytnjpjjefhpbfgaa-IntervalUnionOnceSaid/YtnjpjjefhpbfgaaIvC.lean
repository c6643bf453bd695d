/- Intervals: Meet, Hull, Within. -/
import Derived.Test.YtnjpjjefhpbfgaaIvB
namespace Go.Proofs.Ytnjpjjefhpbfgaa
open Go.RowKit

def meetE (i j : Iv) : Int := if ckL [i, j] = 0 then (if min i.2 j.2 < max i.1 j.1 then 80 else 0) else ckL [i, j]
def meetV (i j : Iv) : Iv := if meetE i j = 0 then (max i.1 j.1, min i.2 j.2) else (0, 0)
def hullV (i j : Iv) : Iv := if ckL [i, j] = 0 then (min i.1 j.1, max i.2 j.2) else (0, 0)
def within (i j : Iv) : Bool := decide (ckL [i, j] = 0) && (decide (j.1 ≤ i.1) && decide (i.2 ≤ j.2))
theorem rd_lit2 (w : World) (a b c d : Int) : Rd (w.alloc (.cells #[.int .i64 a, .int .i64 b, .int .i64 c, .int .i64 d] 23)) (.slice (some ⟨w.heap.size, 0, none⟩) 2 2) [(a, b), (c, d)] :=
  (Blk.new w 23 #[.int .i64 a, .int .i64 b, .int .i64 c, .int .i64 d]).sl rfl rfl
set_option maxRecDepth 100000 in
set_option maxHeartbeats 2000000 in
theorem meet_any (a b c d : Int) (w : World) : Calls Try.prog 11 #[.agg #[.int .i64 a, .int .i64 b], .agg #[.int .i64 c, .int .i64 d]] w fun e w' =>
    e = .returned (.tuple #[.agg #[.int .i64 (meetV (a, b) (c, d)).1, .int .i64 (meetV (a, b) (c, d)).2], .int .i64 (meetE (a, b) (c, d))]) ∧ Below w.heap.size w w' := by
  have q0 := ((Blk.new w 23 #[.int .i64 a, .int .i64 b]).alloc (.cells #[.int .i64 c, .int .i64 d] 23)).alloc (.cells #[.int .i64 0, .int .i64 0] 23)
  have q1 := (blk_new2 w (.cells #[.int .i64 a, .int .i64 b] 23) 23 #[.int .i64 c, .int .i64 d]).alloc (.cells #[.int .i64 0, .int .i64 0] 23)
  have q2 := blk_new2 (w.alloc (.cells #[.int .i64 a, .int .i64 b] 23)) (.cells #[.int .i64 c, .int .i64 d] 23) 23 #[.int .i64 0, .int .i64 0]
  rw [World.size_alloc] at q2
  have hb := ((below_alloc w (.cells #[.int .i64 a, .int .i64 b] 23)).alloc (by simp) (.cells #[.int .i64 c, .int .i64 d] 23)).alloc (by simp; omega) (.cells #[.int .i64 0, .int .i64 0] 23)
  obtain ⟨W, hW⟩ : ∃ W, ((w.alloc (.cells #[.int .i64 a, .int .i64 b] 23)).alloc (.cells #[.int .i64 c, .int .i64 d] 23)).alloc (.cells #[.int .i64 0, .int .i64 0] 23) = W := ⟨_, rfl⟩
  rw [hW] at q0 q1 q2 hb
  have Q0 := Lib.hid q0
  have Q1 := Lib.hid q1
  have Q2 := Lib.hid q2
  have Hb := Lib.hid hb
  have HW := Lib.hid hW
  have HC := Lib.hid (checkAll_any [(a, b), (c, d)] 2 rfl (by unfold maxLen; omega) _ 2 _ (rd_lit2 W a b c d))
  have hbx := hb.alloc hb.size (.cells #[.int .i64 a, .int .i64 b, .int .i64 c, .int .i64 d] 23)
  obtain ⟨x0, x1, _, _⟩ := cells2 q0
  obtain ⟨y0, y1, _, _⟩ := cells2 q1
  have Hbx := Lib.hid hbx
  clear q0 q1 q2 hb hW hbx
  obtain ⟨ce, hce⟩ : ∃ x, ckL [(a, b), (c, d)] = x := ⟨_, rfl⟩
  rw [hce] at HC
  have he : meetE (a, b) (c, d) = if ce = 0 then (if min b d < max a c then 80 else 0) else ce := by rw [meetE, hce]
  have hv : meetV (a, b) (c, d) = if meetE (a, b) (c, d) = 0 then (max a c, min b d) else (0, 0) := rfl
  clear hce
  by_cases h0 : ce = 0
  · subst h0
    rw [if_pos rfl] at he
    have HF := Lib.hid (fun W => of_meet a b c d W)
    obtain ⟨x, hx⟩ : ∃ x, max a c = x := ⟨_, rfl⟩
    obtain ⟨y, hy⟩ : ∃ x, min b d = x := ⟨_, rfl⟩
    rw [hx, hy] at HF he hv
    clear hx hy
    have Hev := Lib.hid (And.intro he hv)
    clear he hv
    go_enter Try.func11, Try.ntmps11
    go_wp2_with (rw [HW.out])
    refine HC.out.mono ?_
    rintro e w1 ⟨rfl, hb1⟩
    have Hb1 := Lib.hid (Hbx.out.trans (hb1.mono Hbx.out.size))
    have hl := (below_alloc W (.cells #[.int .i64 a, .int .i64 b, .int .i64 c, .int .i64 d] 23)).trans (hb1.mono (by simp))
    have P0 := Lib.hid (Q0.out.below hl Q0.out.lt)
    have P1 := Lib.hid (Q1.out.below hl Q1.out.lt)
    have P2 := Lib.hid (Q2.out.below hl Q2.out.lt)
    clear hl hb1 x0 x1 y0 y1
    obtain ⟨x0, x1, _, _⟩ := cells2 P0.out
    obtain ⟨y0, y1, _, _⟩ := cells2 P1.out
    go_wp2_with fail
    refine (HF.out _).mono ?_
    rintro e w2 ⟨rfl, hb2⟩
    have Hb2 := Lib.hid (Hb1.out.trans (hb2.mono Hb1.out.size))
    have P3 := Lib.hid (P2.out.below hb2 P2.out.lt)
    clear hb2 x0 x1 y0 y1
    obtain ⟨z0, z1, g0, g1⟩ := cells2 P3.out
    by_cases hlt : y < x
    · have he := Hev.out.1
      have hv := Hev.out.2
      rw [if_pos hlt] at he
      rw [he, if_neg (by decide)] at hv
      have HE := Lib.hid he
      have HV := Lib.hid hv
      clear he hv
      go_wp2_with fail
      obtain ⟨m0, m1, _, _⟩ := cells2 ((((P3.out.set_ 0 (.int .i64 x)).set_ 1 (.int .i64 y)).set_ 0 (.int .i64 0)).set_ 1 (.int .i64 0))
      exact bodyPost_ret (v := .tuple #[.agg #[.int .i64 0, .int .i64 0], .int .i64 80]) (by simp [results, Try.results11, go_sem, *]) rfl ⟨by rw [HE.out, HV.out], by (repeat (refine Below.setCell ?_ (by simp only []; omega) _)); exact Hb2.out⟩
    · have he := Hev.out.1
      have hv := Hev.out.2
      rw [if_neg hlt] at he
      rw [he, if_pos rfl] at hv
      have HE := Lib.hid he
      have HV := Lib.hid hv
      clear he hv
      go_wp2_with fail
      obtain ⟨m0, m1, _, _⟩ := cells2 ((((P3.out.set_ 0 (.int .i64 x)).set_ 1 (.int .i64 y)).set_ 0 (.int .i64 x)).set_ 1 (.int .i64 y))
      exact bodyPost_ret (v := .tuple #[.agg #[.int .i64 x, .int .i64 y], .int .i64 0]) (by simp [results, Try.results11, go_sem, *]) rfl ⟨by rw [HE.out, HV.out], by (repeat (refine Below.setCell ?_ (by simp only []; omega) _)); exact Hb2.out⟩
  · rw [if_neg h0] at he
    rw [he, if_neg h0] at hv
    have HE := Lib.hid he
    have HV := Lib.hid hv
    have f0 : ((ce : Int) != 0) = true := by simpa using h0
    clear he hv h0
    go_enter Try.func11, Try.ntmps11
    go_wp2_with (rw [HW.out])
    refine HC.out.mono ?_
    rintro e w1 ⟨rfl, hb1⟩
    have Hb1 := Lib.hid (Hbx.out.trans (hb1.mono Hbx.out.size))
    have hl := (below_alloc W (.cells #[.int .i64 a, .int .i64 b, .int .i64 c, .int .i64 d] 23)).trans (hb1.mono (by simp))
    have P0 := Lib.hid (Q0.out.below hl Q0.out.lt)
    have P1 := Lib.hid (Q1.out.below hl Q1.out.lt)
    have P2 := Lib.hid (Q2.out.below hl Q2.out.lt)
    clear hl hb1 x0 x1 y0 y1
    obtain ⟨z0, z1, g0, g1⟩ := cells2 P2.out
    go_wp2_with fail
    exact bodyPost_ret (v := .tuple #[.agg #[.int .i64 0, .int .i64 0], .int .i64 ce]) (by simp [results, Try.results11, go_sem, *]) rfl ⟨by rw [HE.out, HV.out], by (repeat (refine Below.setCell ?_ (by simp only []; omega) _)); exact Hb1.out⟩
set_option maxRecDepth 100000 in
set_option maxHeartbeats 2000000 in
theorem hull_any (a b c d : Int) (w : World) : Calls Try.prog 13 #[.agg #[.int .i64 a, .int .i64 b], .agg #[.int .i64 c, .int .i64 d]] w fun e w' =>
    e = .returned (.tuple #[.agg #[.int .i64 (hullV (a, b) (c, d)).1, .int .i64 (hullV (a, b) (c, d)).2], .int .i64 (ckL [(a, b), (c, d)])]) ∧ Below w.heap.size w w' := by
  have q0 := ((Blk.new w 23 #[.int .i64 a, .int .i64 b]).alloc (.cells #[.int .i64 c, .int .i64 d] 23)).alloc (.cells #[.int .i64 0, .int .i64 0] 23)
  have q1 := (blk_new2 w (.cells #[.int .i64 a, .int .i64 b] 23) 23 #[.int .i64 c, .int .i64 d]).alloc (.cells #[.int .i64 0, .int .i64 0] 23)
  have q2 := blk_new2 (w.alloc (.cells #[.int .i64 a, .int .i64 b] 23)) (.cells #[.int .i64 c, .int .i64 d] 23) 23 #[.int .i64 0, .int .i64 0]
  rw [World.size_alloc] at q2
  have hb := ((below_alloc w (.cells #[.int .i64 a, .int .i64 b] 23)).alloc (by simp) (.cells #[.int .i64 c, .int .i64 d] 23)).alloc (by simp; omega) (.cells #[.int .i64 0, .int .i64 0] 23)
  obtain ⟨W, hW⟩ : ∃ W, ((w.alloc (.cells #[.int .i64 a, .int .i64 b] 23)).alloc (.cells #[.int .i64 c, .int .i64 d] 23)).alloc (.cells #[.int .i64 0, .int .i64 0] 23) = W := ⟨_, rfl⟩
  rw [hW] at q0 q1 q2 hb
  have Q0 := Lib.hid q0
  have Q1 := Lib.hid q1
  have Q2 := Lib.hid q2
  have Hb := Lib.hid hb
  have HW := Lib.hid hW
  have HC := Lib.hid (checkAll_any [(a, b), (c, d)] 2 rfl (by unfold maxLen; omega) _ 2 _ (rd_lit2 W a b c d))
  have hbx := hb.alloc hb.size (.cells #[.int .i64 a, .int .i64 b, .int .i64 c, .int .i64 d] 23)
  obtain ⟨x0, x1, _, _⟩ := cells2 q0
  obtain ⟨y0, y1, _, _⟩ := cells2 q1
  have Hbx := Lib.hid hbx
  clear q0 q1 q2 hb hW hbx
  have hv : hullV (a, b) (c, d) = if ckL [(a, b), (c, d)] = 0 then (min a c, max b d) else (0, 0) := rfl
  obtain ⟨ce, hce⟩ : ∃ x, ckL [(a, b), (c, d)] = x := ⟨_, rfl⟩
  rw [hce] at HC hv ⊢
  have HE := Lib.hid (show ce = ce from rfl)
  clear hce
  by_cases h0 : ce = 0
  · subst h0
    rw [if_pos rfl] at hv
    have HF := Lib.hid (fun W => of_hull a b c d W)
    obtain ⟨x, hx⟩ : ∃ x, min a c = x := ⟨_, rfl⟩
    obtain ⟨y, hy⟩ : ∃ x, max b d = x := ⟨_, rfl⟩
    rw [hx, hy] at HF hv
    have HV := Lib.hid hv
    clear hx hy hv
    go_enter Try.func13, Try.ntmps13
    go_wp2_with (rw [HW.out])
    refine HC.out.mono ?_
    rintro e w1 ⟨rfl, hb1⟩
    have Hb1 := Lib.hid (Hbx.out.trans (hb1.mono Hbx.out.size))
    have hl := (below_alloc W (.cells #[.int .i64 a, .int .i64 b, .int .i64 c, .int .i64 d] 23)).trans (hb1.mono (by simp))
    have P0 := Lib.hid (Q0.out.below hl Q0.out.lt)
    have P1 := Lib.hid (Q1.out.below hl Q1.out.lt)
    have P2 := Lib.hid (Q2.out.below hl Q2.out.lt)
    clear hl hb1 x0 x1 y0 y1
    obtain ⟨x0, x1, _, _⟩ := cells2 P0.out
    obtain ⟨y0, y1, _, _⟩ := cells2 P1.out
    go_wp2_with fail
    refine (HF.out _).mono ?_
    rintro e w2 ⟨rfl, hb2⟩
    have Hb2 := Lib.hid (Hb1.out.trans (hb2.mono Hb1.out.size))
    have P3 := Lib.hid (P2.out.below hb2 P2.out.lt)
    clear hb2 x0 x1 y0 y1
    obtain ⟨z0, z1, g0, g1⟩ := cells2 P3.out
    go_wp2_with fail
    obtain ⟨m0, m1, _, _⟩ := cells2 ((P3.out.set_ 0 (.int .i64 x)).set_ 1 (.int .i64 y))
    exact bodyPost_ret (v := .tuple #[.agg #[.int .i64 x, .int .i64 y], .int .i64 0]) (by simp [results, Try.results13, go_sem, *]) rfl ⟨by rw [HV.out], by (repeat (refine Below.setCell ?_ (by simp only []; omega) _)); exact Hb2.out⟩
  · rw [if_neg h0] at hv
    have HV := Lib.hid hv
    have f0 : ((ce : Int) != 0) = true := by simpa using h0
    clear hv h0
    go_enter Try.func13, Try.ntmps13
    go_wp2_with (rw [HW.out])
    refine HC.out.mono ?_
    rintro e w1 ⟨rfl, hb1⟩
    have Hb1 := Lib.hid (Hbx.out.trans (hb1.mono Hbx.out.size))
    have hl := (below_alloc W (.cells #[.int .i64 a, .int .i64 b, .int .i64 c, .int .i64 d] 23)).trans (hb1.mono (by simp))
    have P0 := Lib.hid (Q0.out.below hl Q0.out.lt)
    have P1 := Lib.hid (Q1.out.below hl Q1.out.lt)
    have P2 := Lib.hid (Q2.out.below hl Q2.out.lt)
    clear hl hb1 x0 x1 y0 y1
    obtain ⟨z0, z1, g0, g1⟩ := cells2 P2.out
    go_wp2_with fail
    exact bodyPost_ret (v := .tuple #[.agg #[.int .i64 0, .int .i64 0], .int .i64 ce]) (by simp [results, Try.results13, go_sem, *]) rfl ⟨by rw [HV.out], by (repeat (refine Below.setCell ?_ (by simp only []; omega) _)); exact Hb1.out⟩
set_option maxRecDepth 100000 in
set_option maxHeartbeats 2000000 in
theorem within_any (a b c d : Int) (w : World) : Calls Try.prog 17 #[.agg #[.int .i64 a, .int .i64 b], .agg #[.int .i64 c, .int .i64 d]] w fun e w' =>
    e = .returned (.bool (within (a, b) (c, d))) ∧ Below w.heap.size w w' := by
  have q0 := (Blk.new w 23 #[.int .i64 a, .int .i64 b]).alloc (.cells #[.int .i64 c, .int .i64 d] 23)
  have q1 := blk_new2 w (.cells #[.int .i64 a, .int .i64 b] 23) 23 #[.int .i64 c, .int .i64 d]
  have hb := (below_alloc w (.cells #[.int .i64 a, .int .i64 b] 23)).alloc (by simp) (.cells #[.int .i64 c, .int .i64 d] 23)
  obtain ⟨W, hW⟩ : ∃ W, (w.alloc (.cells #[.int .i64 a, .int .i64 b] 23)).alloc (.cells #[.int .i64 c, .int .i64 d] 23) = W := ⟨_, rfl⟩
  rw [hW] at q0 q1 hb
  have Q0 := Lib.hid q0
  have Q1 := Lib.hid q1
  have HW := Lib.hid hW
  have HC := Lib.hid (checkAll_any [(a, b), (c, d)] 2 rfl (by unfold maxLen; omega) _ 2 _ (rd_lit2 W a b c d))
  have hbx := hb.alloc hb.size (.cells #[.int .i64 a, .int .i64 b, .int .i64 c, .int .i64 d] 23)
  obtain ⟨x0, x1, _, _⟩ := cells2 q0
  obtain ⟨y0, y1, _, _⟩ := cells2 q1
  have Hbx := Lib.hid hbx
  have Hr : Hid (within (a, b) (c, d) = (decide (ckL [(a, b), (c, d)] = 0) && (decide (c ≤ a) && decide (b ≤ d)))) := Lib.hid rfl
  obtain ⟨ce, hce⟩ : ∃ x, ckL [(a, b), (c, d)] = x := ⟨_, rfl⟩
  rw [hce] at HC Hr
  clear q0 q1 hb hW hbx hce
  by_cases h0 : ce = 0
  · subst h0
    by_cases h1 : c ≤ a
    · by_cases h2 : b ≤ d
      · have Hr2 := Lib.hid (show within (a, b) (c, d) = true by rw [Hr.out, decide_eq_true h1, decide_eq_true h2]; rfl)
        go_enter Try.func17, Try.ntmps17
        go_wp2_with (rw [HW.out])
        refine HC.out.mono ?_
        rintro e w1 ⟨rfl, hb1⟩
        have Hb1 := Lib.hid (Hbx.out.trans (hb1.mono Hbx.out.size))
        have hl := (below_alloc W (.cells #[.int .i64 a, .int .i64 b, .int .i64 c, .int .i64 d] 23)).trans (hb1.mono (by simp))
        obtain ⟨x0, x1, _, _⟩ := cells2 (Q0.out.below hl Q0.out.lt)
        obtain ⟨y0, y1, _, _⟩ := cells2 (Q1.out.below hl Q1.out.lt)
        clear hl hb1
        go_wp2_with fail
        go_ret
        exact ⟨ret_bool (by rw [Hr2.out] <;> first | rfl | (simp; omega)), Hb1.out⟩
      · have Hr2 := Lib.hid (show within (a, b) (c, d) = false by rw [Hr.out, decide_eq_true h1, decide_eq_false h2]; rfl)
        go_enter Try.func17, Try.ntmps17
        go_wp2_with (rw [HW.out])
        refine HC.out.mono ?_
        rintro e w1 ⟨rfl, hb1⟩
        have Hb1 := Lib.hid (Hbx.out.trans (hb1.mono Hbx.out.size))
        have hl := (below_alloc W (.cells #[.int .i64 a, .int .i64 b, .int .i64 c, .int .i64 d] 23)).trans (hb1.mono (by simp))
        obtain ⟨x0, x1, _, _⟩ := cells2 (Q0.out.below hl Q0.out.lt)
        obtain ⟨y0, y1, _, _⟩ := cells2 (Q1.out.below hl Q1.out.lt)
        clear hl hb1
        go_wp2_with fail
        go_ret
        exact ⟨ret_bool (by rw [Hr2.out] <;> first | rfl | (simp; omega)), Hb1.out⟩
    · have Hr2 := Lib.hid (show within (a, b) (c, d) = false by rw [Hr.out, decide_eq_false h1]; rfl)
      go_enter Try.func17, Try.ntmps17
      go_wp2_with (rw [HW.out])
      refine HC.out.mono ?_
      rintro e w1 ⟨rfl, hb1⟩
      have Hb1 := Lib.hid (Hbx.out.trans (hb1.mono Hbx.out.size))
      have hl := (below_alloc W (.cells #[.int .i64 a, .int .i64 b, .int .i64 c, .int .i64 d] 23)).trans (hb1.mono (by simp))
      obtain ⟨x0, x1, _, _⟩ := cells2 (Q0.out.below hl Q0.out.lt)
      obtain ⟨y0, y1, _, _⟩ := cells2 (Q1.out.below hl Q1.out.lt)
      clear hl hb1
      go_wp2_with fail
      go_ret
      exact ⟨ret_bool (by rw [Hr2.out] <;> first | rfl | (simp; omega)), Hb1.out⟩
  · have f0 : ((ce : Int) == 0) = false := by simpa using h0
    have Hr2 := Lib.hid (show within (a, b) (c, d) = false by rw [Hr.out, decide_eq_false h0]; rfl)
    clear h0
    go_enter Try.func17, Try.ntmps17
    go_wp2_with (rw [HW.out])
    refine HC.out.mono ?_
    rintro e w1 ⟨rfl, hb1⟩
    have Hb1 := Lib.hid (Hbx.out.trans (hb1.mono Hbx.out.size))
    have hl := (below_alloc W (.cells #[.int .i64 a, .int .i64 b, .int .i64 c, .int .i64 d] 23)).trans (hb1.mono (by simp))
    obtain ⟨x0, x1, _, _⟩ := cells2 (Q0.out.below hl Q0.out.lt)
    obtain ⟨y0, y1, _, _⟩ := cells2 (Q1.out.below hl Q1.out.lt)
    clear hl hb1
    go_wp2_with fail
    go_ret
    exact ⟨ret_bool (by rw [Hr2.out] <;> first | rfl | (simp; omega)), Hb1.out⟩
end Go.Proofs.Ytnjpjjefhpbfgaa
