/- Intervals: the reference's Check, All, Meet, Hull, Within. -/
import Derived.Test.YtnjpjjefhpbfgaaIvC
namespace Go.Proofs.Ytnjpjjefhpbfgaa
open Go.RowKit

set_option maxRecDepth 100000 in
set_option maxHeartbeats 1000000 in
theorem rcheck_any (lo hi : Int) (w : World) : Calls Try.prog 16 #[.agg #[.int .i64 lo, .int .i64 hi]] w fun e w' => e = .returned (.int .i64 (ck (lo, hi))) ∧ Below w.heap.size w w' := by
  have Hb := Lib.hid (below_alloc w (.cells #[.int .i64 lo, .int .i64 hi] 23))
  have HB := Lib.hid (Blk.new w 23 #[.int .i64 lo, .int .i64 hi])
  obtain ⟨W, hW⟩ : ∃ W, w.alloc (.cells #[.int .i64 lo, .int .i64 hi] 23) = W := ⟨_, rfl⟩
  rw [hW] at Hb HB
  have HW := Lib.hid hW
  clear hW
  obtain ⟨c0, c1, _, _⟩ := cells2 HB.out
  by_cases h1 : lo < -1099511627776
  · have hr := Lib.hid (show ck (lo, hi) = _ from ck_lo (.inl h1))
    go_enter Try.func16, Try.ntmps16
    go_wp2_with (rw [HW.out])
    go_ret
    exact ⟨ret_int hr.out.symm, Hb.out⟩
  by_cases h2 : 1099511627776 < lo
  · have hr := Lib.hid (show ck (lo, hi) = _ from ck_lo (.inr h2))
    go_enter Try.func16, Try.ntmps16
    go_wp2_with (rw [HW.out])
    go_ret
    exact ⟨ret_int hr.out.symm, Hb.out⟩
  by_cases h3 : hi < -1099511627776
  · have hr := Lib.hid (show ck (lo, hi) = _ from ck_hi (.inl h3))
    go_enter Try.func16, Try.ntmps16
    go_wp2_with (rw [HW.out])
    go_ret
    exact ⟨ret_int hr.out.symm, Hb.out⟩
  by_cases h4 : 1099511627776 < hi
  · have hr := Lib.hid (show ck (lo, hi) = _ from ck_hi (.inr h4))
    go_enter Try.func16, Try.ntmps16
    go_wp2_with (rw [HW.out])
    go_ret
    exact ⟨ret_int hr.out.symm, Hb.out⟩
  have hr0 := ck_in (lo := lo) (hi := hi) ⟨by omega, by omega, by omega, by omega⟩
  by_cases h5 : hi < lo
  · rw [if_pos h5] at hr0
    have H0 := Lib.hid hr0
    clear hr0
    have hr := Lib.hid (show ck (lo, hi) = _ from H0.out)
    go_enter Try.func16, Try.ntmps16
    go_wp2_with (rw [HW.out])
    go_ret
    exact ⟨ret_int hr.out.symm, Hb.out⟩
  · rw [if_neg h5] at hr0
    have H0 := Lib.hid hr0
    clear hr0
    have hr := Lib.hid (show ck (lo, hi) = _ from H0.out)
    go_enter Try.func16, Try.ntmps16
    go_wp2_with (rw [HW.out])
    go_ret
    exact ⟨ret_int hr.out.symm, Hb.out⟩
set_option maxRecDepth 100000 in
set_option maxHeartbeats 1000000 in
theorem rall_any (l : List Iv) (n : Nat) (hn : l.length = n) (hm : n ≤ maxLen) (a : Option Addr) (cap : Nat) (w : World) (hv : Rd w (.slice a n cap) l) :
    Calls Try.prog 34 #[.slice a n cap] w fun e w' => e = .returned (.int .i64 (ckL l)) ∧ Below w.heap.size w w' := by
  have HV := Lib.hid hv
  have Hn := Lib.hid hn
  have Hm := Lib.hid hm
  clear hv hn hm
  go_enter Try.func34, Try.ntmps34
  go_wp2_with fail
  go_loopw [3] (fun i wr => ∃ k : Nat, Hid (k ≤ n) ∧ Hid (ckL l = ckL (l.drop k)) ∧ i = .int .i64 (k : Int) ∧ Hid (Below w.heap.size w wr)) (fun i _ => n - (intOf i).toNat)
  case atStart => exact ⟨0, Lib.hid (Nat.zero_le _), Lib.hid rfl, rfl, Lib.hid (Below.refl _ _)⟩
  case round =>
    obtain ⟨k, Hk, Hc, rfl, Hb⟩ := hrel
    by_cases hk : k < n
    · obtain ⟨g, off, rfl, _, hcap, hat⟩ := (HV.out.next Hb.out).at_ (by omega)
      obtain ⟨x, hx⟩ : ∃ x, l[k]? = some x := ⟨_, List.getElem?_eq_getElem (by rw [Hn.out]; exact hk)⟩
      obtain ⟨c0, c1⟩ := hat k x hx
      have Hd := Lib.hid (ckL_drop hx)
      obtain ⟨lo, hi⟩ := x
      simp only [] at c0 c1
      have HC := Lib.hid (fun W => rcheck_any lo hi W)
      obtain ⟨ce, hce⟩ : ∃ c, ck (lo, hi) = c := ⟨_, rfl⟩
      rw [hce] at HC Hd
      have j1 : (k : Int) < (n : Int) := by omega
      have j0 : (0 : Int) ≤ (k : Int) := by omega
      have s1 : IntKind.i64.wrap ((k : Int) + 1) = ((k + 1 : Nat) : Int) := by rw [IntKind.wrap_i64]; have := Hm.out; unfold maxLen at this; omega
      have Hk2 := Lib.hid hk
      clear hat hx hce
      by_cases h0 : ce = 0
      · rw [if_pos h0] at Hd
        subst h0
        go_wp2_with fail
        refine (HC.out _).mono ?_
        rintro e w1 ⟨rfl, hb1⟩
        have Hb1 := Lib.hid (Hb.out.trans (hb1.mono Hb.out.size))
        clear hb1
        go_wp2_with fail
        exact ⟨⟨k + 1, Lib.hid Hk2.out, Lib.hid (Hc.out.trans Hd.out), by go_num, Hb1⟩, by have := Hk2.out; simp [intOf]; omega⟩
      · rw [if_neg h0] at Hd
        have f0 : ((ce : Int) != 0) = true := by simpa using h0
        clear h0
        go_wp2_with fail
        refine (HC.out _).mono ?_
        rintro e w1 ⟨rfl, hb1⟩
        have Hb1 := Lib.hid (Hb.out.trans (hb1.mono Hb.out.size))
        clear hb1
        go_wp2_with fail
        go_ret
        exact ⟨ret_int (Hc.out.trans Hd.out).symm, Hb1.out⟩
    · have j1 : ¬ (k : Int) < (n : Int) := by omega
      have Ht := Lib.hid (show l.drop k = [] from List.drop_eq_nil_of_le (by rw [Hn.out]; have := Hk.out; omega))
      clear hk
      go_wp2_with fail
      go_ret
      exact ⟨ret_int (by rw [Hc.out, Ht.out]; rfl), Hb.out⟩
set_option maxRecDepth 100000 in
set_option maxHeartbeats 2000000 in
theorem rmeet_any (a b c d : Int) (w : World) : Calls Try.prog 12 #[.agg #[.int .i64 a, .int .i64 b], .agg #[.int .i64 c, .int .i64 d]] w fun e w' =>
    e = .returned (.tuple #[.agg #[.int .i64 (meetV (a, b) (c, d)).1, .int .i64 (meetV (a, b) (c, d)).2], .int .i64 (meetE (a, b) (c, d))]) ∧ Below w.heap.size w w' := by
  have q0 := ((Blk.new w 23 #[.int .i64 a, .int .i64 b]).alloc (.cells #[.int .i64 c, .int .i64 d] 23)).alloc (.cells #[.int .i64 0, .int .i64 0] 23)
  have q1 := (blk_new2 w (.cells #[.int .i64 a, .int .i64 b] 23) 23 #[.int .i64 c, .int .i64 d]).alloc (.cells #[.int .i64 0, .int .i64 0] 23)
  have q2 := blk_new2 (w.alloc (.cells #[.int .i64 a, .int .i64 b] 23)) (.cells #[.int .i64 c, .int .i64 d] 23) 23 #[.int .i64 0, .int .i64 0]
  rw [World.size_alloc] at q2
  have hb := ((below_alloc w (.cells #[.int .i64 a, .int .i64 b] 23)).alloc (by simp) (.cells #[.int .i64 c, .int .i64 d] 23)).alloc (by simp; omega) (.cells #[.int .i64 0, .int .i64 0] 23)
  obtain ⟨W, hW⟩ : ∃ W, ((w.alloc (.cells #[.int .i64 a, .int .i64 b] 23)).alloc (.cells #[.int .i64 c, .int .i64 d] 23)).alloc (.cells #[.int .i64 0, .int .i64 0] 23) = W := ⟨_, rfl⟩
  rw [hW] at q0 q1 q2 hb
  have Q0 := Lib.hid q0
  have Q1 := Lib.hid q1
  have Q2 := Lib.hid q2
  have Hb := Lib.hid hb
  have HW := Lib.hid hW
  have HC := Lib.hid (rall_any [(a, b), (c, d)] 2 rfl (by unfold maxLen; omega) _ 2 _ (rd_lit2 W a b c d))
  have hbx := hb.alloc hb.size (.cells #[.int .i64 a, .int .i64 b, .int .i64 c, .int .i64 d] 23)
  obtain ⟨x0, x1, _, _⟩ := cells2 q0
  obtain ⟨y0, y1, _, _⟩ := cells2 q1
  have Hbx := Lib.hid hbx
  clear q0 q1 q2 hb hW hbx
  obtain ⟨ce, hce⟩ : ∃ x, ckL [(a, b), (c, d)] = x := ⟨_, rfl⟩
  rw [hce] at HC
  have he : meetE (a, b) (c, d) = if ce = 0 then (if min b d < max a c then 80 else 0) else ce := by rw [meetE, hce]
  have hv : meetV (a, b) (c, d) = if meetE (a, b) (c, d) = 0 then (max a c, min b d) else (0, 0) := rfl
  clear hce
  by_cases h0 : ce = 0
  · subst h0
    rw [if_pos rfl] at he
    obtain ⟨x, hx⟩ : ∃ x, max a c = x := ⟨_, rfl⟩
    obtain ⟨y, hy⟩ : ∃ x, min b d = x := ⟨_, rfl⟩
    rw [hx, hy] at he hv
    have Hev := Lib.hid (And.intro he hv)
    have hx2 : (if a < c then c else a) = x := by rw [← hx]; split <;> omega
    have hy2 : (if d < b then d else b) = y := by rw [← hy]; split <;> omega
    clear he hv hx hy
    go_enter Try.func12, Try.ntmps12
    go_wp2_with (rw [HW.out])
    refine HC.out.mono ?_
    rintro e w1 ⟨rfl, hb1⟩
    have Hb1 := Lib.hid (Hbx.out.trans (hb1.mono Hbx.out.size))
    have hl := (below_alloc W (.cells #[.int .i64 a, .int .i64 b, .int .i64 c, .int .i64 d] 23)).trans (hb1.mono (by simp))
    have P0 := Lib.hid (Q0.out.below hl Q0.out.lt)
    have P1 := Lib.hid (Q1.out.below hl Q1.out.lt)
    have P2 := Lib.hid (Q2.out.below hl Q2.out.lt)
    clear hl hb1 x0 x1 y0 y1
    obtain ⟨x0, x1, _, _⟩ := cells2 P0.out
    obtain ⟨y0, y1, _, _⟩ := cells2 P1.out
    have P3 := Lib.hid (P2.out.alloc (.cells #[.int .i64 x, .int .i64 y] 23))
    have hs3 : (w1.alloc (.cells #[.int .i64 x, .int .i64 y] 23)).heap.size = w1.heap.size + 1 := by simp
    have HX := Lib.hid (Blk.new w1 23 #[.int .i64 x, .int .i64 y])
    have Hb3 := Lib.hid (Hb1.out.alloc Hb1.out.size (.cells #[.int .i64 x, .int .i64 y] 23))
    have Hlt := Lib.hid P2.out.lt
    have hne : ¬ w1.heap.size = w.heap.size + 1 + 1 := by have := P2.out.lt; omega
    obtain ⟨z0, z1, g0, g1⟩ := cells2 P3.out
    obtain ⟨v0, v1, u0, u1⟩ := cells2 HX.out
    by_cases hlt : y < x
    · have he := Hev.out.1
      have hv := Hev.out.2
      rw [if_pos hlt] at he
      rw [he, if_neg (by decide)] at hv
      have HE := Lib.hid he
      have HV := Lib.hid hv
      clear he hv
      go_wp2_with fail
      obtain ⟨m0, m1, _, _⟩ := cells2 ((P3.out.set_ 0 (.int .i64 0)).set_ 1 (.int .i64 0))
      exact bodyPost_ret (v := .tuple #[.agg #[.int .i64 0, .int .i64 0], .int .i64 80]) (by simp [results, Try.results12, go_sem, *]) rfl ⟨by rw [HE.out, HV.out], by (repeat (refine Below.setCell ?_ (by simp only []; omega) _)); exact Hb3.out⟩
    · have he := Hev.out.1
      have hv := Hev.out.2
      rw [if_neg hlt] at he
      rw [he, if_pos rfl] at hv
      have HE := Lib.hid he
      have HV := Lib.hid hv
      clear he hv
      go_wp2_with fail
      obtain ⟨m0, m1, _, _⟩ := cells2 ((P3.out.set_ 0 (.int .i64 x)).set_ 1 (.int .i64 y))
      exact bodyPost_ret (v := .tuple #[.agg #[.int .i64 x, .int .i64 y], .int .i64 0]) (by simp [results, Try.results12, go_sem, *]) rfl ⟨by rw [HE.out, HV.out], by (repeat (refine Below.setCell ?_ (by simp only []; omega) _)); exact Hb3.out⟩
  · rw [if_neg h0] at he
    rw [he, if_neg h0] at hv
    have HE := Lib.hid he
    have HV := Lib.hid hv
    have f0 : ((ce : Int) != 0) = true := by simpa using h0
    clear he hv h0
    go_enter Try.func12, Try.ntmps12
    go_wp2_with (rw [HW.out])
    refine HC.out.mono ?_
    rintro e w1 ⟨rfl, hb1⟩
    have Hb1 := Lib.hid (Hbx.out.trans (hb1.mono Hbx.out.size))
    have hl := (below_alloc W (.cells #[.int .i64 a, .int .i64 b, .int .i64 c, .int .i64 d] 23)).trans (hb1.mono (by simp))
    have P0 := Lib.hid (Q0.out.below hl Q0.out.lt)
    have P1 := Lib.hid (Q1.out.below hl Q1.out.lt)
    have P2 := Lib.hid (Q2.out.below hl Q2.out.lt)
    clear hl hb1 x0 x1 y0 y1
    obtain ⟨z0, z1, g0, g1⟩ := cells2 P2.out
    go_wp2_with fail
    obtain ⟨m0, m1, _, _⟩ := cells2 ((P2.out.set_ 0 (.int .i64 0)).set_ 1 (.int .i64 0))
    exact bodyPost_ret (v := .tuple #[.agg #[.int .i64 0, .int .i64 0], .int .i64 ce]) (by simp [results, Try.results12, go_sem, *]) rfl ⟨by rw [HE.out, HV.out], by (repeat (refine Below.setCell ?_ (by simp only []; omega) _)); exact Hb1.out⟩
set_option maxRecDepth 100000 in
set_option maxHeartbeats 2000000 in
theorem rhull_any (a b c d : Int) (w : World) : Calls Try.prog 14 #[.agg #[.int .i64 a, .int .i64 b], .agg #[.int .i64 c, .int .i64 d]] w fun e w' =>
    e = .returned (.tuple #[.agg #[.int .i64 (hullV (a, b) (c, d)).1, .int .i64 (hullV (a, b) (c, d)).2], .int .i64 (ckL [(a, b), (c, d)])]) ∧ Below w.heap.size w w' := by
  have q0 := ((Blk.new w 23 #[.int .i64 a, .int .i64 b]).alloc (.cells #[.int .i64 c, .int .i64 d] 23)).alloc (.cells #[.int .i64 0, .int .i64 0] 23)
  have q1 := (blk_new2 w (.cells #[.int .i64 a, .int .i64 b] 23) 23 #[.int .i64 c, .int .i64 d]).alloc (.cells #[.int .i64 0, .int .i64 0] 23)
  have q2 := blk_new2 (w.alloc (.cells #[.int .i64 a, .int .i64 b] 23)) (.cells #[.int .i64 c, .int .i64 d] 23) 23 #[.int .i64 0, .int .i64 0]
  rw [World.size_alloc] at q2
  have hb := ((below_alloc w (.cells #[.int .i64 a, .int .i64 b] 23)).alloc (by simp) (.cells #[.int .i64 c, .int .i64 d] 23)).alloc (by simp; omega) (.cells #[.int .i64 0, .int .i64 0] 23)
  obtain ⟨W, hW⟩ : ∃ W, ((w.alloc (.cells #[.int .i64 a, .int .i64 b] 23)).alloc (.cells #[.int .i64 c, .int .i64 d] 23)).alloc (.cells #[.int .i64 0, .int .i64 0] 23) = W := ⟨_, rfl⟩
  rw [hW] at q0 q1 q2 hb
  have Q0 := Lib.hid q0
  have Q1 := Lib.hid q1
  have Q2 := Lib.hid q2
  have Hb := Lib.hid hb
  have HW := Lib.hid hW
  have HC := Lib.hid (rall_any [(a, b), (c, d)] 2 rfl (by unfold maxLen; omega) _ 2 _ (rd_lit2 W a b c d))
  have hbx := hb.alloc hb.size (.cells #[.int .i64 a, .int .i64 b, .int .i64 c, .int .i64 d] 23)
  obtain ⟨x0, x1, _, _⟩ := cells2 q0
  obtain ⟨y0, y1, _, _⟩ := cells2 q1
  have Hbx := Lib.hid hbx
  clear q0 q1 q2 hb hW hbx
  have hv : hullV (a, b) (c, d) = if ckL [(a, b), (c, d)] = 0 then (min a c, max b d) else (0, 0) := rfl
  obtain ⟨ce, hce⟩ : ∃ x, ckL [(a, b), (c, d)] = x := ⟨_, rfl⟩
  rw [hce] at HC hv ⊢
  clear hce
  by_cases h0 : ce = 0
  · subst h0
    rw [if_pos rfl] at hv
    obtain ⟨x, hx⟩ : ∃ x, min a c = x := ⟨_, rfl⟩
    obtain ⟨y, hy⟩ : ∃ x, max b d = x := ⟨_, rfl⟩
    rw [hx, hy] at hv
    have HV := Lib.hid hv
    have hx2 : (if c < a then c else a) = x := by rw [← hx]; split <;> omega
    have hy2 : (if b < d then d else b) = y := by rw [← hy]; split <;> omega
    clear hv hx hy
    go_enter Try.func14, Try.ntmps14
    go_wp2_with (rw [HW.out])
    refine HC.out.mono ?_
    rintro e w1 ⟨rfl, hb1⟩
    have Hb1 := Lib.hid (Hbx.out.trans (hb1.mono Hbx.out.size))
    have hl := (below_alloc W (.cells #[.int .i64 a, .int .i64 b, .int .i64 c, .int .i64 d] 23)).trans (hb1.mono (by simp))
    have P0 := Lib.hid (Q0.out.below hl Q0.out.lt)
    have P1 := Lib.hid (Q1.out.below hl Q1.out.lt)
    have P2 := Lib.hid (Q2.out.below hl Q2.out.lt)
    clear hl hb1 x0 x1 y0 y1
    obtain ⟨x0, x1, _, _⟩ := cells2 P0.out
    obtain ⟨y0, y1, _, _⟩ := cells2 P1.out
    obtain ⟨z0, z1, g0, g1⟩ := cells2 P2.out
    go_wp2_with fail
    obtain ⟨m0, m1, _, _⟩ := cells2 ((P2.out.set_ 0 (.int .i64 x)).set_ 1 (.int .i64 y))
    exact bodyPost_ret (v := .tuple #[.agg #[.int .i64 x, .int .i64 y], .int .i64 0]) (by simp [results, Try.results14, go_sem, *]) rfl ⟨by rw [HV.out], by (repeat (refine Below.setCell ?_ (by simp only []; omega) _)); exact Hb1.out⟩
  · rw [if_neg h0] at hv
    have HV := Lib.hid hv
    have f0 : ((ce : Int) != 0) = true := by simpa using h0
    clear hv h0
    go_enter Try.func14, Try.ntmps14
    go_wp2_with (rw [HW.out])
    refine HC.out.mono ?_
    rintro e w1 ⟨rfl, hb1⟩
    have Hb1 := Lib.hid (Hbx.out.trans (hb1.mono Hbx.out.size))
    have hl := (below_alloc W (.cells #[.int .i64 a, .int .i64 b, .int .i64 c, .int .i64 d] 23)).trans (hb1.mono (by simp))
    have P0 := Lib.hid (Q0.out.below hl Q0.out.lt)
    have P1 := Lib.hid (Q1.out.below hl Q1.out.lt)
    have P2 := Lib.hid (Q2.out.below hl Q2.out.lt)
    clear hl hb1 x0 x1 y0 y1
    obtain ⟨z0, z1, g0, g1⟩ := cells2 P2.out
    go_wp2_with fail
    obtain ⟨m0, m1, _, _⟩ := cells2 ((P2.out.set_ 0 (.int .i64 0)).set_ 1 (.int .i64 0))
    exact bodyPost_ret (v := .tuple #[.agg #[.int .i64 0, .int .i64 0], .int .i64 ce]) (by simp [results, Try.results14, go_sem, *]) rfl ⟨by rw [HV.out], by (repeat (refine Below.setCell ?_ (by simp only []; omega) _)); exact Hb1.out⟩
end Go.Proofs.Ytnjpjjefhpbfgaa
