/- Intervals: the reference's Within, Same. -/
import Derived.Test.YtnjpjjefhpbfgaaIvM
namespace Go.Proofs.Ytnjpjjefhpbfgaa
open Go.RowKit

theorem within_eq (a b c d : Int) : within (a, b) (c, d) = (decide (ck (a, b) = 0) && (decide (ck (c, d) = 0) && (decide (c ≤ a) && decide (b ≤ d)))) := by
  have h : ckL [(a, b), (c, d)] = if ck (a, b) = 0 then (if ck (c, d) = 0 then 0 else ck (c, d)) else ck (a, b) := rfl
  rw [within, h]
  by_cases h1 : ck (a, b) = 0
  · by_cases h2 : ck (c, d) = 0
    · simp [h1, h2]
    · simp [h1, h2]
  · simp [h1]
set_option maxRecDepth 100000 in
set_option maxHeartbeats 2000000 in
theorem rwithin_any (a b c d : Int) (w : World) : Calls Try.prog 18 #[.agg #[.int .i64 a, .int .i64 b], .agg #[.int .i64 c, .int .i64 d]] w fun e w' =>
    e = .returned (.bool (within (a, b) (c, d))) ∧ Below w.heap.size w w' := by
  have q0 := (Blk.new w 23 #[.int .i64 a, .int .i64 b]).alloc (.cells #[.int .i64 c, .int .i64 d] 23)
  have q1 := blk_new2 w (.cells #[.int .i64 a, .int .i64 b] 23) 23 #[.int .i64 c, .int .i64 d]
  have hb := (below_alloc w (.cells #[.int .i64 a, .int .i64 b] 23)).alloc (by simp) (.cells #[.int .i64 c, .int .i64 d] 23)
  obtain ⟨W, hW⟩ : ∃ W, (w.alloc (.cells #[.int .i64 a, .int .i64 b] 23)).alloc (.cells #[.int .i64 c, .int .i64 d] 23) = W := ⟨_, rfl⟩
  rw [hW] at q0 q1 hb
  have Q0 := Lib.hid q0
  have Q1 := Lib.hid q1
  have HW := Lib.hid hW
  have Hb := Lib.hid hb
  have HCa := Lib.hid (fun W => rcheck_any a b W)
  have HCb := Lib.hid (fun W => rcheck_any c d W)
  obtain ⟨x0, x1, _, _⟩ := cells2 q0
  obtain ⟨y0, y1, _, _⟩ := cells2 q1
  have Hr := Lib.hid (within_eq a b c d)
  obtain ⟨ca, hca⟩ : ∃ x, ck (a, b) = x := ⟨_, rfl⟩
  obtain ⟨cb, hcb⟩ : ∃ x, ck (c, d) = x := ⟨_, rfl⟩
  rw [hca] at HCa Hr
  rw [hcb] at HCb Hr
  clear q0 q1 hb hW hca hcb
  by_cases h0 : ca = 0
  · subst h0
    by_cases h3 : cb = 0
    · subst h3
      by_cases h1 : c ≤ a
      · by_cases h2 : b ≤ d
        · have Hr3 := Lib.hid (show within (a, b) (c, d) = true by rw [Hr.out, decide_eq_true h1, decide_eq_true h2]; rfl)
          have Hr2 := Lib.hid (show within (a, b) (c, d) = _ from Hr3.out)
          go_enter Try.func18, Try.ntmps18
          go_wp2_with (rw [HW.out])
          refine (HCa.out _).mono ?_
          rintro e w1 ⟨rfl, hb1⟩
          have Hb1 := Lib.hid (Hb.out.trans (hb1.mono Hb.out.size))
          obtain ⟨x0, x1, _, _⟩ := cells2 (Q0.out.below hb1 Q0.out.lt)
          obtain ⟨y0, y1, _, _⟩ := cells2 (Q1.out.below hb1 Q1.out.lt)
          have P0 := Lib.hid (Q0.out.below hb1 Q0.out.lt)
          have P1 := Lib.hid (Q1.out.below hb1 Q1.out.lt)
          clear hb1
          go_wp2_with fail
          refine (HCb.out _).mono ?_
          rintro e w2 ⟨rfl, hb2⟩
          have Hb2 := Lib.hid (Hb1.out.trans (hb2.mono Hb1.out.size))
          clear x0 x1 y0 y1
          obtain ⟨x0, x1, _, _⟩ := cells2 (P0.out.below hb2 P0.out.lt)
          obtain ⟨y0, y1, _, _⟩ := cells2 (P1.out.below hb2 P1.out.lt)
          clear hb2
          go_wp2_with fail
          go_ret
          exact ⟨ret_bool (by rw [Hr2.out] <;> first | rfl | (simp; omega)), Hb2.out⟩
        · have Hr3 := Lib.hid (show within (a, b) (c, d) = false by rw [Hr.out, decide_eq_true h1, decide_eq_false h2]; rfl)
          have Hr2 := Lib.hid (show within (a, b) (c, d) = _ from Hr3.out)
          go_enter Try.func18, Try.ntmps18
          go_wp2_with (rw [HW.out])
          refine (HCa.out _).mono ?_
          rintro e w1 ⟨rfl, hb1⟩
          have Hb1 := Lib.hid (Hb.out.trans (hb1.mono Hb.out.size))
          obtain ⟨x0, x1, _, _⟩ := cells2 (Q0.out.below hb1 Q0.out.lt)
          obtain ⟨y0, y1, _, _⟩ := cells2 (Q1.out.below hb1 Q1.out.lt)
          have P0 := Lib.hid (Q0.out.below hb1 Q0.out.lt)
          have P1 := Lib.hid (Q1.out.below hb1 Q1.out.lt)
          clear hb1
          go_wp2_with fail
          refine (HCb.out _).mono ?_
          rintro e w2 ⟨rfl, hb2⟩
          have Hb2 := Lib.hid (Hb1.out.trans (hb2.mono Hb1.out.size))
          clear x0 x1 y0 y1
          obtain ⟨x0, x1, _, _⟩ := cells2 (P0.out.below hb2 P0.out.lt)
          obtain ⟨y0, y1, _, _⟩ := cells2 (P1.out.below hb2 P1.out.lt)
          clear hb2
          go_wp2_with fail
          go_ret
          exact ⟨ret_bool (by rw [Hr2.out] <;> first | rfl | (simp; omega)), Hb2.out⟩
      · have Hr3 := Lib.hid (show within (a, b) (c, d) = false by rw [Hr.out, decide_eq_false h1]; rfl)
        have Hr2 := Lib.hid (show within (a, b) (c, d) = _ from Hr3.out)
        go_enter Try.func18, Try.ntmps18
        go_wp2_with (rw [HW.out])
        refine (HCa.out _).mono ?_
        rintro e w1 ⟨rfl, hb1⟩
        have Hb1 := Lib.hid (Hb.out.trans (hb1.mono Hb.out.size))
        obtain ⟨x0, x1, _, _⟩ := cells2 (Q0.out.below hb1 Q0.out.lt)
        obtain ⟨y0, y1, _, _⟩ := cells2 (Q1.out.below hb1 Q1.out.lt)
        have P0 := Lib.hid (Q0.out.below hb1 Q0.out.lt)
        have P1 := Lib.hid (Q1.out.below hb1 Q1.out.lt)
        clear hb1
        go_wp2_with fail
        refine (HCb.out _).mono ?_
        rintro e w2 ⟨rfl, hb2⟩
        have Hb2 := Lib.hid (Hb1.out.trans (hb2.mono Hb1.out.size))
        clear x0 x1 y0 y1
        obtain ⟨x0, x1, _, _⟩ := cells2 (P0.out.below hb2 P0.out.lt)
        obtain ⟨y0, y1, _, _⟩ := cells2 (P1.out.below hb2 P1.out.lt)
        clear hb2
        go_wp2_with fail
        go_ret
        exact ⟨ret_bool (by rw [Hr2.out] <;> first | rfl | (simp; omega)), Hb2.out⟩
    · have f0 : ((cb : Int) == 0) = false := by simpa using h3
      have Hr3 := Lib.hid (show within (a, b) (c, d) = false by rw [Hr.out, decide_eq_false h3]; simp)
      clear h3
      have Hr2 := Lib.hid (show within (a, b) (c, d) = _ from Hr3.out)
      go_enter Try.func18, Try.ntmps18
      go_wp2_with (rw [HW.out])
      refine (HCa.out _).mono ?_
      rintro e w1 ⟨rfl, hb1⟩
      have Hb1 := Lib.hid (Hb.out.trans (hb1.mono Hb.out.size))
      obtain ⟨x0, x1, _, _⟩ := cells2 (Q0.out.below hb1 Q0.out.lt)
      obtain ⟨y0, y1, _, _⟩ := cells2 (Q1.out.below hb1 Q1.out.lt)
      have P0 := Lib.hid (Q0.out.below hb1 Q0.out.lt)
      have P1 := Lib.hid (Q1.out.below hb1 Q1.out.lt)
      clear hb1
      go_wp2_with fail
      refine (HCb.out _).mono ?_
      rintro e w2 ⟨rfl, hb2⟩
      have Hb2 := Lib.hid (Hb1.out.trans (hb2.mono Hb1.out.size))
      clear x0 x1 y0 y1
      obtain ⟨x0, x1, _, _⟩ := cells2 (P0.out.below hb2 P0.out.lt)
      obtain ⟨y0, y1, _, _⟩ := cells2 (P1.out.below hb2 P1.out.lt)
      clear hb2
      go_wp2_with fail
      go_ret
      exact ⟨ret_bool (by rw [Hr2.out] <;> first | rfl | (simp; omega)), Hb2.out⟩
  · have f0 : ((ca : Int) == 0) = false := by simpa using h0
    have Hr3 := Lib.hid (show within (a, b) (c, d) = false by rw [Hr.out, decide_eq_false h0]; rfl)
    clear h0
    have Hr2 := Lib.hid (show within (a, b) (c, d) = _ from Hr3.out)
    go_enter Try.func18, Try.ntmps18
    go_wp2_with (rw [HW.out])
    refine (HCa.out _).mono ?_
    rintro e w1 ⟨rfl, hb1⟩
    have Hb1 := Lib.hid (Hb.out.trans (hb1.mono Hb.out.size))
    obtain ⟨x0, x1, _, _⟩ := cells2 (Q0.out.below hb1 Q0.out.lt)
    obtain ⟨y0, y1, _, _⟩ := cells2 (Q1.out.below hb1 Q1.out.lt)
    have P0 := Lib.hid (Q0.out.below hb1 Q0.out.lt)
    have P1 := Lib.hid (Q1.out.below hb1 Q1.out.lt)
    clear hb1
    go_wp2_with fail
    go_ret
    exact ⟨ret_bool (by rw [Hr2.out] <;> first | rfl | (simp; omega)), Hb1.out⟩
theorem same_drop {u v : List Iv} {k : Nat} {x y : Iv} (h1 : u[k]? = some x) (h2 : v[k]? = some y) : decide (u.drop k = v.drop k) = (decide (x = y) && decide (u.drop (k + 1) = v.drop (k + 1))) := by
  obtain ⟨hk, rfl⟩ := List.getElem?_eq_some_iff.1 h1
  obtain ⟨hk2, rfl⟩ := List.getElem?_eq_some_iff.1 h2
  rw [List.drop_eq_getElem_cons hk, List.drop_eq_getElem_cons hk2, ← Bool.decide_and]
  exact decide_eq_decide.2 List.cons_eq_cons
theorem iv_eq (a b c d : Int) : decide (((a, b) : Iv) = (c, d)) = (decide (a = c) && decide (b = d)) := by simp [Bool.decide_and]
set_option maxRecDepth 100000 in
set_option maxHeartbeats 2000000 in
theorem same_any (u v : List Iv) (n m : Nat) (hn : u.length = n) (hm : v.length = m) (hml : n ≤ maxLen) (a : Option Addr) (cap : Nat) (b : Option Addr) (cap2 : Nat) (w : World) (hu : Rd w (.slice a n cap) u) (hv : Rd w (.slice b m cap2) v) :
    Calls Try.prog 25 #[.slice a n cap, .slice b m cap2] w fun e w' => e = .returned (.bool (decide (u = v))) ∧ Below w.heap.size w w' := by
  have Hml := Lib.hid hml
  by_cases hnm : n = m
  · subst hnm
    have HU := Lib.hid hu
    have HV := Lib.hid hv
    have Hn := Lib.hid hn
    have Hm := Lib.hid hm
    clear hu hv hn hm hml
    go_enter Try.func25, Try.ntmps25
    go_wp2_with fail
    go_loopw [5] (fun i wr => ∃ k : Nat, Hid (k ≤ n) ∧ Hid (decide (u = v) = decide (u.drop k = v.drop k)) ∧ i = .int .i64 (k : Int) ∧ Hid (Below w.heap.size w wr)) (fun i _ => n - (intOf i).toNat)
    case atStart => exact ⟨0, Lib.hid (Nat.zero_le _), Lib.hid rfl, rfl, Lib.hid (Below.refl _ _)⟩
    case round =>
      obtain ⟨k, Hk, Hc, rfl, Hb⟩ := hrel
      by_cases hk : k < n
      · obtain ⟨g, off, rfl, _, hcap, hat⟩ := (HU.out.next Hb.out).at_ (by omega)
        obtain ⟨g2, off2, rfl, _, hcap2, hat2⟩ := (HV.out.next Hb.out).at_ (by omega)
        obtain ⟨x, hx⟩ : ∃ x, u[k]? = some x := ⟨_, List.getElem?_eq_getElem (by rw [Hn.out]; exact hk)⟩
        obtain ⟨y, hy⟩ : ∃ x, v[k]? = some x := ⟨_, List.getElem?_eq_getElem (by rw [Hm.out]; exact hk)⟩
        obtain ⟨c0, c1⟩ := hat k x hx
        obtain ⟨d0, d1⟩ := hat2 k y hy
        have hd := same_drop hx hy
        obtain ⟨xl, xh⟩ := x
        obtain ⟨yl, yh⟩ := y
        rw [iv_eq] at hd
        simp only [] at c0 c1 d0 d1
        have j1 : (k : Int) < (n : Int) := by omega
        have j0 : (0 : Int) ≤ (k : Int) := by omega
        have s1 : IntKind.i64.wrap ((k : Int) + 1) = ((k + 1 : Nat) : Int) := by rw [IntKind.wrap_i64]; have := Hml.out; unfold maxLen at this; omega
        have Hk2 := Lib.hid hk
        have Hd := Lib.hid hd
        have hmx : Try.prog.follows .mixedOrders = true := by kernel_rfl
        clear hat hat2 hx hy hd
        by_cases e1 : xl = yl
        · by_cases e2 : xh = yh
          · subst e1 e2
            have Hd2 := Lib.hid (show decide (u = v) = decide (u.drop (k + 1) = v.drop (k + 1)) by rw [Hc.out, Hd.out]; simp)
            go_wp2_with fail
            go_region
            go_wp2_with fail
            exact ⟨⟨k + 1, Lib.hid Hk2.out, Hd2, by go_num, Lib.hid Hb.out.drew⟩, by have := Hk2.out; simp [intOf]; omega⟩
          · have Hd2 := Lib.hid (show decide (u = v) = false by rw [Hc.out, Hd.out]; simp [e2])
            go_wp2_with fail
            go_region
            go_wp2_with fail
            go_ret
            exact ⟨ret_bool Hd2.out.symm, Hb.out.drew⟩
        · have Hd2 := Lib.hid (show decide (u = v) = false by rw [Hc.out, Hd.out]; simp [e1])
          go_wp2_with fail
          go_region
          go_wp2_with fail
          go_ret
          exact ⟨ret_bool Hd2.out.symm, Hb.out.drew⟩
      · have j1 : ¬ (k : Int) < (n : Int) := by omega
        have Ht := Lib.hid (show decide (u = v) = true by
          rw [Hc.out, List.drop_eq_nil_of_le (by rw [Hn.out]; have := Hk.out; omega), List.drop_eq_nil_of_le (by rw [Hm.out]; have := Hk.out; omega)]; rfl)
        clear hk
        go_wp2_with fail
        go_ret
        exact ⟨ret_bool Ht.out.symm, Hb.out⟩
  · have Ht := Lib.hid (show decide (u = v) = false from decide_eq_false (fun e => hnm (by rw [← hn, ← hm, e])))
    have f0 : ((n : Int) != (m : Int)) = true := by simp; omega
    clear hu hv hn hm hml
    go_enter Try.func25, Try.ntmps25
    go_wp2_with fail
    go_ret
    exact ⟨ret_bool Ht.out.symm, Below.refl _ _⟩
end Go.Proofs.Ytnjpjjefhpbfgaa
