/- Layer 0: each token of a text is a token by itself. -/
import Derived.Test.YtmlkfglnnepjjaaDoorBackP
import Derived.Test.YtmlkfglnnepjjaaDoorPure
namespace Go.Proofs.YtmlkfglnnepjjaaDoor
open Go.RowKit

theorem tw_take {α : Type} (q : α → Bool) : ∀ (m : Nat) (x : List α), ((x.take m).takeWhile q).length = min m (x.takeWhile q).length
  | 0, x => by simp
  | m + 1, [] => by simp
  | m + 1, c :: x => by
    simp only [List.take_succ_cons, List.takeWhile_cons]
    split
    · simp only [List.length_cons, tw_take q m x]; omega
    · simp
theorem run_take (q : Int → Bool) (l : List UInt8) {n k : Nat} (hk : k ≤ n) : run q (l.take n) k = min n (run q l k) := by
  unfold run
  rw [List.drop_take, tw_take]
  omega
theorem bA_take_ge {l : List UInt8} {n i : Nat} (h : n ≤ i) : bA (l.take n) i = -1 := by
  apply bA_ge; simp; omega
theorem scNum_take {l : List UInt8} {d n : Nat} (hd : d ≤ n) (hn : run inn l d = n) : scNum (l.take n) 0 d = scNum l 0 d := by
  unfold scNum
  rw [run_take inn l hd, hn, Nat.min_self]
  have : sub (l.take n) 0 n = sub l 0 n := by simp [sub, List.take_take]
  rw [this]
/-- a token that begins a text, cut off behind its end -/
theorem sc_take {l : List UInt8} (h0 : 0 < l.length) (h : (sc l 0).1 ≠ 0) : sc (l.take (sc l 0).2) 0 = sc l 0 := by
  have hb := sc_bd h0
  obtain ⟨n, hn⟩ : ∃ n, (sc l 0).2 = n := ⟨_, rfl⟩
  rw [hn] at hb ⊢
  have b0 : bA (l.take n) 0 = bA l 0 := bA_take hb.1
  by_cases c1 : cls (bA l 0) = 3 ∨ cls (bA l 0) = 4
  · have e : sc l 0 = (1, wEnd l 0) := by rw [sc, if_pos c1]
    have e2 : sc (l.take n) 0 = (1, wEnd (l.take n) 0) := by rw [sc, b0, if_pos c1]
    rw [e2, e]
    rw [e] at hn
    simp only [] at hn
    refine Prod.ext rfl ?_
    simp only []
    rw [hn]
    unfold wEnd at hn ⊢
    rw [run_take inn l (Nat.zero_le _)]
    split at hn
    · rename_i hx
      have hk : run inn l 0 + 1 < l.length := bA_in (by have := (lt_iff _).1 hx.2; omega)
      have hg := run_gt hk (inn_of_lt hx.2)
      rw [hn] at hg
      have hm : min n (run inn l 0) = run inn l 0 := by omega
      rw [hm, bA_take (by omega), bA_take (by omega), if_pos hx, run_take inn l (by omega), hn, Nat.min_self]
    · rw [hn, Nat.min_self, bA_take_ge (Nat.le_refl _), if_neg (by simp)]
  by_cases c2 : cls (bA l 0) = 5
  · have e : sc l 0 = scNum l 0 0 := by rw [sc, if_neg c1, if_pos c2]
    have e2 : sc (l.take n) 0 = scNum (l.take n) 0 0 := by rw [sc, b0, if_neg c1, if_pos c2]
    rw [e2, e]
    exact scNum_take (Nat.zero_le _) (by rw [e] at hn; exact hn)
  by_cases c3 : cls (bA l 0) = 6
  · have e : sc l 0 = scMin l 0 := by rw [sc, if_neg c1, if_neg c2, if_pos c3]
    have e2 : sc (l.take n) 0 = scMin (l.take n) 0 := by rw [sc, b0, if_neg c1, if_neg c2, if_pos c3]
    rw [e2, e]
    rw [e] at hn h
    unfold scMin at hn h ⊢
    by_cases d1 : bA l (0 + 1) = 62
    · rw [if_pos d1] at hn
      simp only [] at hn
      rw [bA_take (by omega), if_pos d1, if_pos d1]
    by_cases d2 : dg (bA l (0 + 1)) = true
    · rw [if_neg d1, if_pos d2] at hn h
      have hk : 0 + 1 < l.length := bA_in (by have := (dg_iff _).1 d2; omega)
      have hg := run_gt hk (inn_of_dg d2)
      have hr : run inn l (0 + 1) = n := hn
      rw [hr] at hg
      rw [bA_take (by omega), if_neg d1, if_pos d2, if_neg d1, if_pos d2]
      exact scNum_take (by omega) hr
    · rw [if_neg d1, if_neg d2] at h
      exact absurd rfl h
  by_cases c4 : cls (bA l 0) = 7
  · rw [sc, b0, sc]; simp only [if_neg c1, if_neg c2, if_neg c3, if_pos c4]
  · rw [sc, if_neg c1, if_neg c2, if_neg c3, if_neg c4] at h
    exact absurd rfl h
/-- what the scan said at each token -/
theorem tkL_sc (l : List UInt8) : ∀ f k, ∀ t ∈ tkL l f k, sc l t.2.1 = (t.1, t.2.2) ∧ t.1 ≠ 0 ∧ t.2.1 < l.length
  | 0, _, t, h => by simp [tkL] at h
  | f + 1, k, t, h => by
    rw [tkL] at h
    split at h
    · rename_i hk
      rw [List.mem_append] at h
      rcases h with h | h
      · split at h
        · simp at h
        · rename_i h0
          simp only [List.mem_singleton] at h
          subst h
          exact ⟨rfl, h0, hk⟩
      · exact tkL_sc l f _ t h
    · simp at h
theorem sub_sc {l : List UInt8} {t : Int × Nat × Nat} (h : t ∈ toks l) : sc (sub l t.2.1 t.2.2) 0 = (t.1, t.2.2 - t.2.1) ∧ t.1 ≠ 0 := by
  obtain ⟨h1, h2, h3⟩ := tkL_sc l _ _ t h
  have hb := sc_bd h3
  rw [h1] at hb
  simp only [] at hb
  have hs := sc_sh (l.take t.2.1) (l.drop t.2.1) 0
  rw [List.take_append_drop, show (l.take t.2.1).length = t.2.1 by simp; omega, Nat.add_zero, h1] at hs
  have e1 : (sc (l.drop t.2.1) 0).1 = t.1 := (congrArg (·.1) hs).symm
  have e2 : t.2.1 + (sc (l.drop t.2.1) 0).2 = t.2.2 := (congrArg (·.2) hs).symm
  have hd : 0 < (l.drop t.2.1).length := by simp; omega
  have ht := sc_take hd (by rw [e1]; exact h2)
  have e3 : (sc (l.drop t.2.1) 0).2 = t.2.2 - t.2.1 := by omega
  rw [e3] at ht
  refine ⟨?_, h2⟩
  unfold sub
  rw [ht]
  exact Prod.ext e1 e3
theorem tkOk_tok {l : List UInt8} {t : Int × Nat × Nat} (h : t ∈ toks l) : tkOk (t.1, mkS (sub l t.2.1 t.2.2), (t.2.1 : Int)) = true := by
  obtain ⟨h1, h2⟩ := sub_sc h
  have ht := (stand l).tok t h
  have hl := sub_len (l := l) (a := t.2.1) (b := t.2.2) ht.2.2.1
  simp only [tkOk, Bool.and_eq_true, decide_eq_true_eq, tx_mkS, size_mkS, h1, hl]
  exact ⟨h2, trivial, trivial⟩
theorem tkE_at {l : List UInt8} {q : Nat} (hq : q < (toks l).length) : tA (tkE l) q = ((toks l)[q].1, mkS (sub l (toks l)[q].2.1 (toks l)[q].2.2), ((toks l)[q].2.1 : Int)) := by
  simp [tA, tkE, List.getD, List.getElem?_append_left, hq]
theorem again_ok (l : List UInt8) : JOk tkOk (tkE l) := by
  have hn := tkE_len l
  refine ⟨by omega, ?_, ?_, fun q hq => ?_⟩
  · rw [hn, Nat.add_sub_cancel, tkE_last]
  · rw [hn, Nat.add_sub_cancel, tkE_last]; simp
  · have h : q < (toks l).length := by omega
    rw [tkE_at h]
    exact tkOk_tok (List.getElem_mem h)
theorem ssz_tk (l : List UInt8) : ∀ j, j ≤ (toks l).length → ssz (tkE l) j ≤ l.length ∧ (0 < j → ssz (tkE l) j ≤ tF l (j - 1))
  | 0, _ => ⟨by simp [ssz], fun h => by omega⟩
  | j + 1, h => by
    obtain ⟨h1, h2⟩ := ssz_tk l j (by omega)
    have hj : j < (toks l).length := by omega
    have ht := (stand l).tok _ (List.getElem_mem hj)
    have hp := tP_le l j (by omega)
    have hB : tB l j = (toks l)[j].2.1 := by simp [tB, hj]
    have hF : tF l j = (toks l)[j].2.2 := by simp [tF, hj]
    have hs : ssz (tkE l) (j + 1) ≤ tF l j := by
      simp only [ssz, tkE_at hj, size_mkS, sub_len ht.2.2.1]
      rw [hF]
      rw [hB] at hp
      rcases Nat.eq_zero_or_pos j with h0 | h0
      · subst h0; simp [ssz]
      · have := h2 h0
        obtain ⟨i, rfl⟩ : ∃ i, j = i + 1 := ⟨j - 1, by omega⟩
        simp only [tP, Nat.add_sub_cancel] at hp this
        omega
    exact ⟨by rw [hF] at hs; omega, fun _ => hs⟩
theorem again_len (l : List UInt8) : (jn (tkE l) ((tkE l).length - 1)).length ≤ 2 * l.length := by
  rw [jn_len, tkE_len, Nat.add_sub_cancel]
  have h1 := (ssz_tk l _ (Nat.le_refl _)).1
  have h2 := toks_len l
  omega
theorem again_size (l : List UInt8) (j : Nat) (hj : j < (tkE l).length) : (tA (tkE l) j).2.1.size ≤ l.length := by
  rw [tkE_len] at hj
  rcases Nat.lt_or_ge j (toks l).length with h | h
  · have ht := (stand l).tok _ (List.getElem_mem h)
    rw [tkE_at h, size_mkS, sub_len ht.2.2.1]
    omega
  · have he : j = (toks l).length := by omega
    subst he
    rw [tkE_last]
    exact Nat.zero_le _
end Go.Proofs.YtmlkfglnnepjjaaDoor
