/- Layer 1: where tokens and problems stand (plain lists; nothing of the program). -/
import Derived.Test.YtmlkfglnnepjjaaDoorSpec
namespace Go.Proofs.YtmlkfglnnepjjaaDoor

/-- what is true of the tokens and the problems from an offset on -/
structure Stand (n k : Nat) (ts : List (Int × Nat × Nat)) (bs : List Nat) : Prop where
  tok : ∀ t ∈ ts, k ≤ t.2.1 ∧ t.2.1 < t.2.2 ∧ t.2.2 ≤ n ∧ 1 ≤ t.1 ∧ t.1 ≤ 3
  chain : ts.Pairwise fun t u => t.2.2 ≤ u.2.1
  bad : ∀ b ∈ bs, k ≤ b ∧ b < n
  up : bs.Pairwise (· < ·)
  apart : ∀ b ∈ bs, ∀ t ∈ ts, b < t.2.1 ∨ t.2.2 ≤ b

theorem Stand.mono {n k k' : Nat} {ts : List (Int × Nat × Nat)} {bs : List Nat} (h : Stand n k ts bs) (hk : k' ≤ k) : Stand n k' ts bs :=
  ⟨fun t ht => by have := h.tok t ht; omega, h.chain, fun b hb => by have := h.bad b hb; omega, h.up, h.apart⟩
theorem Stand.nil (n k : Nat) : Stand n k [] [] := ⟨by simp, by simp, by simp, by simp, by simp⟩

theorem stand_from (l : List UInt8) : ∀ f k last, Stand l.length k (tkL l f k) (bdL l f k last) := by
  intro f
  induction f with
  | zero => intro k last; exact Stand.nil _ _
  | succ f ih =>
    intro k last
    by_cases hk : k < l.length
    · have hb := sc_bd hk
      have hs := sk_ge false l (sc l k).2
      have hkd := sc_kind l k
      by_cases h0 : (sc l k).1 = 0
      · have ih2 := ih (sk false l (sc l k).2) (sc l k).2
        have e1 : tkL l (f + 1) k = tkL l f (sk false l (sc l k).2) := by simp [tkL, hk, h0]
        rw [e1]
        by_cases hl : (k : Int) = last
        · have e2 : bdL l (f + 1) k last = bdL l f (sk false l (sc l k).2) (sc l k).2 := by rw [bdL, if_pos hk, if_pos h0, if_pos hl, List.nil_append]
          rw [e2]
          exact ih2.mono (by omega)
        · have e2 : bdL l (f + 1) k last = k :: bdL l f (sk false l (sc l k).2) (sc l k).2 := by rw [bdL, if_pos hk, if_pos h0, if_neg hl]; rfl
          rw [e2]
          refine ⟨fun t ht => ?_, ih2.chain, fun b hb' => ?_, ?_, fun b hb' t ht => ?_⟩
          · have := ih2.tok t ht; omega
          · rcases List.mem_cons.1 hb' with rfl | hb'
            · omega
            · have := ih2.bad b hb'; omega
          · rw [List.pairwise_cons]
            exact ⟨fun b hb' => by have := ih2.bad b hb'; omega, ih2.up⟩
          · rcases List.mem_cons.1 hb' with rfl | hb'
            · have := ih2.tok t ht; omega
            · exact ih2.apart b hb' t ht
      · have ih2 := ih (sk false l (sc l k).2) last
        have e1 : tkL l (f + 1) k = ((sc l k).1, k, (sc l k).2) :: tkL l f (sk false l (sc l k).2) := by simp [tkL, hk, h0]
        have e2 : bdL l (f + 1) k last = bdL l f (sk false l (sc l k).2) last := by rw [bdL, if_pos hk, if_neg h0]
        rw [e1, e2]
        refine ⟨fun t ht => ?_, ?_, fun b hb' => ?_, ih2.up, fun b hb' t ht => ?_⟩
        · rcases List.mem_cons.1 ht with rfl | ht
          · simp only []; omega
          · have := ih2.tok t ht; omega
        · rw [List.pairwise_cons]
          exact ⟨fun u hu => by have := ih2.tok u hu; simp only []; omega, ih2.chain⟩
        · have := ih2.bad b hb'; omega
        · rcases List.mem_cons.1 ht with rfl | ht
          · have := ih2.bad b hb'; simp only []; omega
          · exact ih2.apart b hb' t ht
    · rw [tkL_end (by omega), bdL_end (by omega)]
      exact Stand.nil _ _
theorem stand (l : List UInt8) : Stand l.length 0 (toks l) (bads l) := (stand_from l _ _ _).mono (Nat.zero_le _)

/-- begin and end of token number i; the last one is the end -/
def tB (l : List UInt8) (i : Nat) : Nat := match (toks l)[i]? with | some t => t.2.1 | none => l.length
def tF (l : List UInt8) (i : Nat) : Nat := match (toks l)[i]? with | some t => t.2.2 | none => l.length
/-- where token number i - 1 ends -/
def tP (l : List UInt8) : Nat → Nat | 0 => 0 | i + 1 => tF l i
theorem tB_le (l : List UInt8) (i : Nat) : tB l i ≤ tF l i ∧ tF l i ≤ l.length := by
  unfold tB tF
  split
  · rename_i t ht
    have := (stand l).tok t (List.mem_of_getElem? ht)
    omega
  · omega
theorem tP_le (l : List UInt8) (i : Nat) (hi : i ≤ (toks l).length) : tP l i ≤ tB l i := by
  cases i with
  | zero => exact Nat.zero_le _
  | succ j =>
    have hj : j < (toks l).length := by omega
    simp only [tP, tF, List.getElem?_eq_getElem hj]
    unfold tB
    split
    · rename_i t ht
      have hlt := (List.getElem?_eq_some_iff.1 ht).1
      have := List.pairwise_iff_getElem.1 (stand l).chain j (j + 1) hj hlt (by omega)
      rw [(List.getElem?_eq_some_iff.1 ht).2] at this
      exact this
    · exact ((stand l).tok _ (List.getElem_mem hj)).2.2.1
/-- the problems that are reported -/
def bd64 (l : List UInt8) : List Nat := (bads l).take 64
theorem bd64_lt (l : List UInt8) {q : Nat} (hq : q < (bd64 l).length) : (bd64 l).getD q 0 < l.length := by
  have h : (bd64 l).getD q 0 ∈ bads l := by
    rw [List.getD, List.getElem?_eq_getElem hq]
    exact List.mem_of_mem_take (List.getElem_mem hq)
  exact ((stand l).bad _ h).2
theorem bd64_up (l : List UInt8) {p q : Nat} (hpq : p < q) (hq : q < (bd64 l).length) : (bd64 l).getD p 0 < (bd64 l).getD q 0 := by
  have hw : (bd64 l).Pairwise (· < ·) := (stand l).up.sublist (List.take_sublist _ _)
  have := List.pairwise_iff_getElem.1 hw p q (by omega) hq hpq
  simpa [List.getD, List.getElem?_eq_getElem hq, List.getElem?_eq_getElem (show p < (bd64 l).length by omega)] using this
theorem bd64_apart (l : List UInt8) {q i : Nat} (hq : q < (bd64 l).length) (h : tB l i ≤ (bd64 l).getD q 0) : tF l i ≤ (bd64 l).getD q 0 := by
  have hm : (bd64 l).getD q 0 ∈ bads l := by
    rw [List.getD, List.getElem?_eq_getElem hq]
    exact List.mem_of_mem_take (List.getElem_mem hq)
  unfold tB at h
  unfold tF
  split
  · rename_i t ht
    rw [ht] at h
    simp only [] at h
    have := (stand l).apart _ hm t (List.mem_of_getElem? ht)
    omega
  · rename_i ht
    rw [ht] at h
    exact h
end Go.Proofs.YtmlkfglnnepjjaaDoor
