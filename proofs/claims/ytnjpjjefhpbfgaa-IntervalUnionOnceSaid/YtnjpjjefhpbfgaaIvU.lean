/- Intervals: meet and hull as a lattice. -/
import Derived.Test.YtnjpjjefhpbfgaaIvC
namespace Go.Proofs.Ytnjpjjefhpbfgaa

theorem ck_mk {i : Iv} (h : -1099511627776 ≤ i.1 ∧ i.1 ≤ i.2 ∧ i.2 ≤ 1099511627776) : ck i = 0 := by
  obtain ⟨lo, hi⟩ := i
  simp only [] at h
  rw [ck_in ⟨by omega, by omega, by omega, by omega⟩, if_neg (by omega)]
theorem ckL2 (i j : Iv) : ckL [i, j] = if ck i = 0 then (if ck j = 0 then 0 else ck j) else ck i := rfl
theorem ckL2_ok {i j : Iv} (hi : ck i = 0) (hj : ck j = 0) : ckL [i, j] = 0 := by rw [ckL2, if_pos hi, if_pos hj]
theorem within_v {i j : Iv} (hi : ck i = 0) (hj : ck j = 0) : within i j = true ↔ j.1 ≤ i.1 ∧ i.2 ≤ j.2 := by
  rw [within, ckL2_ok hi hj]
  simp
theorem within_bad {i j : Iv} (h : within i j = true) : ck i = 0 ∧ ck j = 0 := by
  rw [within, ckL2] at h
  by_cases h1 : ck i = 0
  · by_cases h2 : ck j = 0
    · exact ⟨h1, h2⟩
    · simp [h1, h2] at h
  · simp [h1] at h
theorem hull_mk {i j : Iv} (hi : ck i = 0) (hj : ck j = 0) : hullV i j = (min i.1 j.1, max i.2 j.2) ∧ ck (min i.1 j.1, max i.2 j.2) = 0 := by
  refine ⟨by rw [hullV, if_pos (ckL2_ok hi hj)], ck_mk ?_⟩
  have := ck_ok hi
  have := ck_ok hj
  simp only []
  omega
theorem hull_up {i j k : Iv} (hi : ck i = 0) (hj : ck j = 0) (hk : ck k = 0) : within i (hullV i j) = true ∧ within j (hullV i j) = true ∧ (within i k && within j k) = within (hullV i j) k := by
  obtain ⟨h1, h2⟩ := hull_mk hi hj
  rw [h1]
  have := ck_ok hi
  have := ck_ok hj
  refine ⟨(within_v hi h2).2 ?_, (within_v hj h2).2 ?_, ?_⟩
  · simp only []; omega
  · simp only []; omega
  · rw [Bool.eq_iff_iff, Bool.and_eq_true, within_v hi hk, within_v hj hk, within_v h2 hk]
    simp only []
    omega
theorem meet_no {i j k : Iv} (hi : ck i = 0) (hj : ck j = 0) (hk : ck k = 0) (h : meetE i j ≠ 0) : meetE i j = 80 ∧ ¬ (within k i = true ∧ within k j = true) := by
  rw [meetE, if_pos (ckL2_ok hi hj)] at h ⊢
  by_cases hlt : min i.2 j.2 < max i.1 j.1
  · rw [if_pos hlt]
    refine ⟨rfl, ?_⟩
    rw [within_v hk hi, within_v hk hj]
    have := ck_ok hk
    omega
  · rw [if_neg hlt] at h
    exact absurd rfl h
theorem meet_yes {i j k : Iv} (hi : ck i = 0) (hj : ck j = 0) (hk : ck k = 0) (h : meetE i j = 0) : within (meetV i j) i = true ∧ within (meetV i j) j = true ∧ (within k i && within k j) = within k (meetV i j) := by
  rw [meetV, if_pos h]
  rw [meetE, if_pos (ckL2_ok hi hj)] at h
  have hlt : ¬ min i.2 j.2 < max i.1 j.1 := fun hlt => by rw [if_pos hlt] at h; cases h
  have := ck_ok hi
  have := ck_ok hj
  have h2 : ck (max i.1 j.1, min i.2 j.2) = 0 := ck_mk (by simp only []; omega)
  refine ⟨(within_v h2 hi).2 ?_, (within_v h2 hj).2 ?_, ?_⟩
  · simp only []; omega
  · simp only []; omega
  · rw [Bool.eq_iff_iff, Bool.and_eq_true, within_v hk hi, within_v hk hj, within_v hk h2]
    simp only []
    omega
end Go.Proofs.Ytnjpjjefhpbfgaa
