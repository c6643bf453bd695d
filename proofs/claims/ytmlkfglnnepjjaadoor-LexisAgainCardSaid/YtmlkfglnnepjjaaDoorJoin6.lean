/- Layer 0: a token by itself, said by the scan and said by the reference. -/
import Derived.Test.YtmlkfglnnepjjaaDoorJoin5
namespace Go.Proofs.YtmlkfglnnepjjaaDoor
open Go.RowKit

theorem tw_all {p : UInt8 → Bool} : ∀ {m : List UInt8}, (∀ c ∈ m, p c = true) → m.takeWhile p = m
  | [], _ => rfl
  | c :: r, h => by
    have hc := h c (by simp)
    rw [List.takeWhile_cons, if_pos hc, tw_all (fun x hx => h x (by simp [hx]))]
theorem isInt_form {l : List UInt8} (h : isInt l = true) : (l ≠ [] ∧ bA l 0 ≠ 45 ∧ ∀ c ∈ l, dg c.toNat = true) ∨ ∃ m, l = 45 :: m ∧ m ≠ [] ∧ ∀ c ∈ m, dg c.toNat = true := by
  unfold isInt at h
  simp only [Bool.or_eq_true, Bool.and_eq_true, beq_iff_eq, Bool.not_eq_true', decide_eq_true_eq, List.all_eq_true] at h
  rcases h with h | ⟨⟨⟨h1, _⟩, _⟩, h4⟩
  · left
    subst h
    refine ⟨by simp, by decide, fun c hc => ?_⟩
    simp at hc
    subst hc
    decide
  · unfold digitsOf at h1 h4
    split at h1
    · rename_i h45
      rw [if_pos h45] at h4
      right
      cases l with
      | nil => simp [bA] at h45
      | cons c r =>
        refine ⟨r, ?_, by simpa using h1, h4⟩
        have : (c.toNat : Int) = 45 := by simpa [bA] using h45
        have h2 : c = 45 := by
          apply UInt8.toNat_inj.1
          have : c.toNat = 45 := by omega
          rw [this]; rfl
        rw [h2]
    · rename_i h45
      rw [if_neg h45] at h4
      left
      exact ⟨by intro e; rw [e] at h1; simp at h1, h45, h4⟩
theorem isInt_num {l : List UInt8} (h : isInt l = true) (hd : dg (bA l 0) = true) : run inn l 0 = l.length := by
  rcases isInt_form h with ⟨_, _, h3⟩ | ⟨m, rfl, _, _⟩
  · rw [run, List.drop_zero, tw_all (fun c hc => inn_of_dg (h3 c hc))]; simp
  · simp [bA, dg] at hd
theorem isInt_min {l : List UInt8} (h : isInt l = true) (hd : bA l 0 = 45) : run inn l 1 = l.length := by
  rcases isInt_form h with ⟨_, h2, _⟩ | ⟨m, rfl, _, h3⟩
  · exact absurd hd h2
  · rw [run, List.drop_succ_cons, List.drop_zero, tw_all (fun c hc => inn_of_dg (h3 c hc))]; simp; omega
theorem isInt_first {l : List UInt8} (h : isInt l = true) : dg (bA l 0) = true ∨ (bA l 0 = 45 ∧ dg (bA l 1) = true) := by
  rcases isInt_form h with ⟨h1, _, h3⟩ | ⟨m, rfl, h2, h3⟩
  · left
    cases l with
    | nil => exact absurd rfl h1
    | cons c r => simpa [bA] using h3 c (by simp)
  · right
    cases m with
    | nil => exact absurd rfl h2
    | cons c r => exact ⟨by simp [bA], by simpa [bA] using h3 c (by simp)⟩
theorem sub_all (l : List UInt8) : sub l 0 l.length = l := by simp [sub]
theorem sgnT_first {l : List UInt8} (h : sgnT l = true) : (l = [45, 62]) ∨ (l.length = 1 ∧ sgn (bA l 0) = true) := by
  simpa [sgnT] using h
theorem wst_45 : wst 45 = false := by decide
theorem dg_45 : dg 45 = false := by decide
theorem sgn_not {c : Int} (h : sgn c = true) : wst c = false ∧ dg c = false ∧ c ≠ 45 := by
  rw [sgn_iff] at h
  rcases h with h | h | h | h | h | h | h | h | h | h | h | h <;> subst h <;> decide
theorem dg_not {c : Int} (h : dg c = true) : wst c = false := by
  rw [dg_iff] at h
  rw [Bool.eq_false_iff]
  intro h2
  simp [wst, lt_iff] at h2
  omega

theorem tkOk_vld (t : Tk) : tkOk t = vld t := by
  obtain ⟨k, s, p⟩ := t
  unfold tkOk vld
  simp only []
  rw [← tx_len]
  generalize tx s = l
  by_cases h0 : l = []
  · subst h0
    have h1 : sc ([] : List UInt8) 0 = (0, 1) := by decide
    rw [h1]
    have h2 : isInt [] = false := by decide
    have h3 : sgnT [] = false := by decide
    simp [h2, h3]
  have hp : 0 < l.length := List.length_pos_iff.2 h0
  by_cases hw : wst (bA l 0) = true
  · rw [sc_word hw]
    have h2 : isInt l = false := by
      rw [Bool.eq_false_iff]
      intro h
      rcases isInt_first h with h | ⟨h, _⟩
      · rw [dg_not h] at hw; cases hw
      · rw [h, wst_45] at hw; cases hw
    have h3 : sgnT l = false := by
      rw [Bool.eq_false_iff]
      intro h
      rcases sgnT_first h with rfl | ⟨_, h⟩
      · simp [bA, wst, lt] at hw
      · rw [(sgn_not h).1] at hw; cases hw
    rw [h2, h3]
    by_cases hk : k = 1
    · subst hk; simp [hp]
    · have hk2 : ¬ (1 = k) := fun h => hk h.symm
      simp [hk, hk2]
  have hw' : wst (bA l 0) = false := by simpa using hw
  have hwr : ¬ (wrd l 0 = l.length) := by rw [wrd_no hw']; omega
  by_cases hd : dg (bA l 0) = true
  · rw [sc_digit hd, scNum]
    have h3 : sgnT l = false := by
      rw [Bool.eq_false_iff]
      intro h
      rcases sgnT_first h with rfl | ⟨_, h⟩
      · simp [bA, dg] at hd
      · rw [(sgn_not h).2.1] at hd; cases hd
    rw [h3]
    by_cases hI : isInt l = true
    · rw [isInt_num hI hd, sub_all, hI]
      by_cases hk : k = 2
      · subst hk; simp
      · have hk2 : ¬ (2 = k) := fun h => hk h.symm
        simp [hk, hk2, hwr]
    · have hI' : isInt l = false := by simpa using hI
      rw [hI']
      by_cases hE : run inn l 0 = l.length
      · rw [hE, sub_all, hI']; simp [hwr]
      · simp [hE, hwr]
  have hd' : dg (bA l 0) = false := by simpa using hd
  by_cases hm : bA l 0 = 45 ∧ dg (bA l 1) = true
  · rw [sc_mdigit hm.1 hm.2, scNum]
    have h3 : sgnT l = false := by
      rw [Bool.eq_false_iff]
      intro h
      rcases sgnT_first h with rfl | ⟨_, h⟩
      · have := hm.2; simp [bA, dg] at this
      · exact (sgn_not h).2.2 hm.1
    rw [h3]
    by_cases hI : isInt l = true
    · have hr : run inn l (0 + 1) = l.length := isInt_min hI hm.1
      rw [hr, sub_all, hI]
      by_cases hk : k = 2
      · subst hk; simp
      · have hk2 : ¬ (2 = k) := fun h => hk h.symm
        simp [hk, hk2, hwr]
    · have hI' : isInt l = false := by simpa using hI
      rw [hI']
      by_cases hE : run inn l (0 + 1) = l.length
      · rw [hE, sub_all, hI']; simp [hwr]
      · simp only [Nat.zero_add] at hE; simp [hE, hwr]
  have hI : isInt l = false := by
    rw [Bool.eq_false_iff]
    intro h
    rcases isInt_first h with h | h
    · exact hd h
    · exact hm h
  rw [sc_sign hp hw' hd' (fun h => by simpa using fun h2 => hm ⟨h, h2⟩), hI]
  simp only [Nat.zero_add]
  by_cases h2 : 2 ≤ l.length ∧ sgnT (sub l 0 2) = true
  · rw [if_pos h2]
    have h45 : bA l 0 = 45 := by
      have := sgnT_two (l := l) (k := 0) (by omega)
      rw [Nat.zero_add, h2.2] at this
      simpa using (of_decide_eq_true this.symm).1
    have h62 : sgnT l = decide (2 = l.length) := by
      by_cases hl : l.length = 2
      · have : sub l 0 2 = l := by rw [← hl]; exact sub_all l
        rw [this] at h2; simp [h2.2, hl]
      · rw [decide_eq_false (by omega), Bool.eq_false_iff]
        intro h
        rcases sgnT_first h with rfl | ⟨h, _⟩
        · simp at hl
        · omega
    rw [h62]
    by_cases hk : k = 3
    · subst hk; simp
    · have hk2 : ¬ (3 = k) := fun h => hk h.symm
      simp [hk, hk2, hwr]
  · rw [if_neg h2]
    have hs1 := sgnT_one (l := l) (k := 0) hp
    rw [Nat.zero_add] at hs1
    have h62 : sgnT l = (decide (1 = l.length) && sgnT (sub l 0 1)) := by
      by_cases hl : l.length = 1
      · have : sub l 0 1 = l := by rw [← hl]; exact sub_all l
        rw [this]; simp [hl]
      · rw [decide_eq_false (by omega), Bool.false_and, Bool.eq_false_iff]
        intro h
        rcases sgnT_first h with rfl | ⟨h, _⟩
        · exact h2 ⟨by simp, by decide⟩
        · exact hl h
    rw [h62]
    by_cases h1 : sgnT (sub l 0 1) = true
    · rw [if_pos h1, h1]
      by_cases hk : k = 3
      · subst hk; simp
      · have hk2 : ¬ (3 = k) := fun h => hk h.symm
        simp [hk, hk2, hwr]
    · have h1' : sgnT (sub l 0 1) = false := by simpa using h1
      rw [if_neg h1, h1']
      simp [hwr]
end Go.Proofs.YtmlkfglnnepjjaaDoor
