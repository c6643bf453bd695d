/- Layer 1: scanning a text that is put together of two with a comment between them (plain lists). -/
import Derived.Test.YtmlkfglnnepjjaaDoorSpec
namespace Go.Proofs.YtmlkfglnnepjjaaDoor

/-- the tokens from an offset on -/
def TKs (l : List UInt8) (k : Nat) : List (Int × Nat × Nat) := tkL l (l.length - k) k
theorem tkL_fuel (l : List UInt8) : ∀ f k, l.length - k ≤ f → tkL l f k = TKs l k := by
  intro f
  induction f using Nat.strongRecOn with
  | _ f ih =>
    intro k hf
    by_cases hk : k < l.length
    · have hb := sc_bd hk
      have hs := sk_ge false l (sc l k).2
      obtain ⟨f', rfl⟩ : ∃ f', f = f' + 1 := ⟨f - 1, by omega⟩
      obtain ⟨n, hn⟩ : ∃ n, l.length - k = n + 1 := ⟨l.length - k - 1, by omega⟩
      rw [TKs, hn, tkL, tkL, if_pos hk, if_pos hk]
      congr 1
      rw [ih f' (by omega) _ (by omega)]
      by_cases hnf : n < f' + 1
      · rw [ih n hnf _ (by omega)]
      · have : n = f' + 1 := by omega
        omega
    · rw [tkL_end (by omega), TKs, tkL_end (by omega)]
theorem TKs_step {l : List UInt8} {k : Nat} (hk : k < l.length) : TKs l k = (if (sc l k).1 = 0 then [] else [((sc l k).1, k, (sc l k).2)]) ++ TKs l (sk false l (sc l k).2) := by
  have hb := sc_bd hk
  have hs := sk_ge false l (sc l k).2
  obtain ⟨n, hn⟩ : ∃ n, l.length - k = n + 1 := ⟨l.length - k - 1, by omega⟩
  rw [TKs, hn, tkL, if_pos hk, tkL_fuel l n _ (by omega)]
theorem TKs_end {l : List UInt8} {k : Nat} (hk : l.length ≤ k) : TKs l k = [] := tkL_end hk
theorem toks_TKs (l : List UInt8) : toks l = TKs l (sk false l 0) := tkL_fuel l _ _ (by omega)

section shift
variable (p b : List UInt8)
theorem bA_sh (j : Nat) : bA (p ++ b) (p.length + j) = bA b j := by
  simp only [bA]
  rw [List.getElem?_append_right (by omega), show p.length + j - p.length = j by omega]
theorem run_sh (q : Int → Bool) (k : Nat) : run q (p ++ b) (p.length + k) = p.length + run q b k := by
  simp [run]; omega
theorem sub_sh (x y : Nat) : sub (p ++ b) (p.length + x) (p.length + y) = sub b x y := by
  simp only [sub, List.drop_append, List.drop_eq_nil_of_le (show p.length ≤ p.length + x by omega), List.nil_append]
  congr 1
  · omega
  · congr 1; omega
theorem sk_sh (c : Bool) (k : Nat) : sk c (p ++ b) (p.length + k) = p.length + sk c b k := by
  simp [sk]; omega
theorem wEnd_sh (k : Nat) : wEnd (p ++ b) (p.length + k) = p.length + wEnd b k := by
  simp only [wEnd, run_sh, bA_sh, Nat.add_assoc]
  split <;> rfl
theorem scNum_sh (k d : Nat) : scNum (p ++ b) (p.length + k) (p.length + d) = ((scNum b k d).1, p.length + (scNum b k d).2) := by
  simp only [scNum, run_sh, sub_sh]
theorem sc_sh (k : Nat) : sc (p ++ b) (p.length + k) = ((sc b k).1, p.length + (sc b k).2) := by
  have h1 := scNum_sh p b k (k + 1)
  have h2 := scNum_sh p b k k
  rw [← Nat.add_assoc] at h1
  have h3 := bA_sh p b (k + 1)
  rw [← Nat.add_assoc] at h3
  simp only [sc, scMin, bA_sh, h3, wEnd_sh, h1, h2]
  repeat' split
  all_goals first | rfl | (simp only [Prod.mk.injEq, true_and]; omega)
/-- a token, so much further on -/
def shT (n : Nat) (t : Int × Nat × Nat) : Int × Nat × Nat := (t.1, n + t.2.1, n + t.2.2)
theorem TKs_sh : ∀ n k, b.length - k ≤ n → TKs (p ++ b) (p.length + k) = (TKs b k).map (shT p.length) := by
  intro n
  induction n using Nat.strongRecOn with
  | _ n ih =>
    intro k hn
    by_cases hk : k < b.length
    · have hb := sc_bd hk
      have hs := sk_ge false b (sc b k).2
      have hi := ih (n - 1) (by omega) (sk false b (sc b k).2) (by omega)
      have hl : p.length + k < (p ++ b).length := by rw [List.length_append]; omega
      rw [TKs_step hk, TKs_step hl, sc_sh, sk_sh, List.map_append, hi]
      congr 1
      split <;> simp [shT]
    · have hl : (p ++ b).length ≤ p.length + k := by rw [List.length_append]; omega
      rw [TKs_end (l := b) (k := k) (by omega), TKs_end hl]; rfl
end shift

section pre10
variable {a t : List UInt8}
theorem takeWhile_stop {α : Type} (q : α → Bool) (h : α) (r : List α) (hq : q h = false) : ∀ x : List α, (x ++ h :: r).takeWhile q = x.takeWhile q
  | [] => by simp [hq]
  | c :: x => by
    simp only [List.cons_append, List.takeWhile_cons]
    split
    · rw [takeWhile_stop q h r hq x]
    · rfl
theorem bA_pre {j : Nat} (hj : j < a.length) : bA (a ++ 10 :: t) j = bA a j := by simp [bA, List.getElem?_append_left hj]
theorem bA_at : bA (a ++ 10 :: t) a.length = 10 := by simp [bA]
theorem bA_pre_lt {j : Nat} (hj : j ≤ a.length) : lt (bA (a ++ 10 :: t) j) = lt (bA a j) := by
  rcases Nat.lt_or_ge j a.length with h | h
  · rw [bA_pre h]
  · have : j = a.length := by omega
    subst this
    rw [bA_at, bA_ge (Nat.le_refl _)]; decide
theorem bA_pre_dg {j : Nat} (hj : j ≤ a.length) : dg (bA (a ++ 10 :: t) j) = dg (bA a j) := by
  rcases Nat.lt_or_ge j a.length with h | h
  · rw [bA_pre h]
  · have : j = a.length := by omega
    subst this
    rw [bA_at, bA_ge (Nat.le_refl _)]; decide
theorem bA_pre_eq {j : Nat} (hj : j ≤ a.length) (c : Int) (h10 : c ≠ 10) (h1 : c ≠ -1) : (bA (a ++ 10 :: t) j = c) ↔ (bA a j = c) := by
  rcases Nat.lt_or_ge j a.length with h | h
  · rw [bA_pre h]
  · have : j = a.length := by omega
    subst this
    rw [bA_at, bA_ge (Nat.le_refl _)]
    omega
theorem run_pre {k : Nat} (hk : k ≤ a.length) : run inn (a ++ 10 :: t) k = run inn a k := by
  unfold run
  rw [List.drop_append_of_le_length hk, takeWhile_stop _ _ _ (by decide)]
theorem sub_pre {x y : Nat} (hy : y ≤ a.length) : sub (a ++ 10 :: t) x y = sub a x y := by
  unfold sub
  rcases Nat.lt_or_ge a.length x with h | h
  · have e : y - x = 0 := by omega
    rw [e]; simp
  · rw [List.drop_append_of_le_length h, List.take_append_of_le_length (by simp; omega)]
theorem wEnd_pre {k : Nat} (hk : k ≤ a.length) : wEnd (a ++ 10 :: t) k = wEnd a k := by
  have hr := run_le (p := inn) hk
  unfold wEnd
  rw [run_pre hk]
  by_cases h58 : bA a (run inn a k) = 58
  · have hm : run inn a k < a.length := bA_in (by omega)
    have e1 := (bA_pre_eq (t := t) hr 58 (by decide) (by decide)).2 h58
    rw [bA_pre_lt (t := t) (j := run inn a k + 1) (by omega), run_pre (by omega)]
    simp only [h58, e1]
  · have e1 : ¬ bA (a ++ 10 :: t) (run inn a k) = 58 := fun h => h58 ((bA_pre_eq hr 58 (by decide) (by decide)).1 h)
    simp [h58, e1]
theorem scNum_pre {k d : Nat} (hd : d ≤ a.length) : scNum (a ++ 10 :: t) k d = scNum a k d := by
  have hr := run_le (p := inn) hd
  unfold scNum
  rw [run_pre hd, sub_pre hr]
theorem sc_pre {k : Nat} (hk : k < a.length) : sc (a ++ 10 :: t) k = sc a k := by
  unfold sc scMin
  have e62 := bA_pre_eq (a := a) (t := t) (j := k + 1) (by omega) 62 (by decide) (by decide)
  have ed := bA_pre_dg (a := a) (t := t) (j := k + 1) (by omega)
  rw [bA_pre hk, wEnd_pre (Nat.le_of_lt hk), scNum_pre (k := k) (d := k + 1) (by omega), scNum_pre (k := k) (d := k) (by omega), ed]
  simp only [e62]
theorem skl_pre : ∀ (x : List UInt8) (c : Bool), skl c (x ++ 10 :: t) = if skl c x < x.length then skl c x else x.length + 1 + skl false t
  | [], c => by
    have h : blk 10 = true := by decide
    cases c
    · simp [skl, h]
    · simp [skl]
  | b :: x, c => by
    have h1 := skl_pre x false
    have h2 := skl_pre x true
    have b1 := skl_le false x
    have b2 := skl_le true x
    cases c
    · simp only [List.cons_append, skl, List.length_cons]
      split
      · rw [h1]; split <;> split <;> omega
      split
      · rw [h2]; split <;> split <;> omega
      · simp
    · simp only [List.cons_append, skl, List.length_cons]
      split
      · rw [h1]; split <;> split <;> omega
      · rw [h2]; split <;> split <;> omega
theorem sk_pre {c : Bool} {k : Nat} (hk : k ≤ a.length) : sk c (a ++ 10 :: t) k = if sk c a k < a.length then sk c a k else a.length + 1 + skl false t := by
  unfold sk
  rw [List.drop_append_of_le_length hk, skl_pre]
  have h := skl_le c (a.drop k)
  simp only [List.length_drop] at h ⊢
  split <;> split <;> omega
theorem TKs_pre : ∀ n k, a.length - k ≤ n → k < a.length → TKs (a ++ 10 :: t) k = TKs a k ++ TKs (a ++ 10 :: t) (a.length + 1 + skl false t) := by
  intro n
  induction n using Nat.strongRecOn with
  | _ n ih =>
    intro k hn hk
    have hb := sc_bd hk
    have hs := sk_ge false a (sc a k).2
    rw [TKs_step hk, TKs_step (l := a ++ 10 :: t) (by simp; omega), sc_pre hk, sk_pre hb.2, List.append_assoc]
    congr 1
    split
    · rename_i h
      exact ih (n - 1) (by omega) _ (by omega) h
    · rename_i h
      rw [TKs_end (l := a) (by omega), List.nil_append]
theorem toks_pre : toks (a ++ 10 :: t) = toks a ++ TKs (a ++ 10 :: t) (a.length + 1 + skl false t) := by
  rw [toks_TKs, toks_TKs a, sk_pre (Nat.zero_le _)]
  split
  · rename_i h
    exact TKs_pre _ _ (Nat.le_refl _) h
  · rename_i h
    rw [TKs_end (l := a) (by omega), List.nil_append]
end pre10
theorem skl_no10 : ∀ (x : List UInt8), (∀ c ∈ x, c ≠ 10) → skl true x = x.length
  | [], _ => rfl
  | c :: x, h => by
    have hc : ¬ (c.toNat : Int) = 10 := fun e => h c (by simp) (by apply UInt8.toNat_inj.1; simp; omega)
    rw [skl, if_neg hc, skl_no10 x (fun d hd => h d (by simp [hd]))]
    simp; omega
/-- THE TOKENS OF TWO TEXTS WITH A COMMENT BETWEEN THEM -/
theorem toks_remark (a r b : List UInt8) (hr : ∀ c ∈ r, c ≠ 10) :
    toks (a ++ 10 :: 35 :: (r ++ 10 :: b)) = toks a ++ (toks b).map (shT (a.length + r.length + 3)) := by
  rw [toks_pre, toks_TKs b]
  congr 1
  have h35 : blk ((35 : UInt8).toNat : Int) = false := by decide
  have e35 : ((35 : UInt8).toNat : Int) = 35 := by decide
  have hq : skl false (35 :: (r ++ 10 :: b)) = r.length + 2 + skl false b := by
    rw [skl, h35, if_neg (by simp), if_pos e35, skl_pre, skl_no10 r hr, if_neg (by omega)]; omega
  rw [hq]
  have hl : (a ++ 10 :: 35 :: (r ++ [10])).length = a.length + r.length + 3 := by simp; omega
  have hs := TKs_sh (a ++ 10 :: 35 :: (r ++ [10])) b _ (sk false b 0) (Nat.le_refl _)
  rw [hl] at hs
  rw [← hs]
  have e : a ++ 10 :: 35 :: (r ++ [10]) ++ b = a ++ 10 :: 35 :: (r ++ 10 :: b) := by simp
  rw [e]
  congr 1
  simp [sk]; omega
end Go.Proofs.YtmlkfglnnepjjaaDoor
