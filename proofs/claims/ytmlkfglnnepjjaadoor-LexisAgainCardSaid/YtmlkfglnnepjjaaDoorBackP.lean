/- Layer 0: the tokens of joined texts. -/
import Derived.Test.YtmlkfglnnepjjaaDoorPureR
import Derived.Test.YtmlkfglnnepjjaaDoorJoin7
namespace Go.Proofs.YtmlkfglnnepjjaaDoor
open Go.RowKit

section pre32
variable {a t : List UInt8}
theorem bA_sp {j : Nat} (hj : j < a.length) : bA (a ++ 32 :: t) j = bA a j := by simp [bA, List.getElem?_append_left hj]
theorem bA_at_sp : bA (a ++ 32 :: t) a.length = 32 := by simp [bA]
theorem bA_sp_lt {j : Nat} (hj : j ≤ a.length) : lt (bA (a ++ 32 :: t) j) = lt (bA a j) := by
  rcases Nat.lt_or_ge j a.length with h | h
  · rw [bA_sp h]
  · have : j = a.length := by omega
    subst this
    rw [bA_at_sp, bA_ge (Nat.le_refl _)]; decide
theorem bA_sp_dg {j : Nat} (hj : j ≤ a.length) : dg (bA (a ++ 32 :: t) j) = dg (bA a j) := by
  rcases Nat.lt_or_ge j a.length with h | h
  · rw [bA_sp h]
  · have : j = a.length := by omega
    subst this
    rw [bA_at_sp, bA_ge (Nat.le_refl _)]; decide
theorem bA_sp_eq {j : Nat} (hj : j ≤ a.length) (c : Int) (h32 : c ≠ 32) (h1 : c ≠ -1) : (bA (a ++ 32 :: t) j = c) ↔ (bA a j = c) := by
  rcases Nat.lt_or_ge j a.length with h | h
  · rw [bA_sp h]
  · have : j = a.length := by omega
    subst this
    rw [bA_at_sp, bA_ge (Nat.le_refl _)]
    omega
theorem run_sp {k : Nat} (hk : k ≤ a.length) : run inn (a ++ 32 :: t) k = run inn a k := by
  unfold run
  rw [List.drop_append_of_le_length hk, takeWhile_stop _ _ _ (by decide)]
theorem sub_sp {x y : Nat} (hy : y ≤ a.length) : sub (a ++ 32 :: t) x y = sub a x y := by
  unfold sub
  rcases Nat.lt_or_ge a.length x with h | h
  · have e : y - x = 0 := by omega
    rw [e]; simp
  · rw [List.drop_append_of_le_length h, List.take_append_of_le_length (by simp; omega)]
theorem wEnd_sp {k : Nat} (hk : k ≤ a.length) : wEnd (a ++ 32 :: t) k = wEnd a k := by
  have hr := run_le (p := inn) hk
  unfold wEnd
  rw [run_sp hk]
  by_cases h58 : bA a (run inn a k) = 58
  · have hm : run inn a k < a.length := bA_in (by omega)
    have e1 := (bA_sp_eq (t := t) hr 58 (by decide) (by decide)).2 h58
    rw [bA_sp_lt (t := t) (j := run inn a k + 1) (by omega), run_sp (by omega)]
    simp only [h58, e1]
  · have e1 : ¬ bA (a ++ 32 :: t) (run inn a k) = 58 := fun h => h58 ((bA_sp_eq hr 58 (by decide) (by decide)).1 h)
    simp [h58, e1]
theorem scNum_sp {k d : Nat} (hd : d ≤ a.length) : scNum (a ++ 32 :: t) k d = scNum a k d := by
  have hr := run_le (p := inn) hd
  unfold scNum
  rw [run_sp hd, sub_sp hr]
theorem sc_sp {k : Nat} (hk : k < a.length) : sc (a ++ 32 :: t) k = sc a k := by
  unfold sc scMin
  have e62 := bA_sp_eq (a := a) (t := t) (j := k + 1) (by omega) 62 (by decide) (by decide)
  have ed := bA_sp_dg (a := a) (t := t) (j := k + 1) (by omega)
  rw [bA_sp hk, wEnd_sp (Nat.le_of_lt hk), scNum_sp (k := k) (d := k + 1) (by omega), scNum_sp (k := k) (d := k) (by omega), ed]
  simp only [e62]
end pre32

/-- a byte that begins a token -/
theorem sc_first {l : List UInt8} {k : Nat} (h : (sc l k).1 ≠ 0) : blk (bA l k) = false ∧ bA l k ≠ 35 := by
  rw [Bool.eq_false_iff, ne_eq, ← cls_1, ne_eq, ← cls_2]
  constructor <;> intro hc <;> exact h (by simp [sc, hc])
/-- where a joined text begins -/
def stt (ts : List Tk) (j : Nat) : Nat := (jn ts j).length + if j = 0 then 0 else 1
theorem jn_split (ts : List Tk) : ∀ n j, j < n → ∃ p t, jn ts n = p ++ (tx (tA ts j).2.1 ++ t) ∧ p.length = stt ts j ∧ ((j + 1 = n ∧ t = []) ∨ (j + 1 < n ∧ ∃ t', t = 32 :: (tx (tA ts (j + 1)).2.1 ++ t')))
  | 0, j, h => by omega
  | n + 1, j, h => by
    by_cases hj : j = n
    · subst hj
      refine ⟨jn ts j ++ (if j = 0 then [] else [32]), [], by simp [jn], ?_, .inl ⟨rfl, rfl⟩⟩
      rw [List.length_append, stt]
      split <;> simp
    · obtain ⟨p, t, h1, h2, h3⟩ := jn_split ts n j (by omega)
      have hn : n ≠ 0 := by omega
      rcases h3 with ⟨h3, rfl⟩ | ⟨h3, t', rfl⟩
      · subst h3
        exact ⟨p, 32 :: (tx (tA ts (j + 1)).2.1 ++ []), by rw [jn, h1]; simp, h2, .inr ⟨by omega, [], rfl⟩⟩
      · exact ⟨p, 32 :: (tx (tA ts (j + 1)).2.1 ++ (t' ++ 32 :: tx (tA ts n).2.1)), by rw [jn, h1]; simp [hn], h2, .inr ⟨by omega, _, rfl⟩⟩
theorem tkOk_sc {t : Tk} (h : tkOk t = true) : sc (tx t.2.1) 0 = (t.1, t.2.1.size) ∧ t.1 ≠ 0 ∧ 0 < t.2.1.size := by
  simp only [tkOk, Bool.and_eq_true, decide_eq_true_eq] at h
  obtain ⟨h1, h2, h3⟩ := h
  refine ⟨Prod.ext h2 h3, by rw [← h2]; exact h1, ?_⟩
  rcases Nat.eq_zero_or_pos t.2.1.size with h0 | h0
  · have : tx t.2.1 = [] := List.eq_nil_of_length_eq_zero (by rw [tx_len]; exact h0)
    rw [this] at h1
    exact absurd (by decide) h1
  · exact h0
/-- at the beginning of text number j: its kind, its end, and where the next one begins -/
theorem jn_at (ts : List Tk) {n j : Nat} (hj : j < n) (hok : ∀ q, q < n → tkOk (tA ts q) = true) :
    sc (jn ts n) (stt ts j) = ((tA ts j).1, stt ts j + (tA ts j).2.1.size) ∧ sub (jn ts n) (stt ts j) (stt ts j + (tA ts j).2.1.size) = tx (tA ts j).2.1 ∧ stt ts j < (jn ts n).length ∧
      ((j + 1 = n ∧ sk false (jn ts n) (stt ts j + (tA ts j).2.1.size) = (jn ts n).length ∧ stt ts j + (tA ts j).2.1.size = (jn ts n).length) ∨ (j + 1 < n ∧ sk false (jn ts n) (stt ts j + (tA ts j).2.1.size) = stt ts (j + 1))) := by
  obtain ⟨p, t, h1, h2, h3⟩ := jn_split ts n j hj
  obtain ⟨o1, o2, o3⟩ := tkOk_sc (hok j hj)
  rw [← tx_len] at o1 o3 ⊢
  obtain ⟨s, hs⟩ : ∃ s, tx (tA ts j).2.1 = s := ⟨_, rfl⟩
  rw [hs] at h1 o1 o3 ⊢
  rw [h1, ← h2]
  have hst : stt ts (j + 1) = p.length + s.length + 1 := by
    have e : (jn ts (j + 1)).length = stt ts j + s.length := by
      simp only [jn, hs, List.length_append, stt]; split <;> simp
    rw [stt, e, h2]; simp
  have hsub : sub (p ++ (s ++ t)) p.length (p.length + s.length) = s := by
    have := sub_sh p (s ++ t) 0 s.length
    rw [Nat.add_zero] at this
    rw [this]; simp [sub]
  have hsc : sc (s ++ t) 0 = sc s 0 := by
    rcases h3 with ⟨_, rfl⟩ | ⟨_, t', rfl⟩
    · rw [List.append_nil]
    · exact sc_sp o3
  have h4 := sc_sh p (s ++ t) 0
  rw [Nat.add_zero, hsc, o1] at h4
  refine ⟨h4, hsub, by simp; omega, ?_⟩
  rcases h3 with ⟨h3, rfl⟩ | ⟨h3, t', rfl⟩
  · left
    refine ⟨h3, ?_, by simp⟩
    rw [sk_end (by simp)]; simp
  · right
    refine ⟨h3, ?_⟩
    obtain ⟨u1, u2, u3⟩ := tkOk_sc (hok (j + 1) h3)
    rw [← tx_len] at u3
    have hf := sc_first (l := tx (tA ts (j + 1)).2.1) (k := 0) (by rw [u1]; exact u2)
    have e : p ++ (s ++ 32 :: (tx (tA ts (j + 1)).2.1 ++ t')) = (p ++ (s ++ [32])) ++ (tx (tA ts (j + 1)).2.1 ++ t') := by simp
    have hb : bA (p ++ (s ++ 32 :: (tx (tA ts (j + 1)).2.1 ++ t'))) (p.length + s.length + 1) = bA (tx (tA ts (j + 1)).2.1) 0 := by
      rw [e]
      have := bA_sh (p ++ (s ++ [32])) (tx (tA ts (j + 1)).2.1 ++ t') 0
      have hl : (p ++ (s ++ [32])).length = p.length + s.length + 1 := by simp; omega
      rw [Nat.add_zero, hl] at this
      rw [this]
      simp [bA, List.getElem?_append_left u3]
    have hb2 : bA (p ++ (s ++ 32 :: (tx (tA ts (j + 1)).2.1 ++ t'))) (p.length + s.length) = 32 := by
      rw [bA_sh p]; simp [bA]
    rw [sk_blk (by rw [hb2]; decide), sk_stop (by rw [hb]; exact hf.1) (by rw [hb]; exact hf.2), hst]
/-- the tokens from text number j on, and no problem -/
theorem jn_rest (ts : List Tk) (n : Nat) (hok : ∀ q, q < n → tkOk (tA ts q) = true) : ∀ f j last, j < n → (jn ts n).length - stt ts j ≤ f →
    tkL (jn ts n) f (stt ts j) = (List.range' j (n - j)).map (fun q => ((tA ts q).1, stt ts q, stt ts q + (tA ts q).2.1.size)) ∧ bdL (jn ts n) f (stt ts j) last = []
  | 0, j, last, hj, hf => by
    have := (jn_at ts hj hok).2.2.1
    omega
  | f + 1, j, last, hj, hf => by
    obtain ⟨h1, _, h3, h4⟩ := jn_at ts hj hok
    obtain ⟨_, o2, o3⟩ := tkOk_sc (hok j hj)
    rw [tkL, bdL, if_pos h3, if_pos h3, h1]
    simp only [o2, if_false]
    rcases h4 with ⟨h5, h6, _⟩ | ⟨h5, h6⟩
    · rw [h6, tkL_end (Nat.le_refl _), bdL_end (Nat.le_refl _), show n - j = 1 by omega]
      simp
    · have hg := sk_ge false (jn ts n) (stt ts j + (tA ts j).2.1.size)
      rw [h6] at hg
      rw [h6]
      obtain ⟨r1, r2⟩ := jn_rest ts n hok f (j + 1) last h5 (by omega)
      rw [r1, r2, show n - j = (n - (j + 1)) + 1 by omega, List.range'_succ]
      simp
/-- THE TOKENS OF A JOINED TEXT: the given ones -/
theorem jn_toks (ts : List Tk) (n : Nat) (hok : ∀ q, q < n → tkOk (tA ts q) = true) :
    toks (jn ts n) = (List.range n).map (fun q => ((tA ts q).1, stt ts q, stt ts q + (tA ts q).2.1.size)) ∧ bads (jn ts n) = [] := by
  rcases Nat.eq_zero_or_pos n with h0 | hp
  · subst h0
    exact ⟨by simp [jn, toks, tkL], by simp [jn, bads, bdL]⟩
  · obtain ⟨h1, _, h3, _⟩ := jn_at ts hp hok
    obtain ⟨_, o2, _⟩ := tkOk_sc (hok 0 hp)
    have hs0 : stt ts 0 = 0 := by simp [stt, jn]
    rw [hs0] at h1 h3
    have hf := sc_first (l := jn ts n) (k := 0) (by rw [h1]; exact o2)
    have hr := jn_rest ts n hok (jn ts n).length 0 (-1) hp (by omega)
    rw [hs0] at hr
    rw [toks, bads, sk_stop hf.1 hf.2, List.range_eq_range']
    exact hr
theorem back_same (ts : List Tk) (h : JOk tkOk ts) : sameB false ts (tkE (jn ts (ts.length - 1))) = true := by
  obtain ⟨h1, h2, h3, h4⟩ := h
  obtain ⟨n, hn⟩ : ∃ n, ts.length = n + 1 := ⟨ts.length - 1, by omega⟩
  rw [show ts.length - 1 = n by omega] at *
  obtain ⟨ht, _⟩ := jn_toks ts n h4
  have hlen : (toks (jn ts n)).length = n := by rw [ht]; simp
  unfold sameB
  rw [decide_eq_true (by rw [tkE_len, hlen, hn]), Bool.true_and, decide_eq_true_eq]
  intro q hq
  rcases Nat.lt_or_ge q n with h | h
  · obtain ⟨_, a2, _, _⟩ := jn_at ts h h4
    have e : tA (tkE (jn ts n)) q = ((tA ts q).1, mkS (tx (tA ts q).2.1), ((stt ts q : Nat) : Int)) := by
      have e1 : (toks (jn ts n))[q]? = some ((tA ts q).1, stt ts q, stt ts q + (tA ts q).2.1.size) := by rw [ht]; simp [h]
      simp only [tA, tkE, List.getD, List.getElem?_append_left (show q < ((toks (jn ts n)).map (fun t => (t.1, mkS (sub (jn ts n) t.2.1 t.2.2), (t.2.1 : Int)))).length by rw [List.length_map, hlen]; exact h), List.getElem?_map, e1, Option.map_some, Option.getD_some]
      simp only [tA, List.getD] at a2
      rw [a2]
    rw [e]
    have e2 : mkS (tx (tA ts q).2.1) = (tA ts q).2.1 := by simp [mkS, tx]
    rw [e2]
    simp [tkEq]
  · have hqn : q = n := by omega
    subst hqn
    have e := tkE_last (jn ts q)
    rw [hlen] at e
    rw [e]
    simp [tkEq, h2, h3]
end Go.Proofs.YtmlkfglnnepjjaaDoor
