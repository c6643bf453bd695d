/- Intervals: what the reference makes. -/
import Derived.Test.YtnjpjjefhpbfgaaIvP
namespace Go.Proofs.Ytnjpjjefhpbfgaa

def addGo : List Iv → Iv → Bool → List Iv
  | [], i, d => if d then [] else [i]
  | x :: l, i, d => if x.2 + 1 < i.1 then x :: addGo l i d
      else if i.2 + 1 < x.1 then (if d then x :: addGo l i true else i :: x :: addGo l i true)
      else addGo l (min i.1 x.1, max i.2 x.2) d
theorem addGo_true : ∀ (l : List Iv) (i : Iv), i.1 ≤ i.2 → (∀ x ∈ l, x.1 ≤ x.2 ∧ i.2 + 1 < x.1) → addGo l i true = l
  | [], _, _, _ => rfl
  | x :: l, i, hi, h => by
    have hx := h x List.mem_cons_self
    rw [addGo, if_neg (by omega), if_pos hx.2, if_pos rfl, addGo_true l i hi (fun y hy => h y (List.mem_cons_of_mem _ hy))]
theorem addGo_false : ∀ (l : List Iv) (i : Iv), Sep l → i.1 ≤ i.2 → Sep (addGo l i false) ∧ ∀ n, memI n (addGo l i false) ↔ memI n l ∨ (i.1 ≤ n ∧ n ≤ i.2)
  | [], i, _, hi => ⟨sep_one hi, fun n => by rw [addGo, if_neg (by simp), memI_one]; exact ⟨.inr, fun h => h.elim (fun h => absurd h (memI_nil n)) id⟩⟩
  | x :: l, i, hl, hi => by
    have hx := hl.head
    rw [addGo]
    split
    · rename_i h1
      obtain ⟨h2, h3⟩ := addGo_false l i hl.tail hi
      refine ⟨⟨List.pairwise_cons.2 ⟨fun b hb => ?_, h2.1⟩, fun b hb => ?_⟩, fun n => ?_⟩
      · rcases (h3 b.1).1 ⟨b, hb, Int.le_refl _, h2.2 b hb⟩ with h4 | h4
        · exact hl.after h4
        · omega
      · rcases List.mem_cons.1 hb with rfl | hb
        · exact hx
        · exact h2.2 b hb
      · rw [memI_cons, h3, memI_cons, or_assoc]
    · split
      · rename_i h1 h2
        have hall : ∀ y ∈ l, y.1 ≤ y.2 ∧ i.2 + 1 < y.1 := fun y hy => by
          have := (List.pairwise_cons.1 hl.1).1 y hy
          exact ⟨hl.2 y (List.mem_cons_of_mem _ hy), by omega⟩
        rw [if_neg (by simp), addGo_true l i hi hall]
        refine ⟨⟨List.pairwise_cons.2 ⟨fun b hb => ?_, hl.1⟩, fun b hb => ?_⟩, fun n => ?_⟩
        · rcases List.mem_cons.1 hb with rfl | hb
          · exact h2
          · exact (hall b hb).2
        · rcases List.mem_cons.1 hb with rfl | hb
          · exact hi
          · exact hl.2 b hb
        · rw [memI_cons n i]; exact Or.comm
      · rename_i h1 h2
        obtain ⟨h3, h4⟩ := addGo_false l (min i.1 x.1, max i.2 x.2) hl.tail (by simp only []; omega)
        refine ⟨h3, fun n => ?_⟩
        rw [h4, memI_cons]
        simp only []
        constructor
        · rintro (h5 | h5)
          · exact .inl (.inr h5)
          · rcases Int.lt_or_le n x.1 with h6 | h6
            · exact .inr ⟨by omega, by omega⟩
            · rcases Int.lt_or_le x.2 n with h7 | h7
              · exact .inr ⟨by omega, by omega⟩
              · exact .inl (.inl ⟨h6, h7⟩)
        · rintro ((h5 | h5) | h5)
          · exact .inr ⟨by omega, by omega⟩
          · exact .inl h5
          · exact .inr ⟨by omega, by omega⟩
def addI (l : List Iv) (i : Iv) : List Iv := addGo l i false
theorem foldl_add : ∀ (l u : List Iv), Vld l → Sep u → Sep (l.foldl addI u) ∧ ∀ n, memI n (l.foldl addI u) ↔ memI n u ∨ memI n l
  | [], u, _, hu => ⟨hu, fun n => ⟨.inl, fun h => h.elim id fun h => absurd h (memI_nil n)⟩⟩
  | i :: l, u, hv, hu => by
    obtain ⟨h1, h2⟩ := addGo_false u i hu (hv i List.mem_cons_self)
    obtain ⟨h3, h4⟩ := foldl_add l (addI u i) (fun j hj => hv j (List.mem_cons_of_mem _ hj)) h1
    refine ⟨h3, fun n => ?_⟩
    rw [List.foldl_cons, h4, memI_cons]
    show memI n (addGo u i false) ∨ _ ↔ _
    rw [h2, or_assoc]
theorem add_uni {l : List Iv} (hv : Vld l) : l.foldl addI [] = uni l := by
  obtain ⟨h1, h2⟩ := foldl_add l [] hv sep_nil
  exact uni_unique h1 hv fun n => (h2 n).trans ⟨fun h => h.elim (fun h => absurd h (memI_nil n)) id, .inr⟩
/-- what the reference's Without makes, from a number on -/
def rwGo (hi : Int) : List Iv → Int → List Iv
  | [], f => if f ≤ hi then [(f, hi)] else []
  | u :: r, f => if u.2 < f ∨ hi < u.1 then rwGo hi r f else (if f < u.1 then [(f, u.1 - 1)] else []) ++ rwGo hi r (u.2 + 1)
theorem rwGo_ok (hi : Int) : ∀ (u : List Iv) (f : Int), Sep u → Sep (rwGo hi u f) ∧ ∀ n, memI n (rwGo hi u f) ↔ (f ≤ n ∧ n ≤ hi) ∧ ¬ memI n u
  | [], f, _ => by
    rw [rwGo]
    split
    · rename_i h
      exact ⟨sep_one h, fun n => (memI_one n _).trans ⟨fun h => ⟨h, memI_nil n⟩, fun h => h.1⟩⟩
    · exact ⟨sep_nil, fun n => ⟨fun h => absurd h (memI_nil n), fun h => by omega⟩⟩
  | u :: r, f, hu => by
    have hx := hu.head
    rw [rwGo]
    split
    · rename_i h
      obtain ⟨h1, h2⟩ := rwGo_ok hi r f hu.tail
      refine ⟨h1, fun n => ?_⟩
      rw [h2, memI_cons]
      constructor
      · rintro ⟨h3, h4⟩
        exact ⟨h3, fun h5 => h5.elim (fun h5 => by omega) h4⟩
      · rintro ⟨h3, h4⟩
        exact ⟨h3, fun h5 => h4 (.inr h5)⟩
    · rename_i h
      obtain ⟨h1, h2⟩ := rwGo_ok hi r (u.2 + 1) hu.tail
      have hf : (∀ n, memI n (if f < u.1 then [(f, u.1 - 1)] else []) ↔ f ≤ n ∧ n < u.1) ∧ Sep (if f < u.1 then [((f, u.1 - 1) : Iv)] else []) ∧ ∀ a ∈ (if f < u.1 then [((f, u.1 - 1) : Iv)] else []), a.2 = u.1 - 1 := by
        split
        · refine ⟨fun n => (memI_one n _).trans ?_, sep_one (by simp only []; omega), fun a ha => ?_⟩
          · simp only []; omega
          · simp at ha; subst ha; rfl
        · exact ⟨fun n => ⟨fun h1 => absurd h1 (memI_nil n), fun h1 => by omega⟩, sep_nil, fun a ha => by cases ha⟩
      obtain ⟨m1, p1, q1⟩ := hf
      refine ⟨Sep.append.2 ⟨p1, h1, fun a ha b hb => ?_⟩, fun n => ?_⟩
      · have := ((h2 b.1).1 ⟨b, hb, Int.le_refl _, h1.2 b hb⟩).1
        have := q1 a ha
        omega
      · rw [memI_append, m1, h2, memI_cons]
        constructor
        · rintro (h3 | ⟨h3, h4⟩)
          · exact ⟨by omega, fun h5 => h5.elim (fun h5 => by omega) (fun h5 => by have := hu.after h5; omega)⟩
          · exact ⟨by omega, fun h5 => h5.elim (fun h5 => by omega) h4⟩
        · rintro ⟨h3, h4⟩
          rcases Int.lt_or_le n u.1 with h5 | h5
          · exact .inl ⟨h3.1, h5⟩
          · refine .inr ⟨⟨?_, h3.2⟩, fun h6 => h4 (.inr h6)⟩
            rcases Int.lt_or_le u.2 n with h6 | h6
            · omega
            · exact absurd (Or.inl ⟨h5, h6⟩) h4
theorem rwGo_wto {i : Iv} {u : List Iv} (hi : i.1 ≤ i.2) (hu : Sep u) : rwGo i.2 u i.1 = wto i u := by
  obtain ⟨h1, h2⟩ := rwGo_ok i.2 u i.1 hu
  obtain ⟨h3, h4⟩ := wto_ok hi hu
  exact sep_unique _ _ h1 h3 fun n => (h2 n).trans (h4 n).symm
theorem sep_gap {u : List Iv} (hu : Sep u) {x : Iv} (hx : x ∈ u) : ¬ memI (x.2 + 1) u := by
  induction u with
  | nil => cases hx
  | cons y u ih =>
    rw [memI_cons]
    rintro (h | h)
    · rcases List.mem_cons.1 hx with rfl | hx
      · omega
      · have := hu.after (n := x.1) ⟨x, hx, Int.le_refl _, hu.2 x (List.mem_cons_of_mem _ hx)⟩
        have := hu.2 x (List.mem_cons_of_mem _ hx)
        omega
    · rcases List.mem_cons.1 hx with rfl | hx
      · have := hu.after h; omega
      · exact ih hu.tail hx h
/-- an interval is within one of a separated list exactly if nothing remains of it -/
theorem ins_wto {i : Iv} {u : List Iv} (hi : i.1 ≤ i.2) (hu : Sep u) : (∃ x ∈ u, x.1 ≤ i.1 ∧ i.2 ≤ x.2) ↔ wto i u = [] := by
  obtain ⟨h1, h2⟩ := wto_ok hi hu
  constructor
  · rintro ⟨x, hx, h3, h4⟩
    refine sep_unique _ _ h1 sep_nil fun n => ⟨fun h => ?_, fun h => absurd h (memI_nil n)⟩
    obtain ⟨h5, h6⟩ := (h2 n).1 h
    exact absurd ⟨x, hx, by omega, by omega⟩ h6
  · intro h
    have hall : ∀ n, i.1 ≤ n → n ≤ i.2 → memI n u := fun n h3 h4 => by
      refine Classical.byContradiction fun h5 => ?_
      have := (h2 n).2 ⟨⟨h3, h4⟩, h5⟩
      rw [h] at this
      exact memI_nil n this
    obtain ⟨x, hx, h3, h4⟩ := hall i.1 (Int.le_refl _) hi
    refine ⟨x, hx, h3, ?_⟩
    rcases Int.lt_or_le x.2 i.2 with h5 | h5
    · exact absurd (hall (x.2 + 1) (by omega) (by omega)) (sep_gap hu hx)
    · exact h5
end Go.Proofs.Ytnjpjjefhpbfgaa
