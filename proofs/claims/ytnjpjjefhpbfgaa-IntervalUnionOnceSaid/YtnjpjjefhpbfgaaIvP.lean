/- Intervals: lists of intervals as sets of integers. -/
import Derived.Test.YtnjpjjefhpbfgaaMem
namespace Go.Proofs.Ytnjpjjefhpbfgaa

abbrev Iv := Int × Int
/-- an integer lies in an interval of a list -/
def memI (n : Int) (l : List Iv) : Prop := ∃ i ∈ l, i.1 ≤ n ∧ n ≤ i.2
/-- a separated list -/
def Sep (l : List Iv) : Prop := l.Pairwise (fun a b => a.2 + 1 < b.1) ∧ ∀ i ∈ l, i.1 ≤ i.2
theorem memI_cons (n : Int) (x : Iv) (l : List Iv) : memI n (x :: l) ↔ (x.1 ≤ n ∧ n ≤ x.2) ∨ memI n l := by
  simp only [memI, List.mem_cons, exists_eq_or_imp]
theorem memI_nil (n : Int) : ¬ memI n [] := by simp [memI]
theorem memI_append (n : Int) (a b : List Iv) : memI n (a ++ b) ↔ memI n a ∨ memI n b := by
  induction a with
  | nil => simp [memI_nil]
  | cons x a ih => rw [List.cons_append, memI_cons, memI_cons, ih, or_assoc]
theorem Sep.tail {x : Iv} {l : List Iv} (h : Sep (x :: l)) : Sep l := ⟨(List.pairwise_cons.1 h.1).2, fun i hi => h.2 i (List.mem_cons_of_mem _ hi)⟩
theorem Sep.head {x : Iv} {l : List Iv} (h : Sep (x :: l)) : x.1 ≤ x.2 := h.2 x List.mem_cons_self
theorem Sep.after {x : Iv} {l : List Iv} (h : Sep (x :: l)) {n : Int} (hn : memI n l) : x.2 + 1 < n := by
  obtain ⟨i, hi, h1, _⟩ := hn
  have := (List.pairwise_cons.1 h.1).1 i hi
  omega
theorem Sep.first {x : Iv} {l : List Iv} (h : Sep (x :: l)) {n : Int} (hn : memI n (x :: l)) : x.1 ≤ n := by
  rcases (memI_cons _ _ _).1 hn with h1 | h1
  · exact h1.1
  · have := h.after h1
    have := h.head
    omega
/-- separated lists with the same integers are the same -/
theorem sep_unique : ∀ (a b : List Iv), Sep a → Sep b → (∀ n, memI n a ↔ memI n b) → a = b
  | [], [], _, _, _ => rfl
  | [], y :: b, _, hb, h => absurd ((h y.1).2 ((memI_cons _ _ _).2 (.inl ⟨Int.le_refl _, hb.head⟩))) (memI_nil _)
  | x :: a, [], ha, _, h => absurd ((h x.1).1 ((memI_cons _ _ _).2 (.inl ⟨Int.le_refl _, ha.head⟩))) (memI_nil _)
  | x :: a, y :: b, ha, hb, h => by
    have hx := ha.head
    have hy := hb.head
    have h1 : y.1 ≤ x.1 := hb.first ((h x.1).1 ((memI_cons _ _ _).2 (.inl ⟨Int.le_refl _, hx⟩)))
    have h2 : x.1 ≤ y.1 := ha.first ((h y.1).2 ((memI_cons _ _ _).2 (.inl ⟨Int.le_refl _, hy⟩)))
    have h3 : y.2 ≤ x.2 := by
      rcases Int.lt_or_le x.2 y.2 with h3 | h3
      · exfalso
        rcases (memI_cons _ _ _).1 ((h (x.2 + 1)).2 ((memI_cons _ _ _).2 (.inl ⟨by omega, by omega⟩))) with h4 | h4
        · omega
        · have := ha.after h4; omega
      · exact h3
    have h4 : x.2 ≤ y.2 := by
      rcases Int.lt_or_le y.2 x.2 with h3 | h3
      · exfalso
        rcases (memI_cons _ _ _).1 ((h (y.2 + 1)).1 ((memI_cons _ _ _).2 (.inl ⟨by omega, by omega⟩))) with h4 | h4
        · omega
        · have := hb.after h4; omega
      · exact h3
    have hxy : x = y := Prod.ext (by omega) (by omega)
    subst hxy
    rw [sep_unique a b ha.tail hb.tail fun n => ?_]
    constructor
    · intro hn
      have := ha.after hn
      rcases (memI_cons _ _ _).1 ((h n).1 ((memI_cons _ _ _).2 (.inr hn))) with h5 | h5
      · omega
      · exact h5
    · intro hn
      have := hb.after hn
      rcases (memI_cons _ _ _).1 ((h n).2 ((memI_cons _ _ _).2 (.inr hn))) with h5 | h5
      · omega
      · exact h5
/-- join the intervals of a sorted list -/
def mrg1 (x : Iv) : List Iv → List Iv
  | [] => [x]
  | y :: r => if y.1 ≤ x.2 + 1 then mrg1 (x.1, max x.2 y.2) r else x :: mrg1 y r
def mrg : List Iv → List Iv
  | [] => []
  | x :: r => mrg1 x r
def Srt (l : List Iv) : Prop := l.Pairwise fun a b => a.1 ≤ b.1
def Vld (l : List Iv) : Prop := ∀ i ∈ l, i.1 ≤ i.2
theorem mrg1_mem (n : Int) : ∀ (r : List Iv) (x : Iv), Srt (x :: r) → Vld (x :: r) → (memI n (mrg1 x r) ↔ memI n (x :: r))
  | [], x, _, _ => Iff.rfl
  | y :: r, x, hs, hv => by
    have hs' := List.pairwise_cons.1 hs
    have hs2 := List.pairwise_cons.1 hs'.2
    have h1 := hs'.1 y List.mem_cons_self
    have hx := hv x List.mem_cons_self
    have hy := hv y (List.mem_cons_of_mem _ List.mem_cons_self)
    rw [mrg1]
    split
    · rename_i hle
      have hv' : Vld ((x.1, max x.2 y.2) :: r) := fun i hi => by
        rcases List.mem_cons.1 hi with rfl | hi
        · show x.1 ≤ max x.2 y.2; omega
        · exact hv i (List.mem_cons_of_mem _ (List.mem_cons_of_mem _ hi))
      have hs3 : Srt ((x.1, max x.2 y.2) :: r) := List.pairwise_cons.2 ⟨fun i hi => hs'.1 i (List.mem_cons_of_mem _ hi), hs2.2⟩
      rw [mrg1_mem n r _ hs3 hv', memI_cons, memI_cons, memI_cons]
      constructor
      · rintro (⟨h2, h3⟩ | h2)
        · simp only [] at h2 h3
          rcases Int.lt_or_le x.2 n with h4 | h4
          · exact .inr (.inl ⟨by omega, by omega⟩)
          · exact .inl ⟨h2, h4⟩
        · exact .inr (.inr h2)
      · rintro (⟨h2, h3⟩ | ⟨h2, h3⟩ | h2)
        · exact .inl ⟨h2, by simp only []; omega⟩
        · exact .inl ⟨by simp only []; omega, by simp only []; omega⟩
        · exact .inr h2
    · rw [memI_cons, mrg1_mem n r y hs'.2 (fun i hi => hv i (List.mem_cons_of_mem _ hi)), memI_cons n x]
theorem mrg1_sep : ∀ (r : List Iv) (x : Iv), Srt (x :: r) → Vld (x :: r) → Sep (mrg1 x r) ∧ ∀ n, memI n (mrg1 x r) → x.1 ≤ n
  | [], x, _, hv => ⟨⟨by simp [mrg1], fun i hi => by simp [mrg1] at hi; subst hi; exact hv i List.mem_cons_self⟩, fun n hn => by
    rcases (memI_cons _ _ _).1 hn with h | h
    · exact h.1
    · exact absurd h (memI_nil _)⟩
  | y :: r, x, hs, hv => by
    have hs' := List.pairwise_cons.1 hs
    have hs2 := List.pairwise_cons.1 hs'.2
    have h1 := hs'.1 y List.mem_cons_self
    have hx := hv x List.mem_cons_self
    have hy := hv y (List.mem_cons_of_mem _ List.mem_cons_self)
    rw [mrg1]
    split
    · have hv' : Vld ((x.1, max x.2 y.2) :: r) := fun i hi => by
        rcases List.mem_cons.1 hi with rfl | hi
        · show x.1 ≤ max x.2 y.2; omega
        · exact hv i (List.mem_cons_of_mem _ (List.mem_cons_of_mem _ hi))
      have hs3 : Srt ((x.1, max x.2 y.2) :: r) := List.pairwise_cons.2 ⟨fun i hi => hs'.1 i (List.mem_cons_of_mem _ hi), hs2.2⟩
      exact mrg1_sep r _ hs3 hv'
    · rename_i hgt
      obtain ⟨⟨h2, h3⟩, h4⟩ := mrg1_sep r y hs'.2 (fun i hi => hv i (List.mem_cons_of_mem _ hi))
      refine ⟨⟨List.pairwise_cons.2 ⟨fun i hi => ?_, h2⟩, fun i hi => ?_⟩, fun n hn => ?_⟩
      · have := h4 i.1 ⟨i, hi, Int.le_refl _, h3 i hi⟩
        omega
      · rcases List.mem_cons.1 hi with rfl | hi
        · exact hx
        · exact h3 i hi
      · rcases (memI_cons _ _ _).1 hn with h | h
        · exact h.1
        · have := h4 n h; omega
theorem mrg_ok {s : List Iv} (hs : Srt s) (hv : Vld s) : Sep (mrg s) ∧ ∀ n, memI n (mrg s) ↔ memI n s := by
  cases s with
  | nil => exact ⟨⟨List.Pairwise.nil, fun i hi => by cases hi⟩, fun n => Iff.rfl⟩
  | cons x r => exact ⟨(mrg1_sep r x hs hv).1, fun n => mrg1_mem n r x hs hv⟩
theorem memI_perm {a b : List Iv} (h : a.Perm b) (n : Int) : memI n a ↔ memI n b := by
  constructor
  · rintro ⟨i, hi, h1⟩; exact ⟨i, h.mem_iff.1 hi, h1⟩
  · rintro ⟨i, hi, h1⟩; exact ⟨i, h.mem_iff.2 hi, h1⟩
/-- the separated list of the same integers -/
def uni (l : List Iv) : List Iv := mrg (l.mergeSort fun a b => decide (a.1 ≤ b.1))
theorem srt_merge (l : List Iv) : Srt (l.mergeSort fun a b => decide (a.1 ≤ b.1)) := by
  have h := List.pairwise_mergeSort (le := fun a b : Iv => decide (a.1 ≤ b.1)) (fun a b c h1 h2 => by simp at *; omega) (fun a b => by simp; omega) l
  exact h.imp fun h => by simpa using h
theorem uni_ok {l : List Iv} (hv : Vld l) : Sep (uni l) ∧ ∀ n, memI n (uni l) ↔ memI n l := by
  have hp := List.mergeSort_perm l (fun a b : Iv => decide (a.1 ≤ b.1))
  obtain ⟨h1, h2⟩ := mrg_ok (srt_merge l) (fun i hi => hv i (hp.mem_iff.1 hi))
  exact ⟨h1, fun n => (h2 n).trans (memI_perm hp n)⟩
theorem uni_sorted {s l : List Iv} (hp : s.Perm l) (hs : Srt s) (hv : Vld l) : mrg s = uni l := by
  have hvs : Vld s := fun i hi => hv i (hp.mem_iff.1 hi)
  obtain ⟨h1, h2⟩ := mrg_ok hs hvs
  obtain ⟨h3, h4⟩ := uni_ok hv
  exact sep_unique _ _ h1 h3 fun n => ((h2 n).trans (memI_perm hp n)).trans (h4 n).symm
theorem uni_unique {u l : List Iv} (hs : Sep u) (hv : Vld l) (h : ∀ n, memI n u ↔ memI n l) : u = uni l :=
  sep_unique _ _ hs (uni_ok hv).1 fun n => (h n).trans ((uni_ok hv).2 n).symm
/-- remove an interval from the last one of a list -/
def cutI (l : List Iv) (o : Iv) : List Iv :=
  match l.getLast? with
  | none => l
  | some x => if o.2 < x.1 ∨ x.2 < o.1 then l else l.dropLast ++ ((if x.1 < o.1 then [(x.1, o.1 - 1)] else []) ++ (if o.2 < x.2 then [(o.2 + 1, x.2)] else []))
def wto (i : Iv) (u : List Iv) : List Iv := u.foldl cutI [i]
theorem cutI_snoc (A : List Iv) (x o : Iv) : cutI (A ++ [x]) o = if o.2 < x.1 ∨ x.2 < o.1 then A ++ [x] else A ++ ((if x.1 < o.1 then [(x.1, o.1 - 1)] else []) ++ (if o.2 < x.2 then [(o.2 + 1, x.2)] else [])) := by
  unfold cutI
  simp
theorem Sep.append {A B : List Iv} : Sep (A ++ B) ↔ Sep A ∧ Sep B ∧ ∀ a ∈ A, ∀ b ∈ B, a.2 + 1 < b.1 := by
  unfold Sep
  rw [List.pairwise_append]
  constructor
  · rintro ⟨⟨h1, h2, h3⟩, h4⟩
    exact ⟨⟨h1, fun i hi => h4 i (List.mem_append_left _ hi)⟩, ⟨h2, fun i hi => h4 i (List.mem_append_right _ hi)⟩, h3⟩
  · rintro ⟨⟨h1, h2⟩, ⟨h3, h4⟩, h5⟩
    exact ⟨⟨h1, h3, h5⟩, fun i hi => (List.mem_append.1 hi).elim (h2 i) (h4 i)⟩
theorem sep_one {x : Iv} (h : x.1 ≤ x.2) : Sep [x] := ⟨List.pairwise_singleton _ _, fun i hi => by simp at hi; subst hi; exact h⟩
theorem sep_nil : Sep [] := ⟨List.Pairwise.nil, fun i hi => by cases hi⟩
theorem memI_one (n : Int) (x : Iv) : memI n [x] ↔ x.1 ≤ n ∧ n ≤ x.2 := by simp [memI]
/-- what lies before -/
def Bef (l : List Iv) (m : Int) : Prop := ∀ a ∈ l.dropLast, a.2 < m
theorem cutI_ok {l : List Iv} {o : Iv} (hl : Sep l) (ho : o.1 ≤ o.2) (hb : Bef l o.1) :
    Sep (cutI l o) ∧ (∀ n, memI n (cutI l o) ↔ memI n l ∧ ¬ (o.1 ≤ n ∧ n ≤ o.2)) ∧ ∀ m, o.2 < m → Bef (cutI l o) m := by
  rcases List.eq_nil_or_concat l with rfl | ⟨A, x, rfl⟩
  · exact ⟨hl, fun n => by simp [cutI, memI_nil], fun m _ a ha => by simp [cutI] at ha⟩
  · rw [List.concat_eq_append] at hl hb ⊢
    have hA : ∀ a ∈ A, a.2 < o.1 := fun a ha => hb a (by simpa using ha)
    obtain ⟨s1, s2, s3⟩ := Sep.append.1 hl
    have hx := s2.head
    have hAx : ∀ a ∈ A, a.2 + 1 < x.1 := fun a ha => s3 a ha x (by simp)
    have hAn : ∀ n, memI n A → n < o.1 ∧ n + 1 < x.1 := fun n ⟨a, ha, h1, h2⟩ => by
      have := hA a ha; have := hAx a ha; omega
    rw [cutI_snoc]
    split
    · rename_i h
      refine ⟨hl, fun n => ⟨fun h1 => ⟨h1, ?_⟩, fun h1 => h1.1⟩, fun m hm a ha => ?_⟩
      · rcases (memI_append n A [x]).1 h1 with h2 | h2
        · have := hAn n h2; omega
        · have := (memI_one n x).1 h2; omega
      · have := hA a (by simpa using ha); omega
    · rename_i h
      have e1 : (∀ n, memI n (if x.1 < o.1 then [(x.1, o.1 - 1)] else []) ↔ x.1 ≤ n ∧ n < o.1) ∧ Sep (if x.1 < o.1 then [(x.1, o.1 - 1)] else []) ∧ ∀ a ∈ (if x.1 < o.1 then [((x.1, o.1 - 1) : Iv)] else []), a.1 = x.1 ∧ a.2 = o.1 - 1 := by
        split
        · refine ⟨fun n => (memI_one n _).trans ?_, sep_one (by simp only []; omega), fun a ha => ?_⟩
          · simp only []; omega
          · simp at ha; subst ha; exact ⟨rfl, rfl⟩
        · exact ⟨fun n => ⟨fun h1 => absurd h1 (memI_nil n), fun h1 => by omega⟩, sep_nil, fun a ha => by cases ha⟩
      have e2 : (∀ n, memI n (if o.2 < x.2 then [(o.2 + 1, x.2)] else []) ↔ o.2 < n ∧ n ≤ x.2) ∧ Sep (if o.2 < x.2 then [(o.2 + 1, x.2)] else []) ∧ ∀ a ∈ (if o.2 < x.2 then [((o.2 + 1, x.2) : Iv)] else []), a.1 = o.2 + 1 ∧ a.2 = x.2 := by
        split
        · refine ⟨fun n => (memI_one n _).trans ?_, sep_one (by simp only []; omega), fun a ha => ?_⟩
          · simp only []; omega
          · simp at ha; subst ha; exact ⟨rfl, rfl⟩
        · exact ⟨fun n => ⟨fun h1 => absurd h1 (memI_nil n), fun h1 => by omega⟩, sep_nil, fun a ha => by cases ha⟩
      have e3 : (if o.2 < x.2 then [((o.2 + 1, x.2) : Iv)] else []).length ≤ 1 := by split <;> simp
      obtain ⟨m1, p1, q1⟩ := e1
      obtain ⟨m2, p2, q2⟩ := e2
      generalize (if x.1 < o.1 then [((x.1, o.1 - 1) : Iv)] else []) = B at *
      generalize (if o.2 < x.2 then [((o.2 + 1, x.2) : Iv)] else []) = C at *
      refine ⟨Sep.append.2 ⟨s1, Sep.append.2 ⟨p1, p2, fun a ha b hb => ?_⟩, fun a ha b hb => ?_⟩, fun n => ?_, fun m hm a ha => ?_⟩
      · have := q1 a ha; have := q2 b hb; omega
      · have h5 := hAx a ha; have h6 := hA a ha
        rcases List.mem_append.1 hb with hb | hb
        · have := q1 b hb; omega
        · have := q2 b hb; omega
      · rw [memI_append, memI_append, memI_append, memI_one, m1, m2]
        constructor
        · rintro (h1 | h1 | h1)
          · exact ⟨.inl h1, by have := hAn n h1; omega⟩
          · exact ⟨.inr (by omega), by omega⟩
          · exact ⟨.inr (by omega), by omega⟩
        · rintro ⟨h1 | h1, h2⟩
          · exact .inl h1
          · right; omega
      · have ha' : a ∈ A ∨ a ∈ B := by
          rw [← List.append_assoc] at ha
          match C, e3, ha with
          | [], _, ha => exact List.mem_append.1 ((List.dropLast_sublist _).subset (by simpa using ha))
          | [c], _, ha => exact List.mem_append.1 (by simpa using ha)
        rcases ha' with h5 | h5
        · have := hA a h5; omega
        · have := q1 a h5; omega
theorem foldl_cut : ∀ (u l : List Iv), Sep u → Sep l → (∀ o ∈ u, Bef l o.1) → Sep (u.foldl cutI l) ∧ ∀ n, memI n (u.foldl cutI l) ↔ memI n l ∧ ¬ memI n u
  | [], l, _, hl, _ => ⟨hl, fun n => ⟨fun h => ⟨h, memI_nil n⟩, fun h => h.1⟩⟩
  | o :: u, l, hu, hl, hb => by
    obtain ⟨h1, h2, h3⟩ := cutI_ok hl hu.head (hb o List.mem_cons_self)
    have h4 : ∀ o' ∈ u, Bef (cutI l o) o'.1 := fun o' ho' => h3 _ (by have := (List.pairwise_cons.1 hu.1).1 o' ho'; omega)
    obtain ⟨h5, h6⟩ := foldl_cut u (cutI l o) hu.tail h1 h4
    refine ⟨h5, fun n => ?_⟩
    rw [List.foldl_cons, h6, h2, memI_cons, and_assoc]
    constructor
    · rintro ⟨a, b, c⟩; exact ⟨a, fun h => h.elim b c⟩
    · rintro ⟨a, b⟩; exact ⟨a, fun h => b (.inl h), fun h => b (.inr h)⟩
theorem wto_ok {i : Iv} {u : List Iv} (hi : i.1 ≤ i.2) (hu : Sep u) : Sep (wto i u) ∧ ∀ n, memI n (wto i u) ↔ (i.1 ≤ n ∧ n ≤ i.2) ∧ ¬ memI n u := by
  obtain ⟨h1, h2⟩ := foldl_cut u [i] hu (sep_one hi) (fun o _ a ha => by simp at ha)
  exact ⟨h1, fun n => by rw [← memI_one]; exact h2 n⟩
end Go.Proofs.Ytnjpjjefhpbfgaa
