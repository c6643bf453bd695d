/- Intervals: unions of what is in a union, plain lists. -/
import Derived.Test.YtnjpjjefhpbfgaaIvU
namespace Go.Proofs.Ytnjpjjefhpbfgaa

theorem ckL_all {l : List Iv} (h : ∀ i ∈ l, ck i = 0) : ckL l = 0 := by
  induction l with
  | nil => rfl
  | cons i l ih =>
    rw [ckL, if_pos (h i (List.mem_cons_self ..))]
    exact ih (fun j hj => h j (List.mem_cons_of_mem _ hj))
theorem vld_ck {l : List Iv} (h : ∀ i ∈ l, ck i = 0) : Vld l := fun i hi => (ck_ok (h i hi)).2.2.2.2
theorem uni_ck {l : List Iv} (h : ∀ i ∈ l, ck i = 0) : ∀ i ∈ uni l, ck i = 0 := by
  intro i hi
  obtain ⟨h1, h2⟩ := uni_ok (vld_ck h)
  have h3 := h1.2 i hi
  obtain ⟨x, hx, h4, h5⟩ := (h2 i.1).1 ⟨i, hi, Int.le_refl _, h3⟩
  obtain ⟨y, hy, h6, h7⟩ := (h2 i.2).1 ⟨i, hi, h3, Int.le_refl _⟩
  have := ck_ok (h x hx)
  have := ck_ok (h y hy)
  exact ck_mk (by omega)
theorem uni_uni {l : List Iv} (h : ∀ i ∈ l, ck i = 0) : uni (uni l) = uni l :=
  (uni_unique (uni_ok (vld_ck h)).1 (vld_ck (uni_ck h)) (fun _ => Iff.rfl)).symm
theorem uni_same {a b : List Iv} (h : ∀ i ∈ a, ck i = 0) (hab : ∀ i, i ∈ b ↔ i ∈ a) : uni b = uni a := by
  have hb : ∀ i ∈ b, ck i = 0 := fun i hi => h i ((hab i).1 hi)
  refine uni_unique (uni_ok (vld_ck hb)).1 (vld_ck h) fun n => ((uni_ok (vld_ck hb)).2 n).trans ?_
  exact ⟨fun ⟨i, hi, hn⟩ => ⟨i, (hab i).1 hi, hn⟩, fun ⟨i, hi, hn⟩ => ⟨i, (hab i).2 hi, hn⟩⟩
theorem back_mem {l : List Iv} {x : Iv} (hx : x ∈ l) (i : Iv) : i ∈ l.reverse ++ [x] ↔ i ∈ l := by
  simp only [List.mem_append, List.mem_reverse, List.mem_singleton]
  exact ⟨fun h => h.elim id (fun h => h ▸ hx), .inl⟩
theorem back_step {l : List Iv} {n k : Nat} (hn : l.length = n) (hk : k < n) {x : Iv} (hx : l[n - 1 - k]? = some x) : l.reverse.take (k + 1) = l.reverse.take k ++ [x] := by
  have hk' : k < l.reverse.length := by simpa [hn] using hk
  rw [List.take_succ_eq_append_getElem hk']
  congr 2
  rw [List.getElem_reverse]
  subst hn
  rw [List.getElem?_eq_getElem (by omega)] at hx
  exact Option.some.inj hx
end Go.Proofs.Ytnjpjjefhpbfgaa
