/- Intervals: a slice of intervals that came in. -/
import Derived.Test.YtnjpjjefhpbfgaaIvT
import Derived.Deep.Slices
import Derived.Deep.Strs
namespace Go.Proofs.Ytnjpjjefhpbfgaa
open Go.ChangeShapes Go.WideShapes Go.ChangeAt Go.RowKit Go.Deep

theorem ivs_range (q : Nat → Iv) (n j : Nat) (hj : j < n) : (ivs ((List.range n).map q))[j * 2]? = some (.int .i64 (q j).1) ∧ (ivs ((List.range n).map q))[j * 2 + 1]? = some (.int .i64 (q j).2) :=
  ivs_at _ j (q j) (by simp [hj])
theorem open_ivs {H : Type} {enc : TypeId × Value → H} {W : World} {base : Nat} {v : Value} {d : DataW H} {p : List MemPlace}
    (hval : Value.okWide Try.prog W .any base 30 v) (h : DataW.Trod enc Try.prog W 0 (fun _ => true) true 30 v d p) :
    ∃ l : List Iv, Rd W v l ∧ l.length ≤ maxLen ∧ ∀ i ∈ l, (-9223372036854775808 ≤ i.1 ∧ i.1 ≤ 9223372036854775807) ∧ (-9223372036854775808 ≤ i.2 ∧ i.2 ≤ 9223372036854775807) := by
  obtain ⟨a0, len, cap, rfl⟩ := okWide_slice Try.underlying30 hval
  obtain ⟨fuel, hf⟩ := h
  rcases open_slice Try.underlying30 hf with ⟨hcs, _⟩ | ⟨a, len', cap', m, n, D, Pl, hcs, hb, hl, hm, hmm, hx, hall⟩
  · simp [Value.cells] at hcs
    obtain ⟨rfl, rfl, rfl⟩ := hcs
    exact ⟨[], rd_nil W, by simp [maxLen], by intro i hi; cases hi⟩
  · simp [Value.cells] at hcs
    obtain ⟨rfl, rfl, rfl⟩ := hcs
    have hlm : len ≤ m := by rw [hmm]; split <;> omega
    have each : ∀ i, i < len → ∃ q : Iv, W.cell? (a.add (i * 2)) = some (.int .i64 q.1) ∧ W.cell? (a.add (i * 2 + 1)) = some (.int .i64 q.2) ∧ (-9223372036854775808 ≤ q.1 ∧ q.1 ≤ 9223372036854775807) ∧ (-9223372036854775808 ≤ q.2 ∧ q.2 ≤ 9223372036854775807) := by
      intro i hi
      obtain ⟨cs', h1, h2⟩ := hall i (by omega)
      rw [cellsIv] at h1
      obtain ⟨_, hlen, hcell⟩ := World.cells?_some h1
      obtain ⟨xs, k, hk, hxy, _, hxl, hff⟩ := DataW.trod_struct Try.underlying23 h2
      match xs, hxl, cs', hlen with
      | [y0, y1], _, [v0, v1], _ =>
        have g0 := hff 0 _ rfl
        have g1 := hff 1 _ rfl
        have e0 := hcell 0 (by omega)
        have e1 := hcell 1 (by omega)
        rw [add_add] at e0 e1
        simp [cellsInt] at g0 g1
        obtain ⟨z0, h0, _, w0⟩ := DataW.trod_int Try.underlying3 g0
        obtain ⟨z1, h1', _, w1⟩ := DataW.trod_int Try.underlying3 g1
        simp only [List.cons.injEq, and_true] at h0 h1'
        subst h0 h1'
        exact ⟨(z0, z1), by simpa using e0, by simpa using e1, bounds_i64 w0, bounds_i64 w1⟩
    haveI : Inhabited Iv := ⟨(0, 0)⟩
    obtain ⟨q, hq⟩ := choose_lt each
    have hlen : ((List.range len).map q).length = len := by simp
    refine ⟨(List.range len).map q, ?_, by rw [hlen]; omega, ?_⟩
    · unfold Rd
      rw [hlen]
      refine ⟨by rw [ivs_len, hlen], _, _, rfl, hl, ?_⟩
      rcases Nat.eq_zero_or_pos len with h0 | hpos
      · exact .inl h0
      · right
        obtain ⟨b, off, spot⟩ := a
        have hspot : spot = none := by simpa [Addr.add] using World.cell?_spot (hq 0 hpos).1
        subst hspot
        refine ⟨b, off, rfl, fun j u hu => ?_⟩
        have hj : j < len * 2 := by
          rcases Nat.lt_or_ge j (len * 2) with h | h
          · exact h
          · rw [List.getElem?_eq_none (by rw [ivs_len, hlen]; omega)] at hu; cases hu
        have hi : j / 2 < len := by omega
        obtain ⟨a0, a1⟩ := ivs_range q len (j / 2) hi
        obtain ⟨b0, b1, _⟩ := hq (j / 2) hi
        have hadd : ∀ k, (⟨b, off, none⟩ : Addr).add k = ⟨b, off + k, none⟩ := fun k => by unfold Addr.add; split <;> simp_all
        rw [hadd] at b0 b1
        have hr : j = j / 2 * 2 ∨ j = j / 2 * 2 + 1 := by omega
        rcases hr with hr | hr
        · rw [hr] at hu ⊢
          rw [a0] at hu; cases hu; exact b0
        · rw [hr] at hu ⊢
          rw [a1] at hu; cases hu; exact b1
    · intro i hi
      obtain ⟨k, hk, rfl⟩ := List.mem_map.1 hi
      exact (hq k (List.mem_range.1 hk)).2.2
end Go.Proofs.Ytnjpjjefhpbfgaa
