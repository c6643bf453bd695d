/- A slice of tokens that came in, opened. -/
import Derived.Test.YtmlkfglnnepjjaaDoorOpen
import Derived.Test.YtmlkfglnnepjjaaDoorSame
import Derived.Deep.Slices
import Derived.Deep.Strs
namespace Go.Proofs.YtmlkfglnnepjjaaDoor
open Go.ChangeShapes Go.WideShapes Go.ChangeAt Go.RowKit Go.Deep

theorem tokCells : Tryd.prog.cellsOf 35 = 3 := by kernel_rfl
theorem open_toks {H : Type} {enc : TypeId × Value → H} {W : World} {base : Nat} {v : Value} {d : DataW H} {p : List MemPlace}
    (hval : Value.okWide Tryd.prog W .any base 24 v) (h : DataW.Trod enc Tryd.prog W 0 (fun _ => true) true 24 v d p) :
    ∃ ts : List Tk, Sl W 3 v ts.length (tkcs ts) := by
  obtain ⟨a0, len, cap, rfl⟩ := okWide_slice Tryd.underlying24 hval
  obtain ⟨fuel, hf⟩ := h
  rcases open_slice Tryd.underlying24 hf with ⟨hcs, _⟩ | ⟨a, len', cap', m, n, D, Pl, hcs, hb, hl, hm, hmm, hx, hall⟩
  · simp [Value.cells] at hcs
    obtain ⟨rfl, rfl, rfl⟩ := hcs
    exact ⟨[], ⟨by simp [tkcs], none, 0, rfl, Nat.le_refl _, .inl rfl⟩⟩
  · simp [Value.cells] at hcs
    obtain ⟨rfl, rfl, rfl⟩ := hcs
    have hlm : len ≤ m := by rw [hmm]; split <;> omega
    have each : ∀ i, i < len → ∃ q : Tk, W.cell? (a.add (i * 3)) = some (.int .i64 q.1) ∧ W.cell? (a.add (i * 3 + 1)) = some (.string q.2.1) ∧ W.cell? (a.add (i * 3 + 2)) = some (.int .i64 q.2.2) := by
      intro i hi
      obtain ⟨cs', h1, h2⟩ := hall i (by omega)
      rw [tokCells] at h1
      obtain ⟨_, hlen, hcell⟩ := World.cells?_some h1
      obtain ⟨xs, k, hk, hxy, _, hxl, hff⟩ := DataW.trod_struct Tryd.underlying35 h2
      match xs, hxl, cs', hlen with
      | [y0, y1, y2], _, [v0, v1, v2], _ =>
        have g0 := hff 0 _ rfl
        have g1 := hff 1 _ rfl
        have g2 := hff 2 _ rfl
        have e0 := hcell 0 (by omega)
        have e1 := hcell 1 (by omega)
        have e2 := hcell 2 (by omega)
        rw [add_add] at e0 e1 e2
        have ci : Tryd.prog.cellsOf 3 = 1 := by kernel_rfl
        have cs : Tryd.prog.cellsOf 9 = 1 := by kernel_rfl
        simp [ci, cs] at g0 g1 g2
        obtain ⟨z0, h0, _, _⟩ := DataW.trod_int Tryd.underlying3 g0
        obtain ⟨z1, h1', _, _⟩ := DataW.trod_string Tryd.underlying9 g1
        obtain ⟨z2, h2', _, _⟩ := DataW.trod_int Tryd.underlying3 g2
        simp only [List.cons.injEq, and_true] at h0 h1' h2'
        subst h0 h1' h2'
        exact ⟨(z0, z1, z2), by simpa using e0, by simpa using e1, by simpa using e2⟩
    obtain ⟨q, hq⟩ := choose_lt each
    have hlen : ((List.range len).map q).length = len := by simp
    refine ⟨(List.range len).map q, ?_⟩
    rw [hlen]
    refine ⟨by rw [tkcs_len, hlen], _, _, rfl, hl, ?_⟩
    rcases Nat.eq_zero_or_pos len with h0 | hpos
    · exact .inl h0
    · right
      obtain ⟨b, off, spot⟩ := a
      have hspot : spot = none := by simpa [Addr.add] using World.cell?_spot (hq 0 hpos).1
      subst hspot
      refine ⟨b, off, rfl, fun j u hu => ?_⟩
      have hj : j < len * 3 := by
        rcases Nat.lt_or_ge j (len * 3) with h | h
        · exact h
        · rw [List.getElem?_eq_none (by rw [tkcs_len, hlen]; omega)] at hu; cases hu
      have hi : j / 3 < len := by omega
      have ht : tA ((List.range len).map q) (j / 3) = q (j / 3) := by simp [tA, List.getD, hi]
      obtain ⟨a0, a1, a2⟩ := tkcs_at ((List.range len).map q) (j / 3) (by rw [hlen]; exact hi)
      rw [ht] at a0 a1 a2
      obtain ⟨b0, b1, b2⟩ := hq (j / 3) hi
      have hadd : ∀ k, (⟨b, off, none⟩ : Addr).add k = ⟨b, off + k, none⟩ := fun k => by unfold Addr.add; split <;> simp_all
      rw [hadd] at b0 b1 b2
      have hr : j = j / 3 * 3 ∨ j = j / 3 * 3 + 1 ∨ j = j / 3 * 3 + 2 := by omega
      rcases hr with hr | hr | hr
      · rw [hr] at hu ⊢
        rw [a0] at hu; cases hu; exact b0
      · rw [hr] at hu ⊢
        rw [a1] at hu; cases hu; exact b1
      · rw [hr] at hu ⊢
        rw [a2] at hu; cases hu; exact b2
end Go.Proofs.YtmlkfglnnepjjaaDoor
