/- Signing: a key that came in. -/
import Derived.Test.YtiloaheaglcpbaaDoorSgOpen
import Derived.Deep.Slices
import Derived.Deep.Strs
namespace Go.Proofs.YtiloaheaglcpbaaDoor
open Go.ChangeShapes Go.WideShapes Go.ChangeAt Go.RowKit Go.Deep

theorem cells_bytes {H : Type} {enc : TypeId × Value → H} {W : World} {fuel : Nat} {cs : List Value} {x : DataW H × List MemPlace}
    (hf : DataW.trod enc Tryd.prog W 0 (fun _ => true) true fuel 22 cs = some x) :
    ∃ (v : Value) (l : List UInt8), cs = [v] ∧ Sl W 1 v l.length (bc l) ∧ l.length ≤ maxLen := by
  rcases open_ints Tryd.underlying22 Tryd.underlying5 cellsU8 hf with ⟨hcs, _⟩ | ⟨x, len, cap, zs, hcs, _, hl, hm, hz, _, hcell, hwz⟩
  · exact ⟨_, [], hcs, ⟨by simp [bc], none, 0, rfl, Nat.le_refl _, .inl rfl⟩, by simp [maxLen]⟩
  · have hz' : zs.length = cap := by simpa using hz
    have hlen : ((zs.take len).map fun z => UInt8.ofNat z.toNat).length = len := by simp; omega
    refine ⟨_, (zs.take len).map fun z => UInt8.ofNat z.toNat, hcs, ?_, by rw [hlen]; omega⟩
    rw [hlen]
    refine ⟨by simp [bc]; omega, _, _, rfl, hl, ?_⟩
    rcases Nat.eq_zero_or_pos len with h0 | hpos
    · exact .inl h0
    · right
      obtain ⟨b, off, spot⟩ := x
      have h1 := hcell 0 (by omega)
      have hspot : spot = none := by simpa [Addr.add] using World.cell?_spot h1
      subst hspot
      refine ⟨b, off, rfl, fun j u hu => ?_⟩
      have hj : j < len := by
        rcases Nat.lt_or_ge j len with h | h
        · exact h
        · rw [List.getElem?_eq_none (by simp [bc]; omega)] at hu; cases hu
      have hjz : j < zs.length := by omega
      have hc := hcell j hjz
      have hw := bounds_u8 (hwz _ (List.getElem_mem hjz))
      have hadd : (⟨b, off, none⟩ : Addr).add j = ⟨b, off + j, none⟩ := by simp [Addr.add]
      rw [hadd] at hc
      rw [hc]
      have e : zs.getD j 0 = zs[j] := by simp [List.getD, hjz]
      rw [e]
      simp only [bc, List.map_map, List.getElem?_map, List.getElem?_take_of_lt hj, List.getElem?_eq_getElem hjz, Option.map_some, Function.comp] at hu
      rw [← hu]
      congr 2
      have h2 : (UInt8.ofNat zs[j].toNat).toNat = zs[j].toNat := by
        rw [UInt8.toNat_ofNat']; omega
      omega
theorem cellsSl : Tryd.prog.cellsOf 22 = 1 := by kernel_rfl
theorem cellsKey : Tryd.prog.cellsOf 24 = 3 := by kernel_rfl
theorem cellsInt : Tryd.prog.cellsOf 3 = 1 := by kernel_rfl
/-- a key that came in -/
theorem open_key {H : Type} {enc : TypeId × Value → H} {W : World} {base : Nat} {v : Value} {d : DataW H} {p : List MemPlace}
    (hval : Value.okWide Tryd.prog W .any base 24 v) (h : DataW.Trod enc Tryd.prog W 0 (fun _ => true) true 24 v d p) :
    ∃ (seed : List UInt8) (a : Option Addr) (cap : Nat) (many used : Int), v = .agg #[.slice a seed.length cap, .int .i64 many, .int .i64 used] ∧ Sl W 1 (.slice a seed.length cap) seed.length (bc seed) := by
  obtain ⟨cs, rfl, hsz⟩ := okWide_struct Tryd.underlying24 hval
  rw [cellsKey] at hsz
  obtain ⟨fuel, hf⟩ := h
  obtain ⟨xs, k, hk, hxy, _, hxl, hff⟩ := DataW.trod_struct Tryd.underlying24 hf
  match xs, hxl with
  | [y0, y1, y2], _ =>
    have g0 := hff 0 _ rfl
    have g1 := hff 1 _ rfl
    have g2 := hff 2 _ rfl
    obtain ⟨cl⟩ := cs
    match cl, hsz with
    | [v0, v1, v2], _ =>
      simp [cellsInt, cellsSl, Value.cells] at g0 g1 g2
      obtain ⟨v0', l, h0, hs, _⟩ := cells_bytes g0
      obtain ⟨z1, h1, _, w1⟩ := DataW.trod_int Tryd.underlying3 g1
      obtain ⟨z2, h2, _, w2⟩ := DataW.trod_int Tryd.underlying3 g2
      simp only [List.cons.injEq, and_true] at h0 h1 h2
      subst h0 h1 h2
      obtain ⟨a, cap, rfl⟩ := hs.form
      exact ⟨l, a, cap, z1, z2, rfl, hs⟩
end Go.Proofs.YtiloaheaglcpbaaDoor
