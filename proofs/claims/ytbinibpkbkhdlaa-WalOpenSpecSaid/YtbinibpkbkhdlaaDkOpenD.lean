/- Disk: a disk that came in. -/
import Derived.Test.YtbinibpkbkhdlaaDkOpen
import Derived.Deep.Slices
import Derived.Deep.Strs
namespace Go.Proofs.Ytbinibpkbkhdlaa
open Go.ChangeShapes Go.WideShapes Go.ChangeAt Go.RowKit Go.Deep

theorem cells_bytes {H : Type} {enc : TypeId × Value → H} {W : World} {fuel : Nat} {cs : List Value} {x : DataW H × List MemPlace}
    (hf : DataW.trod enc Try.prog W 0 (fun _ => true) true fuel 25 cs = some x) :
    ∃ (v : Value) (l : List UInt8), cs = [v] ∧ Sl W 1 v l.length (bc l) ∧ l.length ≤ maxLen := by
  rcases open_ints Try.underlying25 Try.underlying5 cellsU8 hf with ⟨hcs, _⟩ | ⟨x, len, cap, zs, hcs, _, hl, hm, hz, _, hcell, hwz⟩
  · exact ⟨_, [], hcs, ⟨by simp [bc], none, 0, rfl, Nat.le_refl _, .inl rfl⟩, by simp [maxLen]⟩
  · have hz' : zs.length = cap := by simpa using hz
    have hlen : ((zs.take len).map fun z => UInt8.ofNat z.toNat).length = len := by simp; omega
    refine ⟨_, (zs.take len).map fun z => UInt8.ofNat z.toNat, hcs, ?_, by rw [hlen]; omega⟩
    rw [hlen]
    refine ⟨by simp [bc]; omega, _, _, rfl, hl, ?_⟩
    rcases Nat.eq_zero_or_pos len with h0 | hpos
    · exact .inl h0
    · right
      obtain ⟨b, off, spot⟩ := x
      have h1 := hcell 0 (by omega)
      have hspot : spot = none := by simpa [Addr.add] using World.cell?_spot h1
      subst hspot
      refine ⟨b, off, rfl, fun j u hu => ?_⟩
      have hj : j < len := by
        rcases Nat.lt_or_ge j len with h | h
        · exact h
        · rw [List.getElem?_eq_none (by simp [bc]; omega)] at hu; cases hu
      have hjz : j < zs.length := by omega
      have hc := hcell j hjz
      have hw := bounds_u8 (hwz _ (List.getElem_mem hjz))
      have hadd : (⟨b, off, none⟩ : Addr).add j = ⟨b, off + j, none⟩ := by simp [Addr.add]
      rw [hadd] at hc
      rw [hc]
      have e : zs.getD j 0 = zs[j] := by simp [List.getD, hjz]
      rw [e]
      simp only [bc, List.map_map, List.getElem?_map, List.getElem?_take_of_lt hj, List.getElem?_eq_getElem hjz, Option.map_some, Function.comp] at hu
      rw [← hu]
      congr 2
      have h2 : (UInt8.ofNat zs[j].toNat).toNat = zs[j].toNat := by
        rw [UInt8.toNat_ofNat']; omega
      omega
theorem cellsSl : Try.prog.cellsOf 25 = 1 := by kernel_rfl
theorem open_secs {H : Type} {enc : TypeId × Value → H} {W : World} {fuel : Nat} {cs : List Value} {x : DataW H × List MemPlace}
    (hf : DataW.trod enc Try.prog W 0 (fun _ => true) true fuel 22 cs = some x) :
    ∃ (v : Value) (S : List (List UInt8)), cs = [v] ∧ Secs W v S ∧ S.length ≤ maxLen := by
  rcases open_slice Try.underlying22 hf with ⟨hcs, _⟩ | ⟨a, len, cap, m, n, D, Pl, hcs, hb, hl, hm, hmm, hx, hall⟩
  · exact ⟨_, [], hcs, secs_nil W, by simp [maxLen]⟩
  · have hlm : len ≤ m := by rw [hmm]; split <;> omega
    have each : ∀ i, i < len → ∃ q : Value × List UInt8, W.cell? (a.add i) = some q.1 ∧ Sl W 1 q.1 q.2.length (bc q.2) := by
      intro i hi
      obtain ⟨cs', h1, h2⟩ := hall i (by omega)
      rw [cellsSl] at h1
      obtain ⟨v, l, rfl, hsl, _⟩ := cells_bytes h2
      obtain ⟨_, hlen, hcell⟩ := World.cells?_some h1
      have e0 := hcell 0 (by omega)
      rw [add_add] at e0
      exact ⟨(v, l), by simpa using e0, hsl⟩
    haveI : Inhabited (Value × List UInt8) := ⟨(.bool false, [])⟩
    obtain ⟨q, hq⟩ := choose_lt each
    have hlen : ((List.range len).map fun i => (q i).2).length = len := by simp
    refine ⟨_, (List.range len).map fun i => (q i).2, hcs, ⟨(List.range len).map fun i => (q i).1, ?_, ?_⟩, by rw [hlen]; omega⟩
    · rw [hlen]
      refine ⟨by simp, _, _, rfl, hl, ?_⟩
      rcases Nat.eq_zero_or_pos len with h0 | hpos
      · exact .inl h0
      · right
        obtain ⟨b, off, spot⟩ := a
        have hspot : spot = none := by simpa [Addr.add] using World.cell?_spot (hq 0 hpos).1
        subst hspot
        refine ⟨b, off, rfl, fun j u hu => ?_⟩
        have hj : j < len := by
          rcases Nat.lt_or_ge j len with h | h
          · exact h
          · rw [List.getElem?_eq_none (by simp; omega)] at hu; cases hu
        have hadd : (⟨b, off, none⟩ : Addr).add j = ⟨b, off + j, none⟩ := by simp [Addr.add]
        have h1 := (hq j hj).1
        rw [hadd] at h1
        rw [h1]
        simpa [hj] using hu
    · intro i s hs
      have hi : i < len := by
        rcases Nat.lt_or_ge i len with h | h
        · exact h
        · rw [List.getElem?_eq_none (by simp; omega)] at hs; cases hs
      have hs' : (q i).2 = s := by simpa [hi] using hs
      subst hs'
      exact ⟨(q i).1, by simp [hi], (hq i hi).2⟩
theorem cellsDisk : Try.prog.cellsOf 24 = 4 := by kernel_rfl
theorem cellsInt : Try.prog.cellsOf 3 = 1 := by kernel_rfl
theorem cellsBool : Try.prog.cellsOf 4 = 1 := by kernel_rfl
theorem cellsSecs : Try.prog.cellsOf 22 = 1 := by kernel_rfl
/-- a disk that came in -/
theorem open_disk {H : Type} {enc : TypeId × Value → H} {W : World} {base : Nat} {v : Value} {d : DataW H} {p : List MemPlace}
    (hval : Value.okWide Try.prog W .any base 24 v) (h : DataW.Trod enc Try.prog W 0 (fun _ => true) true 24 v d p) :
    ∃ D : Dk, DkV W v D ∧ (-9223372036854775808 ≤ D.left ∧ D.left ≤ 9223372036854775807) ∧ (-9223372036854775808 ≤ D.tear ∧ D.tear ≤ 9223372036854775807) ∧ D.secs.length ≤ maxLen := by
  obtain ⟨cs, rfl, hsz⟩ := okWide_struct Try.underlying24 hval
  rw [cellsDisk] at hsz
  obtain ⟨fuel, hf⟩ := h
  obtain ⟨xs, k, hk, hxy, _, hxl, hff⟩ := DataW.trod_struct Try.underlying24 hf
  match xs, hxl with
  | [y0, y1, y2, y3], _ =>
    have g0 := hff 0 _ rfl
    have g1 := hff 1 _ rfl
    have g2 := hff 2 _ rfl
    have g3 := hff 3 _ rfl
    obtain ⟨cl⟩ := cs
    match cl, hsz with
    | [v0, v1, v2, v3], _ =>
      simp [cellsInt, cellsBool, cellsSecs, Value.cells] at g0 g1 g2 g3
      obtain ⟨v0', S, h0, hs, hS⟩ := open_secs g0
      obtain ⟨z1, h1, _, w1⟩ := DataW.trod_int Try.underlying3 g1
      obtain ⟨z2, h2, _, w2⟩ := DataW.trod_int Try.underlying3 g2
      obtain ⟨z3, h3, _⟩ := DataW.trod_bool Try.underlying4 g3
      simp only [List.cons.injEq, and_true] at h0 h1 h2 h3
      subst h0 h1 h2 h3
      exact ⟨⟨S, z1, z2, z3⟩, ⟨_, rfl, hs⟩, bounds_i64 w1, bounds_i64 w2, hS⟩
end Go.Proofs.Ytbinibpkbkhdlaa
