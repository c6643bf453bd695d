/- Wal: a log that came in. -/
import Derived.Test.YtbinibpkbkhdlaaDkOpenD
import Derived.Test.YtbinibpkbkhdlaaWlD
namespace Go.Proofs.Ytbinibpkbkhdlaa
open Go.ChangeShapes Go.WideShapes Go.ChangeAt Go.RowKit Go.Deep

theorem cellsLog : Try.prog.cellsOf 29 = 4 := by kernel_rfl
theorem bytesSl : Try.prog.bytesOf 25 = 24 := by kernel_rfl
/-- how far a list of byte strings reaches -/
theorem secs_reach {H : Type} {enc : TypeId × Value → H} {W : World} {fuel : Nat} {v : Value} {S : List (List UInt8)} {x : DataW H × List MemPlace}
    (hf : DataW.trod enc Try.prog W 0 (fun _ => true) true fuel 22 [v] = some x) (hs : Secs W v S) (hw : (x.1.weights Try.prog 22).all (· ≤ reachBytes) = true) : S.length ≤ 5864062014634 := by
  obtain ⟨a0, cap0, rfl⟩ := hs.len
  rcases open_slice Try.underlying22 hf with ⟨hcs, _⟩ | ⟨a, len, cap, m, n, D, Pl, hcs, hb, hl, hm, hmm, hx, hall⟩
  · simp only [List.cons.injEq, Value.slice.injEq, and_true] at hcs
    omega
  · simp only [List.cons.injEq, Value.slice.injEq, and_true] at hcs
    obtain ⟨_, rfl, _⟩ := hcs
    subst hx
    have h := List.all_eq_true.1 hw _ (by rw [DataW.weights, Try.underlying22]; exact List.mem_cons_self)
    rw [bytesSl] at h
    simp only [List.length_map, List.length_range, reachBytes, decide_eq_true_eq] at h
    omega
theorem bytesU8 : Try.prog.bytesOf 5 = 1 := by kernel_rfl
theorem weights_mem_all {H : Type} {P : Program} {e : TypeId} {d : DataW H} {n : Nat} (hn : n ∈ d.weights P e) : ∀ {l : List (DataW H)}, d ∈ l → n ∈ DataW.weightsAll P e l
  | [], h => by cases h
  | x :: l, h => by
    simp only [DataW.weightsAll, List.mem_append]
    rcases List.mem_cons.1 h with rfl | h
    · exact .inl hn
    · exact .inr (weights_mem_all hn h)
/-- how far one byte string reaches -/
theorem bytes_reach {H : Type} {enc : TypeId × Value → H} {W : World} {fuel : Nat} {a : Option Addr} {l c : Nat} {x : DataW H × List MemPlace}
    (hf : DataW.trod enc Try.prog W 0 (fun _ => true) true fuel 25 [.slice a l c] = some x) (hw : (x.1.weights Try.prog 25).all (· ≤ reachBytes) = true) : l ≤ 140737488351232 := by
  rcases open_slice Try.underlying25 hf with ⟨hcs, _⟩ | ⟨a, len, cap, m, n, D, Pl, hcs, hb, hl, hm, hmm, hx, hall⟩
  · simp only [List.cons.injEq, Value.slice.injEq, and_true] at hcs
    omega
  · simp only [List.cons.injEq, Value.slice.injEq, and_true] at hcs
    obtain ⟨_, rfl, _⟩ := hcs
    subst hx
    have h := List.all_eq_true.1 hw _ (by rw [DataW.weights, Try.underlying25]; exact List.mem_cons_self)
    rw [bytesU8] at h
    simp only [List.length_map, List.length_range, reachBytes, decide_eq_true_eq] at h
    omega
/-- how far each of its byte strings reaches -/
theorem secs_each {H : Type} {enc : TypeId × Value → H} {W : World} {fuel : Nat} {v : Value} {S : List (List UInt8)} {x : DataW H × List MemPlace}
    (hf : DataW.trod enc Try.prog W 0 (fun _ => true) true fuel 22 [v] = some x) (hs : Secs W v S) (hw : (x.1.weights Try.prog 22).all (· ≤ reachBytes) = true) : ∀ s ∈ S, s.length ≤ 140737488351232 := by
  intro s hsm
  obtain ⟨i, hi, rfl⟩ := List.mem_iff_getElem.1 hsm
  obtain ⟨a0, cap0, rfl⟩ := hs.len
  obtain ⟨g, off, rfl, hcap, hcs⟩ := hs.at_ (by omega)
  obtain ⟨ad, c, hcell, _⟩ := hcs i S[i] (List.getElem?_eq_getElem hi)
  rcases open_slice Try.underlying22 hf with ⟨hcs, _⟩ | ⟨a, len, cap, m, n, D, Pl, hcs, hb, hl, hm, hmm, hx, hall⟩
  · simp only [List.cons.injEq, Value.slice.injEq, and_true] at hcs
    omega
  · simp only [List.cons.injEq, Value.slice.injEq, and_true, Option.some.injEq] at hcs
    obtain ⟨rfl, rfl, rfl⟩ := hcs
    have hlm : S.length ≤ m := by rw [hmm]; split <;> omega
    obtain ⟨cs', h1, h2⟩ := hall i (by omega)
    rw [cellsSl] at h1
    obtain ⟨_, hlen, hc⟩ := World.cells?_some h1
    have e0 := hc 0 (by omega)
    rw [add_add] at e0
    match cs', hlen with
    | [v'], _ =>
      have hadd : (⟨g, off, none⟩ : Addr).add (i * 1 + 0) = ⟨g, off + i, none⟩ := by simp [Addr.add]
      rw [hadd, hcell] at e0
      have e1 : Value.slice ad S[i].length c = v' := by simpa using e0
      subst e1
      subst hx
      refine bytes_reach h2 (List.all_eq_true.2 fun k hk => List.all_eq_true.1 hw k ?_)
      rw [DataW.weights, Try.underlying22]
      exact List.mem_cons_of_mem _ (List.mem_append_left _ (weights_mem_all hk (List.mem_map.2 ⟨i, List.mem_range.2 hi, rfl⟩)))
theorem open_log {H : Type} {enc : TypeId × Value → H} {W : World} {base : Nat} {v : Value} {d : DataW H} {p : List MemPlace}
    (hval : Value.okWide Try.prog W .any base 29 v) (h : DataW.Trod enc Try.prog W 0 (fun _ => true) true 29 v d p) :
    ∃ L : Lg, LgV W v L ∧ (-9223372036854775808 ≤ L.first ∧ L.first ≤ 9223372036854775807) ∧ (-9223372036854775808 ≤ L.many ∧ L.many ≤ 9223372036854775807) ∧ (-9223372036854775808 ≤ L.synced ∧ L.synced ≤ 9223372036854775807) ∧ ((d.weights Try.prog 29).all (· ≤ reachBytes) = true → L.recs.length ≤ 5864062014634 ∧ ∀ s ∈ L.recs, s.length ≤ 140737488351232) := by
  obtain ⟨cs, rfl, hsz⟩ := okWide_struct Try.underlying29 hval
  rw [cellsLog] at hsz
  obtain ⟨fuel, hf⟩ := h
  obtain ⟨xs, k, hk, hxy, _, hxl, hff⟩ := DataW.trod_struct Try.underlying29 hf
  match xs, hxl with
  | [y0, y1, y2, y3], _ =>
    have g0 := hff 0 _ rfl
    have g1 := hff 1 _ rfl
    have g2 := hff 2 _ rfl
    have g3 := hff 3 _ rfl
    obtain ⟨cl⟩ := cs
    match cl, hsz with
    | [v0, v1, v2, v3], _ =>
      simp [cellsInt, cellsSecs, Value.cells] at g0 g1 g2 g3
      obtain ⟨z0, h0, _, w0⟩ := DataW.trod_int Try.underlying3 g0
      obtain ⟨z1, h1, _, w1⟩ := DataW.trod_int Try.underlying3 g1
      obtain ⟨v2', S, h2, hs, _⟩ := open_secs g2
      obtain ⟨z3, h3, _, w3⟩ := DataW.trod_int Try.underlying3 g3
      simp only [List.cons.injEq, and_true] at h0 h1 h2 h3
      subst h0 h1 h2 h3
      refine ⟨⟨z0, z1, S, z3⟩, ⟨_, rfl, hs⟩, bounds_i64 w0, bounds_i64 w1, bounds_i64 w3, fun hw => ?_⟩
      have hd := congrArg Prod.fst hxy
      simp only [List.map_cons, List.map_nil] at hd
      subst hd
      have hw2 : ((y2.1.weights Try.prog 22).all (· ≤ reachBytes)) = true := by
        simp only [DataW.weights, Try.underlying29, DataW.weightsEach, List.map_cons, List.map_nil, List.all_append, Bool.and_eq_true] at hw
        exact hw.2.2.1
      exact ⟨secs_reach g2 hs hw2, secs_each g2 hs hw2⟩

end Go.Proofs.Ytbinibpkbkhdlaa
