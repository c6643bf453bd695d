/- append of a slice that reads as cells of one each, nil and empty included, onto a slice of the call's own. -/
import Derived.Test.YtmlkfglnnepjjaaDoorByt
import Derived.Deep.AppendLies
namespace Go.Proofs.YtmlkfglnnepjjaaDoor
open Go.RowKit

theorem infoByte : (Tryd.prog.info? 5).map (fun i => (i.zero, i.size, i.bytes)) = some (some (.int .u8 0), 1, 1) := by kernel_rfl

theorem run_append_bytes (w : World) (base : Nat) (ty : TypeId) (v : Value) (n : Nat) (xs : List Value) (hown : w.ownsRow base 5 1 v n xs) (x : Option Addr) (l : List UInt8) (c : Nat)
    (hs : Sl w 1 (.slice x l.length c) l.length (bc l)) (hb : n + l.length ≤ 100000000) (hbase : base ≤ w.heap.size) :
    ∃ v' w', (Builtin.append_ #[22, 22] ty #[v, .slice x l.length c]).run Tryd.prog w = .ok v' w' ∧ w'.ownsRow base 5 1 v' (n + l.length) (xs ++ bc l) ∧ w.grownBy w' v.ownBlock := by
  obtain ⟨i0, hi, hz0, hz1, hz2⟩ := info_parts infoByte
  obtain ⟨_, a', cap', he, _, hr⟩ := hs
  cases he
  rcases x with _ | ad
  · have h0 : l.length = 0 := by
      rcases hr with h | ⟨g, off, h, _⟩
      · exact h
      · cases h
    have hl0 := List.eq_nil_of_length_eq_zero h0
    subst hl0
    refine ⟨v, w, ?_, by simpa [bc] using hown, World.grownBy.refl _ _⟩
    rcases hown.2 with ⟨rfl, rfl⟩ | ⟨g, cap, cur, rfl, _, _, hnc, _⟩
    · simp [Builtin.append_, run_underlying Tryd.underlying22, sizeOf, typeInfo, hi, Builtin.lenOf, Builtin.firstCells]
    · simp [Builtin.append_, run_underlying Tryd.underlying22, sizeOf, typeInfo, hi, Builtin.lenOf, Builtin.firstCells, hnc, storeCells]
  · have hnews : ∀ j u, (bc l)[j]? = some u → w.cell? (ad.add j) = some u := by
      rcases hr with h | ⟨g, off, h, hc⟩
      · intro j u hu
        have hl0 := List.eq_nil_of_length_eq_zero h
        subst hl0
        simp [bc] at hu
      · cases h
        intro j u hu
        have hadd : (⟨g, off, none⟩ : Addr).add j = ⟨g, off + j, none⟩ := by simp [Addr.add]
        rw [hadd]; exact hc j u hu
    obtain ⟨v', w', h1, h2, h3, _⟩ := run_append_own (P := Tryd.prog) w base 22 ty 5 i0 (.int .u8 0) 1 1 Tryd.underlying22 hi hz0 hz1 hz2 rfl (by omega) v n xs hown ad l.length c (bc l) (by simp [bc]) hnews
      (by intro u hu; simp [bc] at hu; obtain ⟨c, _, rfl⟩ := hu; rfl) (by unfold maxLen; omega) (by omega) hbase
    exact ⟨v', w', h1, h2, h3⟩

/-- At the list of a plain region's operations. -/
theorem wpList_append_bytes (w : World) {ops : Array Oper} {rest : List Oper} {o : Oper} {a : Act} {Q : Exit → Act → World → Prop} (hgd : o.guard = none) (s x : Operand)
    (ho : o.op = .call { callee := .builtin .append, args := #[s, x], argTypes := #[22, 22] })
    (base : Nat) (v : Value) (n : Nat) (xs : List Value) (hs : a.eval s = v) (hown : w.ownsRow base 5 1 v n xs) (ad : Option Addr) (l : List UInt8) (c m : Nat) (hm : m = l.length)
    (hx : a.eval x = .slice ad m c) (hsl : Sl w 1 (.slice ad l.length c) l.length (bc l)) (hb : n + l.length ≤ 100000000) (hbase : base ≤ w.heap.size)
    (h : ∀ v' w', w'.ownsRow base 5 1 v' (n + l.length) (xs ++ bc l) → w.grownBy w' v.ownBlock → wpList Tryd.prog ops Q rest (a.put o.dst v') w') : wpList Tryd.prog ops Q (o :: rest) a w := by
  subst hm
  obtain ⟨v', w', hr, h2, h3⟩ := run_append_bytes w base o.type v n xs hown ad l c hsl hb hbase
  refine wpList_plain hgd fun K hK => ?_
  unfold Oper.wp execOp
  simp only [ho, resolve, invoke, builtin, Sem.run_bind, Sem.run_pure, Result.andThen_ok, List.map_toArray, List.map_cons, List.map_nil, hs, hx, hr]
  exact hK _ _ (h v' w' h2 h3)
end Go.Proofs.YtmlkfglnnepjjaaDoor
