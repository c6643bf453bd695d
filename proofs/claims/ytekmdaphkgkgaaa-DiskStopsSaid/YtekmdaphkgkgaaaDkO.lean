/- Disk: the reference's Write. -/
import Derived.Test.YtekmdaphkgkgaaaDkN
import Derived.Deep.RegionHeld3
import Derived.Deep.DeepCutAuto
namespace Go.Proofs.Ytekmdaphkgkgaaa
open Go.RowKit

theorem own_empty' (w : World) (B : Nat) (hB : B ≤ w.heap.size) (e : TypeId) (size : Nat) : (w.alloc (.cells #[] e)).ownsRow B e size (.slice (some ⟨w.heap.size, 0, none⟩) 0 0) 0 [] :=
  ⟨by simp, .inr ⟨w.heap.size, 0, #[], rfl, hB, heap_alloc_new w _, Nat.le_refl _, Nat.zero_le _, by simp, by simp⟩⟩
theorem own_alloc {w : World} {B n size : Nat} {e : TypeId} {v : Value} {xs : List Value} (h : w.ownsRow B e size v n xs) (o : Obj) : (w.alloc o).ownsRow B e size v n xs := h.alloc o

section
variable {P : Program} (w : World)
/-- the step of an append of a slice that reads as cells of one each onto a row of the call's own; n + m is not 0 -/
theorem step_append_sl {ops : Array Oper} {o : Oper} {a : Act} {K : Act → World → Prop} {Q : Exit → Act → World → Prop} {E : Prop} (hgd : o.guard = none) (s x : Operand) (t : TypeId)
    (ho : o.op = .call { callee := .builtin .append, args := #[s, x], argTypes := #[t, t] })
    (w0 : World) (B : Nat) (hB0 : w0.heap.size ≤ B) (hb0 : Below w0.heap.size w0 w) (e : TypeId) (i : TypeInfo) (z : Value) (bytes : Nat) (ht : P.underlying t = some (.slice e)) (hi : P.info? e = some i) (hz : i.zero = some z)
    (hsize : i.size = 1) (hby : i.bytes = bytes) (hzs : z.cells.size = 1)
    (v : Value) (n : Nat) (xs : List Value) (hs : a.eval s = v) (hown : w.ownsRow B e 1 v n xs) (y : Value) (m : Nat) (ys : List Value) (hx : a.eval x = y)
    (hsl : Sl w 1 y m ys) (h1 : ∀ u ∈ ys, u.oneCell' = true) (hpos : 0 < n + m) (hm : n + m ≤ maxLen) (hb : (n + m) * bytes ≤ 140737488355328) (hbase : B ≤ w.heap.size)
    (h : ∀ g cap w', w'.ownsRow B e 1 (.slice (some ⟨g, 0, none⟩) (n + m) cap) (n + m) (xs ++ ys) → w.grownBy w' v.ownBlock → Below w0.heap.size w0 w' → w.heap.size ≤ w'.heap.size → (∀ g T cs, e ≠ T → Blk w g T cs → Blk w' g T cs) → K (a.put o.dst (.slice (some ⟨g, 0, none⟩) (n + m) cap)) w') :
    if Region.wanted o (yielded ops a.tmps) = true then Oper.wp P o a w K Q else E := by
  have hw : Region.wanted o (yielded ops a.tmps) = true := by simp [Region.wanted, hgd]
  rw [if_pos hw]
  obtain ⟨v', w', hr, h2, h3⟩ := run_append_sl (P := P) w B t o.type e i z bytes ht hi hz hsize hby hzs v n xs hown y m ys hsl h1 hm hb hbase
  obtain ⟨g, cap, rfl, _, _⟩ := h2.form hpos
  unfold Oper.wp execOp
  simp only [ho, resolve, invoke, builtin, Sem.run_bind, Sem.run_pure, Result.andThen_ok, List.map_toArray, List.map_cons, List.map_nil, hs, hx, hr]
  exact h g cap w' h2 h3 (hb0.grown h3 hb0.size (fun k hk => by have := (hown.lt k hk).1; omega)) h3.size (fun g T cs hne hg => Blk.grown hg h3 (Ne.symm (own_blk_ne hown hg hne)))
end
end Go.Proofs.Ytekmdaphkgkgaaa
