/- Intervals: an interval that came in. -/
import Derived.Test.YtnjpjjefhpbfgaaRows
import Derived.Test.YtnjpjjefhpbfgaaIvW
import Derived.WalkKit
import Derived.ProofKit
import Derived.OpenShut
import Derived.ChangeOld
import Derived.Below
import Derived.Deep.DeepHandedRow
namespace Go.Proofs.Ytnjpjjefhpbfgaa
open Go.ChangeShapes Go.WideShapes Go.ChangeAt Go.RowKit

theorem own : ownKnob Try.prog.godebug = none := by kernel_rfl
theorem laidOut : laidOutB Try.prog = true := by kernel_rfl
theorem cellsInt : Try.prog.cellsOf 3 = 1 := by kernel_rfl
theorem cellsIv : Try.prog.cellsOf 23 = 2 := by kernel_rfl
theorem open_iv {H : Type} {enc : TypeId × Value → H} {W : World} {base : Nat} {v : Value} {d : DataW H} {p : List MemPlace}
    (hval : Value.okWide Try.prog W .any base 23 v) (h : DataW.Trod enc Try.prog W 0 (fun _ => true) true 23 v d p) :
    ∃ lo hi : Int, v = .agg #[.int .i64 lo, .int .i64 hi] ∧ (-9223372036854775808 ≤ lo ∧ lo ≤ 9223372036854775807) ∧ (-9223372036854775808 ≤ hi ∧ hi ≤ 9223372036854775807) := by
  obtain ⟨cs, rfl, hsz⟩ := okWide_struct Try.underlying23 hval
  rw [cellsIv] at hsz
  obtain ⟨fuel, hf⟩ := h
  obtain ⟨xs, k, hk, hxy, _, hxl, hff⟩ := DataW.trod_struct Try.underlying23 hf
  match xs, hxl with
  | [y0, y1], _ =>
    have g0 := hff 0 _ rfl
    have g1 := hff 1 _ rfl
    obtain ⟨cl⟩ := cs
    match cl, hsz with
    | [v0, v1], _ =>
      simp [cellsInt, Value.cells] at g0 g1
      obtain ⟨z0, h0, _, w0⟩ := DataW.trod_int Try.underlying3 g0
      obtain ⟨z1, h1, _, w1⟩ := DataW.trod_int Try.underlying3 g1
      simp only [List.cons.injEq, and_true] at h0 h1
      subst h0 h1
      exact ⟨z0, z1, rfl, bounds_i64 w0, bounds_i64 w1⟩
end Go.Proofs.Ytnjpjjefhpbfgaa
