/- Intervals: IntervalLattice. -/
import Derived.Test.YtnjpjjefhpbfgaaIvX
namespace Go.Proofs.Ytnjpjjefhpbfgaa
open Go.RowKit

theorem lattice_any (a b c d e f : Int) (w : World) :
    Calls Try.prog 6 #[.agg #[.int .i64 a, .int .i64 b], .agg #[.int .i64 c, .int .i64 d], .agg #[.int .i64 e, .int .i64 f]] w fun e w' => e = .returned (.bool true) ∧ Below w.heap.size w w' := by
  by_cases h : ck (a, b) = 0 ∧ ck (c, d) = 0 ∧ ck (e, f) = 0
  · obtain ⟨ha, hc, he⟩ := h
    obtain ⟨h1, h2, h3⟩ := hull_up ha hc he
    refine lat_walk a b c d e f _ _ _ _ _ _ _ _ _ _ _ w ha hc he rfl rfl rfl h1 h2 rfl rfl rfl h3 rfl rfl rfl ?_
    by_cases hm : meetE (a, b) (c, d) = 0
    · obtain ⟨g1, g2, g3⟩ := meet_yes ha hc he hm
      exact .inr ⟨hm, g1, g2, g3⟩
    · obtain ⟨g1, g2⟩ := meet_no ha hc he hm
      refine .inl ⟨g1, ?_⟩
      cases hki : within (e, f) (a, b)
      · exact .inl rfl
      · refine .inr ⟨rfl, ?_⟩
        cases hkj : within (e, f) (c, d)
        · rfl
        · exact absurd ⟨hki, hkj⟩ g2
  · exact lat_bad a b c d e f w h
end Go.Proofs.Ytnjpjjefhpbfgaa
