/- Layer 1: valid and both Keyword. -/
import Derived.Test.YtmlkfglnnepjjaaDoorJoin1
namespace Go.Proofs.YtmlkfglnnepjjaaDoor
open Go.RowKit

def vld (t : Tk) : Bool := if t.1 = 1 then decide (0 < t.2.1.size) && decide (wrd (tx t.2.1) 0 = t.2.1.size) else if t.1 = 2 then isInt (tx t.2.1) else if t.1 = 3 then sgnT (tx t.2.1) else false

set_option maxRecDepth 100000 in
set_option maxHeartbeats 2000000 in
theorem valid_any (k : Int) (s : ByteArray) (p : Int) (w : World) (hs : s.size ≤ 1000000000) :
    Calls Tryd.prog 30 #[.agg #[.int .i64 k, .string s, .int .i64 p]] w fun e w' => e = .returned (.bool (vld (k, s, p))) ∧ Below w.heap.size w w' := by
  by_cases h1 : k = 1
  · subst h1
    have hR : vld (1, s, p) = (decide (0 < s.size) && decide (wrd (tx s) 0 = s.size)) := by simp [vld]
    rw [hR]
    clear hR
    have HC := fun W => Lib.hid (Word_any s W hs)
    go_enter Tryd.func30, Tryd.ntmps30
    go_wp2_with fail
    refine (HC _).out.mono ?_
    rintro e w1 ⟨rfl, hb⟩
    go_wp2_with fail
    go_ret
    exact ⟨rfl, (below_one _ _).trans (hb.mono (below_one _ _).size)⟩
  have b1 : (k == 1) = false := by simp [h1]
  by_cases h2 : k = 2
  · subst h2
    have hR : vld (2, s, p) = isInt (tx s) := by simp [vld]
    rw [hR]
    clear hR h1 b1
    have HC := fun W => Lib.hid (integer_any s W hs)
    go_enter Tryd.func30, Tryd.ntmps30
    go_wp2_with fail
    refine (HC _).out.mono ?_
    rintro e w1 ⟨rfl, rfl⟩
    go_wp2_with fail
    go_ret
    exact ⟨rfl, below_one _ _⟩
  have b2 : (k == 2) = false := by simp [h2]
  by_cases h3 : k = 3
  · subst h3
    have hR : vld (3, s, p) = sgnT (tx s) := by simp [vld]
    rw [hR]
    clear hR h1 h2 b1 b2
    have HC := fun W => Lib.hid (sign_any s W)
    go_enter Tryd.func30, Tryd.ntmps30
    go_wp2_with fail
    refine (HC _).out.mono ?_
    rintro e w1 ⟨rfl, rfl⟩
    go_wp2_with fail
    go_ret
    exact ⟨rfl, below_one _ _⟩
  have b3 : (k == 3) = false := by simp [h3]
  have hR : vld (k, s, p) = false := by simp [vld, h1, h2, h3]
  rw [hR]
  clear hR h1 h2 h3
  go_enter Tryd.func30, Tryd.ntmps30
  go_wp2_with fail
  go_ret
  exact ⟨rfl, below_one _ _⟩
end Go.Proofs.YtmlkfglnnepjjaaDoor
