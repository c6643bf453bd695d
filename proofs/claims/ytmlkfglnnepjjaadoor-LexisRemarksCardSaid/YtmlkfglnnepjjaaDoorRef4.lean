/- Layer 1, the reference: signs, and the token at an index. -/
import Derived.Test.YtmlkfglnnepjjaaDoorRef3
namespace Go.Proofs.YtmlkfglnnepjjaaDoor
open Go.RowKit

set_option maxRecDepth 100000 in
theorem sign_any (s : ByteArray) (w : World) :
    Calls Tryd.prog 40 #[.string s] w fun e w' => e = .returned (.bool (sgnT (tx s))) ∧ w = w' := by
  by_cases h1 : s.size = 1
  · have hp : 0 < s.size := by omega
    have hb1 := bA_str hp
    have hne : ((s.size : Int) != 1) = false := by simp [h1]
    have hF : sgnT (tx s) = sgn (bA (tx s) 0) := by
      unfold sgnT
      have h2 : (tx s == [45, 62]) = false := by
        rw [Bool.eq_false_iff]
        intro h
        have h3 : tx s = [45, 62] := by simpa using h
        have := congrArg List.length h3
        rw [tx_len, h1] at this
        simp at this
      rw [h2, tx_len, h1]; simp
    rw [hb1] at hF
    have HF := Lib.hid hF
    clear hF hb1 h1
    go_enter Tryd.func40, Tryd.ntmps40
    go_wp2_with fail
    all_goals
      go_ret
      refine ⟨ret_bool ?_, rfl⟩
      rw [HF.out]
      first
        | (symm; rw [sgn_iff]; simp only [beq_iff_eq] at *; omega)
        | (symm; rw [Bool.eq_false_iff, ne_eq, sgn_iff]; simp only [beq_eq_false_iff_ne, ne_eq] at *; omega)
  · have hne : ((s.size : Int) != 1) = true := by simp; omega
    have hF : sgnT (tx s) = decide (tx s = [45, 62]) := by
      unfold sgnT
      rw [tx_len, decide_eq_false h1, Bool.eq_iff_iff]; simp
    have HF := Lib.hid hF
    clear hF h1
    go_enter Tryd.func40, Tryd.ntmps40
    go_wp2_with fail
    go_ret
    exact ⟨ret_bool (by rw [HF.out, str_ne]), rfl⟩
end Go.Proofs.YtmlkfglnnepjjaaDoor
