/- Layer 1, the statement LexisTokens: the walk. -/
import Derived.Test.YtmlkfglnnepjjaaDoorSane
namespace Go.Proofs.YtmlkfglnnepjjaaDoor
open Go.RowKit

theorem sameB_refl (o : Bool) (xs : List Tk) : sameB o xs xs = true := by
  simp [sameB, tkEq]

set_option maxRecDepth 100000 in
theorem lexisTokens_any (l : List UInt8) (v : Value) (w : World) (hv : Sl w 1 v l.length (bc l)) (hT : TabW w) (hm : l.length ≤ maxLen) :
    Calls Tryd.prog 3 #[v] w fun e w' => e = .returned (.bool true) ∧ Below w.heap.size w w' := by
  unfold maxLen at hm
  obtain ⟨a, cap, rfl⟩ := hv.form
  by_cases hl : 4000 < l.length
  · go_enter Tryd.func3, Tryd.ntmps3
    go_wp2_with fail
    refine (sane_any w hT).mono ?_
    rintro e w1 ⟨rfl, hb1⟩
    go_wp2_with fail
    go_ret
    exact ⟨rfl, hb1⟩
  · have hTw := TabW_lt hT
    go_enter Tryd.func3, Tryd.ntmps3
    go_wp2_with fail
    refine (sane_any w hT).mono ?_
    rintro e w1 ⟨rfl, hb1⟩
    have hv1 := hv.next hb1
    have hT1 := TabW_below hb1 hTw hT
    go_wp2_with fail
    refine (tokens_any l _ w1 hv1 (by omega) hT1).mono ?_
    rintro e w2 ⟨vl, vp, rfl, hl2, hp2, hb2⟩
    rw [← tkE_cells, ← tkE_len] at hl2
    have hv2 := hv1.next hb2
    go_wp2_with fail
    refine (refTokens_short l _ w2 hv2 (by omega)).mono ?_
    rintro e w3 ⟨vm, vq, rfl, hm3, hq3, hb3⟩
    rw [← tkE_cells, ← tkE_len] at hm3
    have hl3 := hl2.next hb3
    have hp3 := hp2.next hb3
    have hlen := toks_len l
    go_wp2_with fail
    refine (same_any (tkE l) (tkE l) vl vm true w3 hl3 hm3 (by rw [tkE_len]; omega)).mono ?_
    rw [sameB_refl]
    rintro e w4 ⟨rfl, n, rfl⟩
    go_wp2_with fail
    refine (sameProblems_any _ _ vp vq _ (hp3.drewN n) (hq3.drewN n) (by simp; omega)).mono ?_
    rw [sameP_refl]
    rintro e w5 ⟨rfl, n2, rfl⟩
    go_wp2_with fail
    go_ret
    exact ⟨rfl, below_drewN ((hb1.trans (hb2.mono hb1.size)).trans (hb3.mono (Nat.le_trans hb1.size hb2.size))) _⟩
end Go.Proofs.YtmlkfglnnepjjaaDoor
