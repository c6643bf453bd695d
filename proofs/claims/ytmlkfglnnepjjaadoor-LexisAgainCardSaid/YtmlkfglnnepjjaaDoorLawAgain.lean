/- Layer 1, the statement LexisAgain: the walk. -/
import Derived.Test.YtmlkfglnnepjjaaDoorAgainP
import Derived.Test.YtmlkfglnnepjjaaDoorLawJoins
namespace Go.Proofs.YtmlkfglnnepjjaaDoor
open Go.RowKit

set_option maxRecDepth 100000 in
set_option maxHeartbeats 2000000 in
theorem lexisAgain_any (l : List UInt8) (v : Value) (w : World) (hv : Sl w 1 v l.length (bc l)) (hT : TabW w) (hm : l.length ≤ maxLen) :
    Calls Tryd.prog 6 #[v] w fun e w' => e = .returned (.bool true) ∧ Below w.heap.size w w' := by
  unfold maxLen at hm
  obtain ⟨a, cap, rfl⟩ := hv.form
  by_cases hl : 4000 < l.length
  · go_enter Tryd.func6, Tryd.ntmps6
    go_wp2_with fail
    refine (sane_any w hT).mono ?_
    rintro e w1 ⟨rfl, hb1⟩
    go_wp2_with fail
    go_ret
    exact ⟨rfl, hb1⟩
  · have hTw := TabW_lt hT
    have HA := Lib.hid (again_ok l)
    have hAL := again_len l
    have HS := Lib.hid (again_size l)
    obtain ⟨L, hL⟩ : ∃ L, jn (tkE l) ((tkE l).length - 1) = L := ⟨_, rfl⟩
    have hsame := back_same (tkE l) (again_ok l)
    have hbad := (jn_toks (tkE l) _ (again_ok l).2.2.2).2
    rw [hL] at hAL hsame hbad
    have HLL := Lib.hid hL
    have HSame := Lib.hid hsame
    have HBad := Lib.hid hbad
    clear hL hsame hbad
    have htl := toks_len l
    go_enter Tryd.func6, Tryd.ntmps6
    go_wp2_with fail
    refine (sane_any w hT).mono ?_
    rintro e w1 ⟨rfl, hb1⟩
    have hv1 := hv.next hb1
    have hT1 := TabW_below hb1 hTw hT
    go_wp2_with fail
    refine (tokens_any l _ w1 hv1 (by omega) hT1).mono ?_
    rintro e w2 ⟨vl, vp, rfl, hl2, hp2, hb2⟩
    rw [← tkE_cells, ← tkE_len] at hl2
    have hB2 := hb1.trans (hb2.mono hb1.size)
    have hT2 := TabW_below hB2 hTw hT
    have hln : (tkE l).length = (toks l).length + 1 := tkE_len l
    clear hp2
    go_wp2_with fail
    refine (join_any (tkE l) _ w2 hl2 (by omega) (fun j hj => by have := HS.out j hj; omega) (by rw [HLL.out]; omega) hT2).mono ?_
    intro e w3 hJ
    obtain ⟨hb3, ⟨h1, rfl⟩ | ⟨h1, h2, rfl⟩ | ⟨h1, h2, vb, rfl, hsb⟩⟩ := hJ
    · exact absurd HA.out h1
    · rw [HLL.out] at h2; omega
    · rw [HLL.out] at h2 hsb
      clear h1
      have hB3 := hB2.trans (hb3.mono hB2.size)
      go_wp2_with fail
      refine (tokens_any L _ w3 hsb (by omega) (TabW_below hB3 hTw hT)).mono ?_
      rintro e w4 ⟨vm, vp, rfl, hm4, hp4, hb4⟩
      rw [← tkE_cells, ← tkE_len] at hm4
      rw [HBad.out] at hp4
      obtain ⟨ap, cp, hvp⟩ := hp4.form
      simp only [List.take_nil, List.length_nil] at hvp
      subst hvp
      have hB4 := hB3.trans (hb4.mono hB3.size)
      have hl4 := (hl2.next hb3).next hb4
      have HSm := Lib.hid (same_any (tkE l) (tkE L) vl vm false w4 hl4 hm4 (by omega))
      rw [HSame.out] at HSm
      clear hp4 hln htl
      go_wp2_with fail
      refine (HSm.out).mono ?_
      rintro e w5 ⟨rfl, n, rfl⟩
      go_wp2_with fail
      go_ret
      exact ⟨rfl, below_drewN hB4 _⟩
end Go.Proofs.YtmlkfglnnepjjaaDoor
