/- Layer 1, the statement LexisJoins: the walk. -/
import Derived.Test.YtmlkfglnnepjjaaDoorJoin7
import Derived.Test.YtmlkfglnnepjjaaDoorJoin3
namespace Go.Proofs.YtmlkfglnnepjjaaDoor
open Go.RowKit

theorem ssz_le (ts : List Tk) : ∀ n, (∀ j, j < n → (tA ts j).2.1.size ≤ 300) → ssz ts n ≤ 300 * n
  | 0, _ => by simp [ssz]
  | n + 1, h => by
    have h1 := ssz_le ts n (fun j hj => h j (by omega))
    have h2 := h n (by omega)
    simp only [ssz]; omega

set_option maxRecDepth 100000 in
set_option maxHeartbeats 2000000 in
theorem lexisJoins_any (ts : List Tk) (v : Value) (w : World) (hv : Sl w 3 v ts.length (tkcs ts)) (hT : TabW w) :
    Calls Tryd.prog 4 #[v] w fun e w' => e = .returned (.bool true) ∧ Below w.heap.size w w' := by
  have hTw := TabW_lt hT
  obtain ⟨a, cap, rfl⟩ := hv.form
  by_cases hF : fewB ts = true
  case neg =>
    have hF' : fewB ts = false := by simpa using hF
    have HF := Lib.hid (fun W h => few_any ts (.slice a ts.length cap) W h)
    rw [hF'] at HF
    clear hF hF'
    go_enter Tryd.func4, Tryd.ntmps4
    go_wp2_with fail
    refine (sane_any w hT).mono ?_
    rintro e w1 ⟨rfl, hb1⟩
    go_wp2_with fail
    refine (HF.out _ (hv.next hb1)).mono ?_
    rintro e w2 ⟨rfl, rfl⟩
    go_wp2_with fail
    go_ret
    exact ⟨rfl, hb1⟩
  have HF := Lib.hid (fun W h => few_any ts (.slice a ts.length cap) W h)
  rw [hF] at HF
  obtain ⟨hn, hS⟩ := of_decide_eq_true hF
  have hL : (jn ts (ts.length - 1)).length ≤ 1000000 := by
    rw [jn_len]
    have := ssz_le ts (ts.length - 1) (fun j hj => hS j (by omega))
    omega
  have HL := Lib.hid hL
  have HS := Lib.hid hS
  clear hF hL hS
  go_enter Tryd.func4, Tryd.ntmps4
  go_wp2_with fail
  refine (sane_any w hT).mono ?_
  rintro e w1 ⟨rfl, hb1⟩
  have hv1 := hv.next hb1
  go_wp2_with fail
  refine (HF.out _ hv1).mono ?_
  rintro e w2 ⟨rfl, rfl⟩
  go_wp2_with fail
  go_loopw [3] (fun i wr => ∃ j k : Nat, j ≤ ts.length ∧ i = .int .i64 j ∧ wr = w1.drewN k) (fun i _ => ts.length - (intOf i).toNat)
  case atStart => exact ⟨0, 0, Nat.zero_le _, rfl, rfl⟩
  case round =>
    obtain ⟨j, k, hj, rfl, hwr⟩ := hrel
    have hvr : Sl wr 3 (.slice a ts.length cap) ts.length (tkcs ts) := by rw [hwr]; exact hv1.drewN k
    have hbD : Below w.heap.size w wr := by rw [hwr]; exact below_drewN hb1 _
    have HW := Lib.hid hwr
    clear hwr
    by_cases hlt : j < ts.length
    · obtain ⟨g, off, rfl, hcap, hc⟩ := hvr.toks (by omega)
      obtain ⟨c0, c1, c2⟩ := hc j hlt
      obtain ⟨s, hs⟩ : ∃ s, (tA ts j).2.1 = s := ⟨_, rfl⟩
      rw [hs] at c1
      clear hc c0 c2 hs
      have k1 : ∀ W, Calls Tryd.prog 17 #[.string s] W fun e w' => e = .returned (.bool (kwB s)) ∧ w' = W := fun W => (keyword_any s W).mono fun e w' h => ⟨h.1, h.2.symm⟩
      have k2 : ∀ W, Calls Tryd.prog 18 #[.string s] W fun e w' => e = .returned (.bool (kwB s)) ∧ w' = W := fun W => (refKeyword_any s W).mono fun e w' h => ⟨h.1, h.2.symm⟩
      obtain ⟨kb, hkb⟩ : ∃ b, kwB s = b := ⟨_, rfl⟩
      rw [hkb] at k1 k2
      have K1 := Lib.hid k1
      have K2 := Lib.hid k2
      clear k1 k2
      have f0 : (kb != kb) = false := by simp
      clear hkb
      go_wp2_with fail
      go_quiet ((first | (go_at_call 17; exact Calls.quiet_of_same (K1.out _)) | (go_at_call 18; exact Calls.quiet_of_same (K2.out _))))
      go_wp2_with fail
      go_roundw
      case rel => exact ⟨j + 1, _, by omega, by go_num, (congrArg (fun x => World.drewN x nq) HW.out).trans (World.drewN_drewN _ _ _)⟩
      case measure => simp [intOf]; omega
    · have hvD := hvr
      go_wp2_with fail
      refine (join_any ts _ wr hvD (by omega) (fun j hj => by have := HS.out j hj; omega) HL.out (TabW_below hbD hTw hT)).mono ?_
      intro e w2 hJ
      obtain ⟨vb, rfl, hsb, hb2⟩ := hJ.res
      go_wp2_with fail
      refine (refJoin_any ts _ w2 (hvD.next hb2) (by omega) (fun j hj => by have := HS.out j hj; omega) HL.out).mono ?_
      intro e w3 hJ3
      obtain ⟨vc, rfl, hsc, hb3⟩ := hJ3.res
      rw [jR_same] at hsc
      rw [jR_same]
      obtain ⟨lb, eb, hR⟩ : ∃ lb eb, jR tkOk ts = (lb, eb) := ⟨_, _, rfl⟩
      rw [hR] at hsb hsc
      rw [hR]
      simp only [] at hsb hsc ⊢
      have hsb3 := hsb.next hb3
      obtain ⟨ab, cb, rfl⟩ := hsb.form
      obtain ⟨ac, cc, rfl⟩ := hsc.form
      have v1 := conv_bytes hsb3
      have v2 := conv_bytes hsc
      clear hR hJ hJ3
      obtain ⟨s, hs⟩ : ∃ s, mkS lb = s := ⟨_, rfl⟩
      rw [hs] at v1 v2
      clear hs
      have hfin := hbD.trans ((hb2.trans (hb3.mono hb2.size)).mono hbD.size)
      clear hsb hsc hsb3 hb2 hb3
      go_wp2_with fail
      go_ret
      exact ⟨ret_bool (by simp), hfin⟩
end Go.Proofs.YtmlkfglnnepjjaaDoor
