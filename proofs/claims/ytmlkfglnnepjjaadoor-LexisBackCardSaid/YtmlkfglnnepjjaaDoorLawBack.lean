/- Layer 1, the statement LexisBack: the walk. -/
import Derived.Test.YtmlkfglnnepjjaaDoorBackP
import Derived.Test.YtmlkfglnnepjjaaDoorLawJoins
import Derived.Test.YtmlkfglnnepjjaaDoorLawPlaces
namespace Go.Proofs.YtmlkfglnnepjjaaDoor
open Go.RowKit

/-- each token begins behind the one before it -/
theorem tB_up (l : List UInt8) {i : Nat} (h0 : 0 < i) (hi : i < (toks l).length + 1) : tB l (i - 1) < tB l i := by
  obtain ⟨kd, n, h1, h2, h3, h4⟩ := tkE_tok l (i := i - 1) (by omega)
  have h5 := tP_le l i (by omega)
  obtain ⟨j, rfl⟩ : ∃ j, i = j + 1 := ⟨i - 1, by omega⟩
  rw [tP] at h5
  simp only [Nat.add_sub_cancel] at *
  rcases h4 with ⟨h6, h7⟩ | ⟨_, h7⟩
  · have ht := (stand l).tok _ (List.getElem_mem (show j < (toks l).length by omega))
    simp only [tF, List.getElem?_eq_getElem (show j < (toks l).length by omega)] at h2
    simp only [tB, List.getElem?_eq_getElem (show j < (toks l).length by omega)] at h2 h5 ⊢
    simp only [tF, List.getElem?_eq_getElem (show j < (toks l).length by omega)] at h5
    omega
  · omega
set_option maxRecDepth 100000 in
set_option maxHeartbeats 2000000 in
theorem lexisBack_any (ts : List Tk) (v : Value) (w : World) (hv : Sl w 3 v ts.length (tkcs ts)) (hT : TabW w) :
    Calls Tryd.prog 5 #[v] w fun e w' => e = .returned (.bool true) ∧ Below w.heap.size w w' := by
  have hTw := TabW_lt hT
  obtain ⟨a, cap, rfl⟩ := hv.form
  by_cases hF : fewB ts = true
  case neg =>
    have hF' : fewB ts = false := by simpa using hF
    have HF := Lib.hid (fun W h => few_any ts (.slice a ts.length cap) W h)
    rw [hF'] at HF
    clear hF hF'
    go_enter Tryd.func5, Tryd.ntmps5
    go_wp2_with fail
    refine (sane_any w hT).mono ?_
    rintro e w1 ⟨rfl, hb1⟩
    go_wp2_with fail
    refine (HF.out _ (hv.next hb1)).mono ?_
    rintro e w2 ⟨rfl, rfl⟩
    go_wp2_with fail
    go_ret
    exact ⟨rfl, hb1⟩
  have HF := Lib.hid (fun W h => few_any ts (.slice a ts.length cap) W h)
  rw [hF] at HF
  obtain ⟨hn, hS⟩ := of_decide_eq_true hF
  have hL : (jn ts (ts.length - 1)).length ≤ 1000000 := by
    rw [jn_len]
    have := ssz_le ts (ts.length - 1) (fun j hj => hS j (by omega))
    omega
  have HL := Lib.hid hL
  have HS := Lib.hid hS
  clear hF hL hS
  go_enter Tryd.func5, Tryd.ntmps5
  go_wp2_with fail
  refine (sane_any w hT).mono ?_
  rintro e w1 ⟨rfl, hb1⟩
  have hv1 := hv.next hb1
  go_wp2_with fail
  refine (HF.out _ hv1).mono ?_
  rintro e w2 ⟨rfl, rfl⟩
  go_wp2_with fail
  refine (join_any ts _ w1 hv1 (by omega) (fun j hj => by have := HS.out j hj; omega) HL.out (TabW_below hb1 hTw hT)).mono ?_
  intro e w2 hJ
  obtain ⟨hb2, ⟨h1, rfl⟩ | ⟨h1, h2, rfl⟩ | ⟨h1, h2, vb, rfl, hsb⟩⟩ := hJ
  · clear h1
    go_wp2_with fail
    go_ret
    exact ⟨rfl, hb1.trans (hb2.mono hb1.size)⟩
  · clear h1 h2
    go_wp2_with fail
    go_ret
    exact ⟨rfl, hb1.trans (hb2.mono hb1.size)⟩
  · have hsame := back_same ts h1
    have hbad := (jn_toks ts _ h1.2.2.2).2
    obtain ⟨l, hll⟩ : ∃ l, jn ts (ts.length - 1) = l := ⟨_, rfl⟩
    rw [hll] at hsame hbad h2 hsb
    have hB2 := hb1.trans (hb2.mono hb1.size)
    have H1 := Lib.hid h1
    clear h1 hll
    go_wp2_with fail
    refine (tokens_any l _ w2 hsb (by omega) (TabW_below hB2 hTw hT)).mono ?_
    rintro e w3 ⟨vl, vp, rfl, hl, hp, hb3⟩
    have hB3 := hB2.trans (hb3.mono hB2.size)
    rw [← tkE_cells, ← tkE_len] at hl
    rw [hbad] at hp
    obtain ⟨ap, cp, hvp⟩ := hp.form
    simp only [List.take_nil, List.length_nil] at hvp
    subst hvp
    obtain ⟨al, cl, hvl⟩ := hl.form
    subst hvl
    have hv3 := (hv1.next hb2).next hb3
    have HSm := Lib.hid (same_any ts (tkE l) _ _ false w3 hv3 hl (by omega))
    rw [hsame] at HSm
    obtain ⟨m, hm⟩ : ∃ m, (toks l).length = m := ⟨_, rfl⟩
    have hlm := tkE_len l
    rw [hm] at hlm
    have hml : m ≤ 65536 := by have := toks_len l; omega
    obtain ⟨gl, ol, rfl, hcl, hcells⟩ := hl.toks (by omega)
    rw [hlm] at hcl hcells hl HSm
    rw [hlm]
    have htb : ∀ j, j < m + 1 → w3.cell? ⟨gl, ol + j * 3 + 2, none⟩ = some (.int .i64 (tB l j)) := fun j hj => by
      obtain ⟨kd, n, e1, _⟩ := tkE_tok l (i := j) (by omega)
      obtain ⟨_, _, c⟩ := hcells j hj
      rw [e1] at c
      exact c
    have HTB := Lib.hid htb
    have HM := Lib.hid hm
    clear hsame hbad hp hcells htb hm hl hlm
    have d0 : ((0 : Int) != 0) = false := by decide
    go_wp2_with fail
    refine (HSm.out).mono ?_
    rintro e w4 ⟨rfl, k0, rfl⟩
    go_wp2_with fail
    go_loopw [8] (fun i wr => ∃ j k : Nat, 1 ≤ j ∧ j ≤ m + 1 ∧ i = .int .i64 j ∧ wr = w3.drewN k) (fun i _ => m + 1 - (intOf i).toNat)
    case atStart => exact ⟨1, k0, by omega, by omega, rfl, rfl⟩
    case round =>
      obtain ⟨j, k, hj1, hj, rfl, hwr⟩ := hrel
      have hbD : Below w.heap.size w wr := by rw [hwr]; exact below_drewN hB3 _
      by_cases hlt : j < m + 1
      · have c1 : wr.cell? ⟨gl, ol + j * 3 + 2, none⟩ = some (.int .i64 (tB l j)) := by rw [hwr]; exact HTB.out j hlt
        have c2 : wr.cell? ⟨gl, ol + (j - 1) * 3 + 2, none⟩ = some (.int .i64 (tB l (j - 1))) := by rw [hwr]; exact HTB.out (j - 1) (by omega)
        have hup := tB_up l (i := j) (by omega) (by rw [HM.out]; exact hlt)
        have HW := Lib.hid hwr
        clear hwr
        obtain ⟨B, hB⟩ : ∃ B, tB l j = B := ⟨_, rfl⟩
        obtain ⟨C, hC⟩ : ∃ C, tB l (j - 1) = C := ⟨_, rfl⟩
        rw [hB] at c1 hup
        rw [hC] at c2 hup
        clear hB hC
        have f1 : decide (B < C) = false := decide_eq_false (by omega)
        have f2 : decide ((B : Int) < (C : Int)) = false := decide_eq_false (by omega)
        have f3 : ((B : Int) == (C : Int)) = false := by rw [beq_eq_false_iff_ne]; omega
        have f4 : (B == C) = false := by rw [beq_eq_false_iff_ne]; omega
        have f5 : (0 : Int) ≤ (j : Int) - 1 := by omega
        have f6 : (j : Int) - 1 < (m : Int) + 1 := by omega
        have f7 : (j : Int) < (m : Int) + 1 := by omega
        have s1 : IntKind.i64.wrap ((j : Int) - 1) = (j : Int) - 1 := IntWalk.i64_in _ (by omega)
        have s2 : ((j : Int) - 1).toNat = j - 1 := by omega
        go_wp2_with fail
        go_quiet (fail)
        clear s1 s2
        go_wp2_with fail
        go_roundw
        case rel => exact ⟨j + 1, _, by omega, by omega, by go_num, (congrArg (fun x => World.drewN x nq) HW.out).trans (World.drewN_drewN _ _ _)⟩
        case measure => simp [intOf]; omega
      · clear hwr
        go_wp2_with fail
        go_ret
        exact ⟨rfl, hbD⟩
end Go.Proofs.YtmlkfglnnepjjaaDoor
