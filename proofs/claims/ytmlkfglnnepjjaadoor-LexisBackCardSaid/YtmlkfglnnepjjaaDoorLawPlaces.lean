/- Layer 1, the statement LexisPlaces: the walk. -/
import Derived.Test.YtmlkfglnnepjjaaDoorSane
import Derived.Test.YtmlkfglnnepjjaaDoorPure
namespace Go.Proofs.YtmlkfglnnepjjaaDoor
open Go.RowKit

/-- token number i, the end included -/
theorem tkE_tok (l : List UInt8) {i : Nat} (hi : i < (toks l).length + 1) :
    ∃ kd : Int, ∃ n : Nat, tA (tkE l) i = (kd, mkS (sub l (tB l i) (tB l i + n)), (tB l i : Int)) ∧ tF l i = tB l i + n ∧ tF l i ≤ l.length ∧ ((kd = 4 ∧ n = 0) ∨ (kd ≠ 4 ∧ 0 < n)) := by
  rcases Nat.lt_or_ge i (toks l).length with h | h
  · have ht := (stand l).tok _ (List.getElem_mem h)
    refine ⟨(toks l)[i].1, (toks l)[i].2.2 - (toks l)[i].2.1, ?_, ?_, ?_, .inr ⟨by omega, by omega⟩⟩
    · have e : (toks l)[i].2.1 + ((toks l)[i].2.2 - (toks l)[i].2.1) = (toks l)[i].2.2 := by omega
      simp [tA, tkE, tB, List.getD, List.getElem?_append_left, h, e]
    · simp only [tF, tB, List.getElem?_eq_getElem h]; omega
    · simp only [tF, List.getElem?_eq_getElem h]; omega
  · have he : i = (toks l).length := by omega
    subst he
    refine ⟨4, 0, ?_, ?_, ?_, .inl ⟨rfl, rfl⟩⟩
    · rw [tkE_last]
      have hb : tB l (toks l).length = l.length := by simp [tB]
      rw [hb]
      simp [sub, mkS]
    · simp [tF, tB]
    · simp [tF]
theorem mkS_empty {l : List UInt8} {a n : Nat} (h : a + n ≤ l.length) : (mkS (sub l a (a + n))).toList.isEmpty = decide (n = 0) := by
  rw [toList_tx, tx_mkS, Bool.eq_iff_iff]
  simp [sub, List.isEmpty_iff, List.take_eq_nil_iff]
  omega



set_option maxRecDepth 100000 in
set_option maxHeartbeats 8000000 in
theorem lexisPlaces_any (l : List UInt8) (v : Value) (w : World) (hv : Sl w 1 v l.length (bc l)) (hT : TabW w) (hm : l.length ≤ maxLen) (hpos : 0 < l.length) :
    Calls Tryd.prog 7 #[v] w fun e w' => e = .returned (.bool true) ∧ Below w.heap.size w w' := by
  unfold maxLen at hm
  obtain ⟨a, cap, rfl⟩ := hv.form
  by_cases hl : 4000 < l.length
  · go_enter Tryd.func7, Tryd.ntmps7
    go_wp2_with fail
    refine (sane_any w hT).mono ?_
    rintro e w1 ⟨rfl, hb1⟩
    go_wp2_with fail
    go_ret
    exact ⟨rfl, hb1⟩
  obtain ⟨g, off, rfl, hcap, _⟩ := hv.pos hpos
  have hTw := TabW_lt hT
  have htl := toks_len l
  obtain ⟨K, hK⟩ : ∃ K, (bd64 l).length = K := ⟨_, rfl⟩
  have hK64 : K ≤ 64 := by rw [← hK, bd64]; simp; omega
  obtain ⟨m, hmm⟩ : ∃ m, (toks l).length = m := ⟨_, rfl⟩
  have hml : m ≤ 4000 := by omega
  have hd64 : decide ((64 : Int) < (K : Int)) = false := by simp; omega
  have hd4 : decide ((4000 : Int) < (l.length : Int)) = false := by simp; omega
  have hm0 : ((m : Int) + 1 == 0) = false := by rw [beq_eq_false_iff_ne]; omega
  have HK := Lib.hid hK
  have Hm := Lib.hid hmm
  clear htl
  go_enter Tryd.func7, Tryd.ntmps7
  go_wp2_with fail
  refine (sane_any w hT).mono ?_
  rintro e w1 ⟨rfl, hb1⟩
  have hv1 := hv.next hb1
  have hT1 := TabW_below hb1 hTw hT
  go_wp2_with fail
  refine (tokens_any l _ w1 hv1 (by omega) hT1).mono ?_
  rintro e w2 ⟨vl, vp, rfl, hl2, hp2, hb2⟩
  rw [← tkE_cells, ← tkE_len] at hl2
  change Sl w2 2 vp (bd64 l).length (pc (bd64 l)) at hp2
  have hv2 := hv1.next hb2
  have hB2 := hb1.trans (hb2.mono hb1.size)
  obtain ⟨al, cl, hvl⟩ := hl2.form
  subst hvl
  obtain ⟨gl, ol, rfl, hcl, hcells⟩ := hl2.toks (by rw [tkE_len]; omega)
  have htk : ∀ W, Below w2.heap.size w2 W → ∀ i, i < m + 1 → W.cell? ⟨gl, ol + i * 3, none⟩ = some (.int .i64 (tA (tkE l) i).1) ∧ W.cell? ⟨gl, ol + i * 3 + 1, none⟩ = some (.string (tA (tkE l) i).2.1) ∧ W.cell? ⟨gl, ol + i * 3 + 2, none⟩ = some (.int .i64 (tA (tkE l) i).2.2) := fun W hW i hi => by
    obtain ⟨h1, h2, h3⟩ := hcells i (by rw [tkE_len, hmm]; exact hi)
    have hlt := World.block_lt_of_cell? w2 _ h1
    rw [hW.cell (p := ⟨gl, ol + i * 3, none⟩) hlt, hW.cell (p := ⟨gl, ol + i * 3 + 1, none⟩) hlt, hW.cell (p := ⟨gl, ol + i * 3 + 2, none⟩) hlt]
    exact ⟨h1, h2, h3⟩
  have HTK := Lib.hid htk
  have hlast := htk w2 (Below.refl _ _) m (by omega)
  rw [← hmm, tkE_last] at hlast
  rw [hmm] at hlast
  obtain ⟨l0, l1, l2⟩ := hlast
  simp only [] at l0 l1 l2
  rw [tkE_len, hmm] at hcl
  rw [tkE_len, hmm]
  obtain ⟨ap, cp, hvp⟩ := hp2.form
  rw [hK] at hvp
  subst hvp
  clear hcells htk hmm hl2 hK
  go_wp2_with fail
  go_loopw [6, 7, 8] (fun en p i wr => ∃ ii pp : Nat, ii ≤ m + 1 ∧ pp ≤ K ∧ (∀ q, pp ≤ q → q < K → tP l ii ≤ (bd64 l).getD q 0) ∧ en = .int .i64 (tP l ii) ∧ p = .int .i64 pp ∧ i = .int .i64 ii ∧ Below w2.heap.size w2 wr) (fun _ _ i _ => m + 1 - (intOf i).toNat)
  case atStart => exact ⟨0, 0, by omega, by omega, fun q _ _ => Nat.zero_le _, rfl, rfl, rfl, Below.refl _ _⟩
  case round =>
    obtain ⟨ii, pp, hii, hpp, hge, rfl, rfl, rfl, hbw⟩ := hrel
    have Hge := Lib.hid hge
    clear hge l0 l1 l2
    by_cases hlt : ii < m + 1
    · obtain ⟨kd, n, htok, hF, hFl, hkn⟩ := tkE_tok l (i := ii) (by rw [Hm.out]; exact hlt)
      obtain ⟨c0, c1, c2⟩ := HTK.out wr hbw ii hlt
      rw [htok] at c0 c1 c2
      simp only [] at c0 c1 c2
      have hPB := tP_le l ii (by rw [Hm.out]; omega)
      have hvr := hv2.next hbw
      have hBn : tB l ii + n ≤ l.length := by omega
      have hsub : ∀ W, Below wr.heap.size wr W → (convert 22 9 (.slice (some ⟨g, off + tB l ii, none⟩) n (cap - tB l ii))).run Tryd.prog W = .ok (.string (mkS (sub l (tB l ii) (tB l ii + n)))) W := fun W hW => by
        have h := conv_sub (hvr.next hW) (a := tB l ii) (b := tB l ii + n) (by omega) hBn
        rwa [show tB l ii + n - tB l ii = n by omega] at h
      have hconv := fun nq => hsub ((wr.alloc (.cells #[.int .i64 kd, .string (mkS (sub l (tB l ii) (tB l ii + n))), .int .i64 (tB l ii)] 35)).drewN nq) (below_drewN (below_one _ _) _)
      have hsz : (mkS (sub l (tB l ii) (tB l ii + n))).size = n := by rw [size_mkS, sub_len hBn]; omega
      have hemp := mkS_empty (l := l) (a := tB l ii) (n := n) hBn
      have HF := Lib.hid hF
      have Htok := Lib.hid htok
      clear hsub htok hF
      obtain ⟨B, hB⟩ : ∃ B, tB l ii = B := ⟨_, rfl⟩
      obtain ⟨Pv, hPv⟩ : ∃ P, tP l ii = P := ⟨_, rfl⟩
      have HBe := Lib.hid hB
      have HPe := Lib.hid hPv
      rw [hB] at c1 c2 hPB hBn hconv hsz hemp
      rw [hPv] at hPB
      obtain ⟨s, hs⟩ : ∃ s, mkS (sub l B (B + n)) = s := ⟨_, rfl⟩
      rw [hs] at c1 hconv hsz hemp
      simp only [hPv]
      have HSe := Lib.hid hs
      clear hB hPv hs
      have e1 : decide (B < Pv) = false := decide_eq_false (by omega)
      have e2 : decide (l.length < B) = false := decide_eq_false (by omega)
      have e3 : decide ((l.length : Int) - (B : Int) < (n : Int)) = false := decide_eq_false (by omega)
      have e4 : n = 0 → decide ((l.length : Int) - (B : Int) < 0) = false := fun _ => decide_eq_false (by omega)
      have i1 : (0 : Int) ≤ (B : Int) := by omega
      have i2 : (B : Int) ≤ (B : Int) + (n : Int) := by omega
      have i3 : (B : Int) + (n : Int) ≤ (cap : Int) := by omega
      have i4 : (B : Int) ≤ (cap : Int) := by omega
      have s1 : IntKind.i64.wrap ((l.length : Int) - (B : Int)) = (l.length : Int) - (B : Int) := IntWalk.i64_in _ (by omega)
      have s2 : IntKind.i64.wrap ((B : Int) + (n : Int)) = (B : Int) + (n : Int) := IntWalk.i64_in _ (by omega)
      have s3 : IntKind.i64.wrap (B : Int) = (B : Int) := IntWalk.i64_in _ (by omega)
      have s4 : ((B : Int) + (n : Int)).toNat = B + n := by omega
      have s5 : (0 : Int) ≤ (B : Int) + (n : Int) := by omega
      rcases hkn with ⟨rfl, rfl⟩ | ⟨hk4, hn0⟩
      · have e5 := e4 rfl
        have hs0 : s = mkS ([] : List UInt8) := by rw [← HSe.out]; simp [sub]
        have hconv0 : ∀ W (x : Option Addr) (c : Nat), (convert 22 9 (.slice x 0 c)).run Tryd.prog W = .ok (.string s) W := fun W x c => by
          rw [hs0]
          exact conv_bytes (l := []) ⟨by simp [bc], x, c, rfl, Nat.zero_le _, .inl rfl⟩
        clear e4 hconv hs0
        by_cases hcB : B = cap
        · subst hcB
          go_wp2_with fail
          go_quiet (fail)
          clear s1 s2 s3 s4 s5 e5
          go_wp2_with fail
          go_loopw [7] (fun p wi => ∃ p2 k : Nat, p2 ≤ K ∧ (∀ q, p2 ≤ q → q < K → Pv ≤ (bd64 l).getD q 0) ∧ p = .int .i64 p2 ∧ wi = (wr.alloc (.cells #[.int .i64 4, .string s, .int .i64 (B : Int)] 35)).drewN k) (fun p _ => K - (intOf p).toNat)
          case atStart => exact ⟨pp, _, hpp, fun q h1 h2 => by have := Hge.out q h1 h2; rw [HPe.out] at this; exact this, rfl, rfl⟩
          case round =>
            obtain ⟨p2, k, hp2K, hge2, rfl, rfl⟩ := hrel
            have Hge2 := Lib.hid hge2
            clear hge2
            have hWb : Below w2.heap.size w2 (wr.alloc (.cells #[.int .i64 4, .string s, .int .i64 (B : Int)] 35)) := hbw.alloc hbw.size _
            by_cases hlt2 : p2 < K
            · have hpn := hp2.next (hbw.alloc hbw.size (.cells #[.int .i64 4, .string s, .int .i64 (B : Int)] 35))
              rw [HK.out] at hpn
              have hpn2 : Sl (wr.alloc (.cells #[.int .i64 4, .string s, .int .i64 (B : Int)] 35)) 2 (.slice ap (bd64 l).length cp) (bd64 l).length (pc (bd64 l)) := by rw [HK.out]; exact hpn
              obtain ⟨gp, op, rfl, hcp, hpc⟩ := hpn2.probs (by rw [HK.out]; omega)
              obtain ⟨b0, b1⟩ := hpc p2 (by rw [HK.out]; exact hlt2)
              have hbp := Hge2.out p2 (Nat.le_refl _) hlt2
              rw [HK.out] at hcp
              have g1 : decide (p2 < K) = true := decide_eq_true hlt2
              have g2 : decide ((p2 : Int) < (K : Int)) = true := decide_eq_true (by omega)
              by_cases hz : p2 = 0
              · subst hz
                obtain ⟨bp, hbpe⟩ : ∃ b, (bd64 l).getD 0 0 = b := ⟨_, rfl⟩
                rw [hbpe] at b0 hbp
                simp only [Nat.zero_mul, Nat.add_zero] at b0 b1
                have Hbpe := Lib.hid hbpe
                clear hbpe hpc hpn hpn2
                have f1 : decide (bp < Pv) = false := decide_eq_false (by omega)
                have g3 : decide ((0 : Int) < (K : Int)) = true := decide_eq_true (by omega)
                by_cases hBp : bp < B
                · have g4 : decide (bp < B) = true := decide_eq_true hBp
                  go_wp2_with fail
                  go_quiet (fail)
                  go_wp2_with fail
                  go_quiet (fail)
                  go_wp2_with fail
                  go_roundw
                  case rel => exact ⟨1, _, by omega, fun q h1 h2 => Hge2.out q (by omega) h2, rfl, rfl⟩
                  case measure => simp [intOf]; omega
                · go_wp2_with fail
                  go_quiet (fail)
                  go_wp2_with fail
                  go_roundw
                  case rel => exact ⟨ii + 1, 0, by omega, by omega, fun q h1 h2 => by
                      have hq : (bd64 l).getD 0 0 ≤ (bd64 l).getD q 0 := by
                        rcases Nat.lt_or_ge 0 q with h | h
                        · exact Nat.le_of_lt (bd64_up l h (by rw [HK.out]; exact h2))
                        · have he : q = 0 := by omega
                          rw [he]; exact Nat.le_refl _
                      have hx := Hbpe.out
                      exact bd64_apart l (by rw [HK.out]; exact h2) (by rw [HBe.out]; omega), by rw [tP, HF.out, HBe.out]; go_num, rfl, by go_num, below_drewN hWb _⟩
                  case measure => simp [intOf]; omega
              · have hlt3 := bd64_up l (p := p2 - 1) (q := p2) (by omega) (by rw [HK.out]; exact hlt2)
                obtain ⟨d0, d1⟩ := hpc (p2 - 1) (by rw [HK.out]; omega)
                obtain ⟨bp, hbpe⟩ : ∃ b, (bd64 l).getD p2 0 = b := ⟨_, rfl⟩
                obtain ⟨bq, hbqe⟩ : ∃ b, (bd64 l).getD (p2 - 1) 0 = b := ⟨_, rfl⟩
                rw [hbpe] at b0 hbp hlt3
                rw [hbqe] at d0 hlt3
                have Hbpe := Lib.hid hbpe
                clear hbpe hbqe hpc hpn hpn2
                have f1 : decide (bp < Pv) = false := decide_eq_false (by omega)
                have f2 : decide (bp ≤ bq) = false := decide_eq_false (by omega)
                have f3 : decide ((0 : Int) < (p2 : Int)) = true := decide_eq_true (by omega)
                have f4 : decide (0 < p2) = true := decide_eq_true (by omega)
                have f5 : (0 : Int) ≤ (p2 : Int) - 1 := by omega
                have f6 : (p2 : Int) - 1 < (K : Int) := by omega
                by_cases hBp : bp < B
                · have s1 : IntKind.i64.wrap ((p2 : Int) - 1) = (p2 : Int) - 1 := IntWalk.i64_in _ (by omega)
                  have s2 : ((p2 : Int) - 1).toNat = p2 - 1 := by omega
                  go_wp2_with fail
                  go_quiet (fail)
                  go_wp2_with fail
                  go_quiet (fail)
                  clear s1 s2
                  go_wp2_with fail
                  go_roundw
                  case rel => exact ⟨p2 + 1, _, by omega, fun q h1 h2 => Hge2.out q (by omega) h2, by go_num, rfl⟩
                  case measure => simp [intOf]; omega
                · go_wp2_with fail
                  go_quiet (fail)
                  go_wp2_with fail
                  go_roundw
                  case rel => exact ⟨ii + 1, p2, by omega, by omega, fun q h1 h2 => by
                      have hq : (bd64 l).getD p2 0 ≤ (bd64 l).getD q 0 := by
                        rcases Nat.lt_or_ge p2 q with h | h
                        · exact Nat.le_of_lt (bd64_up l h (by rw [HK.out]; exact h2))
                        · have he : q = p2 := by omega
                          rw [he]; exact Nat.le_refl _
                      have hx := Hbpe.out
                      exact bd64_apart l (by rw [HK.out]; exact h2) (by rw [HBe.out]; omega), by rw [tP, HF.out, HBe.out]; go_num, rfl, by go_num, below_drewN hWb _⟩
                  case measure => simp [intOf]; omega
            · have g1 : decide (p2 < K) = false := decide_eq_false hlt2
              go_wp2_with fail
              go_quiet (fail)
              go_wp2_with fail
              go_roundw
              case rel => exact ⟨ii + 1, p2, by omega, by omega, fun q h1 h2 => by omega, by rw [tP, HF.out, HBe.out]; go_num, rfl, by go_num, below_drewN hWb _⟩
              case measure => simp [intOf]; omega
        · have hcB2 : ¬ cap = B := fun h => hcB h.symm
          clear hcB
          go_wp2_with fail
          go_quiet (fail)
          clear s1 s2 s3 s4 s5 e5
          go_wp2_with fail
          go_loopw [7] (fun p wi => ∃ p2 k : Nat, p2 ≤ K ∧ (∀ q, p2 ≤ q → q < K → Pv ≤ (bd64 l).getD q 0) ∧ p = .int .i64 p2 ∧ wi = (wr.alloc (.cells #[.int .i64 4, .string s, .int .i64 (B : Int)] 35)).drewN k) (fun p _ => K - (intOf p).toNat)
          case atStart => exact ⟨pp, _, hpp, fun q h1 h2 => by have := Hge.out q h1 h2; rw [HPe.out] at this; exact this, rfl, rfl⟩
          case round =>
            obtain ⟨p2, k, hp2K, hge2, rfl, rfl⟩ := hrel
            have Hge2 := Lib.hid hge2
            clear hge2
            have hWb : Below w2.heap.size w2 (wr.alloc (.cells #[.int .i64 4, .string s, .int .i64 (B : Int)] 35)) := hbw.alloc hbw.size _
            by_cases hlt2 : p2 < K
            · have hpn := hp2.next (hbw.alloc hbw.size (.cells #[.int .i64 4, .string s, .int .i64 (B : Int)] 35))
              rw [HK.out] at hpn
              have hpn2 : Sl (wr.alloc (.cells #[.int .i64 4, .string s, .int .i64 (B : Int)] 35)) 2 (.slice ap (bd64 l).length cp) (bd64 l).length (pc (bd64 l)) := by rw [HK.out]; exact hpn
              obtain ⟨gp, op, rfl, hcp, hpc⟩ := hpn2.probs (by rw [HK.out]; omega)
              obtain ⟨b0, b1⟩ := hpc p2 (by rw [HK.out]; exact hlt2)
              have hbp := Hge2.out p2 (Nat.le_refl _) hlt2
              rw [HK.out] at hcp
              have g1 : decide (p2 < K) = true := decide_eq_true hlt2
              have g2 : decide ((p2 : Int) < (K : Int)) = true := decide_eq_true (by omega)
              by_cases hz : p2 = 0
              · subst hz
                obtain ⟨bp, hbpe⟩ : ∃ b, (bd64 l).getD 0 0 = b := ⟨_, rfl⟩
                rw [hbpe] at b0 hbp
                simp only [Nat.zero_mul, Nat.add_zero] at b0 b1
                have Hbpe := Lib.hid hbpe
                clear hbpe hpc hpn hpn2
                have f1 : decide (bp < Pv) = false := decide_eq_false (by omega)
                have g3 : decide ((0 : Int) < (K : Int)) = true := decide_eq_true (by omega)
                by_cases hBp : bp < B
                · have g4 : decide (bp < B) = true := decide_eq_true hBp
                  go_wp2_with fail
                  go_quiet (fail)
                  go_wp2_with fail
                  go_quiet (fail)
                  go_wp2_with fail
                  go_roundw
                  case rel => exact ⟨1, _, by omega, fun q h1 h2 => Hge2.out q (by omega) h2, rfl, rfl⟩
                  case measure => simp [intOf]; omega
                · go_wp2_with fail
                  go_quiet (fail)
                  go_wp2_with fail
                  go_roundw
                  case rel => exact ⟨ii + 1, 0, by omega, by omega, fun q h1 h2 => by
                      have hq : (bd64 l).getD 0 0 ≤ (bd64 l).getD q 0 := by
                        rcases Nat.lt_or_ge 0 q with h | h
                        · exact Nat.le_of_lt (bd64_up l h (by rw [HK.out]; exact h2))
                        · have he : q = 0 := by omega
                          rw [he]; exact Nat.le_refl _
                      have hx := Hbpe.out
                      exact bd64_apart l (by rw [HK.out]; exact h2) (by rw [HBe.out]; omega), by rw [tP, HF.out, HBe.out]; go_num, rfl, by go_num, below_drewN hWb _⟩
                  case measure => simp [intOf]; omega
              · have hlt3 := bd64_up l (p := p2 - 1) (q := p2) (by omega) (by rw [HK.out]; exact hlt2)
                obtain ⟨d0, d1⟩ := hpc (p2 - 1) (by rw [HK.out]; omega)
                obtain ⟨bp, hbpe⟩ : ∃ b, (bd64 l).getD p2 0 = b := ⟨_, rfl⟩
                obtain ⟨bq, hbqe⟩ : ∃ b, (bd64 l).getD (p2 - 1) 0 = b := ⟨_, rfl⟩
                rw [hbpe] at b0 hbp hlt3
                rw [hbqe] at d0 hlt3
                have Hbpe := Lib.hid hbpe
                clear hbpe hbqe hpc hpn hpn2
                have f1 : decide (bp < Pv) = false := decide_eq_false (by omega)
                have f2 : decide (bp ≤ bq) = false := decide_eq_false (by omega)
                have f3 : decide ((0 : Int) < (p2 : Int)) = true := decide_eq_true (by omega)
                have f4 : decide (0 < p2) = true := decide_eq_true (by omega)
                have f5 : (0 : Int) ≤ (p2 : Int) - 1 := by omega
                have f6 : (p2 : Int) - 1 < (K : Int) := by omega
                by_cases hBp : bp < B
                · have s1 : IntKind.i64.wrap ((p2 : Int) - 1) = (p2 : Int) - 1 := IntWalk.i64_in _ (by omega)
                  have s2 : ((p2 : Int) - 1).toNat = p2 - 1 := by omega
                  go_wp2_with fail
                  go_quiet (fail)
                  go_wp2_with fail
                  go_quiet (fail)
                  clear s1 s2
                  go_wp2_with fail
                  go_roundw
                  case rel => exact ⟨p2 + 1, _, by omega, fun q h1 h2 => Hge2.out q (by omega) h2, by go_num, rfl⟩
                  case measure => simp [intOf]; omega
                · go_wp2_with fail
                  go_quiet (fail)
                  go_wp2_with fail
                  go_roundw
                  case rel => exact ⟨ii + 1, p2, by omega, by omega, fun q h1 h2 => by
                      have hq : (bd64 l).getD p2 0 ≤ (bd64 l).getD q 0 := by
                        rcases Nat.lt_or_ge p2 q with h | h
                        · exact Nat.le_of_lt (bd64_up l h (by rw [HK.out]; exact h2))
                        · have he : q = p2 := by omega
                          rw [he]; exact Nat.le_refl _
                      have hx := Hbpe.out
                      exact bd64_apart l (by rw [HK.out]; exact h2) (by rw [HBe.out]; omega), by rw [tP, HF.out, HBe.out]; go_num, rfl, by go_num, below_drewN hWb _⟩
                  case measure => simp [intOf]; omega
            · have g1 : decide (p2 < K) = false := decide_eq_false hlt2
              go_wp2_with fail
              go_quiet (fail)
              go_wp2_with fail
              go_roundw
              case rel => exact ⟨ii + 1, p2, by omega, by omega, fun q h1 h2 => by omega, by rw [tP, HF.out, HBe.out]; go_num, rfl, by go_num, below_drewN hWb _⟩
              case measure => simp [intOf]; omega
      · have hkb : (kd != 4) = true := by simp [hk4]
        have hem2 : s.toList.isEmpty = false := by rw [hemp]; simp; omega
        have hcB : ¬ cap = B := by omega
        clear hemp hk4 e4
        go_wp2_with fail
        go_quiet (fail)
        clear s1 s2 s3 s4 s5
        go_wp2_with fail
        go_loopw [7] (fun p wi => ∃ p2 k : Nat, p2 ≤ K ∧ (∀ q, p2 ≤ q → q < K → Pv ≤ (bd64 l).getD q 0) ∧ p = .int .i64 p2 ∧ wi = (wr.alloc (.cells #[.int .i64 kd, .string s, .int .i64 (B : Int)] 35)).drewN k) (fun p _ => K - (intOf p).toNat)
        case atStart => exact ⟨pp, _, hpp, fun q h1 h2 => by have := Hge.out q h1 h2; rw [HPe.out] at this; exact this, rfl, rfl⟩
        case round =>
          obtain ⟨p2, k, hp2K, hge2, rfl, rfl⟩ := hrel
          have Hge2 := Lib.hid hge2
          clear hge2
          have hWb : Below w2.heap.size w2 (wr.alloc (.cells #[.int .i64 kd, .string s, .int .i64 (B : Int)] 35)) := hbw.alloc hbw.size _
          by_cases hlt2 : p2 < K
          · have hpn := hp2.next (hbw.alloc hbw.size (.cells #[.int .i64 kd, .string s, .int .i64 (B : Int)] 35))
            rw [HK.out] at hpn
            have hpn2 : Sl (wr.alloc (.cells #[.int .i64 kd, .string s, .int .i64 (B : Int)] 35)) 2 (.slice ap (bd64 l).length cp) (bd64 l).length (pc (bd64 l)) := by rw [HK.out]; exact hpn
            obtain ⟨gp, op, rfl, hcp, hpc⟩ := hpn2.probs (by rw [HK.out]; omega)
            obtain ⟨b0, b1⟩ := hpc p2 (by rw [HK.out]; exact hlt2)
            have hbp := Hge2.out p2 (Nat.le_refl _) hlt2
            rw [HK.out] at hcp
            have g1 : decide (p2 < K) = true := decide_eq_true hlt2
            have g2 : decide ((p2 : Int) < (K : Int)) = true := decide_eq_true (by omega)
            by_cases hz : p2 = 0
            · subst hz
              obtain ⟨bp, hbpe⟩ : ∃ b, (bd64 l).getD 0 0 = b := ⟨_, rfl⟩
              rw [hbpe] at b0 hbp
              simp only [Nat.zero_mul, Nat.add_zero] at b0 b1
              have Hbpe := Lib.hid hbpe
              clear hbpe hpc hpn hpn2
              have f1 : decide (bp < Pv) = false := decide_eq_false (by omega)
              have g3 : decide ((0 : Int) < (K : Int)) = true := decide_eq_true (by omega)
              by_cases hBp : bp < B
              · have g4 : decide (bp < B) = true := decide_eq_true hBp
                go_wp2_with fail
                go_quiet (fail)
                go_wp2_with fail
                go_quiet (fail)
                go_wp2_with fail
                go_roundw
                case rel => exact ⟨1, _, by omega, fun q h1 h2 => Hge2.out q (by omega) h2, rfl, rfl⟩
                case measure => simp [intOf]; omega
              · go_wp2_with fail
                go_quiet (fail)
                go_wp2_with fail
                go_roundw
                case rel => exact ⟨ii + 1, 0, by omega, by omega, fun q h1 h2 => by
                    have hq : (bd64 l).getD 0 0 ≤ (bd64 l).getD q 0 := by
                      rcases Nat.lt_or_ge 0 q with h | h
                      · exact Nat.le_of_lt (bd64_up l h (by rw [HK.out]; exact h2))
                      · have he : q = 0 := by omega
                        rw [he]; exact Nat.le_refl _
                    have hx := Hbpe.out
                    exact bd64_apart l (by rw [HK.out]; exact h2) (by rw [HBe.out]; omega), by rw [tP, HF.out, HBe.out]; go_num, rfl, by go_num, below_drewN hWb _⟩
                case measure => simp [intOf]; omega
            · have hlt3 := bd64_up l (p := p2 - 1) (q := p2) (by omega) (by rw [HK.out]; exact hlt2)
              obtain ⟨d0, d1⟩ := hpc (p2 - 1) (by rw [HK.out]; omega)
              obtain ⟨bp, hbpe⟩ : ∃ b, (bd64 l).getD p2 0 = b := ⟨_, rfl⟩
              obtain ⟨bq, hbqe⟩ : ∃ b, (bd64 l).getD (p2 - 1) 0 = b := ⟨_, rfl⟩
              rw [hbpe] at b0 hbp hlt3
              rw [hbqe] at d0 hlt3
              have Hbpe := Lib.hid hbpe
              clear hbpe hbqe hpc hpn hpn2
              have f1 : decide (bp < Pv) = false := decide_eq_false (by omega)
              have f2 : decide (bp ≤ bq) = false := decide_eq_false (by omega)
              have f3 : decide ((0 : Int) < (p2 : Int)) = true := decide_eq_true (by omega)
              have f4 : decide (0 < p2) = true := decide_eq_true (by omega)
              have f5 : (0 : Int) ≤ (p2 : Int) - 1 := by omega
              have f6 : (p2 : Int) - 1 < (K : Int) := by omega
              by_cases hBp : bp < B
              · have s1 : IntKind.i64.wrap ((p2 : Int) - 1) = (p2 : Int) - 1 := IntWalk.i64_in _ (by omega)
                have s2 : ((p2 : Int) - 1).toNat = p2 - 1 := by omega
                go_wp2_with fail
                go_quiet (fail)
                go_wp2_with fail
                go_quiet (fail)
                clear s1 s2
                go_wp2_with fail
                go_roundw
                case rel => exact ⟨p2 + 1, _, by omega, fun q h1 h2 => Hge2.out q (by omega) h2, by go_num, rfl⟩
                case measure => simp [intOf]; omega
              · go_wp2_with fail
                go_quiet (fail)
                go_wp2_with fail
                go_roundw
                case rel => exact ⟨ii + 1, p2, by omega, by omega, fun q h1 h2 => by
                    have hq : (bd64 l).getD p2 0 ≤ (bd64 l).getD q 0 := by
                      rcases Nat.lt_or_ge p2 q with h | h
                      · exact Nat.le_of_lt (bd64_up l h (by rw [HK.out]; exact h2))
                      · have he : q = p2 := by omega
                        rw [he]; exact Nat.le_refl _
                    have hx := Hbpe.out
                    exact bd64_apart l (by rw [HK.out]; exact h2) (by rw [HBe.out]; omega), by rw [tP, HF.out, HBe.out]; go_num, rfl, by go_num, below_drewN hWb _⟩
                case measure => simp [intOf]; omega
          · have g1 : decide (p2 < K) = false := decide_eq_false hlt2
            go_wp2_with fail
            go_quiet (fail)
            go_wp2_with fail
            go_roundw
            case rel => exact ⟨ii + 1, p2, by omega, by omega, fun q h1 h2 => by omega, by rw [tP, HF.out, HBe.out]; go_num, rfl, by go_num, below_drewN hWb _⟩
            case measure => simp [intOf]; omega
    · have hiim : ii = m + 1 := by omega
      have hppK : pp = K := by
        rcases Nat.lt_or_ge pp K with h | h
        · have h1 := Hge.out pp (Nat.le_refl _) h
          have h2 := bd64_lt l (q := pp) (by rw [HK.out]; exact h)
          rw [hiim, tP] at h1
          have h3 : tF l m = l.length := by rw [← Hm.out]; simp [tF]
          omega
        · omega
      subst hppK
      go_wp2_with fail
      go_ret
      exact ⟨ret_bool (by simp), hB2.trans (hbw.mono hB2.size)⟩
end Go.Proofs.YtmlkfglnnepjjaaDoor
