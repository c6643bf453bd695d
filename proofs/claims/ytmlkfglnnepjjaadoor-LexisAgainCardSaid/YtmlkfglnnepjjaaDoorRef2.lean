/- Layer 1, the reference: words, integers, signs. -/
import Derived.Test.YtmlkfglnnepjjaaDoorRef
namespace Go.Proofs.YtmlkfglnnepjjaaDoor
open Go.RowKit


set_option maxRecDepth 100000 in
theorem simple_any (l : List UInt8) (v : Value) (k : Nat) (w : World) (hv : Sl w 1 v l.length (bc l)) (hs : l.length ≤ 1000000000) (hk : k ≤ l.length) :
    Calls Tryd.prog 45 #[v, .int .i64 k] w fun e w' => e = .returned (.int .i64 (smp l k)) ∧ w = w' := by
  obtain ⟨a, cap, rfl⟩ := hv.form
  by_cases hlt : k < l.length
  · obtain ⟨g, off, rfl, hcap, hc⟩ := hv.pos (by omega)
    have hck := hc k hlt
    have hdk : decide (l.length ≤ k) = false := by simp; omega
    have Hc := Lib.hid hc
    clear hc
    cases hw : wst (bA l k)
    · have h1 : lt (bA l k) = false := by simp [wst] at hw; exact hw.1
      have h2 : (bA l k != 95) = true := by simp [wst] at hw; simp [hw.2]
      have hfin := Lib.hid (smp_no hw)
      have H1 := Lib.hid h1
      clear hw h1
      go_enter Tryd.func45, Tryd.ntmps45
      go_wp2_with (first | (go_at_call 46; refine (letter_any _ _).mono ?_; rw [H1.out]; rintro e w' ⟨rfl, rfl⟩))
      go_ret
      exact ⟨ret_int (by rw [hfin.out]), rfl⟩
    · have hfin : smp l k = run inn l k := by rw [smp, if_pos hw]
      rw [hfin]
      clear hfin
      cases h1 : lt (bA l k)
      · have h2 : (bA l k != 95) = false := by simp [wst, h1] at hw; simp [hw]
        have H1 := Lib.hid h1
        clear hw h1
        go_enter Tryd.func45, Tryd.ntmps45
        go_wp2_with (first | (go_at_call 46; refine (letter_any _ _).mono ?_; rw [H1.out]; rintro e w' ⟨rfl, rfl⟩))
        go_loop [1] (fun i => ∃ j : Nat, j ≤ l.length ∧ run inn l k = run inn l j ∧ i = .int .i64 j) (fun i => l.length - (intOf i).toNat)
        case atStart => exact ⟨k, by omega, rfl, rfl⟩
        case round =>
          obtain ⟨j, hj, hr, rfl⟩ := hrel
          have Hr := Lib.hid hr
          clear hr hck
          by_cases hlt2 : j < l.length
          · have hcj := Hc.out j hlt2
            cases hi : inn (bA l j)
            · have Hi := Lib.hid hi
              clear hi
              go_wp2_with (first | (go_at_call 38; refine (inner_any _ _).mono ?_; rw [Hi.out]; rintro e w' ⟨rfl, rfl⟩))
              go_ret
              exact ⟨ret_int (by rw [Hr.out, run_stop Hi.out]), rfl⟩
            · have Hi := Lib.hid hi
              clear hi
              go_wp2_with (first | (go_at_call 38; refine (inner_any _ _).mono ?_; rw [Hi.out]; rintro e w' ⟨rfl, rfl⟩))
              go_round
              case rel => exact ⟨j + 1, by omega, by rw [Hr.out]; exact run_step hlt2 Hi.out, by go_num⟩
              case measure => simp [intOf]; omega
          · go_wp2_with fail
            go_ret
            exact ⟨ret_int (by rw [Hr.out, run_end (by omega)]), rfl⟩
      · have H1 := Lib.hid h1
        clear hw h1
        go_enter Tryd.func45, Tryd.ntmps45
        go_wp2_with (first | (go_at_call 46; refine (letter_any _ _).mono ?_; rw [H1.out]; rintro e w' ⟨rfl, rfl⟩))
        go_loop [1] (fun i => ∃ j : Nat, j ≤ l.length ∧ run inn l k = run inn l j ∧ i = .int .i64 j) (fun i => l.length - (intOf i).toNat)
        case atStart => exact ⟨k, by omega, rfl, rfl⟩
        case round =>
          obtain ⟨j, hj, hr, rfl⟩ := hrel
          have Hr := Lib.hid hr
          clear hr hck
          by_cases hlt2 : j < l.length
          · have hcj := Hc.out j hlt2
            cases hi : inn (bA l j)
            · have Hi := Lib.hid hi
              clear hi
              go_wp2_with (first | (go_at_call 38; refine (inner_any _ _).mono ?_; rw [Hi.out]; rintro e w' ⟨rfl, rfl⟩))
              go_ret
              exact ⟨ret_int (by rw [Hr.out, run_stop Hi.out]), rfl⟩
            · have Hi := Lib.hid hi
              clear hi
              go_wp2_with (first | (go_at_call 38; refine (inner_any _ _).mono ?_; rw [Hi.out]; rintro e w' ⟨rfl, rfl⟩))
              go_round
              case rel => exact ⟨j + 1, by omega, by rw [Hr.out]; exact run_step hlt2 Hi.out, by go_num⟩
              case measure => simp [intOf]; omega
          · go_wp2_with fail
            go_ret
            exact ⟨ret_int (by rw [Hr.out, run_end (by omega)]), rfl⟩
  · have hfin := Lib.hid (smp_no (l := l) (k := k) (by rw [bA_ge (by omega)]; decide))
    go_enter Tryd.func45, Tryd.ntmps45
    go_wp2_with fail
    go_ret
    exact ⟨ret_int (by rw [hfin.out]), rfl⟩

set_option maxRecDepth 100000 in
theorem word_any (l : List UInt8) (v : Value) (k : Nat) (w : World) (hv : Sl w 1 v l.length (bc l)) (hs : l.length ≤ 1000000000) (hk : k ≤ l.length) :
    Calls Tryd.prog 36 #[v, .int .i64 k] w fun e w' => e = .returned (.int .i64 (wrd l k)) ∧ w = w' := by
  have hW : wrd l k = if k < smp l k ∧ bA l (smp l k) = 58 ∧ lt (bA l (smp l k + 1)) = true then smp l (smp l k + 1) else smp l k := rfl
  have hS := simple_any l v k w hv hs hk
  have hle := smp_le hk
  have hge := smp_ge l k
  have HW := Lib.hid hW
  clear hW
  have HS := Lib.hid hS
  clear hS
  obtain ⟨a, cap, rfl⟩ := hv.form
  obtain ⟨m, hm⟩ : ∃ m, m = smp l k := ⟨_, rfl⟩
  rw [← hm] at HS HW hle hge
  clear hm
  by_cases hgt : k < m
  · by_cases hlt : m + 1 < l.length
    · obtain ⟨g, off, rfl, hcap, hc⟩ := hv.pos (by omega)
      have hc1 := hc m (by omega)
      have hc2 := hc (m + 1) hlt
      have hc2' : w.cell? ⟨g, off + m + 1, none⟩ = some (.int .u8 (bA l (m + 1))) := by rw [Nat.add_assoc]; exact hc2
      clear hc
      by_cases h58 : bA l m = 58
      · have h58b : (bA l m == 58) = true := by simp [h58]
        have H58 := Lib.hid h58
        clear h58
        cases hl : lt (bA l (m + 1))
        · have hfin : wrd l k = m := by rw [HW.out, if_neg (by rw [hl]; simp)]
          have HF := Lib.hid hfin
          have HL := Lib.hid hl
          clear hfin hl
          go_enter Tryd.func36, Tryd.ntmps36
          go_wp2_with (first | (go_at_call 46; refine (letter_any _ _).mono ?_; rw [HL.out]; rintro e w' ⟨rfl, rfl⟩) | (go_at_call 45; refine (HS.out).mono ?_; rintro e w' ⟨rfl, rfl⟩))
          go_ret
          exact ⟨ret_int (by rw [HF.out]), rfl⟩
        · have hfin : wrd l k = smp l (m + 1) := by rw [HW.out, if_pos ⟨hgt, H58.out, hl⟩]
          have HF := Lib.hid hfin
          have HL := Lib.hid hl
          have HS2 := Lib.hid (simple_any l _ (m + 1) w hv hs (by omega))
          clear hfin hl
          go_enter Tryd.func36, Tryd.ntmps36
          go_wp2_with fail
          refine (HS.out).mono ?_
          rintro e w' ⟨rfl, rfl⟩
          go_wp2_with (first | (go_at_call 46; refine (letter_any _ _).mono ?_; rw [HL.out]; rintro e w' ⟨rfl, rfl⟩) | (go_at_call 45; refine (HS2.out).mono ?_; rintro e w' ⟨rfl, rfl⟩))
          go_ret
          exact ⟨ret_int (by rw [HF.out]), rfl⟩
      · have h58b : (bA l m == 58) = false := by simp [h58]
        have hfin : wrd l k = m := by rw [HW.out, if_neg (fun h => h58 h.2.1)]
        have HF := Lib.hid hfin
        clear hfin h58
        go_enter Tryd.func36, Tryd.ntmps36
        go_wp2_with (first | (go_at_call 45; refine (HS.out).mono ?_; rintro e w' ⟨rfl, rfl⟩))
        go_ret
        exact ⟨ret_int (by rw [HF.out]), rfl⟩
    · have hfin : wrd l k = m := by rw [HW.out, if_neg (fun h => by have h2 := h.2.2; rw [bA_ge (by omega)] at h2; exact absurd h2 (by decide))]
      have HF := Lib.hid hfin
      clear hfin
      go_enter Tryd.func36, Tryd.ntmps36
      go_wp2_with (first | (go_at_call 45; refine (HS.out).mono ?_; rintro e w' ⟨rfl, rfl⟩))
      go_ret
      exact ⟨ret_int (by rw [HF.out]), rfl⟩
  · have hfin : wrd l k = m := by rw [HW.out, if_neg (fun h => hgt h.1)]
    have HF := Lib.hid hfin
    clear hfin
    go_enter Tryd.func36, Tryd.ntmps36
    go_wp2_with (first | (go_at_call 45; refine (HS.out).mono ?_; rintro e w' ⟨rfl, rfl⟩))
    go_ret
    exact ⟨ret_int (by rw [HF.out]), rfl⟩
end Go.Proofs.YtmlkfglnnepjjaaDoor
