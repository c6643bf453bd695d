/- Layer 1, the reference: contracts of its scanner over a slice of bytes. -/
import Derived.Test.YtmlkfglnnepjjaaDoorLeaf
import Derived.Test.YtmlkfglnnepjjaaDoorByt
namespace Go.Proofs.YtmlkfglnnepjjaaDoor
open Go.RowKit

set_option maxRecDepth 100000 in
theorem skipped_any (l : List UInt8) (v : Value) (k : Nat) (w : World) (hv : Sl w 1 v l.length (bc l)) (hs : l.length ≤ 1000000000) (hk : k ≤ l.length) :
    Calls Tryd.prog 27 #[v, .int .i64 k] w fun e w' => e = .returned (.int .i64 (sk false l k)) ∧ w = w' := by
  obtain ⟨a, cap, rfl⟩ := hv.form
  go_enter Tryd.func27, Tryd.ntmps27
  go_wp2_with fail
  go_loop [1] (fun i => ∃ j : Nat, j ≤ l.length ∧ sk false l k = sk false l j ∧ i = .int .i64 j) (fun i => l.length - (intOf i).toNat)
  case atStart => exact ⟨k, hk, rfl, rfl⟩
  case round =>
    obtain ⟨j, hj, hr, rfl⟩ := hrel
    have Hr := Lib.hid hr
    clear hr
    by_cases hlt : j < l.length
    · obtain ⟨g, off, rfl, hcap, hc⟩ := hv.pos (by omega)
      have hcj := hc j hlt
      have Hc := Lib.hid hc
      clear hc
      cases hb : blk (bA l j)
      · by_cases h35 : bA l j = 35
        · have h35b : (bA l j == 35) = true := by simp [h35]
          have H35 := Lib.hid h35
          have Hb := Lib.hid hb
          clear hb h35
          go_wp2_with (first | (go_at_call 35; refine (blank_any _ _).mono ?_; rw [Hb.out]; rintro e w' ⟨rfl, rfl⟩))
          go_loop [1] (fun i => ∃ j2 : Nat, j2 ≤ l.length ∧ sk true l j = sk true l j2 ∧ j ≤ j2 ∧ i = .int .i64 j2) (fun i => l.length - (intOf i).toNat)
          case atStart => exact ⟨j, hj, rfl, Nat.le_refl _, rfl⟩
          case round =>
            obtain ⟨j2, hj2, hr2, hle2, rfl⟩ := hrel
            have Hr2 := Lib.hid hr2
            clear hr2
            by_cases hlt2 : j2 < l.length
            · have hcj2 := Hc.out j2 hlt2
              by_cases h10 : bA l j2 = 10
              · have h10b : (bA l j2 == 10) = true := by simp [h10]
                have hlt3 : j < j2 := by
                  rcases Nat.lt_or_ge j j2 with h | h
                  · exact h
                  · have he : j = j2 := by omega
                    have := H35.out
                    rw [he, h10] at this; omega
                have H10 := Lib.hid h10
                clear h10
                go_wp2_with fail
                go_round
                case rel => exact ⟨j2, by omega, by rw [Hr.out, sk_hash H35.out, Hr2.out, sk_nl H10.out], rfl⟩
                case measure => simp [intOf]; omega
              · have h10b : (bA l j2 == 10) = false := by simp [h10]
                have H10 := Lib.hid h10
                clear h10
                go_wp2_with fail
                go_round
                case rel => exact ⟨j2 + 1, by omega, by rw [Hr2.out]; exact sk_in hlt2 H10.out, by omega, by go_num⟩
                case measure => simp [intOf]; omega
            · go_wp2_with fail
              go_round
              case rel => exact ⟨j2, by omega, by rw [Hr.out, sk_hash H35.out, Hr2.out, sk_end (by omega), sk_end (by omega)], rfl⟩
              case measure => simp [intOf]; omega
        · have h35b : (bA l j == 35) = false := by simp [h35]
          have H35 := Lib.hid h35
          have Hb := Lib.hid hb
          clear hb h35
          go_wp2_with (first | (go_at_call 35; refine (blank_any _ _).mono ?_; rw [Hb.out]; rintro e w' ⟨rfl, rfl⟩))
          go_ret
          exact ⟨ret_int (by rw [Hr.out, sk_stop Hb.out H35.out]), rfl⟩
      · have Hb := Lib.hid hb
        clear hb
        go_wp2_with (first | (go_at_call 35; refine (blank_any _ _).mono ?_; rw [Hb.out]; rintro e w' ⟨rfl, rfl⟩))
        go_round
        case rel => exact ⟨j + 1, by omega, by rw [Hr.out]; exact sk_blk Hb.out, by go_num⟩
        case measure => simp [intOf]; omega
    · go_wp2_with fail
      go_ret
      exact ⟨ret_int (by rw [Hr.out, sk_end (by omega)]), rfl⟩
end Go.Proofs.YtmlkfglnnepjjaaDoor
