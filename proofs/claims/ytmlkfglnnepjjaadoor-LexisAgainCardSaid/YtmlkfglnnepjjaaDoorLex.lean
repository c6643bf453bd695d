/- Layer 1, the program's scanner over a text: contracts. The world holds the table of classes. -/
import Derived.Test.YtmlkfglnnepjjaaDoorLeaf
import Derived.Test.YtmlkfglnnepjjaaDoorByt
namespace Go.Proofs.YtmlkfglnnepjjaaDoor
open Go.RowKit

/-- the cells of the table of classes -/
def TabW (w : World) : Prop := ∀ i : Nat, i < 128 → w.cell? ⟨0, i, none⟩ = some (.int .u8 (cls i))


theorem classAt_any (s : ByteArray) (k : Nat) (w : World) (hT : TabW w) :
    Calls Tryd.prog 31 #[.string s, .int .i64 k] w fun e w' => e = .returned (.int .u8 (cls (bA (tx s) k))) ∧ w = w' := by
  by_cases h : k < s.size
  · have hb := bA_str h
    have hc : (s[k].toNat : Int) < 128 → w.cell? ⟨0, s[k].toNat, none⟩ = some (.int .u8 (cls s[k].toNat)) := fun hh => hT _ (by omega)
    have Hb := Lib.hid hb
    clear hb
    go_enter Tryd.func31, Tryd.ntmps31
    go_wp2
    · go_ret
      have hh : s.size ≤ k ∨ 128 ≤ (s[k].toNat : Int) := by assumption
      exact ⟨ret_int (by rw [Hb.out, cls_big _ (by omega)]), rfl⟩
    · go_ret
      exact ⟨ret_int (by rw [Hb.out]), rfl⟩
  · have hb := bA_ge (l := tx s) (k := k) (by rw [tx_len]; omega)
    have Hb := Lib.hid hb
    clear hb
    go_enter Tryd.func31, Tryd.ntmps31
    go_wp2
    go_ret
    exact ⟨ret_int (by rw [Hb.out, cls_neg]), rfl⟩


theorem tailEnd_any (s : ByteArray) (k : Nat) (w : World) (hs : s.size ≤ 1000000000) (hk : k ≤ s.size) (hT : TabW w) :
    Calls Tryd.prog 42 #[.string s, .int .i64 k] w fun e w' => e = .returned (.int .i64 (run inn (tx s) k)) ∧ w = w' := by
  go_enter Tryd.func42, Tryd.ntmps42
  go_wp2_with fail
  go_loop [1] (fun i => ∃ j : Nat, j ≤ s.size ∧ run inn (tx s) k = run inn (tx s) j ∧ i = .int .i64 j) (fun i => s.size - (intOf i).toNat)
  case atStart => exact ⟨k, hk, rfl, rfl⟩
  case round =>
    obtain ⟨j, hj, hr, rfl⟩ := hrel
    have Hr := Lib.hid hr
    clear hr
    go_wp2_with (first | (go_at_call 31; refine (classAt_any _ _ _ hT).mono ?_; rintro e w' ⟨rfl, rfl⟩))
    all_goals first
      | (have hi : inn (bA (tx s) j) = true := (inn_cls _).2 (by simp only [beq_iff_eq, beq_eq_false_iff_ne] at *; omega)
         have hj : j < s.size := by
           rcases Nat.lt_or_ge j s.size with h | h
           · exact h
           · rw [bA_ge (by rw [tx_len]; exact h)] at hi; exact absurd hi (by decide)
         go_round
         case rel => exact ⟨j + 1, by omega, by rw [Hr.out]; exact run_step (by rw [tx_len]; exact hj) hi, by go_num⟩
         case measure => simp [intOf]; omega)
      | (go_ret
         have hi : inn (bA (tx s) j) = false := Bool.eq_false_iff.2 (fun h => by rw [inn_cls] at h; simp only [beq_eq_false_iff_ne] at *; omega)
         exact ⟨ret_int (by rw [Hr.out, run_stop hi]), rfl⟩)
end Go.Proofs.YtmlkfglnnepjjaaDoor
