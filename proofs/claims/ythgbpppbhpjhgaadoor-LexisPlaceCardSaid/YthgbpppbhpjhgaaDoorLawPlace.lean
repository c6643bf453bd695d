/- Layer 1, the statement LexisPlace: the walk. -/
import Derived.Test.YthgbpppbhpjhgaaDoorSane
namespace Go.Proofs.YthgbpppbhpjhgaaDoor
open Go.RowKit

/-- where the line of an offset begins -/
def lst (l : List UInt8) : Nat → Nat
  | 0 => 0
  | k + 1 => if bA l k = 10 then k + 1 else lst l k
theorem lst_plc (l : List UInt8) (k : Nat) : lst l k + (plc l k).2 = k + 1 := by
  induction k with
  | zero => rfl
  | succ k ih =>
    simp only [lst, plc]
    split
    · simp
    · simp only []; omega

set_option maxRecDepth 100000 in
set_option maxHeartbeats 1000000 in
theorem lexisPlace_any (l : List UInt8) (v : Value) (at' : Int) (w : World) (hv : Sl w 1 v l.length (bc l)) (hT : TabW w) (hm : l.length ≤ maxLen) :
    Calls Tryd.prog 9 #[v, .int .i64 at'] w fun e w' => e = .returned (.bool true) ∧ Below w.heap.size w w' := by
  unfold maxLen at hm
  obtain ⟨a, cap, rfl⟩ := hv.form
  by_cases hl : 4000 < l.length
  · go_enter Tryd.func9, Tryd.ntmps9
    go_wp2_with fail
    refine (sane_any w hT).mono ?_
    rintro e w1 ⟨rfl, hb1⟩
    go_wp2_with fail
    go_ret
    exact ⟨rfl, hb1⟩
  by_cases hbad : at' < 0 ∨ (l.length : Int) < at'
  · have Hb := Lib.hid hbad
    clear hbad
    go_enter Tryd.func9, Tryd.ntmps9
    go_wp2_with fail
    refine (sane_any w hT).mono ?_
    rintro e w1 ⟨rfl, hb1⟩
    have hv1 := hv.next hb1
    go_wp2_with fail
    refine (place_bad l _ at' w1 hv1 (by omega) Hb.out).mono ?_
    rintro e w' ⟨rfl, rfl⟩
    go_wp2_with fail
    refine (refPlace_bad l _ at' w1 hv1 (by omega) Hb.out).mono ?_
    rintro e w' ⟨rfl, rfl⟩
    go_wp2_with fail
    go_ret
    exact ⟨rfl, hb1⟩
  · obtain ⟨k, rfl⟩ := Int.eq_ofNat_of_zero_le (show 0 ≤ at' by omega)
    have hk : k ≤ l.length := by omega
    clear hbad
    have hfin := Lib.hid (lst_plc l k)
    have hbd := plc_bd l k
    go_enter Tryd.func9, Tryd.ntmps9
    go_wp2_with fail
    refine (sane_any w hT).mono ?_
    rintro e w1 ⟨rfl, hb1⟩
    have hv1 := hv.next hb1
    go_wp2_with fail
    refine (place_ok l _ k w1 hv1 (by omega) hk).mono ?_
    rintro e w' ⟨rfl, rfl⟩
    go_wp2_with fail
    refine (refPlace_ok l _ k w1 hv1 (by omega) hk).mono ?_
    rintro e w' ⟨rfl, rfl⟩
    go_wp2_with fail
    go_loop [11, 12] (fun st i => ∃ j : Nat, j ≤ k ∧ st = .int .i64 (lst l j) ∧ i = .int .i64 j) (fun _ i => k - (intOf i).toNat)
    case atStart => exact ⟨0, Nat.zero_le _, rfl, rfl⟩
    case round =>
      obtain ⟨j, hj, rfl, rfl⟩ := hrel
      by_cases hlt : j < k
      · obtain ⟨g, off, rfl, hcap, hc⟩ := hv1.pos (by omega)
        have hcj := hc j (by omega)
        clear hc
        by_cases h10 : bA l j = 10
        · have h10b : (bA l j == 10) = true := by simp [h10]
          have hs : lst l (j + 1) = j + 1 := by rw [lst, if_pos h10]
          have Hs := Lib.hid hs
          clear hs h10
          go_wp2_with fail
          go_round
          case rel => exact ⟨j + 1, by omega, by rw [Hs.out]; go_num, by go_num⟩
          case measure => simp [intOf]; omega
        · have h10b : (bA l j == 10) = false := by simp [h10]
          have hs : lst l (j + 1) = lst l j := by rw [lst, if_neg h10]
          have Hs := Lib.hid hs
          clear hs h10
          go_wp2_with fail
          go_round
          case rel => exact ⟨j + 1, by omega, by rw [Hs.out], by go_num⟩
          case measure => simp [intOf]; omega
      · have hjk : j = k := by omega
        subst hjk
        have hls : lst l j ≤ j + 1 := by have := hfin.out; omega
        go_wp2_with fail
        go_ret
        refine ⟨ret_bool ?_, hb1⟩
        have h := hfin.out
        rw [beq_iff_eq]
        omega
end Go.Proofs.YthgbpppbhpjhgaaDoor
