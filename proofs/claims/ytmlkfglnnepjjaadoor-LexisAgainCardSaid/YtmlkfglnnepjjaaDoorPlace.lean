/- Layer 1: Place, of the program and of the reference. -/
import Derived.Test.YtmlkfglnnepjjaaDoorLeaf
import Derived.Test.YtmlkfglnnepjjaaDoorByt
namespace Go.Proofs.YtmlkfglnnepjjaaDoor
open Go.RowKit

set_option maxRecDepth 100000 in
theorem place_long (l : List UInt8) (v : Value) (at' : Int) (w : World) (hv : Sl w 1 v l.length (bc l)) (hl : 65536 < l.length) :
    Calls Tryd.prog 21 #[v, .int .i64 at'] w fun e w' => e = .returned (.tuple #[.int .i64 0, .int .i64 0, .int .i64 2]) ∧ w = w' := by
  obtain ⟨a, cap, rfl⟩ := hv.form
  go_enter Tryd.func21, Tryd.ntmps21
  go_wp2
  go_ret3
  exact ⟨rfl, rfl⟩
set_option maxRecDepth 100000 in
theorem place_bad (l : List UInt8) (v : Value) (at' : Int) (w : World) (hv : Sl w 1 v l.length (bc l)) (hl : l.length ≤ 65536) (hb : at' < 0 ∨ (l.length : Int) < at') :
    Calls Tryd.prog 21 #[v, .int .i64 at'] w fun e w' => e = .returned (.tuple #[.int .i64 0, .int .i64 0, .int .i64 1]) ∧ w = w' := by
  obtain ⟨a, cap, rfl⟩ := hv.form
  rcases hb with hb | hb
  · go_enter Tryd.func21, Tryd.ntmps21
    go_wp2
    go_ret3
    exact ⟨rfl, rfl⟩
  · have hn : ¬ at' < 0 := by omega
    go_enter Tryd.func21, Tryd.ntmps21
    go_wp2
    go_ret3
    exact ⟨rfl, rfl⟩
set_option maxRecDepth 100000 in
theorem refPlace_long (l : List UInt8) (v : Value) (at' : Int) (w : World) (hv : Sl w 1 v l.length (bc l)) (hl : 65536 < l.length) :
    Calls Tryd.prog 22 #[v, .int .i64 at'] w fun e w' => e = .returned (.tuple #[.int .i64 0, .int .i64 0, .int .i64 2]) ∧ w = w' := by
  obtain ⟨a, cap, rfl⟩ := hv.form
  go_enter Tryd.func22, Tryd.ntmps22
  go_wp2
  go_ret3
  exact ⟨rfl, rfl⟩
set_option maxRecDepth 100000 in
theorem refPlace_bad (l : List UInt8) (v : Value) (at' : Int) (w : World) (hv : Sl w 1 v l.length (bc l)) (hl : l.length ≤ 65536) (hb : at' < 0 ∨ (l.length : Int) < at') :
    Calls Tryd.prog 22 #[v, .int .i64 at'] w fun e w' => e = .returned (.tuple #[.int .i64 0, .int .i64 0, .int .i64 1]) ∧ w = w' := by
  obtain ⟨a, cap, rfl⟩ := hv.form
  rcases hb with hb | hb
  · go_enter Tryd.func22, Tryd.ntmps22
    go_wp2
    go_ret3
    exact ⟨rfl, rfl⟩
  · have hn : ¬ at' < 0 := by omega
    go_enter Tryd.func22, Tryd.ntmps22
    go_wp2
    go_ret3
    exact ⟨rfl, rfl⟩

theorem ret3 {k : IntKind} {a b c a' b' c' : Int} (h1 : a = a') (h2 : b = b') (h3 : c = c') : Ending.returned (.tuple #[.int k a, .int k b, .int k c]) = .returned (.tuple #[.int k a', .int k b', .int k c']) := by rw [h1, h2, h3]

set_option maxRecDepth 100000 in
theorem refPlace_ok (l : List UInt8) (v : Value) (k : Nat) (w : World) (hv : Sl w 1 v l.length (bc l)) (hl : l.length ≤ 65536) (hk : k ≤ l.length) :
    Calls Tryd.prog 22 #[v, .int .i64 k] w fun e w' => e = .returned (.tuple #[.int .i64 (plc l k).1, .int .i64 (plc l k).2, .int .i64 0]) ∧ w = w' := by
  obtain ⟨a, cap, rfl⟩ := hv.form
  go_enter Tryd.func22, Tryd.ntmps22
  go_wp2
  go_loop [7, 8, 9] (fun li co i => ∃ j : Nat, j ≤ k ∧ li = .int .i64 (plc l j).1 ∧ co = .int .i64 (plc l j).2 ∧ i = .int .i64 j) (fun _ _ i => k - (intOf i).toNat)
  case atStart => exact ⟨0, Nat.zero_le _, rfl, rfl, rfl⟩
  case round =>
    obtain ⟨j, hj, rfl, rfl, rfl⟩ := hrel
    have hbd := plc_bd l j
    by_cases hlt : j < k
    · obtain ⟨g, off, rfl, hcap, hc⟩ := hv.pos (by omega)
      have hcj := hc j (by omega)
      clear hc
      by_cases h10 : bA l j = 10
      · have h10b : (bA l j == 10) = true := by simp [h10]
        have hs : plc l (j + 1) = ((plc l j).1 + 1, 1) := by rw [plc, if_pos h10]
        have Hs := Lib.hid hs
        clear hs h10
        go_wp2
        go_round
        case rel => exact ⟨j + 1, by omega, by rw [Hs.out]; go_num, by rw [Hs.out]; rfl, by go_num⟩
        case measure => simp [intOf]; omega
      · have h10b : (bA l j == 10) = false := by simp [h10]
        have hs : plc l (j + 1) = ((plc l j).1, (plc l j).2 + 1) := by rw [plc, if_neg h10]
        have Hs := Lib.hid hs
        clear hs h10
        go_wp2
        go_round
        case rel => exact ⟨j + 1, by omega, by rw [Hs.out], by rw [Hs.out]; go_num, by go_num⟩
        case measure => simp [intOf]; omega
    · have hjk : j = k := by omega
      subst hjk
      go_wp2
      go_ret3
      exact ⟨rfl, rfl⟩


set_option maxRecDepth 100000 in
theorem place_ok (l : List UInt8) (v : Value) (k : Nat) (w : World) (hv : Sl w 1 v l.length (bc l)) (hl : l.length ≤ 65536) (hk : k ≤ l.length) :
    Calls Tryd.prog 21 #[v, .int .i64 k] w fun e w' => e = .returned (.tuple #[.int .i64 (plc l k).1, .int .i64 (plc l k).2, .int .i64 0]) ∧ w = w' := by
  obtain ⟨_, a, cap, rfl, hcap, hr⟩ := hv
  rcases hr with h0 | ⟨g, off, rfl, hc0⟩
  · have hk0 : k = 0 := by omega
    subst hk0
    have hl0 := List.eq_nil_of_length_eq_zero h0
    subst hl0
    clear h0 hk hl
    rcases a with _ | x
    · go_enter Tryd.func21, Tryd.ntmps21
      go_wp2
      refine wp_loop_rounds 1 ?_
      rw [rounds_succ]
      go_wp2
      go_ret3
      exact ⟨rfl, rfl⟩
    · go_enter Tryd.func21, Tryd.ntmps21
      go_wp2
      refine wp_loop_rounds 1 ?_
      rw [rounds_succ]
      go_wp2
      go_ret3
      exact ⟨rfl, rfl⟩
  · have hc : ∀ j, j < l.length → w.cell? ⟨g, off + j, none⟩ = some (.int .u8 (bA l j)) := fun j hj => hc0 j _ (by simp [bc, bA, hj])
    clear hc0
    have Hc := Lib.hid hc
    go_enter Tryd.func21, Tryd.ntmps21
    clear hc
    go_wp2
    have hc := Hc.out
    clear Hc
    go_loop [4, 5, 8, 24] (fun li co _ i => ∃ j : Nat, j ≤ k ∧ li = .int .i64 (plc l j).1 ∧ co = .int .i64 (plc l j).2 ∧ i = .int .i64 j) (fun _ _ _ i => k - (intOf i).toNat)
    case atStart => exact ⟨0, Nat.zero_le _, rfl, rfl, rfl⟩
    case round =>
      obtain ⟨j, hj, rfl, rfl, rfl⟩ := hrel
      have hbd := plc_bd l j
      by_cases hlt : j < k
      · have hcj := hc j (by omega)
        have Hc := Lib.hid hc
        clear hc
        by_cases h10 : bA l j = 10
        · have h10b : (bA l j == 10) = true := by simp [h10]
          have hs : plc l (j + 1) = ((plc l j).1 + 1, 1) := by rw [plc, if_pos h10]
          have Hs := Lib.hid hs
          clear hs h10
          go_wp2
          go_round
          case rel => exact ⟨j + 1, by omega, by rw [Hs.out]; go_num, by rw [Hs.out]; rfl, by go_num⟩
          case measure => simp [intOf]; omega
        · have h10b : (bA l j == 10) = false := by simp [h10]
          have hs : plc l (j + 1) = ((plc l j).1, (plc l j).2 + 1) := by rw [plc, if_neg h10]
          have Hs := Lib.hid hs
          clear hs h10
          go_wp2
          go_round
          case rel => exact ⟨j + 1, by omega, by rw [Hs.out], by rw [Hs.out]; go_num, by go_num⟩
          case measure => simp [intOf]; omega
      · have hjk : j = k := by omega
        subst hjk
        clear hc
        go_wp2
        go_ret3
        exact ⟨rfl, rfl⟩
end Go.Proofs.YtmlkfglnnepjjaaDoor
