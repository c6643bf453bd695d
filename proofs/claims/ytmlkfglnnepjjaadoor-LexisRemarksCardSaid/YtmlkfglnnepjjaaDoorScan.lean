/- Layer 1: the program's scan: the token at an offset. -/
import Derived.Test.YtmlkfglnnepjjaaDoorInt
namespace Go.Proofs.YtmlkfglnnepjjaaDoor
open Go.RowKit

theorem wordEnd_any (s : ByteArray) (k : Nat) (w : World) (hs : s.size ≤ 1000000000) (hk : k ≤ s.size) (hT : TabW w) :
    Calls Tryd.prog 32 #[.string s, .int .i64 k] w fun e w' => e = .returned (.int .i64 (wEnd (tx s) k)) ∧ w = w' := by
  have h1 : run inn (tx s) k ≤ s.size := by rw [← tx_len]; exact run_le (by rw [tx_len]; exact hk)
  have hW : wEnd (tx s) k = if bA (tx s) (run inn (tx s) k) = 58 ∧ lt (bA (tx s) (run inn (tx s) k + 1)) = true then run inn (tx s) (run inn (tx s) k + 1) else run inn (tx s) k := rfl
  have HW := Lib.hid hW
  clear hW
  go_enter Tryd.func32, Tryd.ntmps32
  go_wp2_with fail
  refine (tailEnd_any _ _ _ hs hk hT).mono ?_
  rintro e w' ⟨rfl, rfl⟩
  generalize run inn (tx s) k = m at *
  by_cases hm : m < s.size
  · have hbm := Lib.hid (bA_str hm)
    by_cases h58 : (s[m].toNat : Int) = 58
    · have hb : ((s[m].toNat : Int) == 58) = true := by simpa using h58
      have h58' : bA (tx s) m = 58 := by rw [hbm.out]; exact h58
      have H58 := Lib.hid h58'
      clear h58 h58'
      by_cases hlt : lt (bA (tx s) (m + 1)) = true
      · have hc : (cls (bA (tx s) (m + 1)) == 3) = true := by rw [beq_iff_eq, cls_3]; exact hlt
        have Hlt := Lib.hid hlt
        clear hlt
        go_wp2_with (first | (go_at_call 31; refine (classAt_any _ (m + 1) _ hT).mono ?_; rintro e w' ⟨rfl, rfl⟩) | (go_at_call 42; refine (tailEnd_any _ (m + 1) _ hs (by omega) hT).mono ?_; rintro e w' ⟨rfl, rfl⟩))
        go_ret
        exact ⟨ret_int (by rw [HW.out, if_pos ⟨H58.out, Hlt.out⟩]), rfl⟩
      · have hc : (cls (bA (tx s) (m + 1)) == 3) = false := by rw [beq_eq_false_iff_ne, ne_eq, cls_3]; exact hlt
        have Hlt := Lib.hid hlt
        clear hlt
        go_wp2_with (first | (go_at_call 31; refine (classAt_any _ (m + 1) _ hT).mono ?_; rintro e w' ⟨rfl, rfl⟩))
        go_ret
        exact ⟨ret_int (by rw [HW.out, if_neg (fun h => Hlt.out h.2)]), rfl⟩
    · have hb : ((s[m].toNat : Int) == 58) = false := by simpa using h58
      have h58' : ¬ bA (tx s) m = 58 := by rw [hbm.out]; exact h58
      have H58 := Lib.hid h58'
      clear h58 h58'
      go_wp2_with fail
      go_ret
      exact ⟨ret_int (by rw [HW.out, if_neg (fun h => H58.out h.1)]), rfl⟩
  · have hbm := Lib.hid (bA_ge (l := tx s) (k := m) (by rw [tx_len]; omega))
    go_wp2_with fail
    go_ret
    exact ⟨ret_int (by rw [HW.out, if_neg (fun h => by rw [hbm.out] at h; omega)]), rfl⟩


theorem scanNumber_any (s : ByteArray) (k d : Nat) (w : World) (hs : s.size ≤ 1000000000) (hkd : k ≤ d) (hk : d ≤ s.size) (hT : TabW w) :
    Calls Tryd.prog 33 #[.string s, .int .i64 k, .int .i64 d] w fun e w' =>
      e = .returned (.tuple #[.int .i64 (if isInt (sub (tx s) k (run inn (tx s) d)) then 2 else 0), .int .i64 (run inn (tx s) d)]) ∧ w = w' := by
  have h1 : run inn (tx s) d ≤ s.size := by rw [← tx_len]; exact run_le (by rw [tx_len]; exact hk)
  have h2 : d ≤ run inn (tx s) d := run_ge _ _ _
  have ht := fun w => tailEnd_any s d w hs hk
  generalize run inn (tx s) d = m at *
  have hx : isInt (sub (tx s) k m) = isInt (tx (s.extract k m)) := by rw [tx_extract]; rfl
  rw [hx]
  clear hx
  have hi := fun w => isInteger_any (s.extract k m) w
  cases hb : isInt (tx (s.extract k m))
  all_goals
    rw [hb] at hi
    clear hb
    have Hi := Lib.hid hi
    have Ht := Lib.hid ht
    clear hi ht
    go_enter Tryd.func33, Tryd.ntmps33
    go_wp2_with (first | (go_at_call 42; refine (Ht.out _ hT).mono ?_; rintro e w' ⟨rfl, rfl⟩) | (go_at_call 43; refine (Hi.out _ hT).mono ?_; rintro e w' ⟨rfl, rfl⟩))
    go_ret2
    exact ⟨rfl, rfl⟩

theorem scanNumber_sc (s : ByteArray) (k d : Nat) (w : World) (hs : s.size ≤ 1000000000) (hkd : k ≤ d) (hk : d ≤ s.size) (hT : TabW w) :
    Calls Tryd.prog 33 #[.string s, .int .i64 k, .int .i64 d] w fun e w' =>
      e = .returned (.tuple #[.int .i64 (scNum (tx s) k d).1, .int .i64 (scNum (tx s) k d).2]) ∧ w = w' := scanNumber_any s k d w hs hkd hk hT

theorem hasPrefix_arrow (s : ByteArray) (w : World) :
    Calls Tryd.prog 44 #[.string s, .string ⟨#[45, 62]⟩] w fun e w' => e = .returned (.bool (decide (bA (tx s) 0 = 45 ∧ bA (tx s) 1 = 62))) ∧ w = w' := by
  go_enter Tryd.func44, Tryd.ntmps44
  go_wp2
  · go_ret
    refine ⟨ret_bool ?_, rfl⟩
    rw [toList_tx, tx_extract, Bool.eq_iff_iff]
    have := two_of (tx s)
    simpa using this
  · go_ret
    have hl : ¬ (2 : Int) ≤ s.size := by omega
    refine ⟨ret_bool ?_, rfl⟩
    rw [bA_ge (l := tx s) (k := 1) (by rw [tx_len]; omega)]
    simp

theorem scanMinus_any (s : ByteArray) (k : Nat) (w : World) (hs : s.size ≤ 1000000000) (hk : k < s.size) (h45 : bA (tx s) k = 45) (hT : TabW w) :
    Calls Tryd.prog 34 #[.string s, .int .i64 k] w fun e w' =>
      e = .returned (.tuple #[.int .i64 (scMin (tx s) k).1, .int .i64 (scMin (tx s) k).2]) ∧ w = w' := by
  have hp : decide (bA (tx (s.extract k s.size)) 0 = 45 ∧ bA (tx (s.extract k s.size)) 1 = 62) = decide (bA (tx s) (k + 1) = 62) := by
    rw [tx_extract, List.take_of_length_le (by simp), bA_drop, bA_drop]; simp [h45]
  have hP := fun w => hasPrefix_arrow (s.extract k s.size) w
  rw [hp] at hP
  clear hp
  by_cases h62 : bA (tx s) (k + 1) = 62
  · have he : scMin (tx s) k = (3, k + 2) := by simp [scMin, h62]
    rw [he]
    simp only [h62] at hP
    have HP := Lib.hid hP
    clear hP he h62 h45
    go_enter Tryd.func34, Tryd.ntmps34
    go_wp2_with (first | (go_at_call 44; refine (HP.out _).mono ?_; rintro e w' ⟨rfl, rfl⟩))
    go_ret2
    exact ⟨rfl, rfl⟩
  simp only [h62] at hP
  have HP := Lib.hid hP
  clear hP h45
  by_cases hd : dg (bA (tx s) (k + 1)) = true
  · have he : scMin (tx s) k = scNum (tx s) k (k + 1) := by simp [scMin, h62, hd]
    have hl : k + 1 < s.size := by rw [← tx_len]; exact bA_in (by rw [dg_iff] at hd; omega)
    have hc : (cls (bA (tx s) (k + 1)) == 5) = true := by rw [beq_iff_eq, cls_5]; exact hd
    have HN := Lib.hid (fun w => scanNumber_sc s k (k + 1) w hs (by omega) (by omega))
    rw [he]
    clear he h62 hd
    go_enter Tryd.func34, Tryd.ntmps34
    go_wp2_with (first | (go_at_call 44; refine (HP.out _).mono ?_; rintro e w' ⟨rfl, rfl⟩) | (go_at_call 31; refine (classAt_any _ (k + 1) _ hT).mono ?_; rintro e w' ⟨rfl, rfl⟩) | (go_at_call 33; refine (HN.out _ hT).mono ?_; rintro e w' ⟨rfl, rfl⟩))
    go_ret2
    exact ⟨rfl, rfl⟩
  · have he : scMin (tx s) k = (0, k + 1) := by simp [scMin, h62, hd]
    have hc : (cls (bA (tx s) (k + 1)) == 5) = false := by rw [beq_eq_false_iff_ne, ne_eq, cls_5]; exact hd
    rw [he]
    clear he h62 hd
    go_enter Tryd.func34, Tryd.ntmps34
    go_wp2_with (first | (go_at_call 44; refine (HP.out _).mono ?_; rintro e w' ⟨rfl, rfl⟩) | (go_at_call 31; refine (classAt_any _ (k + 1) _ hT).mono ?_; rintro e w' ⟨rfl, rfl⟩))
    go_ret2
    exact ⟨rfl, rfl⟩


theorem scan_any (s : ByteArray) (k : Nat) (w : World) (hs : s.size ≤ 1000000000) (hk : k ≤ s.size) (hT : TabW w) :
    Calls Tryd.prog 26 #[.string s, .int .i64 k] w fun e w' =>
      e = .returned (.tuple #[.int .i64 (sc (tx s) k).1, .int .i64 (sc (tx s) k).2]) ∧ w = w' := by
  have hM : bA (tx s) k = 45 → k < s.size := fun h => by rw [← tx_len]; exact bA_in (by omega)
  have HM := Lib.hid (fun w => scanMinus_any s k w hs)
  rcases cls_cases (bA (tx s) k) with ⟨hx, hx'⟩ | ⟨hx, hx'⟩ | ⟨hx, hx'⟩ | ⟨hx, hx'⟩ | ⟨hx, hx'⟩ | ⟨hx, hx'⟩ | ⟨hx, hx'⟩ | ⟨hx, hx'⟩
  · have he : sc (tx s) k = (0, k + 1) := by simp [sc, hx]
    rw [he]
    have hc := fun w => classAt_any s k w
    rw [hx] at hc
    have Hc := Lib.hid hc
    clear hc he hx hx'
    go_enter Tryd.func26, Tryd.ntmps26
    go_wp2_with (first | (go_at_call 31; refine (Hc.out _ hT).mono ?_; rintro e w' ⟨rfl, rfl⟩) | (go_at_call 32; refine (wordEnd_any _ _ _ hs (by omega) hT).mono ?_; rintro e w' ⟨rfl, rfl⟩) | (go_at_call 33; refine (scanNumber_sc s k k _ hs (Nat.le_refl _) (by omega) hT).mono ?_; rintro e w' ⟨rfl, rfl⟩) | (go_at_call 34; refine (HM.out _ hT).mono ?_; rintro e w' ⟨rfl, rfl⟩))
    go_ret2
    exact ⟨rfl, rfl⟩
  · have he : sc (tx s) k = (0, k + 1) := by simp [sc, hx]
    rw [he]
    have hc := fun w => classAt_any s k w
    rw [hx] at hc
    have Hc := Lib.hid hc
    clear hc he hx hx'
    go_enter Tryd.func26, Tryd.ntmps26
    go_wp2_with (first | (go_at_call 31; refine (Hc.out _ hT).mono ?_; rintro e w' ⟨rfl, rfl⟩) | (go_at_call 32; refine (wordEnd_any _ _ _ hs (by omega) hT).mono ?_; rintro e w' ⟨rfl, rfl⟩) | (go_at_call 33; refine (scanNumber_sc s k k _ hs (Nat.le_refl _) (by omega) hT).mono ?_; rintro e w' ⟨rfl, rfl⟩) | (go_at_call 34; refine (HM.out _ hT).mono ?_; rintro e w' ⟨rfl, rfl⟩))
    go_ret2
    exact ⟨rfl, rfl⟩
  · have he : sc (tx s) k = (1, wEnd (tx s) k) := by simp [sc, hx]
    rw [he]
    have hc := fun w => classAt_any s k w
    rw [hx] at hc
    have Hc := Lib.hid hc
    clear hc he hx hx'
    go_enter Tryd.func26, Tryd.ntmps26
    go_wp2_with (first | (go_at_call 31; refine (Hc.out _ hT).mono ?_; rintro e w' ⟨rfl, rfl⟩) | (go_at_call 32; refine (wordEnd_any _ _ _ hs (by omega) hT).mono ?_; rintro e w' ⟨rfl, rfl⟩) | (go_at_call 33; refine (scanNumber_sc s k k _ hs (Nat.le_refl _) (by omega) hT).mono ?_; rintro e w' ⟨rfl, rfl⟩) | (go_at_call 34; refine (HM.out _ hT).mono ?_; rintro e w' ⟨rfl, rfl⟩))
    go_ret2
    exact ⟨rfl, rfl⟩
  · have he : sc (tx s) k = (1, wEnd (tx s) k) := by simp [sc, hx]
    rw [he]
    have hc := fun w => classAt_any s k w
    rw [hx] at hc
    have Hc := Lib.hid hc
    clear hc he hx hx'
    go_enter Tryd.func26, Tryd.ntmps26
    go_wp2_with (first | (go_at_call 31; refine (Hc.out _ hT).mono ?_; rintro e w' ⟨rfl, rfl⟩) | (go_at_call 32; refine (wordEnd_any _ _ _ hs (by omega) hT).mono ?_; rintro e w' ⟨rfl, rfl⟩) | (go_at_call 33; refine (scanNumber_sc s k k _ hs (Nat.le_refl _) (by omega) hT).mono ?_; rintro e w' ⟨rfl, rfl⟩) | (go_at_call 34; refine (HM.out _ hT).mono ?_; rintro e w' ⟨rfl, rfl⟩))
    go_ret2
    exact ⟨rfl, rfl⟩
  · have he : sc (tx s) k = scNum (tx s) k k := by simp [sc, hx]
    rw [he]
    have hc := fun w => classAt_any s k w
    rw [hx] at hc
    have Hc := Lib.hid hc
    clear hc he hx hx'
    go_enter Tryd.func26, Tryd.ntmps26
    go_wp2_with (first | (go_at_call 31; refine (Hc.out _ hT).mono ?_; rintro e w' ⟨rfl, rfl⟩) | (go_at_call 32; refine (wordEnd_any _ _ _ hs (by omega) hT).mono ?_; rintro e w' ⟨rfl, rfl⟩) | (go_at_call 33; refine (scanNumber_sc s k k _ hs (Nat.le_refl _) (by omega) hT).mono ?_; rintro e w' ⟨rfl, rfl⟩) | (go_at_call 34; refine (HM.out _ hT).mono ?_; rintro e w' ⟨rfl, rfl⟩))
    go_ret2
    exact ⟨rfl, rfl⟩
  · have he : sc (tx s) k = scMin (tx s) k := by simp [sc, hx]
    have HM := Lib.hid (fun w => scanMinus_any s k w hs (hM hx') hx')
    rw [he]
    have hc := fun w => classAt_any s k w
    rw [hx] at hc
    have Hc := Lib.hid hc
    clear hc he hx hx'
    go_enter Tryd.func26, Tryd.ntmps26
    go_wp2_with (first | (go_at_call 31; refine (Hc.out _ hT).mono ?_; rintro e w' ⟨rfl, rfl⟩) | (go_at_call 32; refine (wordEnd_any _ _ _ hs (by omega) hT).mono ?_; rintro e w' ⟨rfl, rfl⟩) | (go_at_call 33; refine (scanNumber_sc s k k _ hs (Nat.le_refl _) (by omega) hT).mono ?_; rintro e w' ⟨rfl, rfl⟩) | (go_at_call 34; refine (HM.out _ hT).mono ?_; rintro e w' ⟨rfl, rfl⟩))
    go_ret2
    exact ⟨rfl, rfl⟩
  · have he : sc (tx s) k = (3, k + 1) := by simp [sc, hx]
    rw [he]
    have hc := fun w => classAt_any s k w
    rw [hx] at hc
    have Hc := Lib.hid hc
    clear hc he hx hx'
    go_enter Tryd.func26, Tryd.ntmps26
    go_wp2_with (first | (go_at_call 31; refine (Hc.out _ hT).mono ?_; rintro e w' ⟨rfl, rfl⟩) | (go_at_call 32; refine (wordEnd_any _ _ _ hs (by omega) hT).mono ?_; rintro e w' ⟨rfl, rfl⟩) | (go_at_call 33; refine (scanNumber_sc s k k _ hs (Nat.le_refl _) (by omega) hT).mono ?_; rintro e w' ⟨rfl, rfl⟩) | (go_at_call 34; refine (HM.out _ hT).mono ?_; rintro e w' ⟨rfl, rfl⟩))
    go_ret2
    exact ⟨rfl, rfl⟩
  · have he : sc (tx s) k = (0, k + 1) := by simp [sc, hx]
    rw [he]
    have hc := fun w => classAt_any s k w
    rw [hx] at hc
    have Hc := Lib.hid hc
    clear hc he hx hx'
    go_enter Tryd.func26, Tryd.ntmps26
    go_wp2_with (first | (go_at_call 31; refine (Hc.out _ hT).mono ?_; rintro e w' ⟨rfl, rfl⟩) | (go_at_call 32; refine (wordEnd_any _ _ _ hs (by omega) hT).mono ?_; rintro e w' ⟨rfl, rfl⟩) | (go_at_call 33; refine (scanNumber_sc s k k _ hs (Nat.le_refl _) (by omega) hT).mono ?_; rintro e w' ⟨rfl, rfl⟩) | (go_at_call 34; refine (HM.out _ hT).mono ?_; rintro e w' ⟨rfl, rfl⟩))
    go_ret2
    exact ⟨rfl, rfl⟩
end Go.Proofs.YtmlkfglnnepjjaaDoor
