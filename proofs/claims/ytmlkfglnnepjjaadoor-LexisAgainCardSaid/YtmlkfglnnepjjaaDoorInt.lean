/- Layer 1: the program's isInteger and the library's prefixes. -/
import Derived.Test.YtmlkfglnnepjjaaDoorSkip
import Derived.Lib.Strings
import Derived.Lib.IndexBytes
namespace Go.Proofs.YtmlkfglnnepjjaaDoor
open Go.RowKit

theorem tx_extract (s : ByteArray) (a b : Nat) : tx (s.extract a b) = ((tx s).drop a).take (b - a) := Lib.extract_data s a b
theorem size_extract (s : ByteArray) (a b : Nat) (h : b ≤ s.size) : (s.extract a b).size = b - a := by
  rw [← tx_len, tx_extract]; simp; omega

theorem hasPrefix_minus (s : ByteArray) (w : World) :
    Calls Tryd.prog 48 #[.string s, .string ⟨#[45]⟩] w fun e w' => e = .returned (.bool (decide (bA (tx s) 0 = 45))) ∧ w = w' := by
  go_enter Tryd.func48, Tryd.ntmps48
  go_wp2_with fail
  · go_ret
    have hl : 0 < s.size := by have : (1 : Int) ≤ s.size := by assumption
                               omega
    refine ⟨ret_bool ?_, rfl⟩
    rw [toList_tx, tx_extract, bA_lt (by rw [tx_len]; exact hl), Bool.eq_iff_iff]
    have : ∃ c r, tx s = c :: r := by
      cases h : tx s with
      | nil => rw [← tx_len, h] at hl; simp at hl
      | cons c r => exact ⟨c, r, rfl⟩
    obtain ⟨c, r, hcr⟩ := this
    simp only [hcr]
    simp
    constructor
    · rintro rfl; rfl
    · intro h; apply UInt8.toNat_inj.1; have h' : (c.toNat : Int) = 45 := by simpa using h
      have h2 : c.toNat = 45 := by omega
      rw [h2]; rfl
  · go_ret
    have hl : ¬ (1 : Int) ≤ s.size := by omega
    refine ⟨ret_bool ?_, rfl⟩
    rw [bA_ge (by rw [tx_len]; omega)]
    rfl
theorem trimPrefix_minus (s : ByteArray) (w : World) :
    Calls Tryd.prog 47 #[.string s, .string ⟨#[45]⟩] w fun e w' => e = .returned (.string (if bA (tx s) 0 = 45 then s.extract 1 s.size else s)) ∧ w = w' := by
  by_cases h : bA (tx s) 0 = 45
  · have hl : 0 < s.size := by rw [← tx_len]; exact bA_in (by omega)
    have hd : decide (bA (tx s) 0 = 45) = true := by simp [h]
    rw [if_pos h]
    have H := Lib.hid h
    clear h
    go_enter Tryd.func47, Tryd.ntmps47
    go_wp2_with (first | (go_at_call 48; refine (hasPrefix_minus _ _).mono ?_; rw [hd]; rintro e w' ⟨rfl, rfl⟩) | go_in)
    go_ret
    exact ⟨rfl, rfl⟩
  · have hd : decide (bA (tx s) 0 = 45) = false := by simp [h]
    rw [if_neg h]
    have H := Lib.hid h
    clear h
    go_enter Tryd.func47, Tryd.ntmps47
    go_wp2_with (first | (go_at_call 48; refine (hasPrefix_minus _ _).mono ?_; rw [hd]; rintro e w' ⟨rfl, rfl⟩) | go_in)
    go_ret
    exact ⟨rfl, rfl⟩

theorem trim_any (s : ByteArray) (w : World) :
    Calls Tryd.prog 47 #[.string s, .string ⟨#[45]⟩] w fun e w' => (∃ d : ByteArray, e = .returned (.string d) ∧ d.size ≤ s.size ∧ tx d = digitsOf (tx s)) ∧ w = w' :=
  (trimPrefix_minus s w).mono fun e w' ⟨he, hw⟩ => by
    refine ⟨⟨_, he, ?_, ?_⟩, hw⟩
    · split
      · rw [size_extract _ _ _ (Nat.le_refl _)]; omega
      · exact Nat.le_refl _
    · unfold digitsOf
      split
      · rw [tx_extract]; simp
        rw [List.take_of_length_le (by simp)]
      · rfl

theorem str_empty {s : ByteArray} : s.toList.isEmpty = (tx s).isEmpty := by rw [toList_tx]


set_option maxRecDepth 100000 in
theorem isInteger_any (s : ByteArray) (w : World) (hT : TabW w) :
    Calls Tryd.prog 43 #[.string s] w fun e w' => e = .returned (.bool (isInt (tx s))) ∧ w = w' := by
  by_cases h0 : tx s = [48]
  · have hb : (s.toList == [48]) = true := by rw [str_ne]; simp [h0]
    have h0' := Lib.hid h0
    clear h0
    go_enter Tryd.func43, Tryd.ntmps43
    go_wp2_with fail
    go_ret
    exact ⟨ret_bool (by rw [h0'.out]; decide), rfl⟩
  have hb : (s.toList == [48]) = false := by rw [str_ne]; simp [h0]
  have H0 := Lib.hid h0
  clear h0
  go_enter Tryd.func43, Tryd.ntmps43
  go_wp2_with fail
  refine (trim_any _ _).mono ?_
  rintro e w' ⟨⟨d, rfl, hd1, hd2⟩, rfl⟩
  have hI : isInt (tx s) = (!(tx d).isEmpty && decide (d.size ≤ 18) && decide (bA (tx d) 0 ≠ 48) && (tx d).all fun c => dg c.toNat) := by
    rw [← tx_len, hd2, isInt]; simp [H0.out]
  have HI := Lib.hid hI
  clear hI hd2
  by_cases hem : tx d = []
  · have e1 : d.toList = [] := by rw [toList_tx, hem]
    have e2 := Lib.hid hem
    clear hem
    go_wp2_with fail
    go_ret
    exact ⟨ret_bool (by rw [HI.out, e2.out]; rfl), rfl⟩
  have e1 : d.toList.isEmpty = false := by rw [toList_tx]; simpa using hem
  have e3 : ¬ d.toList = [] := by rw [toList_tx]; exact hem
  have hpos : 0 < d.size := by rw [← tx_len]; exact List.length_pos_iff.2 hem
  have hb0 := Lib.hid (bA_str hpos)
  by_cases hlen : 18 < d.size
  · go_wp2_with fail
    go_ret
    exact ⟨ret_bool (by rw [HI.out]; simp; omega), rfl⟩
  by_cases h48 : ((d[0].toNat : Int) == 48) = true
  · go_wp2_with fail
    go_ret
    exact ⟨ret_bool (by rw [HI.out, hb0.out]; simp at h48; simp [h48]), rfl⟩
  have h48' : ((d[0].toNat : Int) == 48) = false := by simpa using h48
  have h48'' : bA (tx d) 0 ≠ 48 := by rw [hb0.out]; simpa using h48
  have H48 := Lib.hid h48''
  clear h48 h48''
  have e4 := Lib.hid hem
  clear hem
  go_wp2_with fail
  go_loop [4, 23] (fun _ i => ∃ j : Nat, j ≤ d.size ∧ (∀ c ∈ (tx d).take j, dg c.toNat = true) ∧ i = .int .i64 j) (fun _ i => d.size - (intOf i).toNat)
  case atStart => exact ⟨0, Nat.zero_le _, by simp, rfl⟩
  case round =>
    obtain ⟨j, hj, hall, rfl⟩ := hrel
    have Hall := Lib.hid hall
    clear hall
    by_cases hlt : j < d.size
    · have hbj := Lib.hid (bA_str hlt)
      have htk : (tx d).take (j + 1) = (tx d).take j ++ [(tx d)[j]'(by rw [tx_len]; exact hlt)] := by rw [List.take_succ_eq_append_getElem]
      have Htk := Lib.hid htk
      clear htk
      go_wp2_with (first | (go_at_call 31; refine (classAt_any _ _ _ hT).mono ?_; rintro e w' ⟨rfl, rfl⟩))
      · have hd : ¬ dg (bA (tx d) j) = true := by rw [← cls_5]; simpa using (by assumption : (!(cls (bA (tx d) j) == 5)) = true)
        go_ret
        refine ⟨ret_bool ?_, rfl⟩
        have hall : (tx d).all (fun c => dg c.toNat) = false := by
          rw [Bool.eq_false_iff]
          intro h
          rw [List.all_eq_true] at h
          apply hd
          rw [bA_lt (by rw [tx_len]; exact hlt)]
          exact h _ (List.getElem_mem _)
        rw [HI.out, hall]; simp
      · have hd : dg (bA (tx d) j) = true := by rw [← cls_5]; simpa using (by assumption : (!(cls (bA (tx d) j) == 5)) = false)
        go_round
        case rel =>
          refine ⟨j + 1, by omega, ?_, by go_num⟩
          intro c hc
          rw [Htk.out] at hc
          simp only [List.mem_append, List.mem_singleton] at hc
          rcases hc with hc | hc
          · exact Hall.out c hc
          · rw [hc]; rw [bA_lt (by rw [tx_len]; exact hlt)] at hd; exact hd
        case measure => simp [intOf]; omega
    · go_wp2_with fail
      go_ret
      refine ⟨ret_bool ?_, rfl⟩
      have hall : (tx d).all (fun c => dg c.toNat) = true := by
        rw [List.all_eq_true]
        intro c hc
        have := Hall.out c
        rw [List.take_of_length_le (by rw [tx_len]; omega)] at this
        exact this hc
      rw [HI.out, hall]
      have g1 := H48.out
      have g2 := e4.out
      have g3 : d.size ≤ 18 := by omega
      have g4 : (tx d).isEmpty = false := by simpa using g2
      rw [g4]; simp [g1, g3]
end Go.Proofs.YtmlkfglnnepjjaaDoor
