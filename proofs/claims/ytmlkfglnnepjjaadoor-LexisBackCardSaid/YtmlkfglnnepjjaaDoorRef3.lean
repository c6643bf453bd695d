/- Layer 1, the reference: integers, signs. -/
import Derived.Test.YtmlkfglnnepjjaaDoorRef2
namespace Go.Proofs.YtmlkfglnnepjjaaDoor
open Go.RowKit


/-- isInt by the index of the first digit -/
theorem isInt_at {l : List UInt8} {a : Nat} (ha : a = if bA l 0 = 45 then 1 else 0) (h48 : l ≠ [48]) :
    isInt l = (decide (a < l.length) && decide (l.length - a ≤ 18) && decide (bA l a ≠ 48) && (l.drop a).all fun c => dg c.toNat) := by
  have hd : digitsOf l = l.drop a := by unfold digitsOf; rw [ha]; split <;> simp
  have h1 : (l == [48]) = false := by simpa using h48
  rw [isInt, hd, h1, Bool.false_or]
  have h2 : (!(l.drop a).isEmpty) = decide (a < l.length) := by rw [Bool.eq_iff_iff]; simp
  rw [h2, List.length_drop, bA_drop, Nat.add_zero]


set_option maxRecDepth 100000 in
theorem integer_any (s : ByteArray) (w : World) (hs : s.size ≤ 1000000000) :
    Calls Tryd.prog 39 #[.string s] w fun e w' => e = .returned (.bool (isInt (tx s))) ∧ w = w' := by
  by_cases h0 : tx s = [48]
  · have hb : (s.toList == [48]) = true := by rw [str_ne]; simp [h0]
    have h0' := Lib.hid h0
    clear h0
    go_enter Tryd.func39, Tryd.ntmps39
    go_wp2_with fail
    go_ret
    exact ⟨ret_bool (by rw [h0'.out]; decide), rfl⟩
  have hb : (s.toList == [48]) = false := by rw [str_ne]; simp [h0]
  obtain ⟨a, ha⟩ : ∃ a, a = if bA (tx s) 0 = 45 then 1 else 0 := ⟨_, rfl⟩
  have HI := Lib.hid (isInt_at ha h0)
  clear h0
  rw [tx_len] at HI
  by_cases hp : 0 < s.size
  · have hb0 := bA_str hp
    by_cases h45 : (s[0].toNat : Int) = 45
    · have h45b : ((s[0].toNat : Int) == 45) = true := by simp [h45]
      have ha1 : a = 1 := by rw [ha, if_pos (by rw [hb0]; exact h45)]
      clear ha h45 hb0
      subst ha1
      by_cases h1 : 1 < s.size
      · have hne : ((s.size : Int) == 1) = false := by rw [beq_eq_false_iff_ne]; omega
        have hba := bA_str h1
        by_cases h18 : 18 < s.size - 1
        · have hd18 : decide ((18 : Int) < (s.size : Int) - 1) = true := by simp; omega
          go_enter Tryd.func39, Tryd.ntmps39
          have Hba := Lib.hid hba
          clear hba
          go_wp2_with fail
          go_ret
          have g3 : decide (s.size - 1 ≤ 18) = false := decide_eq_false (by omega)
          exact ⟨ret_bool (by rw [HI.out, g3]; simp), rfl⟩
        have hd18 : decide ((18 : Int) < (s.size : Int) - 1) = false := by simp; omega
        by_cases h48 : (s[1].toNat : Int) = 48
        · have h48b : ((s[1].toNat : Int) == 48) = true := by simp [h48]
          have h48c : bA (tx s) 1 = 48 := by rw [hba]; exact h48
          have H48 := Lib.hid h48c
          clear h48 h48c hba
          go_enter Tryd.func39, Tryd.ntmps39
          go_wp2_with fail
          go_ret
          exact ⟨ret_bool (by rw [HI.out, H48.out]; simp), rfl⟩
        have h48b : ((s[1].toNat : Int) == 48) = false := by simp [h48]
        have h48c : bA (tx s) 1 ≠ 48 := by rw [hba]; exact h48
        have H48 := Lib.hid h48c
        clear h48 h48c hba
        go_enter Tryd.func39, Tryd.ntmps39
        go_wp2_with fail
        go_loop [4] (fun i => ∃ j : Nat, 1 ≤ j ∧ j ≤ s.size ∧ (∀ q, 1 ≤ q → q < j → dg (bA (tx s) q) = true) ∧ i = .int .i64 j) (fun i => s.size - (intOf i).toNat)
        case atStart => exact ⟨1, Nat.le_refl _, by omega, fun q h1 h2 => by omega, rfl⟩
        case round =>
          obtain ⟨j, hja, hj, hall, rfl⟩ := hrel
          have Hall := Lib.hid hall
          clear hall
          by_cases hlt : j < s.size
          · have hbj := Lib.hid (bA_str hlt)
            cases hd : dg (s[j].toNat : Int)
            · have Hd := Lib.hid hd
              clear hd
              go_wp2_with (first | (go_at_call 37; refine (digit_any _ _).mono ?_; rw [Hd.out]; rintro e w' ⟨rfl, rfl⟩))
              go_ret
              refine ⟨ret_bool ?_, rfl⟩
              have hx : ((tx s).drop 1).all (fun c => dg c.toNat) = false := by
                rw [Bool.eq_false_iff]
                intro h
                rw [List.all_eq_true] at h
                have hq := h ((tx s)[j]'(by rw [tx_len]; exact hlt)) (by rw [List.mem_iff_getElem]; exact ⟨j - 1, by simp; omega, by rw [List.getElem_drop]; first | (congr 1; omega) | congr 1⟩)
                have : dg (bA (tx s) j) = true := by rw [bA_lt (by rw [tx_len]; exact hlt)]; exact hq
                rw [hbj.out, Hd.out] at this
                cases this
              rw [HI.out, hx]; simp
            · have Hd := Lib.hid hd
              clear hd
              go_wp2_with (first | (go_at_call 37; refine (digit_any _ _).mono ?_; rw [Hd.out]; rintro e w' ⟨rfl, rfl⟩))
              go_round
              case rel =>
                refine ⟨j + 1, by omega, by omega, fun q h1 h2 => ?_, by go_num⟩
                rcases Nat.lt_or_ge q j with h | h
                · exact Hall.out q h1 h
                · have he : q = j := by omega
                  rw [he, hbj.out]; exact Hd.out
              case measure => simp [intOf]; omega
          · go_wp2_with fail
            go_ret
            refine ⟨ret_bool ?_, rfl⟩
            have hx : ((tx s).drop 1).all (fun c => dg c.toNat) = true := by
              rw [List.all_eq_true]
              intro c hc
              rw [List.mem_iff_getElem] at hc
              obtain ⟨q, hq, rfl⟩ := hc
              have hq' : 1 + q < (tx s).length := by simp at hq; simp; omega
              have := Hall.out (1 + q) (by omega) (by rw [tx_len] at hq'; omega)
              rw [bA_lt hq'] at this
              rw [List.getElem_drop]; exact this
            have g1 : decide (bA (tx s) 1 ≠ 48) = true := decide_eq_true H48.out
            have g2 : decide (1 < s.size) = true := decide_eq_true h1
            have g3 : decide (s.size - 1 ≤ 18) = true := decide_eq_true (by omega)
            rw [HI.out, hx, g1, g2, g3]; rfl
      · have hs1 : s.size = 1 := by omega
        have hne : ((s.size : Int) == 1) = true := by simp [hs1]
        have HF := Lib.hid hs1
        clear hs1
        go_enter Tryd.func39, Tryd.ntmps39
        go_wp2_with fail
        go_ret
        exact ⟨ret_bool (by rw [HI.out, HF.out]; simp), rfl⟩
    · have h45b : ((s[0].toNat : Int) == 45) = false := by simp [h45]
      have ha0 : a = 0 := by rw [ha, if_neg (by rw [hb0]; exact h45)]
      clear ha h45 hb0
      subst ha0
      have h1 : 0 < s.size := hp
      have hne : ((s.size : Int) == 0) = false := by rw [beq_eq_false_iff_ne]; omega
      have hba := bA_str h1
      by_cases h18 : 18 < s.size - 0
      · have hd18 : decide ((18 : Int) < (s.size : Int) - 0) = true := by simp; omega
        go_enter Tryd.func39, Tryd.ntmps39
        have Hba := Lib.hid hba
        clear hba
        go_wp2_with fail
        go_ret
        have g3 : decide (s.size - 0 ≤ 18) = false := decide_eq_false (by omega)
        exact ⟨ret_bool (by rw [HI.out, g3]; simp), rfl⟩
      have hd18 : decide ((18 : Int) < (s.size : Int) - 0) = false := by simp; omega
      by_cases h48 : (s[0].toNat : Int) = 48
      · have h48b : ((s[0].toNat : Int) == 48) = true := by simp [h48]
        have h48c : bA (tx s) 0 = 48 := by rw [hba]; exact h48
        have H48 := Lib.hid h48c
        clear h48 h48c hba
        go_enter Tryd.func39, Tryd.ntmps39
        go_wp2_with fail
        go_ret
        exact ⟨ret_bool (by rw [HI.out, H48.out]; simp), rfl⟩
      have h48b : ((s[0].toNat : Int) == 48) = false := by simp [h48]
      have h48c : bA (tx s) 0 ≠ 48 := by rw [hba]; exact h48
      have H48 := Lib.hid h48c
      clear h48 h48c hba
      go_enter Tryd.func39, Tryd.ntmps39
      go_wp2_with fail
      go_loop [4] (fun i => ∃ j : Nat, 0 ≤ j ∧ j ≤ s.size ∧ (∀ q, 0 ≤ q → q < j → dg (bA (tx s) q) = true) ∧ i = .int .i64 j) (fun i => s.size - (intOf i).toNat)
      case atStart => exact ⟨0, Nat.le_refl _, by omega, fun q h1 h2 => by omega, rfl⟩
      case round =>
        obtain ⟨j, hja, hj, hall, rfl⟩ := hrel
        have Hall := Lib.hid hall
        clear hall
        by_cases hlt : j < s.size
        · have hbj := Lib.hid (bA_str hlt)
          cases hd : dg (s[j].toNat : Int)
          · have Hd := Lib.hid hd
            clear hd
            go_wp2_with (first | (go_at_call 37; refine (digit_any _ _).mono ?_; rw [Hd.out]; rintro e w' ⟨rfl, rfl⟩))
            go_ret
            refine ⟨ret_bool ?_, rfl⟩
            have hx : ((tx s).drop 0).all (fun c => dg c.toNat) = false := by
              rw [Bool.eq_false_iff]
              intro h
              rw [List.all_eq_true] at h
              have hq := h ((tx s)[j]'(by rw [tx_len]; exact hlt)) (by rw [List.mem_iff_getElem]; exact ⟨j - 0, by simp; omega, by rw [List.getElem_drop]; first | (congr 1; omega) | congr 1⟩)
              have : dg (bA (tx s) j) = true := by rw [bA_lt (by rw [tx_len]; exact hlt)]; exact hq
              rw [hbj.out, Hd.out] at this
              cases this
            rw [HI.out, hx]; simp
          · have Hd := Lib.hid hd
            clear hd
            go_wp2_with (first | (go_at_call 37; refine (digit_any _ _).mono ?_; rw [Hd.out]; rintro e w' ⟨rfl, rfl⟩))
            go_round
            case rel =>
              refine ⟨j + 1, by omega, by omega, fun q h1 h2 => ?_, by go_num⟩
              rcases Nat.lt_or_ge q j with h | h
              · exact Hall.out q h1 h
              · have he : q = j := by omega
                rw [he, hbj.out]; exact Hd.out
            case measure => simp [intOf]; omega
        · go_wp2_with fail
          go_ret
          refine ⟨ret_bool ?_, rfl⟩
          have hx : ((tx s).drop 0).all (fun c => dg c.toNat) = true := by
            rw [List.all_eq_true]
            intro c hc
            rw [List.mem_iff_getElem] at hc
            obtain ⟨q, hq, rfl⟩ := hc
            have hq' : 0 + q < (tx s).length := by simp at hq; simp; omega
            have := Hall.out (0 + q) (by omega) (by rw [tx_len] at hq'; omega)
            rw [bA_lt hq'] at this
            rw [List.getElem_drop]; exact this
          have g1 : decide (bA (tx s) 0 ≠ 48) = true := decide_eq_true H48.out
          have g2 : decide (0 < s.size) = true := decide_eq_true h1
          have g3 : decide (s.size - 0 ≤ 18) = true := decide_eq_true (by omega)
          rw [HI.out, hx, g1, g2, g3]; rfl
  · have hs0 : s.size = 0 := by omega
    have hne : ((s.size : Int) == 0) = true := by simp [hs0]
    have HF := Lib.hid hs0
    clear hs0
    have ha0 : a = 0 := by rw [ha, if_neg (by rw [bA_ge (by rw [tx_len]; omega)]; omega)]
    clear ha
    subst ha0
    go_enter Tryd.func39, Tryd.ntmps39
    go_wp2_with fail
    go_ret
    exact ⟨ret_bool (by rw [HI.out, HF.out]; simp), rfl⟩
end Go.Proofs.YtmlkfglnnepjjaaDoor
