/- Layer 1: the program's skip: white space and comments. -/
import Derived.Test.YtmlkfglnnepjjaaDoorLex
namespace Go.Proofs.YtmlkfglnnepjjaaDoor
open Go.RowKit


theorem blk_in {s : ByteArray} {k : Nat} (h : blk (bA (tx s) k) = true) : k < s.size := by
  rw [← tx_len]; exact bA_in (by rw [blk_iff] at h; omega)

set_option maxRecDepth 100000 in
theorem skip_any (s : ByteArray) (k : Nat) (w : World) (hs : s.size ≤ 1000000000) (hk : k ≤ s.size) (hT : TabW w) :
    Calls Tryd.prog 25 #[.string s, .int .i64 k] w fun e w' => e = .returned (.int .i64 (sk false (tx s) k)) ∧ w = w' := by
  go_enter Tryd.func25, Tryd.ntmps25
  go_wp2_with fail
  refine wp_scope_jumps 0 (fun a' w' => w = w' ∧ ∃ (j : Nat) (u5 u6 u7 u8 u9 u10 u11 u12 u13 u14 u15 u16 u17 u18 u19 u20 u21 u22 u23 u24 u25 u26 : Value), a' = { tmps := #[.string s, .int .i64 j, undef, undef, .int .i64 0, u5, u6, u7, u8, u9, u10, u11, u12, u13, u14, u15, u16, u17, u18, u19, u20, u21, u22, u23, u24, u25, u26, undef], defers := [] } ∧ j ≤ s.size ∧ sk false (tx s) k = sk false (tx s) j) (fun a' _ => s.size - (intOf (a'.tmps.getD 1 undef)).toNat) rfl ?_ ?_
  · obtain ⟨j, hj, hjk⟩ : ∃ j, j ≤ s.size ∧ j = k := ⟨k, hk, rfl⟩
    subst hjk
    have Hr : Hid (sk false (tx s) j = sk false (tx s) j) := rfl
    go_wp2
    go_step3
    go_wp2_with fail
    go_loop [1] (fun i => ∃ j' : Nat, j' ≤ s.size ∧ sk false (tx s) j = sk false (tx s) j' ∧ j ≤ j' ∧ i = .int .i64 j') (fun i => s.size - (intOf i).toNat)
    case atStart => exact ⟨j, hj, rfl, Nat.le_refl _, rfl⟩
    case round =>
      obtain ⟨j', hj', hr', hle, rfl⟩ := hrel
      have Hr' := Lib.hid hr'
      clear hr'
      go_wp2_with (first | (go_at_call 31; refine (classAt_any _ _ _ hT).mono ?_; rintro e w' ⟨rfl, rfl⟩))
      · have hb : blk (bA (tx s) j') = true := by rw [← cls_1]; simpa using (by assumption : (cls (bA (tx s) j') == 1) = true)
        have hl := blk_in hb
        go_round
        case rel => exact ⟨j' + 1, by omega, by rw [Hr'.out]; exact sk_blk hb, by omega, by go_num⟩
        case measure => simp [intOf]; omega
      · have hb : bA (tx s) j' = 35 := by rw [← cls_2]; simpa using (by assumption : (cls (bA (tx s) j') == 2) = true)
        have hl : j' < s.size := by rw [← tx_len]; exact bA_in (by omega)
        have Hb := Lib.hid hb
        clear hb
        go_loop [1] (fun i => ∃ j2 : Nat, j2 ≤ s.size ∧ sk true (tx s) j' = sk true (tx s) j2 ∧ j' ≤ j2 ∧ i = .int .i64 j2) (fun i => s.size - (intOf i).toNat)
        case atStart => exact ⟨j', hj', rfl, Nat.le_refl _, rfl⟩
        case round =>
          obtain ⟨j2, hj2, hr2, hle2, rfl⟩ := hrel
          have Hr2 := Lib.hid hr2
          clear hr2
          by_cases hlt : j2 < s.size
          · have B2 := Lib.hid (bA_str hlt)
            go_wp2_with fail
            · have hne : bA (tx s) j2 ≠ 10 := by rw [B2.out]; simpa using (by assumption : (!((s[j2].toNat : Int) == 10)) = true)
              go_round
              case rel => exact ⟨j2 + 1, by omega, by rw [Hr2.out]; exact sk_in (by rw [tx_len]; exact hlt) hne, by omega, by go_num⟩
              case measure => simp [intOf]; omega
            · have hne : bA (tx s) j2 = 10 := by rw [B2.out]; simpa using (by assumption : (!((s[j2].toNat : Int) == 10)) = false)
              have hlt2 : j' < j2 := by
                rcases Nat.lt_or_ge j' j2 with h | h
                · exact h
                · have he : j' = j2 := by omega
                  rw [← he, Hb.out] at hne; omega
              have hfin : sk false (tx s) j = sk false (tx s) j2 := by rw [Hr'.out, sk_hash Hb.out, Hr2.out, sk_nl hne]
              go_step3
              exact ⟨rfl, rfl, j2, _, _, _, _, _, _, _, _, _, _, _, _, _, _, _, _, _, _, _, _, _, _, rfl, hj2, hfin⟩
          · have hlt2 : j' < j2 := by omega
            have hfin : sk false (tx s) j = sk false (tx s) j2 := by rw [Hr'.out, sk_hash Hb.out, Hr2.out, sk_end (by rw [tx_len]; omega), sk_end (by rw [tx_len]; omega)]
            have Hfin := Lib.hid hfin
            clear hfin
            go_wp2_with fail
            have hfin := Hfin.out
            go_step3
            exact ⟨rfl, rfl, j2, _, _, _, _, _, _, _, _, _, _, _, _, _, _, _, _, _, _, _, _, _, _, rfl, hj2, hfin⟩
      · have hb : blk (bA (tx s) j') = false := Bool.eq_false_iff.2 (fun h => by rw [← cls_1] at h; simp_all)
        have hb2 : bA (tx s) j' ≠ 35 := fun h => by rw [← cls_2] at h; simp_all
        simp only [Exit.jump]
        go_ret
        exact ⟨ret_int (by first | rw [Hr.out, Hr'.out, sk_stop hb hb2] | rw [Hr'.out, sk_stop hb hb2]), rfl⟩
  · rintro a' w' ⟨rfl, j, u5, u6, u7, u8, u9, u10, u11, u12, u13, u14, u15, u16, u17, u18, u19, u20, u21, u22, u23, u24, u25, u26, rfl, hj, hr⟩
    have Hr := Lib.hid hr
    clear hr
    go_wp2_with fail
    go_loop [1] (fun i => ∃ j' : Nat, j' ≤ s.size ∧ sk false (tx s) j = sk false (tx s) j' ∧ j ≤ j' ∧ i = .int .i64 j') (fun i => s.size - (intOf i).toNat)
    case atStart => exact ⟨j, hj, rfl, Nat.le_refl _, rfl⟩
    case round =>
      obtain ⟨j', hj', hr', hle, rfl⟩ := hrel
      have Hr' := Lib.hid hr'
      clear hr'
      go_wp2_with (first | (go_at_call 31; refine (classAt_any _ _ _ hT).mono ?_; rintro e w' ⟨rfl, rfl⟩))
      · have hb : blk (bA (tx s) j') = true := by rw [← cls_1]; simpa using (by assumption : (cls (bA (tx s) j') == 1) = true)
        have hl := blk_in hb
        go_round
        case rel => exact ⟨j' + 1, by omega, by rw [Hr'.out]; exact sk_blk hb, by omega, by go_num⟩
        case measure => simp [intOf]; omega
      · have hb : bA (tx s) j' = 35 := by rw [← cls_2]; simpa using (by assumption : (cls (bA (tx s) j') == 2) = true)
        have hl : j' < s.size := by rw [← tx_len]; exact bA_in (by omega)
        have Hb := Lib.hid hb
        clear hb
        go_loop [1] (fun i => ∃ j2 : Nat, j2 ≤ s.size ∧ sk true (tx s) j' = sk true (tx s) j2 ∧ j' ≤ j2 ∧ i = .int .i64 j2) (fun i => s.size - (intOf i).toNat)
        case atStart => exact ⟨j', hj', rfl, Nat.le_refl _, rfl⟩
        case round =>
          obtain ⟨j2, hj2, hr2, hle2, rfl⟩ := hrel
          have Hr2 := Lib.hid hr2
          clear hr2
          by_cases hlt : j2 < s.size
          · have B2 := Lib.hid (bA_str hlt)
            go_wp2_with fail
            · have hne : bA (tx s) j2 ≠ 10 := by rw [B2.out]; simpa using (by assumption : (!((s[j2].toNat : Int) == 10)) = true)
              go_round
              case rel => exact ⟨j2 + 1, by omega, by rw [Hr2.out]; exact sk_in (by rw [tx_len]; exact hlt) hne, by omega, by go_num⟩
              case measure => simp [intOf]; omega
            · have hne : bA (tx s) j2 = 10 := by rw [B2.out]; simpa using (by assumption : (!((s[j2].toNat : Int) == 10)) = false)
              have hlt2 : j' < j2 := by
                rcases Nat.lt_or_ge j' j2 with h | h
                · exact h
                · have he : j' = j2 := by omega
                  rw [← he, Hb.out] at hne; omega
              have hfin : sk false (tx s) j = sk false (tx s) j2 := by rw [Hr'.out, sk_hash Hb.out, Hr2.out, sk_nl hne]
              go_step3
              exact ⟨rfl, ⟨rfl, j2, _, _, _, _, _, _, _, _, _, _, _, _, _, _, _, _, _, _, _, _, _, _, rfl, hj2, by rw [Hr.out]; exact hfin⟩, by simp [intOf]; omega⟩
          · have hlt2 : j' < j2 := by omega
            have hfin : sk false (tx s) j = sk false (tx s) j2 := by rw [Hr'.out, sk_hash Hb.out, Hr2.out, sk_end (by rw [tx_len]; omega), sk_end (by rw [tx_len]; omega)]
            have Hfin := Lib.hid hfin
            clear hfin
            go_wp2_with fail
            have hfin := Hfin.out
            go_step3
            exact ⟨rfl, ⟨rfl, j2, _, _, _, _, _, _, _, _, _, _, _, _, _, _, _, _, _, _, _, _, _, _, rfl, hj2, by rw [Hr.out]; exact hfin⟩, by simp [intOf]; omega⟩
      · have hb : blk (bA (tx s) j') = false := Bool.eq_false_iff.2 (fun h => by rw [← cls_1] at h; simp_all)
        have hb2 : bA (tx s) j' ≠ 35 := fun h => by rw [← cls_2] at h; simp_all
        simp only [Exit.jump]
        go_ret
        exact ⟨ret_int (by first | rw [Hr.out, Hr'.out, sk_stop hb hb2] | rw [Hr'.out, sk_stop hb hb2]), rfl⟩
end Go.Proofs.YtmlkfglnnepjjaaDoor
