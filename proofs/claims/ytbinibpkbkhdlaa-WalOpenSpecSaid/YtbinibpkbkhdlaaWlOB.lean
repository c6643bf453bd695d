/- Wal: the reference's Good. -/
import Derived.Test.YtbinibpkbkhdlaaWlOA
import Derived.Test.YtbinibpkbkhdlaaWlH
import Derived.BigQuiet
namespace Go.Proofs.Ytbinibpkbkhdlaa
open Go.RowKit

set_option maxRecDepth 100000 in
set_option maxHeartbeats 20000000 in
theorem rgood_any (s : List UInt8) (hs : s.length = 128) (g off cap : Nat) (hc : 128 ≤ cap) (k : Nat) (hk : k ≤ 1000000) (w : World) (hv : Sl w 1 (.slice (some ⟨g, off, none⟩) 128 cap) 128 (bc s)) :
    Calls Try.prog 58 #[.slice (some ⟨g, off, none⟩) 128 cap, .int .i64 (k : Int)] w fun e w' => e = .returned (.bool (gdB s k)) ∧ ∃ n, w' = w.drewN n := by
  have l4 : (s.take 4).length = 4 := by simp; omega
  have hv4 : Sl w 1 (.slice (some ⟨g, off, none⟩) 4 cap) 4 (bc (s.take 4)) := by
    have h : Sl w 1 (.slice (some ⟨g, off, none⟩) s.length cap) s.length (bc s) := by rw [hs]; exact hv
    exact h.take (by omega)
  have HN0 := Lib.hid (fun n => calls_flip (rnum_any (s.take 4) 4 l4 (by omega) _ cap (w.drewN n) (hv4.drewN n)))
  have HN1 := Lib.hid (fun n => calls_flip (rnum_any ((s.take 128).drop 124) 4 (by simp; omega) (by omega) _ (cap - 124) (w.drewN n) (sl_sub (hv.drewN n) (A := 124) (B := 128) (by omega) (by omega) 4 (cap - 124) rfl (by omega))))
  have HN2 := Lib.hid (fun n => calls_flip (rnum_any ((s.take 8).drop 4) 4 (by simp; omega) (by omega) _ (cap - 4) (w.drewN n) (sl_sub (hv.drewN n) (A := 4) (B := 8) (by omega) (by omega) 4 (cap - 4) rfl (by omega))))
  have HN3 := Lib.hid (fun n => calls_flip (rnum_any ((s.take 10).drop 8) 2 (by simp; omega) (by omega) _ (cap - 8) (w.drewN n) (sl_sub (hv.drewN n) (A := 8) (B := 10) (by omega) (by omega) 2 (cap - 8) rfl (by omega))))
  have HSm := Lib.hid (fun n => calls_flip (rsum_any ((s.take 124).drop 8) 116 (by simp; omega) (by unfold maxLen; omega) _ (cap - 8) (w.drewN n) (sl_sub (hv.drewN n) (A := 8) (B := 124) (by omega) (by omega) 116 (cap - 8) rfl (by omega))))
  have t4 : num4 (s.take 4) 0 = num4 s 0 := by have := num4_sub s 0 4 (by omega) (by omega); simpa using this
  have t2 : nb ((s.take 10).drop 8) = bt s 8 * 256 + bt s 9 := by
    rw [nb2 _ (by simp; omega)]
    have e : ∀ i, i < 2 → bt ((s.take 10).drop 8) i = bt s (8 + i) := fun i hi => by
      unfold bt
      rw [List.getD_eq_getElem?_getD, List.getD_eq_getElem?_getD, List.getElem?_drop, List.getElem?_take_of_lt (by omega)]
    rw [e 0 (by omega), e 1 (by omega)]
  rw [nb4 _ l4, t4] at HN0
  rw [nb4 _ (by simp; omega), num4_sub s 124 128 (by omega) (by omega)] at HN1
  rw [nb4 _ (by simp; omega), num4_sub s 4 8 (by omega) (by omega)] at HN2
  rw [t2] at HN3
  have HG := Lib.hid (show gdB s k = true ↔ Gd s k from decide_eq_true_iff)
  unfold Gd at HG
  obtain ⟨gv, hgv⟩ : ∃ x, gdB s k = x := ⟨_, rfl⟩
  rw [hgv] at HG ⊢
  obtain ⟨n0, hn0⟩ : ∃ x, num4 s 0 = x := ⟨_, rfl⟩
  obtain ⟨n1, hn1⟩ : ∃ x, num4 s 124 = x := ⟨_, rfl⟩
  obtain ⟨n2, hn2⟩ : ∃ x, num4 s 4 = x := ⟨_, rfl⟩
  obtain ⟨cs, hcs⟩ : ∃ x, crc ((s.take 124).drop 8) = x := ⟨_, rfl⟩
  rw [hn0] at HN0 HG
  rw [hn1] at HN1 HG
  rw [hn2] at HN2 HG
  rw [hcs] at HSm HG
  obtain ⟨_, _, _, he, _, h0 | ⟨_, _, he2, hat⟩⟩ := hv
  · omega
  cases he; cases he2
  have c10 := hat 10 _ (bt_at (d := s) (k := 10) (by omega))
  have c11 := hat 11 _ (bt_at (d := s) (k := 11) (by omega))
  have Hat := Lib.hid (fun i (hi : i < 128) => hat i _ (bt_at (d := s) (k := i) (by omega)))
  have b10 := bt_lt s 10
  have b11 := bt_lt s 11
  obtain ⟨pl, hpl⟩ : ∃ x, bt s 8 * 256 + bt s 9 = x := ⟨_, rfl⟩
  obtain ⟨fl, hfl⟩ : ∃ x, bt s 10 = x := ⟨_, rfl⟩
  obtain ⟨sz, hsz⟩ : ∃ x, bt s 11 = x := ⟨_, rfl⟩
  rw [hpl] at HN3 HG
  rw [hfl] at c10 b10 HG
  rw [hsz] at c11 b11 HG
  have hcap : (128 : Int) ≤ (cap : Int) := by omega
  have hc4 : (4 : Int) ≤ (cap : Int) := by omega
  have hc8 : (8 : Int) ≤ (cap : Int) := by omega
  have hc10 : (10 : Int) ≤ (cap : Int) := by omega
  have hc124 : (124 : Int) ≤ (cap : Int) := by omega
  have ic1 : ¬ cap = 124 := by omega
  have ic2 : ¬ cap = 4 := by omega
  have ic3 : ¬ cap = 8 := by omega
  have hw2 := wrap_w n2
  have hkw : IntKind.u64.wrap (k : Int) = (k : Int) := by rw [IntKind.wrap_u64]; omega
  clear hpl hgv hn0 hn1 hn2 hcs hfl hsz hat hs l4 hv4 t4 t2 hk hc
  unfold wv at HSm
  go_enter Try.func58, Try.ntmps58
  go_wp2_with fail
  refine wp_region_quiet_lit (by kernel_rfl) (by kernel_rfl) ?_
  by_cases h1 : n0 = 0#32
  · have f1 : ((n0.toNat : Int) == 0) = true := (toNat_beq n0 0#32).trans (decide_eq_true h1)
    have Hy := Lib.hid h1
    clear h1
    repeat (go_big_quiet_step ((first | (go_at_call 52; with_reducible exact Calls.quiet_of_same (HN0.out _)) | (go_at_call 52; with_reducible exact Calls.quiet_of_same (HN1.out _)) | (go_at_call 52; with_reducible exact Calls.quiet_of_same (HN2.out _)) | (go_at_call 52; with_reducible exact Calls.quiet_of_same (HN3.out _)) | (go_at_call 15; with_reducible exact Calls.quiet_of_same (HSm.out _)))))
    refine wpQuiet_nil ?_
    intro _ hw'
    obtain ⟨nq, hw''⟩ := hw'
    subst hw''
    go_wp2_with fail
    go_ret
    refine ⟨ret_bool ?_, _, rfl⟩
    cases hq : gv with
    | false => rfl
    | true => have := HG.out.1 hq; exact absurd this (fun h => h.1 Hy.out)
  have f1 : ((n0.toNat : Int) == 0) = false := (toNat_beq n0 0#32).trans (decide_eq_false h1)
  by_cases h2 : n0 = n1
  case neg =>
    have f2 : ((n0.toNat : Int) != (n1.toNat : Int)) = true := by rw [bne, toNat_beq, decide_eq_false h2]; rfl
    have Hy := Lib.hid h2
    clear h1 h2
    repeat (go_big_quiet_step ((first | (go_at_call 52; with_reducible exact Calls.quiet_of_same (HN0.out _)) | (go_at_call 52; with_reducible exact Calls.quiet_of_same (HN1.out _)) | (go_at_call 52; with_reducible exact Calls.quiet_of_same (HN2.out _)) | (go_at_call 52; with_reducible exact Calls.quiet_of_same (HN3.out _)) | (go_at_call 15; with_reducible exact Calls.quiet_of_same (HSm.out _)))))
    refine wpQuiet_nil ?_
    intro _ hw'
    obtain ⟨nq, hw''⟩ := hw'
    subst hw''
    go_wp2_with fail
    go_ret
    refine ⟨ret_bool ?_, _, rfl⟩
    cases hq : gv with
    | false => rfl
    | true => have := HG.out.1 hq; exact absurd this (fun h => Hy.out h.2.1)
  have f2 : ((n0.toNat : Int) != (n1.toNat : Int)) = false := by rw [bne, toNat_beq, decide_eq_true h2]; rfl
  by_cases h9 : n2 = cs
  case neg =>
    have f3 : ((n2.toNat : Int) != (cs.toNat : Int)) = true := by rw [bne, toNat_beq, decide_eq_false h9]; rfl
    have Hy := Lib.hid h9
    clear h1 h2 h9
    repeat (go_big_quiet_step ((first | (go_at_call 52; with_reducible exact Calls.quiet_of_same (HN0.out _)) | (go_at_call 52; with_reducible exact Calls.quiet_of_same (HN1.out _)) | (go_at_call 52; with_reducible exact Calls.quiet_of_same (HN2.out _)) | (go_at_call 52; with_reducible exact Calls.quiet_of_same (HN3.out _)) | (go_at_call 15; with_reducible exact Calls.quiet_of_same (HSm.out _)))))
    refine wpQuiet_nil ?_
    intro _ hw'
    obtain ⟨nq, hw''⟩ := hw'
    subst hw''
    go_wp2_with fail
    go_ret
    refine ⟨ret_bool ?_, _, rfl⟩
    cases hq : gv with
    | false => rfl
    | true => have := HG.out.1 hq; exact absurd this (fun h => Hy.out h.2.2.2.2.2.2.2.2)
  have f3 : ((n2.toNat : Int) != (cs.toNat : Int)) = false := by rw [bne, toNat_beq, decide_eq_true h9]; rfl
  by_cases h3 : pl = k
  case neg =>
    have f4 : ((pl : Int) != (k : Int)) = true := by simp; omega
    have Hy := Lib.hid h3
    clear h1 h2 h9 h3
    repeat (go_big_quiet_step ((first | (go_at_call 52; with_reducible exact Calls.quiet_of_same (HN0.out _)) | (go_at_call 52; with_reducible exact Calls.quiet_of_same (HN1.out _)) | (go_at_call 52; with_reducible exact Calls.quiet_of_same (HN2.out _)) | (go_at_call 52; with_reducible exact Calls.quiet_of_same (HN3.out _)) | (go_at_call 15; with_reducible exact Calls.quiet_of_same (HSm.out _)))))
    refine wpQuiet_nil ?_
    intro _ hw'
    obtain ⟨nq, hw''⟩ := hw'
    subst hw''
    go_wp2_with fail
    go_ret
    refine ⟨ret_bool ?_, _, rfl⟩
    cases hq : gv with
    | false => rfl
    | true => have := HG.out.1 hq; exact absurd this (fun h => Hy.out h.2.2.1)
  have f4 : ((pl : Int) != (k : Int)) = false := by simp [h3]
  by_cases h4 : fl ≤ 3
  case neg =>
    have f5 : (3 : Int) < (fl : Int) := by omega
    have Hy := Lib.hid h4
    clear h1 h2 h9 h3 h4
    repeat (go_big_quiet_step ((first | (go_at_call 52; with_reducible exact Calls.quiet_of_same (HN0.out _)) | (go_at_call 52; with_reducible exact Calls.quiet_of_same (HN1.out _)) | (go_at_call 52; with_reducible exact Calls.quiet_of_same (HN2.out _)) | (go_at_call 52; with_reducible exact Calls.quiet_of_same (HN3.out _)) | (go_at_call 15; with_reducible exact Calls.quiet_of_same (HSm.out _)))))
    refine wpQuiet_nil ?_
    intro _ hw'
    obtain ⟨nq, hw''⟩ := hw'
    subst hw''
    go_wp2_with fail
    go_ret
    refine ⟨ret_bool ?_, _, rfl⟩
    cases hq : gv with
    | false => rfl
    | true => have := HG.out.1 hq; exact absurd this (fun h => Hy.out h.2.2.2.1)
  have f5 : ¬ (3 : Int) < (fl : Int) := by omega
  by_cases h5 : 112 < sz
  · have f6 : (112 : Int) < (sz : Int) := by omega
    have Hy := Lib.hid h5
    clear h1 h2 h9 h3 h4 h5
    repeat (go_big_quiet_step ((first | (go_at_call 52; with_reducible exact Calls.quiet_of_same (HN0.out _)) | (go_at_call 52; with_reducible exact Calls.quiet_of_same (HN1.out _)) | (go_at_call 52; with_reducible exact Calls.quiet_of_same (HN2.out _)) | (go_at_call 52; with_reducible exact Calls.quiet_of_same (HN3.out _)) | (go_at_call 15; with_reducible exact Calls.quiet_of_same (HSm.out _)))))
    refine wpQuiet_nil ?_
    intro _ hw'
    obtain ⟨nq, hw''⟩ := hw'
    subst hw''
    go_wp2_with fail
    go_ret
    refine ⟨ret_bool ?_, _, rfl⟩
    cases hq : gv with
    | false => rfl
    | true => have := HG.out.1 hq; exact absurd this (fun h => absurd h.2.2.2.2.1 (by have := Hy.out; omega))
  have f6 : ¬ (112 : Int) < (sz : Int) := by omega
  have Hx := Lib.hid (⟨h1, h2, h9, h3, h4⟩ : n0 ≠ 0#32 ∧ n0 = n1 ∧ n2 = cs ∧ pl = k ∧ fl ≤ 3)
  have Hz := Lib.hid (show sz ≤ 112 by omega)
  clear h1 h2 h9 h3 h5
  by_cases h6 : fl < 2
  · have f7 : (fl : Int) < 2 := by omega
    by_cases h7 : sz = 112
    · have f8 : ((sz : Int) != 112) = false := by simp [h7]
      have f10 : ((sz : Int) == 0) = false := by simp; omega
      have Hy := Lib.hid (show (fl % 4 < 2 → sz = 112) ∧ (fl % 2 = 0 → 1 ≤ sz) from ⟨fun _ => h7, fun _ => by omega⟩)
      clear h4 h6 h7
      by_cases h8 : fl % 2 = 0
      · have f9 : ((fl : Int).tmod 2 == 0) = true := by rw [Int.tmod_eq_emod_of_nonneg (by omega)]; simp; omega
        have f9b : ((fl : Int) % 2 == 0) = true := by simp; omega
        clear h8
        have s1 : IntKind.i64.wrap (12 + (sz : Int)) = ((12 + sz : Nat) : Int) := by rw [IntKind.wrap_i64]; omega
        repeat (go_big_quiet_step ((first | (go_at_call 52; with_reducible exact Calls.quiet_of_same (HN0.out _)) | (go_at_call 52; with_reducible exact Calls.quiet_of_same (HN1.out _)) | (go_at_call 52; with_reducible exact Calls.quiet_of_same (HN2.out _)) | (go_at_call 52; with_reducible exact Calls.quiet_of_same (HN3.out _)) | (go_at_call 15; with_reducible exact Calls.quiet_of_same (HSm.out _)))))
        refine wpQuiet_nil ?_
        intro _ hw'
        obtain ⟨nq, hw''⟩ := hw'
        subst hw''
        go_wp2_with fail
        obtain ⟨w2, hw2⟩ : ∃ w2, w.drewN nq = w2 := ⟨_, rfl⟩
        rw [hw2]
        have HW2 := Lib.hid hw2
        clear hw2 HN0 HN1 HN2 HN3 HSm
        go_loopw [6] (fun i wr => ∃ j : Nat, Hid (12 + sz ≤ j ∧ j ≤ 124) ∧ Hid (∀ i, 12 + sz ≤ i → i < j → bt s i = 0) ∧ i = .int .i64 (j : Int) ∧ w2 = wr) (fun i _ => 124 - (intOf i).toNat)
        case atStart => exact ⟨12 + sz, Lib.hid ⟨Nat.le_refl _, by have := Hz.out; omega⟩, Lib.hid (fun i h1 h2 => by omega), rfl, rfl⟩
        case round =>
          obtain ⟨j, Hj, Hzs, rfl, rfl⟩ := hrel
          by_cases hj : j < 124
          · have hcj : w2.cell? ⟨g, off + j, none⟩ = some (.int .u8 (bt s j : Int)) := by
              have := Hat.out j (by omega)
              rw [← HW2.out]; exact this
            have j0 : (0 : Int) ≤ (j : Int) := by omega
            have j1 : (j : Int) < 124 := by omega
            have j3 : (j : Int) < 128 := by omega
            have j2 : IntKind.i64.wrap ((j : Int) + 1) = ((j + 1 : Nat) : Int) := by rw [IntKind.wrap_i64]; omega
            have Hjl := Lib.hid hj
            obtain ⟨bz, hbz⟩ : ∃ x, bt s j = x := ⟨_, rfl⟩
            rw [hbz] at hcj
            by_cases hz : bz = 0
            · have Hbz := Lib.hid (hbz.trans hz)
              subst hz
              clear hbz
              go_wp2_with fail
              exact ⟨⟨j + 1, Lib.hid ⟨by have := Hj.out; omega, Hjl.out⟩, Lib.hid (fun i h1 h2 => by
                rcases Nat.lt_or_ge i j with h | h
                · exact Hzs.out i h1 h
                · have : i = j := by omega
                  rw [this]; exact Hbz.out), by go_num, trivial⟩, by have := Hjl.out; simp [intOf]; omega⟩
            · have fz : ((bz : Int) != 0) = true := by simp; omega
              have Hbz := Lib.hid (⟨hbz, hz⟩ : bt s j = bz ∧ bz ≠ 0)
              clear hbz hz
              go_wp2_with fail
              go_ret
              refine ⟨ret_bool ?_, _, HW2.out.symm⟩
              cases hq : gv with
              | false => rfl
              | true =>
                have := (HG.out.1 hq).2.2.2.2.2.2.2.1 j Hjl.out Hj.out.1
                exact absurd (Hbz.out.1.symm.trans this) Hbz.out.2
          · have hjq : j = 124 := by have := Hj.out; omega
            have j1 : ¬ (j : Int) < 124 := by omega
            have Hjq := Lib.hid hjq
            clear hjq
            go_wp2_with fail
            go_ret
            refine ⟨ret_bool ?_, _, HW2.out.symm⟩
            symm
            exact HG.out.2 ⟨Hx.out.1, Hx.out.2.1, Hx.out.2.2.2.1, Hx.out.2.2.2.2, Hz.out, Hy.out.1, Hy.out.2, fun i h0 h1 => Hzs.out i h1 (by have := Hjq.out; omega), Hx.out.2.2.1⟩
      · have f9 : ((fl : Int).tmod 2 == 0) = false := by rw [Int.tmod_eq_emod_of_nonneg (by omega)]; simp; omega
        have f9b : ((fl : Int) % 2 == 0) = false := by simp; omega
        clear h8
        have s1 : IntKind.i64.wrap (12 + (sz : Int)) = ((12 + sz : Nat) : Int) := by rw [IntKind.wrap_i64]; omega
        repeat (go_big_quiet_step ((first | (go_at_call 52; with_reducible exact Calls.quiet_of_same (HN0.out _)) | (go_at_call 52; with_reducible exact Calls.quiet_of_same (HN1.out _)) | (go_at_call 52; with_reducible exact Calls.quiet_of_same (HN2.out _)) | (go_at_call 52; with_reducible exact Calls.quiet_of_same (HN3.out _)) | (go_at_call 15; with_reducible exact Calls.quiet_of_same (HSm.out _)))))
        refine wpQuiet_nil ?_
        intro _ hw'
        obtain ⟨nq, hw''⟩ := hw'
        subst hw''
        go_wp2_with fail
        obtain ⟨w2, hw2⟩ : ∃ w2, w.drewN nq = w2 := ⟨_, rfl⟩
        rw [hw2]
        have HW2 := Lib.hid hw2
        clear hw2 HN0 HN1 HN2 HN3 HSm
        go_loopw [6] (fun i wr => ∃ j : Nat, Hid (12 + sz ≤ j ∧ j ≤ 124) ∧ Hid (∀ i, 12 + sz ≤ i → i < j → bt s i = 0) ∧ i = .int .i64 (j : Int) ∧ w2 = wr) (fun i _ => 124 - (intOf i).toNat)
        case atStart => exact ⟨12 + sz, Lib.hid ⟨Nat.le_refl _, by have := Hz.out; omega⟩, Lib.hid (fun i h1 h2 => by omega), rfl, rfl⟩
        case round =>
          obtain ⟨j, Hj, Hzs, rfl, rfl⟩ := hrel
          by_cases hj : j < 124
          · have hcj : w2.cell? ⟨g, off + j, none⟩ = some (.int .u8 (bt s j : Int)) := by
              have := Hat.out j (by omega)
              rw [← HW2.out]; exact this
            have j0 : (0 : Int) ≤ (j : Int) := by omega
            have j1 : (j : Int) < 124 := by omega
            have j3 : (j : Int) < 128 := by omega
            have j2 : IntKind.i64.wrap ((j : Int) + 1) = ((j + 1 : Nat) : Int) := by rw [IntKind.wrap_i64]; omega
            have Hjl := Lib.hid hj
            obtain ⟨bz, hbz⟩ : ∃ x, bt s j = x := ⟨_, rfl⟩
            rw [hbz] at hcj
            by_cases hz : bz = 0
            · have Hbz := Lib.hid (hbz.trans hz)
              subst hz
              clear hbz
              go_wp2_with fail
              exact ⟨⟨j + 1, Lib.hid ⟨by have := Hj.out; omega, Hjl.out⟩, Lib.hid (fun i h1 h2 => by
                rcases Nat.lt_or_ge i j with h | h
                · exact Hzs.out i h1 h
                · have : i = j := by omega
                  rw [this]; exact Hbz.out), by go_num, trivial⟩, by have := Hjl.out; simp [intOf]; omega⟩
            · have fz : ((bz : Int) != 0) = true := by simp; omega
              have Hbz := Lib.hid (⟨hbz, hz⟩ : bt s j = bz ∧ bz ≠ 0)
              clear hbz hz
              go_wp2_with fail
              go_ret
              refine ⟨ret_bool ?_, _, HW2.out.symm⟩
              cases hq : gv with
              | false => rfl
              | true =>
                have := (HG.out.1 hq).2.2.2.2.2.2.2.1 j Hjl.out Hj.out.1
                exact absurd (Hbz.out.1.symm.trans this) Hbz.out.2
          · have hjq : j = 124 := by have := Hj.out; omega
            have j1 : ¬ (j : Int) < 124 := by omega
            have Hjq := Lib.hid hjq
            clear hjq
            go_wp2_with fail
            go_ret
            refine ⟨ret_bool ?_, _, HW2.out.symm⟩
            symm
            exact HG.out.2 ⟨Hx.out.1, Hx.out.2.1, Hx.out.2.2.2.1, Hx.out.2.2.2.2, Hz.out, Hy.out.1, Hy.out.2, fun i h0 h1 => Hzs.out i h1 (by have := Hjq.out; omega), Hx.out.2.2.1⟩
    · have f8 : ((sz : Int) != 112) = true := by simp; omega
      have Hy := Lib.hid (show fl % 4 < 2 ∧ sz ≠ 112 from ⟨by omega, h7⟩)
      clear h4 h6 h7
      repeat (go_big_quiet_step ((first | (go_at_call 52; with_reducible exact Calls.quiet_of_same (HN0.out _)) | (go_at_call 52; with_reducible exact Calls.quiet_of_same (HN1.out _)) | (go_at_call 52; with_reducible exact Calls.quiet_of_same (HN2.out _)) | (go_at_call 52; with_reducible exact Calls.quiet_of_same (HN3.out _)) | (go_at_call 15; with_reducible exact Calls.quiet_of_same (HSm.out _)))))
      refine wpQuiet_nil ?_
      intro _ hw'
      obtain ⟨nq, hw''⟩ := hw'
      subst hw''
      go_wp2_with fail
      go_ret
      refine ⟨ret_bool ?_, _, rfl⟩
      cases hq : gv with
      | false => rfl
      | true => have := HG.out.1 hq; exact absurd this (fun h => Hy.out.2 (h.2.2.2.2.2.1 Hy.out.1))
  have f7 : ¬ (fl : Int) < 2 := by omega
  by_cases h8 : fl % 2 = 0
  · have f9 : ((fl : Int).tmod 2 == 0) = true := by rw [Int.tmod_eq_emod_of_nonneg (by omega)]; simp; omega
    have f9b : ((fl : Int) % 2 == 0) = true := by simp; omega
    by_cases h7 : sz = 0
    · have f10 : ((sz : Int) == 0) = true := by simp; omega
      have Hy := Lib.hid (⟨h8, h7⟩ : fl % 2 = 0 ∧ sz = 0)
      clear h4 h6 h7 h8
      repeat (go_big_quiet_step ((first | (go_at_call 52; with_reducible exact Calls.quiet_of_same (HN0.out _)) | (go_at_call 52; with_reducible exact Calls.quiet_of_same (HN1.out _)) | (go_at_call 52; with_reducible exact Calls.quiet_of_same (HN2.out _)) | (go_at_call 52; with_reducible exact Calls.quiet_of_same (HN3.out _)) | (go_at_call 15; with_reducible exact Calls.quiet_of_same (HSm.out _)))))
      refine wpQuiet_nil ?_
      intro _ hw'
      obtain ⟨nq, hw''⟩ := hw'
      subst hw''
      go_wp2_with fail
      go_ret
      refine ⟨ret_bool ?_, _, rfl⟩
      cases hq : gv with
      | false => rfl
      | true => have := HG.out.1 hq; exact absurd this (fun h => absurd (h.2.2.2.2.2.2.1 Hy.out.1) (by have := Hy.out.2; omega))
    · have f10 : ((sz : Int) == 0) = false := by simp; omega
      have Hy := Lib.hid (show (fl % 4 < 2 → sz = 112) ∧ (fl % 2 = 0 → 1 ≤ sz) from ⟨fun h => by omega, fun _ => by omega⟩)
      clear h4 h6 h7 h8
      have s1 : IntKind.i64.wrap (12 + (sz : Int)) = ((12 + sz : Nat) : Int) := by rw [IntKind.wrap_i64]; omega
      repeat (go_big_quiet_step ((first | (go_at_call 52; with_reducible exact Calls.quiet_of_same (HN0.out _)) | (go_at_call 52; with_reducible exact Calls.quiet_of_same (HN1.out _)) | (go_at_call 52; with_reducible exact Calls.quiet_of_same (HN2.out _)) | (go_at_call 52; with_reducible exact Calls.quiet_of_same (HN3.out _)) | (go_at_call 15; with_reducible exact Calls.quiet_of_same (HSm.out _)))))
      refine wpQuiet_nil ?_
      intro _ hw'
      obtain ⟨nq, hw''⟩ := hw'
      subst hw''
      go_wp2_with fail
      obtain ⟨w2, hw2⟩ : ∃ w2, w.drewN nq = w2 := ⟨_, rfl⟩
      rw [hw2]
      have HW2 := Lib.hid hw2
      clear hw2 HN0 HN1 HN2 HN3 HSm
      go_loopw [6] (fun i wr => ∃ j : Nat, Hid (12 + sz ≤ j ∧ j ≤ 124) ∧ Hid (∀ i, 12 + sz ≤ i → i < j → bt s i = 0) ∧ i = .int .i64 (j : Int) ∧ w2 = wr) (fun i _ => 124 - (intOf i).toNat)
      case atStart => exact ⟨12 + sz, Lib.hid ⟨Nat.le_refl _, by have := Hz.out; omega⟩, Lib.hid (fun i h1 h2 => by omega), rfl, rfl⟩
      case round =>
        obtain ⟨j, Hj, Hzs, rfl, rfl⟩ := hrel
        by_cases hj : j < 124
        · have hcj : w2.cell? ⟨g, off + j, none⟩ = some (.int .u8 (bt s j : Int)) := by
            have := Hat.out j (by omega)
            rw [← HW2.out]; exact this
          have j0 : (0 : Int) ≤ (j : Int) := by omega
          have j1 : (j : Int) < 124 := by omega
          have j3 : (j : Int) < 128 := by omega
          have j2 : IntKind.i64.wrap ((j : Int) + 1) = ((j + 1 : Nat) : Int) := by rw [IntKind.wrap_i64]; omega
          have Hjl := Lib.hid hj
          obtain ⟨bz, hbz⟩ : ∃ x, bt s j = x := ⟨_, rfl⟩
          rw [hbz] at hcj
          by_cases hz : bz = 0
          · have Hbz := Lib.hid (hbz.trans hz)
            subst hz
            clear hbz
            go_wp2_with fail
            exact ⟨⟨j + 1, Lib.hid ⟨by have := Hj.out; omega, Hjl.out⟩, Lib.hid (fun i h1 h2 => by
              rcases Nat.lt_or_ge i j with h | h
              · exact Hzs.out i h1 h
              · have : i = j := by omega
                rw [this]; exact Hbz.out), by go_num, trivial⟩, by have := Hjl.out; simp [intOf]; omega⟩
          · have fz : ((bz : Int) != 0) = true := by simp; omega
            have Hbz := Lib.hid (⟨hbz, hz⟩ : bt s j = bz ∧ bz ≠ 0)
            clear hbz hz
            go_wp2_with fail
            go_ret
            refine ⟨ret_bool ?_, _, HW2.out.symm⟩
            cases hq : gv with
            | false => rfl
            | true =>
              have := (HG.out.1 hq).2.2.2.2.2.2.2.1 j Hjl.out Hj.out.1
              exact absurd (Hbz.out.1.symm.trans this) Hbz.out.2
        · have hjq : j = 124 := by have := Hj.out; omega
          have j1 : ¬ (j : Int) < 124 := by omega
          have Hjq := Lib.hid hjq
          clear hjq
          go_wp2_with fail
          go_ret
          refine ⟨ret_bool ?_, _, HW2.out.symm⟩
          symm
          exact HG.out.2 ⟨Hx.out.1, Hx.out.2.1, Hx.out.2.2.2.1, Hx.out.2.2.2.2, Hz.out, Hy.out.1, Hy.out.2, fun i h0 h1 => Hzs.out i h1 (by have := Hjq.out; omega), Hx.out.2.2.1⟩
  · have f9 : ((fl : Int).tmod 2 == 0) = false := by rw [Int.tmod_eq_emod_of_nonneg (by omega)]; simp; omega
    have f9b : ((fl : Int) % 2 == 0) = false := by simp; omega
    have Hy := Lib.hid (show (fl % 4 < 2 → sz = 112) ∧ (fl % 2 = 0 → 1 ≤ sz) from ⟨fun h => by omega, fun h => by omega⟩)
    clear h4 h6 h8
    have s1 : IntKind.i64.wrap (12 + (sz : Int)) = ((12 + sz : Nat) : Int) := by rw [IntKind.wrap_i64]; omega
    repeat (go_big_quiet_step ((first | (go_at_call 52; with_reducible exact Calls.quiet_of_same (HN0.out _)) | (go_at_call 52; with_reducible exact Calls.quiet_of_same (HN1.out _)) | (go_at_call 52; with_reducible exact Calls.quiet_of_same (HN2.out _)) | (go_at_call 52; with_reducible exact Calls.quiet_of_same (HN3.out _)) | (go_at_call 15; with_reducible exact Calls.quiet_of_same (HSm.out _)))))
    refine wpQuiet_nil ?_
    intro _ hw'
    obtain ⟨nq, hw''⟩ := hw'
    subst hw''
    go_wp2_with fail
    obtain ⟨w2, hw2⟩ : ∃ w2, w.drewN nq = w2 := ⟨_, rfl⟩
    rw [hw2]
    have HW2 := Lib.hid hw2
    clear hw2 HN0 HN1 HN2 HN3 HSm
    go_loopw [6] (fun i wr => ∃ j : Nat, Hid (12 + sz ≤ j ∧ j ≤ 124) ∧ Hid (∀ i, 12 + sz ≤ i → i < j → bt s i = 0) ∧ i = .int .i64 (j : Int) ∧ w2 = wr) (fun i _ => 124 - (intOf i).toNat)
    case atStart => exact ⟨12 + sz, Lib.hid ⟨Nat.le_refl _, by have := Hz.out; omega⟩, Lib.hid (fun i h1 h2 => by omega), rfl, rfl⟩
    case round =>
      obtain ⟨j, Hj, Hzs, rfl, rfl⟩ := hrel
      by_cases hj : j < 124
      · have hcj : w2.cell? ⟨g, off + j, none⟩ = some (.int .u8 (bt s j : Int)) := by
          have := Hat.out j (by omega)
          rw [← HW2.out]; exact this
        have j0 : (0 : Int) ≤ (j : Int) := by omega
        have j1 : (j : Int) < 124 := by omega
        have j3 : (j : Int) < 128 := by omega
        have j2 : IntKind.i64.wrap ((j : Int) + 1) = ((j + 1 : Nat) : Int) := by rw [IntKind.wrap_i64]; omega
        have Hjl := Lib.hid hj
        obtain ⟨bz, hbz⟩ : ∃ x, bt s j = x := ⟨_, rfl⟩
        rw [hbz] at hcj
        by_cases hz : bz = 0
        · have Hbz := Lib.hid (hbz.trans hz)
          subst hz
          clear hbz
          go_wp2_with fail
          exact ⟨⟨j + 1, Lib.hid ⟨by have := Hj.out; omega, Hjl.out⟩, Lib.hid (fun i h1 h2 => by
            rcases Nat.lt_or_ge i j with h | h
            · exact Hzs.out i h1 h
            · have : i = j := by omega
              rw [this]; exact Hbz.out), by go_num, trivial⟩, by have := Hjl.out; simp [intOf]; omega⟩
        · have fz : ((bz : Int) != 0) = true := by simp; omega
          have Hbz := Lib.hid (⟨hbz, hz⟩ : bt s j = bz ∧ bz ≠ 0)
          clear hbz hz
          go_wp2_with fail
          go_ret
          refine ⟨ret_bool ?_, _, HW2.out.symm⟩
          cases hq : gv with
          | false => rfl
          | true =>
            have := (HG.out.1 hq).2.2.2.2.2.2.2.1 j Hjl.out Hj.out.1
            exact absurd (Hbz.out.1.symm.trans this) Hbz.out.2
      · have hjq : j = 124 := by have := Hj.out; omega
        have j1 : ¬ (j : Int) < 124 := by omega
        have Hjq := Lib.hid hjq
        clear hjq
        go_wp2_with fail
        go_ret
        refine ⟨ret_bool ?_, _, HW2.out.symm⟩
        symm
        exact HG.out.2 ⟨Hx.out.1, Hx.out.2.1, Hx.out.2.2.2.1, Hx.out.2.2.2.2, Hz.out, Hy.out.1, Hy.out.2, fun i h0 h1 => Hzs.out i h1 (by have := Hjq.out; omega), Hx.out.2.2.1⟩
end Go.Proofs.Ytbinibpkbkhdlaa
