/- Wal: isGood. -/
import Derived.Test.YtbinibpkbkhdlaaWlG
namespace Go.Proofs.Ytbinibpkbkhdlaa
open Go.RowKit

theorem toNat_beq (a b : W32) : ((a.toNat : Int) == (b.toNat : Int)) = decide (a = b) := by
  by_cases h : a = b
  · subst h; simp
  · rw [decide_eq_false h]
    have : ¬ a.toNat = b.toNat := fun e => h (BitVec.eq_of_toNat_eq e)
    simp; omega
set_option maxRecDepth 100000 in
set_option maxHeartbeats 2000000 in
theorem good_any (s : List UInt8) (hs : s.length = 128) (g off cap : Nat) (hc : 128 ≤ cap) (k : Nat) (w : World) (hv : Sl w 1 (.slice (some ⟨g, off, none⟩) 128 cap) 128 (bc s)) :
    Calls Try.prog 49 #[.slice (some ⟨g, off, none⟩) 128 cap, .int .i64 (k : Int)] w fun e w' => e = .returned (.bool (gdB s k)) ∧ ∃ n, w' = w.drewN n := by
  have HN0 := Lib.hid (fun W (hb : Below w.heap.size w W) => number_any s 128 hs (by omega) _ cap W (hv.next hb))
  have HN1 := Lib.hid (fun W (hb : Below w.heap.size w W) => number_any ((s.take 128).drop 124) 4 (by simp; omega) (by omega) _ (cap - 124) W (sl_sub (hv.next hb) (A := 124) (B := 128) (by omega) (by omega) 4 (cap - 124) rfl (by omega)))
  have HN2 := Lib.hid (fun W (hb : Below w.heap.size w W) => number_any ((s.take 128).drop 4) 124 (by simp; omega) (by omega) _ (cap - 4) W (sl_sub (hv.next hb) (A := 4) (B := 128) (by omega) (by omega) 124 (cap - 4) rfl (by omega)))
  have HSm := Lib.hid (fun W (hb : Below w.heap.size w W) => sum_any ((s.take 124).drop 8) 116 (by simp; omega) (by unfold maxLen; omega) _ (cap - 8) W (sl_sub (hv.next hb) (A := 8) (B := 124) (by omega) (by omega) 116 (cap - 8) rfl (by omega)))
  rw [num4_sub s 124 128 (by omega) (by omega)] at HN1
  rw [num4_sub s 4 128 (by omega) (by omega)] at HN2
  have HG := Lib.hid (show gdB s k = true ↔ Gd s k from decide_eq_true_iff)
  unfold Gd at HG
  obtain ⟨gv, hgv⟩ : ∃ x, gdB s k = x := ⟨_, rfl⟩
  rw [hgv] at HG ⊢
  obtain ⟨n0, hn0⟩ : ∃ x, num4 s 0 = x := ⟨_, rfl⟩
  obtain ⟨n1, hn1⟩ : ∃ x, num4 s 124 = x := ⟨_, rfl⟩
  obtain ⟨n2, hn2⟩ : ∃ x, num4 s 4 = x := ⟨_, rfl⟩
  obtain ⟨cs, hcs⟩ : ∃ x, crc ((s.take 124).drop 8) = x := ⟨_, rfl⟩
  rw [hn0] at HN0 HG
  rw [hn1] at HN1 HG
  rw [hn2] at HN2 HG
  rw [hcs] at HSm HG
  obtain ⟨_, _, _, he, _, h0 | ⟨_, _, he2, hat⟩⟩ := hv
  · omega
  cases he; cases he2
  have c8 := hat 8 _ (bt_at (d := s) (k := 8) (by omega))
  have c9 := hat 9 _ (bt_at (d := s) (k := 9) (by omega))
  have c10 := hat 10 _ (bt_at (d := s) (k := 10) (by omega))
  have c11 := hat 11 _ (bt_at (d := s) (k := 11) (by omega))
  have Hat := Lib.hid (fun i (hi : i < 128) => hat i _ (bt_at (d := s) (k := i) (by omega)))
  have b8 := bt_lt s 8
  have b9 := bt_lt s 9
  have b10 := bt_lt s 10
  have b11 := bt_lt s 11
  have ho := or_place (bt s 8) (bt s 9) b8 b9
  have Hb := Lib.hid (bt_lt s)
  obtain ⟨p8, hp8⟩ : ∃ x, bt s 8 = x := ⟨_, rfl⟩
  obtain ⟨p9, hp9⟩ : ∃ x, bt s 9 = x := ⟨_, rfl⟩
  obtain ⟨fl, hfl⟩ : ∃ x, bt s 10 = x := ⟨_, rfl⟩
  obtain ⟨sz, hsz⟩ : ∃ x, bt s 11 = x := ⟨_, rfl⟩
  rw [hp8] at c8 b8 ho HG
  rw [hp9] at c9 b9 ho HG
  rw [hfl] at c10 b10 HG
  rw [hsz] at c11 b11 HG
  obtain ⟨pl, hpl⟩ : ∃ x, p8 * 256 + p9 = x := ⟨_, rfl⟩
  rw [hpl] at ho HG
  have hcap : (128 : Int) ≤ (cap : Int) := by omega
  clear hpl hgv hn0 hn1 hn2 hcs hp8 hp9 hfl hsz hat hs
  unfold wv at HN0 HN1 HN2 HSm
  by_cases h1 : n0 = 0#32
  · subst h1
    go_enter Try.func49, Try.ntmps49
    go_wp2_with fail
    go_quiet (fail)
    have hb1 := blw_drewN (Below.refl w.heap.size w) nq
    have c8 : (w.drewN nq).cell? ⟨g, off + 8, none⟩ = some (.int .u8 (p8 : Int)) := by simpa using c8
    have c9 : (w.drewN nq).cell? ⟨g, off + 9, none⟩ = some (.int .u8 (p9 : Int)) := by simpa using c9
    obtain ⟨w1, hw1⟩ : ∃ w1, w.drewN nq = w1 := ⟨_, rfl⟩
    rw [hw1] at hb1 c8 c9 ⊢
    have HW1 := Lib.hid hw1
    have Hb1 := Lib.hid hb1
    have A0 := Lib.hid (fun n => HN0.out (w1.drewN n) (blw_drewN hb1 n))
    have A1 := Lib.hid (fun n => HN1.out (w1.drewN n) (blw_drewN hb1 n))
    clear hw1 hb1 c10 c11
    go_wp2_with fail
    go_quiet ((first | (go_at_call 50; with_reducible exact Calls.quiet_of (A0.out _)) | (go_at_call 50; with_reducible exact Calls.quiet_of (A1.out _))))
    go_wp2_with fail
    go_ret
    refine ⟨ret_bool ?_, ?_⟩
    · cases hq : gv with
      | false => rfl
      | true => have := HG.out.1 hq; exact absurd this (fun h => h.1 rfl)
    · rw [← HW1.out, World.drewN_drewN]; exact ⟨_, rfl⟩
  · have f1 : ((n0.toNat : Int) == 0) = false := (toNat_beq n0 0#32).trans (decide_eq_false h1)
    by_cases h2 : n0 = n1
    · have f2 : ((n0.toNat : Int) != (n1.toNat : Int)) = false := by rw [bne, toNat_beq, decide_eq_true h2]; rfl
      by_cases h3 : pl = k
      · have f3 : ((pl : Int) != (k : Int)) = false := by simp [h3]
        by_cases h4 : fl ≤ 3
        · have f4 : ¬ (3 : Int) < (fl : Int) := by omega
          have Hx := Lib.hid (⟨h1, h2, h3, h4⟩ : n0 ≠ 0#32 ∧ n0 = n1 ∧ pl = k ∧ fl ≤ 3)
          obtain ⟨e2, e1⟩ := flag_and fl h4
          obtain ⟨az, haz⟩ : ∃ x, 12 + sz = x := ⟨_, rfl⟩
          have s1 : IntKind.i64.wrap (12 + (sz : Int)) = (az : Int) := by rw [IntKind.wrap_i64]; omega
          have Haz := Lib.hid haz
          clear h1 h2 h3 h4 haz
          by_cases h5 : 112 < sz
          · have f5 : (112 : Int) < (sz : Int) := by omega
            have Hy := Lib.hid h5
            clear h5 e1 e2
            go_enter Try.func49, Try.ntmps49
            go_wp2_with fail
            go_quiet (fail)
            have hb1 := blw_drewN (Below.refl w.heap.size w) nq
            have c8 : (w.drewN nq).cell? ⟨g, off + 8, none⟩ = some (.int .u8 (p8 : Int)) := by simpa using c8
            have c9 : (w.drewN nq).cell? ⟨g, off + 9, none⟩ = some (.int .u8 (p9 : Int)) := by simpa using c9
            obtain ⟨w1, hw1⟩ : ∃ w1, w.drewN nq = w1 := ⟨_, rfl⟩
            rw [hw1] at hb1 c8 c9 ⊢
            have HW1 := Lib.hid hw1
            have Hb1 := Lib.hid hb1
            have A0 := Lib.hid (fun n => HN0.out (w1.drewN n) (blw_drewN hb1 n))
            have A1 := Lib.hid (fun n => HN1.out (w1.drewN n) (blw_drewN hb1 n))
            clear hw1 hb1 c10 c11
            go_wp2_with fail
            go_quiet ((first | (go_at_call 50; with_reducible exact Calls.quiet_of (A0.out _)) | (go_at_call 50; with_reducible exact Calls.quiet_of (A1.out _))))
            go_wp2_with fail
            go_ret
            refine ⟨ret_bool ?_, ?_⟩
            · cases hq : gv with
              | false => rfl
              | true => have := HG.out.1 hq; exact absurd this (fun h => absurd h.2.2.2.2.1 (by have := Hy.out; omega))
            · rw [← HW1.out, World.drewN_drewN]; exact ⟨_, rfl⟩
          · have f5 : ¬ (112 : Int) < (sz : Int) := by omega
            have Hz := Lib.hid (show sz ≤ 112 by omega)
            by_cases h6 : fl % 4 < 2
            · rw [if_pos h6] at e2
              by_cases h7 : sz = 112
              · have f7 : ((sz : Int) != 112) = false := by simp [h7]
                have f8 : ¬ (sz : Int) < 1 := by omega
                have Hy := Lib.hid (show (fl % 4 < 2 → sz = 112) ∧ (fl % 2 = 0 → 1 ≤ sz) from ⟨fun _ => h7, fun _ => by omega⟩)
                clear h5 h6 h7
                by_cases h9 : fl % 2 = 0
                · rw [if_pos h9] at e1
                  clear h9
                  have ia : az ≤ 124 := by have := Haz.out; have := Hz.out; omega
                  have ic : ¬ cap = az := by omega
                  have Hia := Lib.hid ia
                  go_enter Try.func49, Try.ntmps49
                  go_wp2_with fail
                  go_quiet (fail)
                  have hb1 := blw_drewN (Below.refl w.heap.size w) nq
                  have c8 : (w.drewN nq).cell? ⟨g, off + 8, none⟩ = some (.int .u8 (p8 : Int)) := by simpa using c8
                  have c9 : (w.drewN nq).cell? ⟨g, off + 9, none⟩ = some (.int .u8 (p9 : Int)) := by simpa using c9
                  obtain ⟨w1, hw1⟩ : ∃ w1, w.drewN nq = w1 := ⟨_, rfl⟩
                  rw [hw1] at hb1 c8 c9 ⊢
                  have HW1 := Lib.hid hw1
                  have Hb1 := Lib.hid hb1
                  have A0 := Lib.hid (fun n => HN0.out (w1.drewN n) (blw_drewN hb1 n))
                  have A1 := Lib.hid (fun n => HN1.out (w1.drewN n) (blw_drewN hb1 n))
                  clear hw1 hb1 c10 c11
                  go_wp2_with fail
                  go_quiet ((first | (go_at_call 50; with_reducible exact Calls.quiet_of (A0.out _)) | (go_at_call 50; with_reducible exact Calls.quiet_of (A1.out _))))
                  go_wp2_with fail
                  have hD : ∃ m, w1.drewN nq = w.drewN m := ⟨_, by rw [← HW1.out, World.drewN_drewN]⟩
                  have hb2 := blw_drewN Hb1.out nq
                  obtain ⟨w2, hw2⟩ : ∃ w2, w1.drewN nq = w2 := ⟨_, rfl⟩
                  rw [hw2] at hD hb2 ⊢
                  have HD := Lib.hid hD
                  have A2 := Lib.hid (fun n => HN2.out (w2.drewN n) (blw_drewN hb2 n))
                  have A3 := Lib.hid (fun n => calls_flip (HSm.out (w2.drewN n) (blw_drewN hb2 n)))
                  clear hw2 hD hb2 c8 c9 A0 A1 HN0 HN1 HN2 HSm
                  go_loopw [70] (fun i wr => ∃ j : Nat, Hid (j ≤ 124 - az) ∧ Hid (∀ i, i < 124 → az ≤ i → i < az + j → bt s i = 0) ∧ i = .int .i64 (j : Int) ∧ w2 = wr) (fun i _ => 124 - (intOf i).toNat)
                  case atStart => exact ⟨0, Lib.hid (Nat.zero_le _), Lib.hid (fun i _ h1 h2 => by omega), rfl, rfl⟩
                  case round =>
                    obtain ⟨j, Hj, Hzs, rfl, rfl⟩ := hrel
                    by_cases hj : j < 124 - az
                    · have hcj : w2.cell? ⟨g, off + az + j, none⟩ = some (.int .u8 (bt s (az + j) : Int)) := by
                        obtain ⟨m, hm⟩ := HD.out
                        have := Hat.out (az + j) (by omega)
                        rw [hm, Nat.add_assoc]; simpa using this
                      have j1 : (j : Int) < ((124 - az : Nat) : Int) := by omega
                      have j2 : IntKind.i64.wrap ((j : Int) + 1) = ((j + 1 : Nat) : Int) := by rw [IntKind.wrap_i64]; omega
                      have Hjl := Lib.hid hj
                      obtain ⟨bz, hbz⟩ : ∃ x, bt s (az + j) = x := ⟨_, rfl⟩
                      rw [hbz] at hcj
                      by_cases hz : bz = 0
                      · have Hbz := Lib.hid (hbz.trans hz)
                        subst hz
                        clear hbz
                        go_wp2_with fail
                        exact ⟨⟨j + 1, Lib.hid (by have := Hjl.out; omega), Lib.hid (fun i h0 h1 h2 => by
                          rcases Nat.lt_or_ge i (az + j) with h | h
                          · exact Hzs.out i h0 h1 h
                          · have : i = az + j := by omega
                            rw [this]; exact Hbz.out), by go_num, trivial⟩, by have := Hjl.out; have := Hia.out; simp [intOf]; omega⟩
                      · have fz : ((bz : Int) != 0) = true := by simp; omega
                        have Hbz := Lib.hid (⟨hbz, hz⟩ : bt s (az + j) = bz ∧ bz ≠ 0)
                        clear hbz hz
                        go_wp2_with fail
                        go_ret
                        refine ⟨ret_bool ?_, HD.out⟩
                        cases hq : gv with
                        | false => rfl
                        | true =>
                          have := (HG.out.1 hq).2.2.2.2.2.2.2.1 (az + j) (by have := Hjl.out; omega) (by have := Haz.out; omega)
                          exact absurd (Hbz.out.1.symm.trans this) Hbz.out.2
                    · have hjq : j = 124 - az := by have := Hj.out; omega
                      have Hjq := Lib.hid hjq
                      have j1 : ¬ (j : Int) < ((124 - az : Nat) : Int) := by omega
                      clear hjq
                      go_wp2_with fail
                      by_cases hn : n2 = cs
                      · have fn : ((n2.toNat : Int) == (cs.toNat : Int)) = true := by rw [toNat_beq, decide_eq_true hn]
                        have Hnn := Lib.hid hn
                        clear hn
                        go_quiet ((first | (go_at_call 50; with_reducible exact Calls.quiet_of (A2.out _)) | (go_at_call 14; with_reducible exact Calls.quiet_of_same (A3.out _))))
                        go_wp2_with fail
                        go_ret
                        refine ⟨ret_bool ?_, ?_⟩
                        · symm
                          exact HG.out.2 ⟨Hx.out.1, Hx.out.2.1, Hx.out.2.2.1, Hx.out.2.2.2, Hz.out, Hy.out.1, Hy.out.2, fun i h0 h1 => Hzs.out i h0 (by have := Haz.out; omega) (by have := Hjq.out; omega), Hnn.out⟩
                        · obtain ⟨m, hm⟩ := HD.out
                          rw [hm, World.drewN_drewN]; exact ⟨_, rfl⟩
                      · have fn : ((n2.toNat : Int) == (cs.toNat : Int)) = false := by rw [toNat_beq, decide_eq_false hn]
                        have Hnn := Lib.hid hn
                        clear hn
                        go_quiet ((first | (go_at_call 50; with_reducible exact Calls.quiet_of (A2.out _)) | (go_at_call 14; with_reducible exact Calls.quiet_of_same (A3.out _))))
                        go_wp2_with fail
                        go_ret
                        refine ⟨ret_bool ?_, ?_⟩
                        · cases hq : gv with
                          | false => rfl
                          | true => exact absurd (HG.out.1 hq).2.2.2.2.2.2.2.2 Hnn.out
                        · obtain ⟨m, hm⟩ := HD.out
                          rw [hm, World.drewN_drewN]; exact ⟨_, rfl⟩
                · rw [if_neg h9] at e1
                  clear h9
                  have ia : az ≤ 124 := by have := Haz.out; have := Hz.out; omega
                  have ic : ¬ cap = az := by omega
                  have Hia := Lib.hid ia
                  go_enter Try.func49, Try.ntmps49
                  go_wp2_with fail
                  go_quiet (fail)
                  have hb1 := blw_drewN (Below.refl w.heap.size w) nq
                  have c8 : (w.drewN nq).cell? ⟨g, off + 8, none⟩ = some (.int .u8 (p8 : Int)) := by simpa using c8
                  have c9 : (w.drewN nq).cell? ⟨g, off + 9, none⟩ = some (.int .u8 (p9 : Int)) := by simpa using c9
                  obtain ⟨w1, hw1⟩ : ∃ w1, w.drewN nq = w1 := ⟨_, rfl⟩
                  rw [hw1] at hb1 c8 c9 ⊢
                  have HW1 := Lib.hid hw1
                  have Hb1 := Lib.hid hb1
                  have A0 := Lib.hid (fun n => HN0.out (w1.drewN n) (blw_drewN hb1 n))
                  have A1 := Lib.hid (fun n => HN1.out (w1.drewN n) (blw_drewN hb1 n))
                  clear hw1 hb1 c10 c11
                  go_wp2_with fail
                  go_quiet ((first | (go_at_call 50; with_reducible exact Calls.quiet_of (A0.out _)) | (go_at_call 50; with_reducible exact Calls.quiet_of (A1.out _))))
                  go_wp2_with fail
                  have hD : ∃ m, w1.drewN nq = w.drewN m := ⟨_, by rw [← HW1.out, World.drewN_drewN]⟩
                  have hb2 := blw_drewN Hb1.out nq
                  obtain ⟨w2, hw2⟩ : ∃ w2, w1.drewN nq = w2 := ⟨_, rfl⟩
                  rw [hw2] at hD hb2 ⊢
                  have HD := Lib.hid hD
                  have A2 := Lib.hid (fun n => HN2.out (w2.drewN n) (blw_drewN hb2 n))
                  have A3 := Lib.hid (fun n => calls_flip (HSm.out (w2.drewN n) (blw_drewN hb2 n)))
                  clear hw2 hD hb2 c8 c9 A0 A1 HN0 HN1 HN2 HSm
                  go_loopw [70] (fun i wr => ∃ j : Nat, Hid (j ≤ 124 - az) ∧ Hid (∀ i, i < 124 → az ≤ i → i < az + j → bt s i = 0) ∧ i = .int .i64 (j : Int) ∧ w2 = wr) (fun i _ => 124 - (intOf i).toNat)
                  case atStart => exact ⟨0, Lib.hid (Nat.zero_le _), Lib.hid (fun i _ h1 h2 => by omega), rfl, rfl⟩
                  case round =>
                    obtain ⟨j, Hj, Hzs, rfl, rfl⟩ := hrel
                    by_cases hj : j < 124 - az
                    · have hcj : w2.cell? ⟨g, off + az + j, none⟩ = some (.int .u8 (bt s (az + j) : Int)) := by
                        obtain ⟨m, hm⟩ := HD.out
                        have := Hat.out (az + j) (by omega)
                        rw [hm, Nat.add_assoc]; simpa using this
                      have j1 : (j : Int) < ((124 - az : Nat) : Int) := by omega
                      have j2 : IntKind.i64.wrap ((j : Int) + 1) = ((j + 1 : Nat) : Int) := by rw [IntKind.wrap_i64]; omega
                      have Hjl := Lib.hid hj
                      obtain ⟨bz, hbz⟩ : ∃ x, bt s (az + j) = x := ⟨_, rfl⟩
                      rw [hbz] at hcj
                      by_cases hz : bz = 0
                      · have Hbz := Lib.hid (hbz.trans hz)
                        subst hz
                        clear hbz
                        go_wp2_with fail
                        exact ⟨⟨j + 1, Lib.hid (by have := Hjl.out; omega), Lib.hid (fun i h0 h1 h2 => by
                          rcases Nat.lt_or_ge i (az + j) with h | h
                          · exact Hzs.out i h0 h1 h
                          · have : i = az + j := by omega
                            rw [this]; exact Hbz.out), by go_num, trivial⟩, by have := Hjl.out; have := Hia.out; simp [intOf]; omega⟩
                      · have fz : ((bz : Int) != 0) = true := by simp; omega
                        have Hbz := Lib.hid (⟨hbz, hz⟩ : bt s (az + j) = bz ∧ bz ≠ 0)
                        clear hbz hz
                        go_wp2_with fail
                        go_ret
                        refine ⟨ret_bool ?_, HD.out⟩
                        cases hq : gv with
                        | false => rfl
                        | true =>
                          have := (HG.out.1 hq).2.2.2.2.2.2.2.1 (az + j) (by have := Hjl.out; omega) (by have := Haz.out; omega)
                          exact absurd (Hbz.out.1.symm.trans this) Hbz.out.2
                    · have hjq : j = 124 - az := by have := Hj.out; omega
                      have Hjq := Lib.hid hjq
                      have j1 : ¬ (j : Int) < ((124 - az : Nat) : Int) := by omega
                      clear hjq
                      go_wp2_with fail
                      by_cases hn : n2 = cs
                      · have fn : ((n2.toNat : Int) == (cs.toNat : Int)) = true := by rw [toNat_beq, decide_eq_true hn]
                        have Hnn := Lib.hid hn
                        clear hn
                        go_quiet ((first | (go_at_call 50; with_reducible exact Calls.quiet_of (A2.out _)) | (go_at_call 14; with_reducible exact Calls.quiet_of_same (A3.out _))))
                        go_wp2_with fail
                        go_ret
                        refine ⟨ret_bool ?_, ?_⟩
                        · symm
                          exact HG.out.2 ⟨Hx.out.1, Hx.out.2.1, Hx.out.2.2.1, Hx.out.2.2.2, Hz.out, Hy.out.1, Hy.out.2, fun i h0 h1 => Hzs.out i h0 (by have := Haz.out; omega) (by have := Hjq.out; omega), Hnn.out⟩
                        · obtain ⟨m, hm⟩ := HD.out
                          rw [hm, World.drewN_drewN]; exact ⟨_, rfl⟩
                      · have fn : ((n2.toNat : Int) == (cs.toNat : Int)) = false := by rw [toNat_beq, decide_eq_false hn]
                        have Hnn := Lib.hid hn
                        clear hn
                        go_quiet ((first | (go_at_call 50; with_reducible exact Calls.quiet_of (A2.out _)) | (go_at_call 14; with_reducible exact Calls.quiet_of_same (A3.out _))))
                        go_wp2_with fail
                        go_ret
                        refine ⟨ret_bool ?_, ?_⟩
                        · cases hq : gv with
                          | false => rfl
                          | true => exact absurd (HG.out.1 hq).2.2.2.2.2.2.2.2 Hnn.out
                        · obtain ⟨m, hm⟩ := HD.out
                          rw [hm, World.drewN_drewN]; exact ⟨_, rfl⟩
              · have f7 : ((sz : Int) != 112) = true := by simp; omega
                have Hy := Lib.hid (⟨h6, h7⟩ : fl % 4 < 2 ∧ sz ≠ 112)
                clear h5 h6 h7 e1
                go_enter Try.func49, Try.ntmps49
                go_wp2_with fail
                go_quiet (fail)
                have hb1 := blw_drewN (Below.refl w.heap.size w) nq
                have c8 : (w.drewN nq).cell? ⟨g, off + 8, none⟩ = some (.int .u8 (p8 : Int)) := by simpa using c8
                have c9 : (w.drewN nq).cell? ⟨g, off + 9, none⟩ = some (.int .u8 (p9 : Int)) := by simpa using c9
                obtain ⟨w1, hw1⟩ : ∃ w1, w.drewN nq = w1 := ⟨_, rfl⟩
                rw [hw1] at hb1 c8 c9 ⊢
                have HW1 := Lib.hid hw1
                have Hb1 := Lib.hid hb1
                have A0 := Lib.hid (fun n => HN0.out (w1.drewN n) (blw_drewN hb1 n))
                have A1 := Lib.hid (fun n => HN1.out (w1.drewN n) (blw_drewN hb1 n))
                clear hw1 hb1 c10 c11
                go_wp2_with fail
                go_quiet ((first | (go_at_call 50; with_reducible exact Calls.quiet_of (A0.out _)) | (go_at_call 50; with_reducible exact Calls.quiet_of (A1.out _))))
                go_wp2_with fail
                go_ret
                refine ⟨ret_bool ?_, ?_⟩
                · cases hq : gv with
                  | false => rfl
                  | true => have := HG.out.1 hq; exact absurd this (fun h => Hy.out.2 (h.2.2.2.2.2.1 Hy.out.1))
                · rw [← HW1.out, World.drewN_drewN]; exact ⟨_, rfl⟩
            · rw [if_neg h6] at e2
              by_cases h9 : fl % 2 = 0
              · rw [if_pos h9] at e1
                by_cases h7 : sz < 1
                · have f7 : (sz : Int) < 1 := by omega
                  have Hy := Lib.hid (⟨h9, h7⟩ : fl % 2 = 0 ∧ sz < 1)
                  clear h5 h6 h7 h9
                  go_enter Try.func49, Try.ntmps49
                  go_wp2_with fail
                  go_quiet (fail)
                  have hb1 := blw_drewN (Below.refl w.heap.size w) nq
                  have c8 : (w.drewN nq).cell? ⟨g, off + 8, none⟩ = some (.int .u8 (p8 : Int)) := by simpa using c8
                  have c9 : (w.drewN nq).cell? ⟨g, off + 9, none⟩ = some (.int .u8 (p9 : Int)) := by simpa using c9
                  obtain ⟨w1, hw1⟩ : ∃ w1, w.drewN nq = w1 := ⟨_, rfl⟩
                  rw [hw1] at hb1 c8 c9 ⊢
                  have HW1 := Lib.hid hw1
                  have Hb1 := Lib.hid hb1
                  have A0 := Lib.hid (fun n => HN0.out (w1.drewN n) (blw_drewN hb1 n))
                  have A1 := Lib.hid (fun n => HN1.out (w1.drewN n) (blw_drewN hb1 n))
                  clear hw1 hb1 c10 c11
                  go_wp2_with fail
                  go_quiet ((first | (go_at_call 50; with_reducible exact Calls.quiet_of (A0.out _)) | (go_at_call 50; with_reducible exact Calls.quiet_of (A1.out _))))
                  go_wp2_with fail
                  go_ret
                  refine ⟨ret_bool ?_, ?_⟩
                  · cases hq : gv with
                    | false => rfl
                    | true => have := HG.out.1 hq; exact absurd this (fun h => absurd (h.2.2.2.2.2.2.1 Hy.out.1) (by have := Hy.out.2; omega))
                  · rw [← HW1.out, World.drewN_drewN]; exact ⟨_, rfl⟩
                · have f8 : ¬ (sz : Int) < 1 := by omega
                  have Hy := Lib.hid (show (fl % 4 < 2 → sz = 112) ∧ (fl % 2 = 0 → 1 ≤ sz) from ⟨fun h => absurd h h6, fun _ => by omega⟩)
                  clear h5 h6 h7 h9
                  have ia : az ≤ 124 := by have := Haz.out; have := Hz.out; omega
                  have ic : ¬ cap = az := by omega
                  have Hia := Lib.hid ia
                  go_enter Try.func49, Try.ntmps49
                  go_wp2_with fail
                  go_quiet (fail)
                  have hb1 := blw_drewN (Below.refl w.heap.size w) nq
                  have c8 : (w.drewN nq).cell? ⟨g, off + 8, none⟩ = some (.int .u8 (p8 : Int)) := by simpa using c8
                  have c9 : (w.drewN nq).cell? ⟨g, off + 9, none⟩ = some (.int .u8 (p9 : Int)) := by simpa using c9
                  obtain ⟨w1, hw1⟩ : ∃ w1, w.drewN nq = w1 := ⟨_, rfl⟩
                  rw [hw1] at hb1 c8 c9 ⊢
                  have HW1 := Lib.hid hw1
                  have Hb1 := Lib.hid hb1
                  have A0 := Lib.hid (fun n => HN0.out (w1.drewN n) (blw_drewN hb1 n))
                  have A1 := Lib.hid (fun n => HN1.out (w1.drewN n) (blw_drewN hb1 n))
                  clear hw1 hb1 c10 c11
                  go_wp2_with fail
                  go_quiet ((first | (go_at_call 50; with_reducible exact Calls.quiet_of (A0.out _)) | (go_at_call 50; with_reducible exact Calls.quiet_of (A1.out _))))
                  go_wp2_with fail
                  have hD : ∃ m, w1.drewN nq = w.drewN m := ⟨_, by rw [← HW1.out, World.drewN_drewN]⟩
                  have hb2 := blw_drewN Hb1.out nq
                  obtain ⟨w2, hw2⟩ : ∃ w2, w1.drewN nq = w2 := ⟨_, rfl⟩
                  rw [hw2] at hD hb2 ⊢
                  have HD := Lib.hid hD
                  have A2 := Lib.hid (fun n => HN2.out (w2.drewN n) (blw_drewN hb2 n))
                  have A3 := Lib.hid (fun n => calls_flip (HSm.out (w2.drewN n) (blw_drewN hb2 n)))
                  clear hw2 hD hb2 c8 c9 A0 A1 HN0 HN1 HN2 HSm
                  go_loopw [70] (fun i wr => ∃ j : Nat, Hid (j ≤ 124 - az) ∧ Hid (∀ i, i < 124 → az ≤ i → i < az + j → bt s i = 0) ∧ i = .int .i64 (j : Int) ∧ w2 = wr) (fun i _ => 124 - (intOf i).toNat)
                  case atStart => exact ⟨0, Lib.hid (Nat.zero_le _), Lib.hid (fun i _ h1 h2 => by omega), rfl, rfl⟩
                  case round =>
                    obtain ⟨j, Hj, Hzs, rfl, rfl⟩ := hrel
                    by_cases hj : j < 124 - az
                    · have hcj : w2.cell? ⟨g, off + az + j, none⟩ = some (.int .u8 (bt s (az + j) : Int)) := by
                        obtain ⟨m, hm⟩ := HD.out
                        have := Hat.out (az + j) (by omega)
                        rw [hm, Nat.add_assoc]; simpa using this
                      have j1 : (j : Int) < ((124 - az : Nat) : Int) := by omega
                      have j2 : IntKind.i64.wrap ((j : Int) + 1) = ((j + 1 : Nat) : Int) := by rw [IntKind.wrap_i64]; omega
                      have Hjl := Lib.hid hj
                      obtain ⟨bz, hbz⟩ : ∃ x, bt s (az + j) = x := ⟨_, rfl⟩
                      rw [hbz] at hcj
                      by_cases hz : bz = 0
                      · have Hbz := Lib.hid (hbz.trans hz)
                        subst hz
                        clear hbz
                        go_wp2_with fail
                        exact ⟨⟨j + 1, Lib.hid (by have := Hjl.out; omega), Lib.hid (fun i h0 h1 h2 => by
                          rcases Nat.lt_or_ge i (az + j) with h | h
                          · exact Hzs.out i h0 h1 h
                          · have : i = az + j := by omega
                            rw [this]; exact Hbz.out), by go_num, trivial⟩, by have := Hjl.out; have := Hia.out; simp [intOf]; omega⟩
                      · have fz : ((bz : Int) != 0) = true := by simp; omega
                        have Hbz := Lib.hid (⟨hbz, hz⟩ : bt s (az + j) = bz ∧ bz ≠ 0)
                        clear hbz hz
                        go_wp2_with fail
                        go_ret
                        refine ⟨ret_bool ?_, HD.out⟩
                        cases hq : gv with
                        | false => rfl
                        | true =>
                          have := (HG.out.1 hq).2.2.2.2.2.2.2.1 (az + j) (by have := Hjl.out; omega) (by have := Haz.out; omega)
                          exact absurd (Hbz.out.1.symm.trans this) Hbz.out.2
                    · have hjq : j = 124 - az := by have := Hj.out; omega
                      have Hjq := Lib.hid hjq
                      have j1 : ¬ (j : Int) < ((124 - az : Nat) : Int) := by omega
                      clear hjq
                      go_wp2_with fail
                      by_cases hn : n2 = cs
                      · have fn : ((n2.toNat : Int) == (cs.toNat : Int)) = true := by rw [toNat_beq, decide_eq_true hn]
                        have Hnn := Lib.hid hn
                        clear hn
                        go_quiet ((first | (go_at_call 50; with_reducible exact Calls.quiet_of (A2.out _)) | (go_at_call 14; with_reducible exact Calls.quiet_of_same (A3.out _))))
                        go_wp2_with fail
                        go_ret
                        refine ⟨ret_bool ?_, ?_⟩
                        · symm
                          exact HG.out.2 ⟨Hx.out.1, Hx.out.2.1, Hx.out.2.2.1, Hx.out.2.2.2, Hz.out, Hy.out.1, Hy.out.2, fun i h0 h1 => Hzs.out i h0 (by have := Haz.out; omega) (by have := Hjq.out; omega), Hnn.out⟩
                        · obtain ⟨m, hm⟩ := HD.out
                          rw [hm, World.drewN_drewN]; exact ⟨_, rfl⟩
                      · have fn : ((n2.toNat : Int) == (cs.toNat : Int)) = false := by rw [toNat_beq, decide_eq_false hn]
                        have Hnn := Lib.hid hn
                        clear hn
                        go_quiet ((first | (go_at_call 50; with_reducible exact Calls.quiet_of (A2.out _)) | (go_at_call 14; with_reducible exact Calls.quiet_of_same (A3.out _))))
                        go_wp2_with fail
                        go_ret
                        refine ⟨ret_bool ?_, ?_⟩
                        · cases hq : gv with
                          | false => rfl
                          | true => exact absurd (HG.out.1 hq).2.2.2.2.2.2.2.2 Hnn.out
                        · obtain ⟨m, hm⟩ := HD.out
                          rw [hm, World.drewN_drewN]; exact ⟨_, rfl⟩
              · rw [if_neg h9] at e1
                have Hy := Lib.hid (show (fl % 4 < 2 → sz = 112) ∧ (fl % 2 = 0 → 1 ≤ sz) from ⟨fun h => absurd h h6, fun h => absurd h h9⟩)
                clear h5 h6 h9
                have ia : az ≤ 124 := by have := Haz.out; have := Hz.out; omega
                have ic : ¬ cap = az := by omega
                have Hia := Lib.hid ia
                go_enter Try.func49, Try.ntmps49
                go_wp2_with fail
                go_quiet (fail)
                have hb1 := blw_drewN (Below.refl w.heap.size w) nq
                have c8 : (w.drewN nq).cell? ⟨g, off + 8, none⟩ = some (.int .u8 (p8 : Int)) := by simpa using c8
                have c9 : (w.drewN nq).cell? ⟨g, off + 9, none⟩ = some (.int .u8 (p9 : Int)) := by simpa using c9
                obtain ⟨w1, hw1⟩ : ∃ w1, w.drewN nq = w1 := ⟨_, rfl⟩
                rw [hw1] at hb1 c8 c9 ⊢
                have HW1 := Lib.hid hw1
                have Hb1 := Lib.hid hb1
                have A0 := Lib.hid (fun n => HN0.out (w1.drewN n) (blw_drewN hb1 n))
                have A1 := Lib.hid (fun n => HN1.out (w1.drewN n) (blw_drewN hb1 n))
                clear hw1 hb1 c10 c11
                go_wp2_with fail
                go_quiet ((first | (go_at_call 50; with_reducible exact Calls.quiet_of (A0.out _)) | (go_at_call 50; with_reducible exact Calls.quiet_of (A1.out _))))
                go_wp2_with fail
                have hD : ∃ m, w1.drewN nq = w.drewN m := ⟨_, by rw [← HW1.out, World.drewN_drewN]⟩
                have hb2 := blw_drewN Hb1.out nq
                obtain ⟨w2, hw2⟩ : ∃ w2, w1.drewN nq = w2 := ⟨_, rfl⟩
                rw [hw2] at hD hb2 ⊢
                have HD := Lib.hid hD
                have A2 := Lib.hid (fun n => HN2.out (w2.drewN n) (blw_drewN hb2 n))
                have A3 := Lib.hid (fun n => calls_flip (HSm.out (w2.drewN n) (blw_drewN hb2 n)))
                clear hw2 hD hb2 c8 c9 A0 A1 HN0 HN1 HN2 HSm
                go_loopw [70] (fun i wr => ∃ j : Nat, Hid (j ≤ 124 - az) ∧ Hid (∀ i, i < 124 → az ≤ i → i < az + j → bt s i = 0) ∧ i = .int .i64 (j : Int) ∧ w2 = wr) (fun i _ => 124 - (intOf i).toNat)
                case atStart => exact ⟨0, Lib.hid (Nat.zero_le _), Lib.hid (fun i _ h1 h2 => by omega), rfl, rfl⟩
                case round =>
                  obtain ⟨j, Hj, Hzs, rfl, rfl⟩ := hrel
                  by_cases hj : j < 124 - az
                  · have hcj : w2.cell? ⟨g, off + az + j, none⟩ = some (.int .u8 (bt s (az + j) : Int)) := by
                      obtain ⟨m, hm⟩ := HD.out
                      have := Hat.out (az + j) (by omega)
                      rw [hm, Nat.add_assoc]; simpa using this
                    have j1 : (j : Int) < ((124 - az : Nat) : Int) := by omega
                    have j2 : IntKind.i64.wrap ((j : Int) + 1) = ((j + 1 : Nat) : Int) := by rw [IntKind.wrap_i64]; omega
                    have Hjl := Lib.hid hj
                    obtain ⟨bz, hbz⟩ : ∃ x, bt s (az + j) = x := ⟨_, rfl⟩
                    rw [hbz] at hcj
                    by_cases hz : bz = 0
                    · have Hbz := Lib.hid (hbz.trans hz)
                      subst hz
                      clear hbz
                      go_wp2_with fail
                      exact ⟨⟨j + 1, Lib.hid (by have := Hjl.out; omega), Lib.hid (fun i h0 h1 h2 => by
                        rcases Nat.lt_or_ge i (az + j) with h | h
                        · exact Hzs.out i h0 h1 h
                        · have : i = az + j := by omega
                          rw [this]; exact Hbz.out), by go_num, trivial⟩, by have := Hjl.out; have := Hia.out; simp [intOf]; omega⟩
                    · have fz : ((bz : Int) != 0) = true := by simp; omega
                      have Hbz := Lib.hid (⟨hbz, hz⟩ : bt s (az + j) = bz ∧ bz ≠ 0)
                      clear hbz hz
                      go_wp2_with fail
                      go_ret
                      refine ⟨ret_bool ?_, HD.out⟩
                      cases hq : gv with
                      | false => rfl
                      | true =>
                        have := (HG.out.1 hq).2.2.2.2.2.2.2.1 (az + j) (by have := Hjl.out; omega) (by have := Haz.out; omega)
                        exact absurd (Hbz.out.1.symm.trans this) Hbz.out.2
                  · have hjq : j = 124 - az := by have := Hj.out; omega
                    have Hjq := Lib.hid hjq
                    have j1 : ¬ (j : Int) < ((124 - az : Nat) : Int) := by omega
                    clear hjq
                    go_wp2_with fail
                    by_cases hn : n2 = cs
                    · have fn : ((n2.toNat : Int) == (cs.toNat : Int)) = true := by rw [toNat_beq, decide_eq_true hn]
                      have Hnn := Lib.hid hn
                      clear hn
                      go_quiet ((first | (go_at_call 50; with_reducible exact Calls.quiet_of (A2.out _)) | (go_at_call 14; with_reducible exact Calls.quiet_of_same (A3.out _))))
                      go_wp2_with fail
                      go_ret
                      refine ⟨ret_bool ?_, ?_⟩
                      · symm
                        exact HG.out.2 ⟨Hx.out.1, Hx.out.2.1, Hx.out.2.2.1, Hx.out.2.2.2, Hz.out, Hy.out.1, Hy.out.2, fun i h0 h1 => Hzs.out i h0 (by have := Haz.out; omega) (by have := Hjq.out; omega), Hnn.out⟩
                      · obtain ⟨m, hm⟩ := HD.out
                        rw [hm, World.drewN_drewN]; exact ⟨_, rfl⟩
                    · have fn : ((n2.toNat : Int) == (cs.toNat : Int)) = false := by rw [toNat_beq, decide_eq_false hn]
                      have Hnn := Lib.hid hn
                      clear hn
                      go_quiet ((first | (go_at_call 50; with_reducible exact Calls.quiet_of (A2.out _)) | (go_at_call 14; with_reducible exact Calls.quiet_of_same (A3.out _))))
                      go_wp2_with fail
                      go_ret
                      refine ⟨ret_bool ?_, ?_⟩
                      · cases hq : gv with
                        | false => rfl
                        | true => exact absurd (HG.out.1 hq).2.2.2.2.2.2.2.2 Hnn.out
                      · obtain ⟨m, hm⟩ := HD.out
                        rw [hm, World.drewN_drewN]; exact ⟨_, rfl⟩
        · have f4 : (3 : Int) < (fl : Int) := by omega
          have Hx := Lib.hid h4
          clear h1 h2 h3 h4
          go_enter Try.func49, Try.ntmps49
          go_wp2_with fail
          go_quiet (fail)
          have hb1 := blw_drewN (Below.refl w.heap.size w) nq
          have c8 : (w.drewN nq).cell? ⟨g, off + 8, none⟩ = some (.int .u8 (p8 : Int)) := by simpa using c8
          have c9 : (w.drewN nq).cell? ⟨g, off + 9, none⟩ = some (.int .u8 (p9 : Int)) := by simpa using c9
          obtain ⟨w1, hw1⟩ : ∃ w1, w.drewN nq = w1 := ⟨_, rfl⟩
          rw [hw1] at hb1 c8 c9 ⊢
          have HW1 := Lib.hid hw1
          have Hb1 := Lib.hid hb1
          have A0 := Lib.hid (fun n => HN0.out (w1.drewN n) (blw_drewN hb1 n))
          have A1 := Lib.hid (fun n => HN1.out (w1.drewN n) (blw_drewN hb1 n))
          clear hw1 hb1 c10 c11
          go_wp2_with fail
          go_quiet ((first | (go_at_call 50; with_reducible exact Calls.quiet_of (A0.out _)) | (go_at_call 50; with_reducible exact Calls.quiet_of (A1.out _))))
          go_wp2_with fail
          go_ret
          refine ⟨ret_bool ?_, ?_⟩
          · cases hq : gv with
            | false => rfl
            | true => have := HG.out.1 hq; exact absurd this (fun h => Hx.out h.2.2.2.1)
          · rw [← HW1.out, World.drewN_drewN]; exact ⟨_, rfl⟩
      · have f3 : ((pl : Int) != (k : Int)) = true := by simp; omega
        have Hx := Lib.hid h3
        clear h1 h2 h3
        go_enter Try.func49, Try.ntmps49
        go_wp2_with fail
        go_quiet (fail)
        have hb1 := blw_drewN (Below.refl w.heap.size w) nq
        have c8 : (w.drewN nq).cell? ⟨g, off + 8, none⟩ = some (.int .u8 (p8 : Int)) := by simpa using c8
        have c9 : (w.drewN nq).cell? ⟨g, off + 9, none⟩ = some (.int .u8 (p9 : Int)) := by simpa using c9
        obtain ⟨w1, hw1⟩ : ∃ w1, w.drewN nq = w1 := ⟨_, rfl⟩
        rw [hw1] at hb1 c8 c9 ⊢
        have HW1 := Lib.hid hw1
        have Hb1 := Lib.hid hb1
        have A0 := Lib.hid (fun n => HN0.out (w1.drewN n) (blw_drewN hb1 n))
        have A1 := Lib.hid (fun n => HN1.out (w1.drewN n) (blw_drewN hb1 n))
        clear hw1 hb1 c10 c11
        go_wp2_with fail
        go_quiet ((first | (go_at_call 50; with_reducible exact Calls.quiet_of (A0.out _)) | (go_at_call 50; with_reducible exact Calls.quiet_of (A1.out _))))
        go_wp2_with fail
        go_ret
        refine ⟨ret_bool ?_, ?_⟩
        · cases hq : gv with
          | false => rfl
          | true => have := HG.out.1 hq; exact absurd this (fun h => Hx.out h.2.2.1)
        · rw [← HW1.out, World.drewN_drewN]; exact ⟨_, rfl⟩
    · have f2 : ((n0.toNat : Int) != (n1.toNat : Int)) = true := by rw [bne, toNat_beq, decide_eq_false h2]; rfl
      have Hx := Lib.hid h2
      clear h1 h2
      go_enter Try.func49, Try.ntmps49
      go_wp2_with fail
      go_quiet (fail)
      have hb1 := blw_drewN (Below.refl w.heap.size w) nq
      have c8 : (w.drewN nq).cell? ⟨g, off + 8, none⟩ = some (.int .u8 (p8 : Int)) := by simpa using c8
      have c9 : (w.drewN nq).cell? ⟨g, off + 9, none⟩ = some (.int .u8 (p9 : Int)) := by simpa using c9
      obtain ⟨w1, hw1⟩ : ∃ w1, w.drewN nq = w1 := ⟨_, rfl⟩
      rw [hw1] at hb1 c8 c9 ⊢
      have HW1 := Lib.hid hw1
      have Hb1 := Lib.hid hb1
      have A0 := Lib.hid (fun n => HN0.out (w1.drewN n) (blw_drewN hb1 n))
      have A1 := Lib.hid (fun n => HN1.out (w1.drewN n) (blw_drewN hb1 n))
      clear hw1 hb1 c10 c11
      go_wp2_with fail
      go_quiet ((first | (go_at_call 50; with_reducible exact Calls.quiet_of (A0.out _)) | (go_at_call 50; with_reducible exact Calls.quiet_of (A1.out _))))
      go_wp2_with fail
      go_ret
      refine ⟨ret_bool ?_, ?_⟩
      · cases hq : gv with
        | false => rfl
        | true => have := HG.out.1 hq; exact absurd this (fun h => Hx.out h.2.1)
      · rw [← HW1.out, World.drewN_drewN]; exact ⟨_, rfl⟩
end Go.Proofs.Ytbinibpkbkhdlaa
