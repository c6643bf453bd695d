/- Wal: the reference's Check. -/
import Derived.Test.YtbinibpkbkhdlaaWlRA
namespace Go.Proofs.Ytbinibpkbkhdlaa
open Go.RowKit

set_option maxRecDepth 100000 in
set_option maxHeartbeats 8000000 in
theorem rchk_any (L : Lg) (d : Value) (w : World) (hd : LgV w d L) (hS : L.recs.length ≤ 140737488351232) (hall : ∀ s ∈ L.recs, s.length ≤ 140737488351232) :
    Calls Try.prog 19 #[d] w fun e w' => e = .returned (.int .i64 (lgE L)) ∧ Below w.heap.size w w' := by
  obtain ⟨v, rfl, hv⟩ := hd
  obtain ⟨fi, ma, S, sy⟩ := L
  simp only [lgAgg] at hv hS hall ⊢
  obtain ⟨a, cap, rfl⟩ := hv.len
  have hB := Blk.new w 29 #[.int .i64 fi, .int .i64 ma, .slice a S.length cap, .int .i64 sy]
  have Hb := Lib.hid (below_alloc w (.cells #[.int .i64 fi, .int .i64 ma, .slice a S.length cap, .int .i64 sy] 29))
  have Hv := Lib.hid (fun n => (hv.next (Below.refl _ _)).next (blw_drewN (below_alloc w (.cells #[.int .i64 fi, .int .i64 ma, .slice a S.length cap, .int .i64 sy] 29)) n))
  obtain ⟨w1, hw1⟩ : ∃ w1, w.alloc (.cells #[.int .i64 fi, .int .i64 ma, .slice a S.length cap, .int .i64 sy] 29) = w1 := ⟨_, rfl⟩
  rw [hw1] at hB Hb Hv
  obtain ⟨c0, c1, c2, c3, _, _, _, _⟩ := dkCells hB
  have HB := Lib.hid hB
  have HS := Lib.hid hS
  have HW1 := Lib.hid hw1
  have HU := Lib.hid (fun n => calls_flip (rused_any S _ (w1.drewN n) (Hv.out n) hS hall))
  clear hB hv hS hall hw1
  obtain ⟨u, hu⟩ : ∃ u, IntKind.i64.wrap (used S : Nat) = u := ⟨_, rfl⟩
  rw [hu] at HU
  have Hu := Lib.hid hu
  clear hu
  by_cases g1 : fi < 0
  · have Hr := Lib.hid (show lgE ⟨fi, ma, S, sy⟩ = 1 by simp [lgE, lgB, fitsB]; omega)
    go_enter Try.func19, Try.ntmps19
    go_wp2_with (rw [HW1.out])
    go_quiet ((first | (go_at_call 37; with_reducible exact Calls.quiet_of_same (HU.out _))))
    go_wp2_with fail
    go_ret
    exact ⟨ret_int Hr.out.symm, blw_drewN Hb.out _⟩
  by_cases g2 : ma < 1
  · have Hr := Lib.hid (show lgE ⟨fi, ma, S, sy⟩ = 1 by simp [lgE, lgB, fitsB]; omega)
    go_enter Try.func19, Try.ntmps19
    go_wp2_with (rw [HW1.out])
    go_quiet ((first | (go_at_call 37; with_reducible exact Calls.quiet_of_same (HU.out _))))
    go_wp2_with fail
    go_ret
    exact ⟨ret_int Hr.out.symm, blw_drewN Hb.out _⟩
  by_cases g3 : 4096 < ma
  · have Hr := Lib.hid (show lgE ⟨fi, ma, S, sy⟩ = 1 by simp [lgE, lgB, fitsB]; omega)
    go_enter Try.func19, Try.ntmps19
    go_wp2_with (rw [HW1.out])
    go_quiet ((first | (go_at_call 37; with_reducible exact Calls.quiet_of_same (HU.out _))))
    go_wp2_with fail
    go_ret
    exact ⟨ret_int Hr.out.symm, blw_drewN Hb.out _⟩
  have s0 : IntKind.i64.wrap (4096 - ma) = 4096 - ma := by rw [IntKind.wrap_i64]; omega
  by_cases g4 : 4096 - ma < fi
  · have Hr := Lib.hid (show lgE ⟨fi, ma, S, sy⟩ = 1 by simp [lgE, lgB, fitsB]; omega)
    go_enter Try.func19, Try.ntmps19
    go_wp2_with (rw [HW1.out])
    go_quiet ((first | (go_at_call 37; with_reducible exact Calls.quiet_of_same (HU.out _))))
    go_wp2_with fail
    go_ret
    exact ⟨ret_int Hr.out.symm, blw_drewN Hb.out _⟩
  by_cases g5 : sy < 0
  · have Hr := Lib.hid (show lgE ⟨fi, ma, S, sy⟩ = 1 by simp [lgE, lgB, fitsB]; omega)
    go_enter Try.func19, Try.ntmps19
    go_wp2_with (rw [HW1.out])
    go_quiet ((first | (go_at_call 37; with_reducible exact Calls.quiet_of_same (HU.out _))))
    go_wp2_with fail
    go_ret
    exact ⟨ret_int Hr.out.symm, blw_drewN Hb.out _⟩
  by_cases g6 : (S.length : Int) < sy
  · have Hr := Lib.hid (show lgE ⟨fi, ma, S, sy⟩ = 1 by simp [lgE, lgB, fitsB]; omega)
    go_enter Try.func19, Try.ntmps19
    go_wp2_with (rw [HW1.out])
    go_quiet ((first | (go_at_call 37; with_reducible exact Calls.quiet_of_same (HU.out _))))
    go_wp2_with fail
    go_ret
    exact ⟨ret_int Hr.out.symm, blw_drewN Hb.out _⟩
  by_cases g7 : ma < u
  · have Hr := Lib.hid (show lgE ⟨fi, ma, S, sy⟩ = 1 by
      cases h4 : anyLong S
      · have h5 := used_le (long_le h4) S.length
        rw [List.take_length] at h5
        have h6 := Hu.out
        rw [IntKind.wrap_i64] at h6
        have := HS.out
        simp [lgE, lgB, fitsB, h4]; omega
      · simp [lgE, lgB, h4])
    go_enter Try.func19, Try.ntmps19
    go_wp2_with (rw [HW1.out])
    go_quiet ((first | (go_at_call 37; with_reducible exact Calls.quiet_of_same (HU.out _))))
    go_wp2_with fail
    go_ret
    exact ⟨ret_int Hr.out.symm, blw_drewN Hb.out _⟩
  have Hr := Lib.hid (show anyLong S = false → lgE ⟨fi, ma, S, sy⟩ = 0 by
      intro h4
      have h5 := used_le (long_le h4) S.length
      rw [List.take_length] at h5
      have h6 := Hu.out
      rw [IntKind.wrap_i64] at h6
      have := HS.out
      simp [lgE, lgB, fitsB, h4]; omega)
  have Hr1 := Lib.hid (show anyLong S = true → lgE ⟨fi, ma, S, sy⟩ = 1 by intro h4; simp [lgE, lgB, h4])
  go_enter Try.func19, Try.ntmps19
  go_wp2_with (rw [HW1.out])
  go_quiet ((first | (go_at_call 37; with_reducible exact Calls.quiet_of_same (HU.out _))))
  go_wp2_with fail
  go_loopw [3] (fun i wr => ∃ (k : Nat), Hid (k ≤ S.length) ∧ Hid (∀ s ∈ S.take k, s.length ≤ 65536) ∧ i = .int .i64 (k : Int) ∧ wr = w1.drewN nq) (fun i _ => S.length - (intOf i).toNat)
  case atStart => exact ⟨0, Lib.hid (Nat.zero_le _), Lib.hid (by simp), rfl, rfl⟩
  case round =>
    obtain ⟨k, Hk, Hs, rfl, hwr⟩ := hrel
    have hB := HB.out.drewN nq
    have hV := Hv.out nq
    have Hbw := Lib.hid (blw_drewN Hb.out nq)
    rw [← hwr] at hB hV Hbw
    have Hwr := Lib.hid hwr
    clear hwr c0 c1 c2 c3
    obtain ⟨c0, c1, c2, c3, _, _, _, _⟩ := dkCells hB
    by_cases hk : k < S.length
    · obtain ⟨g, off, rfl, hcap, hcs⟩ := hV.at_ (by omega)
      obtain ⟨s, hs⟩ : ∃ s, S[k]? = some s := ⟨_, List.getElem?_eq_getElem hk⟩
      obtain ⟨ad, c, hcell, _⟩ := hcs k s hs
      have Hss := Lib.hid hs
      have j0 : (0 : Int) ≤ (k : Int) := by omega
      have j1 : (k : Int) < (S.length : Int) := by omega
      have s1 : IntKind.i64.wrap ((k : Int) + 1) = ((k + 1 : Nat) : Int) := by rw [IntKind.wrap_i64]; have := HS.out; omega
      have Hk2 := Lib.hid hk
      clear hcs hs hcap hV hB
      by_cases hl : (65536 : Int) < (s.length : Int)
      · go_wp2_with fail
        go_ret
        refine ⟨ret_int (Hr1.out ?_).symm, Hbw.out⟩
        unfold anyLong
        rw [List.any_eq_true]
        exact ⟨s, List.mem_of_getElem? Hss.out, by simp [lng]; omega⟩
      · have Hl := Lib.hid hl
        go_wp2_with fail
        exact ⟨⟨k + 1, Lib.hid Hk2.out, Lib.hid (by
          intro t ht
          obtain ⟨hk3, hs3⟩ := List.getElem?_eq_some_iff.1 Hss.out
          rw [List.take_succ_eq_append_getElem hk3, hs3] at ht
          simp only [List.mem_append, List.mem_singleton] at ht
          rcases ht with ht | rfl
          · exact Hs.out t ht
          · have := Hl.out; omega), by go_num, Hwr.out⟩, by have := Hk2.out; simp [intOf]; omega⟩
    · have j1 : ¬ (k : Int) < (S.length : Int) := by have := Hk.out; omega
      have hkS : k = S.length := by have := Hk.out; omega
      clear hV hB
      go_wp2_with fail
      go_ret
      refine ⟨ret_int (Hr.out ?_).symm, Hbw.out⟩
      have h := Hs.out
      rw [hkS, List.take_length] at h
      unfold anyLong
      rw [List.any_eq_false]
      intro s hs
      have := h s hs
      simp [lng]; omega
end Go.Proofs.Ytbinibpkbkhdlaa
