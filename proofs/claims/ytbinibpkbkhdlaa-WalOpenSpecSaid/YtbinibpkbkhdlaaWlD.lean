/- Wal: Check, Room. -/
import Derived.Test.YtbinibpkbkhdlaaWlC
import Derived.Test.YtbinibpkbkhdlaaWkD
namespace Go.Proofs.Ytbinibpkbkhdlaa
open Go.RowKit

/-- a log as plain data -/
structure Lg where
  first : Int
  many : Int
  recs : List (List UInt8)
  synced : Int
def lgAgg (v : Value) (L : Lg) : Value := .agg #[.int .i64 L.first, .int .i64 L.many, v, .int .i64 L.synced]
def LgV (w : World) (d : Value) (L : Lg) : Prop := ∃ v, d = lgAgg v L ∧ Secs w v L.recs
theorem LgV.next {w w' : World} (hb : Below w.heap.size w w') {d : Value} {L : Lg} (h : LgV w d L) : LgV w' d L := by
  obtain ⟨v, h1, h2⟩ := h; exact ⟨v, h1, h2.next hb⟩
def Lg.zero : Lg := ⟨0, 0, [], 0⟩
theorem lgV_zero (w : World) : LgV w (.agg #[.int .i64 0, .int .i64 0, .slice none 0 0, .int .i64 0]) Lg.zero := ⟨_, rfl, secs_nil w⟩
def lgB (L : Lg) : Bool := fitsB L.first L.many 4096 && (decide (0 ≤ L.synced) && (decide (L.synced ≤ L.recs.length) && (!anyLong L.recs && decide ((used L.recs : Int) ≤ L.many))))
def lgE (L : Lg) : Int := if lgB L then 0 else 1
theorem calls_flip {P : Program} {f : FuncId} {args : Array Value} {w : World} {v : Value} (h : Calls P f args w fun e w' => e = .returned v ∧ w = w') : Calls P f args w fun e w' => e = .returned v ∧ w' = w :=
  h.mono fun _ _ ⟨he, hw⟩ => ⟨he, hw.symm⟩
set_option maxRecDepth 100000 in
set_option maxHeartbeats 2000000 in
theorem wcheck_any (L : Lg) (d : Value) (w : World) (hd : LgV w d L) (hS : L.recs.length ≤ 140737488351232) :
    Calls Try.prog 18 #[d] w fun e w' => e = .returned (.int .i64 (lgE L)) ∧ Below w.heap.size w w' := by
  obtain ⟨v, rfl, hv⟩ := hd
  obtain ⟨fi, ma, S, sy⟩ := L
  simp only [lgAgg] at hv hS ⊢
  obtain ⟨a, cap, rfl⟩ := hv.len
  have hB := Blk.new w 29 #[.int .i64 fi, .int .i64 ma, .slice a S.length cap, .int .i64 sy]
  have Hb := Lib.hid (below_alloc w (.cells #[.int .i64 fi, .int .i64 ma, .slice a S.length cap, .int .i64 sy] 29))
  have Hv := Lib.hid (fun n => (hv.next (Below.refl _ _)).next (blw_drewN (below_alloc w (.cells #[.int .i64 fi, .int .i64 ma, .slice a S.length cap, .int .i64 sy] 29)) n))
  obtain ⟨w1, hw1⟩ : ∃ w1, w.alloc (.cells #[.int .i64 fi, .int .i64 ma, .slice a S.length cap, .int .i64 sy] 29) = w1 := ⟨_, rfl⟩
  rw [hw1] at hB Hb Hv
  obtain ⟨c0, c1, c2, c3, _, _, _, _⟩ := dkCells hB
  have HF := Lib.hid (fun n => calls_flip (fits_any fi ma 4096 (by omega) (w1.drewN n)))
  have HS := Lib.hid hS
  clear hB hv hS
  have HC := Lib.hid (fun n => calls_flip (containsL_any S _ (w1.drewN n) (Hv.out n) (by unfold maxLen; have := HS.out; omega)))
  have HU0 := Lib.hid (fun n => occAll_any S _ (w1.drewN n) (Hv.out n) HS.out)
  cases h1 : fitsB fi ma 4096
  · rw [h1] at HF
    have Hr := Lib.hid (show lgE ⟨fi, ma, S, sy⟩ = 1 by simp [lgE, lgB, h1])
    have HU := Lib.hid trivial
    clear h1
    have HW1 := Lib.hid hw1
    clear hw1
    go_enter Try.func18, Try.ntmps18
    go_wp2_with (rw [HW1.out])
    go_quiet ((first | (go_at_call 29; with_reducible exact Calls.quiet_of_same (HF.out _)) | (go_at_call 39; with_reducible exact Calls.quiet_of_same (HC.out _)) | (go_at_call 34; with_reducible exact Calls.quiet_of_same (HU.out _))))
    go_wp2_with fail
    go_ret
    exact ⟨ret_int Hr.out.symm, blw_drewN Hb.out _⟩
  · rw [h1] at HF
    by_cases h2 : sy < 0
    · have Hr := Lib.hid (show lgE ⟨fi, ma, S, sy⟩ = 1 by simp [lgE, lgB, h1]; omega)
      have HU := Lib.hid trivial
      clear h1
      have HW1 := Lib.hid hw1
      clear hw1
      go_enter Try.func18, Try.ntmps18
      go_wp2_with (rw [HW1.out])
      go_quiet ((first | (go_at_call 29; with_reducible exact Calls.quiet_of_same (HF.out _)) | (go_at_call 39; with_reducible exact Calls.quiet_of_same (HC.out _)) | (go_at_call 34; with_reducible exact Calls.quiet_of_same (HU.out _))))
      go_wp2_with fail
      go_ret
      exact ⟨ret_int Hr.out.symm, blw_drewN Hb.out _⟩
    · by_cases h3 : (S.length : Int) < sy
      · have Hr := Lib.hid (show lgE ⟨fi, ma, S, sy⟩ = 1 by simp [lgE, lgB, h1]; omega)
        have HU := Lib.hid trivial
        clear h1
        have HW1 := Lib.hid hw1
        clear hw1
        go_enter Try.func18, Try.ntmps18
        go_wp2_with (rw [HW1.out])
        go_quiet ((first | (go_at_call 29; with_reducible exact Calls.quiet_of_same (HF.out _)) | (go_at_call 39; with_reducible exact Calls.quiet_of_same (HC.out _)) | (go_at_call 34; with_reducible exact Calls.quiet_of_same (HU.out _))))
        go_wp2_with fail
        go_ret
        exact ⟨ret_int Hr.out.symm, blw_drewN Hb.out _⟩
      · cases h4 : anyLong S
        · have HU := Lib.hid (fun n => calls_flip (HU0.out n (long_le h4)))
          rw [h4] at HC
          by_cases h5 : ma < (used S : Int)
          · have Hr := Lib.hid (show lgE ⟨fi, ma, S, sy⟩ = 1 by simp [lgE, lgB, h1, h4]; omega)
            clear h1 h4
            have HW1 := Lib.hid hw1
            clear hw1
            go_enter Try.func18, Try.ntmps18
            go_wp2_with (rw [HW1.out])
            go_quiet ((first | (go_at_call 29; with_reducible exact Calls.quiet_of_same (HF.out _)) | (go_at_call 39; with_reducible exact Calls.quiet_of_same (HC.out _)) | (go_at_call 34; with_reducible exact Calls.quiet_of_same (HU.out _))))
            go_wp2_with fail
            go_ret
            exact ⟨ret_int Hr.out.symm, blw_drewN Hb.out _⟩
          · have Hr := Lib.hid (show lgE ⟨fi, ma, S, sy⟩ = 0 by simp [lgE, lgB, h1, h4]; omega)
            clear h1 h4
            have HW1 := Lib.hid hw1
            clear hw1
            go_enter Try.func18, Try.ntmps18
            go_wp2_with (rw [HW1.out])
            go_quiet ((first | (go_at_call 29; with_reducible exact Calls.quiet_of_same (HF.out _)) | (go_at_call 39; with_reducible exact Calls.quiet_of_same (HC.out _)) | (go_at_call 34; with_reducible exact Calls.quiet_of_same (HU.out _))))
            go_wp2_with fail
            go_ret
            exact ⟨ret_int Hr.out.symm, blw_drewN Hb.out _⟩
        · have Hr := Lib.hid (show lgE ⟨fi, ma, S, sy⟩ = 1 by simp [lgE, lgB, h1, h4])
          have HU := Lib.hid trivial
          rw [h4] at HC
          clear h1 h4
          have HW1 := Lib.hid hw1
          clear hw1
          go_enter Try.func18, Try.ntmps18
          go_wp2_with (rw [HW1.out])
          go_quiet ((first | (go_at_call 29; with_reducible exact Calls.quiet_of_same (HF.out _)) | (go_at_call 39; with_reducible exact Calls.quiet_of_same (HC.out _)) | (go_at_call 34; with_reducible exact Calls.quiet_of_same (HU.out _))))
          go_wp2_with fail
          go_ret
          exact ⟨ret_int Hr.out.symm, blw_drewN Hb.out _⟩
end Go.Proofs.Ytbinibpkbkhdlaa
