/- Wal: the reference's Room, Append, Same. -/
import Derived.Test.YtbinibpkbkhdlaaWlRB
import Derived.Test.YtbinibpkbkhdlaaWlSame
import Derived.Test.YtbinibpkbkhdlaaWlF
namespace Go.Proofs.Ytbinibpkbkhdlaa
open Go.RowKit

theorem blk_new2 (w : World) (o : Obj) (t : TypeId) (cs : Array Value) : Blk ((w.alloc o).alloc (.cells cs t)) (w.heap.size + 1) t cs := by
  have h := Blk.new (w.alloc o) t cs
  rw [World.size_alloc] at h
  exact h
set_option maxRecDepth 100000 in
set_option maxHeartbeats 2000000 in
theorem rroom_any (L : Lg) (d : Value) (w : World) (hd : LgV w d L) (hS : L.recs.length ≤ 140737488351232) (hall : ∀ s ∈ L.recs, s.length ≤ 140737488351232) :
    Calls Try.prog 21 #[d] w fun e w' => e = .returned (.int .i64 (rm L)) ∧ Below w.heap.size w w' := by
  obtain ⟨v, rfl, hv⟩ := hd
  obtain ⟨fi, ma, S, sy⟩ := L
  simp only [lgAgg] at hv hS hall ⊢
  obtain ⟨a, cap, rfl⟩ := hv.len
  have HB := Lib.hid (Blk.new w 29 #[.int .i64 fi, .int .i64 ma, .slice a S.length cap, .int .i64 sy])
  have Hb := Lib.hid (below_alloc w (.cells #[.int .i64 fi, .int .i64 ma, .slice a S.length cap, .int .i64 sy] 29))
  have HS := Lib.hid hS
  have HA := Lib.hid hall
  have HV := Lib.hid (fun W (hb : Below w.heap.size w W) => hv.next hb)
  have HCk := Lib.hid (fun W (hb : Below w.heap.size w W) => rchk_any ⟨fi, ma, S, sy⟩ _ W ⟨_, rfl, hv.next hb⟩ hS hall)
  unfold lgAgg at HCk
  clear hS hv hall
  obtain ⟨c0, c1, c2, c3, _, _, _, _⟩ := dkCells HB.out
  cases hg : lgB ⟨fi, ma, S, sy⟩
  · have hE : lgE ⟨fi, ma, S, sy⟩ = 1 := by simp [lgE, hg]
    rw [hE] at HCk
    have Hr := Lib.hid (show rm ⟨fi, ma, S, sy⟩ = 0 by simp [rm, hg])
    clear hE hg
    go_enter Try.func21, Try.ntmps21
    go_wp2_with fail
    refine (HCk.out _ Hb.out).mono ?_
    rintro e w1 ⟨rfl, hb1⟩
    clear c0 c1 c2 c3
    have HB1 := Lib.hid (HB.out.below hb1 HB.out.lt)
    have Hb1 := Lib.hid (Hb.out.trans (hb1.mono Hb.out.size))
    obtain ⟨c0, c1, c2, c3, _, _, _, _⟩ := dkCells HB1.out
    clear hb1
    go_wp2_with fail
    go_ret
    exact ⟨ret_int Hr.out.symm, Hb1.out⟩
  · have hE : lgE ⟨fi, ma, S, sy⟩ = 0 := by simp [lgE, hg]
    rw [hE] at HCk
    obtain ⟨h0, h1, _, h2, _, _, h3, h4⟩ := lgB_ok hg
    simp only [] at h0 h1 h2 h3 h4
    have Hr := Lib.hid (show rm ⟨fi, ma, S, sy⟩ = min (112 * (ma - (used S : Int))) 65536 by simp [rm, hg])
    have hwu : IntKind.i64.wrap ((used S : Nat) : Int) = ((used S : Nat) : Int) := by rw [IntKind.wrap_i64]; omega
    have HU := Lib.hid (fun W (hb : Below w.heap.size w W) => calls_flip (rused_any S _ W (HV.out W hb) HS.out HA.out))
    rw [hwu] at HU
    have s1 : IntKind.i64.wrap (ma - (used S : Int)) = ma - (used S : Int) := by rw [IntKind.wrap_i64]; omega
    have s2 : IntKind.i64.wrap (112 * (ma - (used S : Int))) = 112 * (ma - (used S : Int)) := by rw [IntKind.wrap_i64]; omega
    clear hE hg h3 hwu
    go_enter Try.func21, Try.ntmps21
    go_wp2_with fail
    refine (HCk.out _ Hb.out).mono ?_
    rintro e w1 ⟨rfl, hb1⟩
    clear c0 c1 c2 c3
    have HB1 := Lib.hid (HB.out.below hb1 HB.out.lt)
    have Hb1 := Lib.hid (Hb.out.trans (hb1.mono Hb.out.size))
    obtain ⟨c0, c1, c2, c3, _, _, _, _⟩ := dkCells HB1.out
    clear hb1
    have HU1 := Lib.hid (fun n => HU.out _ (blw_drewN Hb1.out n))
    go_wp2_with fail
    by_cases hlt : 112 * (ma - (used S : Int)) < 65536
    · go_quiet ((first | (go_at_call 37; with_reducible exact Calls.quiet_of_same (HU1.out _))))
      go_wp2_with fail
      go_ret
      refine ⟨ret_int ?_, blw_drewN Hb1.out _⟩
      rw [Hr.out]; omega
    · go_quiet ((first | (go_at_call 37; with_reducible exact Calls.quiet_of_same (HU1.out _))))
      go_wp2_with fail
      go_ret
      refine ⟨ret_int ?_, blw_drewN Hb1.out _⟩
      rw [Hr.out]; omega
set_option maxRecDepth 100000 in
set_option maxHeartbeats 2000000 in
theorem rsame_any (L : Lg) (d d' : Value) (w : World) (hd : LgV w d L) (hd' : LgV w d' L) (hS : L.recs.length ≤ 140737488351232) :
    Calls Try.prog 13 #[d, d'] w fun e w' => e = .returned (.bool true) ∧ Below w.heap.size w w' := by
  obtain ⟨v, rfl, hv⟩ := hd
  obtain ⟨v', rfl, hv'⟩ := hd'
  obtain ⟨fi, ma, S, sy⟩ := L
  simp only [lgAgg] at hv hv' hS ⊢
  obtain ⟨a, cap, rfl⟩ := hv.len
  obtain ⟨a', cap', rfl⟩ := hv'.len
  obtain ⟨W, hW⟩ : ∃ W, W = (w.alloc (.cells #[.int .i64 fi, .int .i64 ma, .slice a S.length cap, .int .i64 sy] 29)).alloc (.cells #[.int .i64 fi, .int .i64 ma, .slice a' S.length cap', .int .i64 sy] 29) := ⟨_, rfl⟩
  have hbW : Below w.heap.size w W := by rw [hW]; exact (below_alloc w _).alloc (by simp) _
  have hA0 : Blk W w.heap.size 29 #[.int .i64 fi, .int .i64 ma, .slice a S.length cap, .int .i64 sy] := by rw [hW]; exact (Blk.new w _ _).alloc _
  have hB0 : Blk W (w.heap.size + 1) 29 #[.int .i64 fi, .int .i64 ma, .slice a' S.length cap', .int .i64 sy] := by rw [hW]; exact blk_new2 w _ _ _
  obtain ⟨c0, c1, c2, c3, _, _, _, _⟩ := dkCells hA0
  obtain ⟨z0, z1, z2, z3, _, _, _, _⟩ := dkCells hB0
  have HbW := Lib.hid hbW
  have HW := Lib.hid hW
  have HSm := Lib.hid (fun W' (hb : Below w.heap.size w W') => sameRec_any S S.length rfl a a' cap cap' W' (hv.next hb) (hv'.next hb) hS)
  clear hW hbW hA0 hB0 hv hv' hS
  go_enter Try.func13, Try.ntmps13
  go_wp2_with (rw [← HW.out])
  refine (HSm.out _ HbW.out).mono ?_
  rintro e w1 ⟨rfl, m, rfl⟩
  go_wp2_with fail
  go_ret
  exact ⟨rfl, blw_drewN HbW.out _⟩
end Go.Proofs.Ytbinibpkbkhdlaa
