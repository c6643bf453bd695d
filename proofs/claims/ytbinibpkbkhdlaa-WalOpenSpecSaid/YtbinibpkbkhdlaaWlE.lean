/- Wal: Room. -/
import Derived.Test.YtbinibpkbkhdlaaWlD
namespace Go.Proofs.Ytbinibpkbkhdlaa
open Go.RowKit

def rm (L : Lg) : Int := if lgB L then min (112 * (L.many - (used L.recs : Int))) 65536 else 0
theorem lgB_ok {L : Lg} (h : lgB L = true) : 0 ≤ L.first ∧ 1 ≤ L.many ∧ L.first < 4096 ∧ L.many ≤ 4096 - L.first ∧ 0 ≤ L.synced ∧ L.synced ≤ L.recs.length ∧ anyLong L.recs = false ∧ (used L.recs : Int) ≤ L.many := by
  simpa [lgB, fitsB, and_assoc] using h
set_option maxRecDepth 100000 in
set_option maxHeartbeats 2000000 in
theorem room_any (L : Lg) (d : Value) (w : World) (hd : LgV w d L) (hS : L.recs.length ≤ 140737488351232) :
    Calls Try.prog 20 #[d] w fun e w' => e = .returned (.int .i64 (rm L)) ∧ Below w.heap.size w w' := by
  obtain ⟨v, rfl, hv⟩ := hd
  obtain ⟨fi, ma, S, sy⟩ := L
  simp only [lgAgg] at hv hS ⊢
  obtain ⟨a, cap, rfl⟩ := hv.len
  have HB := Lib.hid (Blk.new w 29 #[.int .i64 fi, .int .i64 ma, .slice a S.length cap, .int .i64 sy])
  have Hb := Lib.hid (below_alloc w (.cells #[.int .i64 fi, .int .i64 ma, .slice a S.length cap, .int .i64 sy] 29))
  have HS := Lib.hid hS
  have HV := Lib.hid (fun W (hb : Below w.heap.size w W) => hv.next hb)
  have HCk := Lib.hid (fun W (hb : Below w.heap.size w W) => wcheck_any ⟨fi, ma, S, sy⟩ _ W ⟨_, rfl, hv.next hb⟩ hS)
  unfold lgAgg at HCk
  clear hS hv
  obtain ⟨c0, c1, c2, c3, _, _, _, _⟩ := dkCells HB.out
  cases hg : lgB ⟨fi, ma, S, sy⟩
  · have hE : lgE ⟨fi, ma, S, sy⟩ = 1 := by simp [lgE, hg]
    rw [hE] at HCk
    have Hr := Lib.hid (show rm ⟨fi, ma, S, sy⟩ = 0 by simp [rm, hg])
    clear hE hg
    go_enter Try.func20, Try.ntmps20
    go_wp2_with fail
    refine (HCk.out _ Hb.out).mono ?_
    rintro e w1 ⟨rfl, hb1⟩
    clear c0 c1 c2 c3
    have HB1 := Lib.hid (HB.out.below hb1 HB.out.lt)
    have Hb1 := Lib.hid (Hb.out.trans (hb1.mono Hb.out.size))
    obtain ⟨c0, c1, c2, c3, _, _, _, _⟩ := dkCells HB1.out
    clear hb1
    go_wp2_with fail
    go_ret
    exact ⟨ret_int Hr.out.symm, Hb1.out⟩
  · have hE : lgE ⟨fi, ma, S, sy⟩ = 0 := by simp [lgE, hg]
    rw [hE] at HCk
    obtain ⟨h0, h1, _, h2, _, _, h3, h4⟩ := lgB_ok hg
    simp only [] at h0 h1 h2 h3 h4
    have Hr := Lib.hid (show rm ⟨fi, ma, S, sy⟩ = min (112 * (ma - (used S : Int))) 65536 by simp [rm, hg])
    have HU := Lib.hid (fun W (hb : Below w.heap.size w W) => calls_flip (occAll_any S _ W (HV.out W hb) HS.out (long_le h3)))
    have s1 : IntKind.i64.wrap (ma - (used S : Int)) = ma - (used S : Int) := by rw [IntKind.wrap_i64]; omega
    have s2 : IntKind.i64.wrap (112 * (ma - (used S : Int))) = 112 * (ma - (used S : Int)) := by rw [IntKind.wrap_i64]; omega
    clear hE hg h3
    go_enter Try.func20, Try.ntmps20
    go_wp2_with fail
    refine (HCk.out _ Hb.out).mono ?_
    rintro e w1 ⟨rfl, hb1⟩
    clear c0 c1 c2 c3
    have HB1 := Lib.hid (HB.out.below hb1 HB.out.lt)
    have Hb1 := Lib.hid (Hb.out.trans (hb1.mono Hb.out.size))
    obtain ⟨c0, c1, c2, c3, _, _, _, _⟩ := dkCells HB1.out
    clear hb1
    have HU1 := Lib.hid (fun n => HU.out _ (blw_drewN Hb1.out n))
    go_wp2_with fail
    by_cases hlt : 65536 < 112 * (ma - (used S : Int))
    · go_quiet ((first | (go_at_call 34; with_reducible exact Calls.quiet_of_same (HU1.out _))))
      go_wp2_with fail
      go_ret
      refine ⟨ret_int ?_, blw_drewN Hb1.out _⟩
      rw [Hr.out]; omega
    · go_quiet ((first | (go_at_call 34; with_reducible exact Calls.quiet_of_same (HU1.out _))))
      go_wp2_with fail
      go_ret
      refine ⟨ret_int ?_, blw_drewN Hb1.out _⟩
      rw [Hr.out]; omega
end Go.Proofs.Ytbinibpkbkhdlaa
