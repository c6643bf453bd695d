/- Wal: the statement WalAppendSpec, the walk. -/
import Derived.Test.YtbinibpkbkhdlaaWlRD
import Derived.Test.YtbinibpkbkhdlaaWlRw
import Derived.Deep.RegionHeld3
namespace Go.Proofs.Ytbinibpkbkhdlaa
open Go.RowKit

theorem apL_len (L : Lg) (b : List UInt8) : (apL L b).recs.length ≤ 140737488351232 := by
  by_cases h0 : apE L b.length = 0
  · cases hg : lgB L
    · rw [apE_1 hg] at h0; omega
    · obtain ⟨e1, _, _⟩ := ap_ok hg h0
      obtain ⟨k0, k1, _, k2, _, _, _, k7⟩ := lgB_ok hg
      have := len_used L.recs
      rw [e1]
      simp
      omega
  · rw [apL_bad h0]; simp [Lg.zero]
set_option maxRecDepth 100000 in
set_option maxHeartbeats 4000000 in
theorem wappend_any (L : Lg) (d : Value) (b : List UInt8) (n : Nat) (hn : b.length = n) (hn2 : n ≤ 140737488351232) (ab : Option Addr) (cb : Nat) (w : World) (hd : LgV w d L) (hS : L.recs.length ≤ 140737488351232) (hall : ∀ s ∈ L.recs, s.length ≤ 140737488351232) (hvb : Sl w 1 (.slice ab n cb) n (bc b)) :
    Calls Try.prog 4 #[d, .slice ab n cb] w fun e w' => e = .returned (.bool true) ∧ Below w.heap.size w w' := by
  have hS2 := apL_len L b
  obtain ⟨E, hE⟩ : ∃ E, apE L n = E := ⟨_, rfl⟩
  obtain ⟨R, hR⟩ : ∃ R, rm L = R := ⟨_, rfl⟩
  obtain ⟨C, hC⟩ : ∃ R, lgE L = R := ⟨_, rfl⟩
  have hAp := fun W (hb : Below w.heap.size w W) => append_any L _ b n hn ab cb W (hd.next hb) hS (hvb.next hb)
  have hAr := fun W (hb : Below w.heap.size w W) => rappend_any L _ b n hn hn2 ab cb W (hd.next hb) hS hall (hvb.next hb)
  have hRm := fun W (hb : Below w.heap.size w W) => room_any L _ W (hd.next hb) hS
  have hRr := fun W (hb : Below w.heap.size w W) => rroom_any L _ W (hd.next hb) hS hall
  have hCk := fun W (hb : Below w.heap.size w W) => wcheck_any L _ W (hd.next hb) hS
  have hCr := fun W (hb : Below w.heap.size w W) => rchk_any L _ W (hd.next hb) hS hall
  rw [hE] at hAp hAr
  rw [hR] at hRm hRr
  rw [hC] at hCk hCr
  obtain ⟨L2, hL2⟩ : ∃ L2, apL L b = L2 := ⟨_, rfl⟩
  rw [hL2] at hS2 hAp hAr
  obtain ⟨f2, m2, S2, y2⟩ := L2
  obtain ⟨v, rfl, hv⟩ := hd
  obtain ⟨fi, ma, S, sy⟩ := L
  simp only [lgAgg] at hv hS hS2 hAp hAr hRm hRr hCk hCr ⊢
  obtain ⟨a, cap, rfl⟩ := hv.len
  obtain ⟨N, hN⟩ : ∃ N, S.length = N := ⟨_, rfl⟩
  have HFw := Lib.hid (fun W (hb : Below w.heap.size w W) => few_any none 0 0 0 0 false _ S W (hv.next hb) hS)
  rw [hN] at hAp hAr hRm hRr hCk hCr HFw ⊢
  have HAp := Lib.hid hAp
  have HAr := Lib.hid hAr
  have HRm := Lib.hid hRm
  have HRr := Lib.hid hRr
  have HCk := Lib.hid hCk
  have HCr := Lib.hid hCr
  have h0 := Blk.new w 29 #[.int .i64 fi, .int .i64 ma, .slice a N cap, .int .i64 sy]
  have HB0 := Lib.hid h0
  have HBl := Lib.hid h0.lt
  have Hb0 := Lib.hid (below_alloc w (.cells #[.int .i64 fi, .int .i64 ma, .slice a N cap, .int .i64 sy] 29))
  have HS2 := Lib.hid hS2
  clear hS hv hvb hn hN h0 hAp hAr hRm hRr hCk hCr hE hR hC hL2 hall hS2 hn2
  go_enter Try.func4, Try.ntmps4
  go_wp2_with fail
  refine (sane_any _).mono ?_
  rintro e w1 ⟨rfl, hb⟩
  have Hb1 := Lib.hid (Hb0.out.trans (hb.mono Hb0.out.size))
  have HB1 := Lib.hid (HB0.out.below hb HBl.out)
  clear hb
  obtain ⟨c0, c1, c2, c3, _, _, _, _⟩ := dkCells HB1.out
  go_wp2_with fail
  refine (HFw.out _ Hb1.out).mono ?_
  rintro e w2 ⟨⟨few, rfl⟩, hb⟩
  clear c0 c1 c2 c3
  have Hb2 := Lib.hid (Hb1.out.trans (hb.mono Hb1.out.size))
  have HB2 := Lib.hid (HB1.out.below hb HB1.out.lt)
  clear hb
  obtain ⟨c0, c1, c2, c3, _, _, _, _⟩ := dkCells HB2.out
  cases few
  · go_wp2_with fail
    exact bodyPost_ret (v := .bool true) (by simp [results, Try.results4, go_sem, *]) rfl ⟨rfl, Hb2.out⟩
  by_cases h7 : (70000 : Int) < (n : Int)
  · go_wp2_with fail
    exact bodyPost_ret (v := .bool true) (by simp [results, Try.results4, go_sem, *]) rfl ⟨rfl, Hb2.out⟩
  go_wp2_with fail
  refine (HAp.out _ Hb2.out).mono ?_
  rintro e w3 ⟨dx, rfl, ⟨vx, rfl, hsx⟩, hb⟩
  simp only [] at hsx
  obtain ⟨ax, cx, rfl⟩ := hsx.len
  obtain ⟨M, hM⟩ : ∃ M, S2.length = M := ⟨_, rfl⟩
  have hlx : LgV w3 (lgAgg (.slice ax M cx) ⟨f2, m2, S2, y2⟩) ⟨f2, m2, S2, y2⟩ := ⟨_, rfl, by rw [← hM]; exact hsx⟩
  rw [hM]
  unfold lgAgg at hlx ⊢
  simp only [] at hlx ⊢
  clear c0 c1 c2 c3 hsx
  have Hb3 := Lib.hid (Hb2.out.trans (hb.mono Hb2.out.size))
  have HB3 := Lib.hid (HB2.out.below hb HB2.out.lt)
  clear hb
  obtain ⟨c0, c1, c2, c3, _, _, _, _⟩ := dkCells HB3.out
  have hlt := HB3.out.lt
  have hne : ¬ w.heap.size = w3.heap.size := by omega
  have hne' : ¬ w3.heap.size = w.heap.size := by omega
  go_wp2_with fail
  obtain ⟨w4, hw4⟩ : ∃ w4, w3.alloc (.cells #[.int .i64 f2, .int .i64 m2, .slice ax M cx, .int .i64 y2] 29) = w4 := ⟨_, rfl⟩
  have hb34 : Below w3.heap.size w3 w4 := by rw [← hw4]; exact below_alloc w3 _
  have hQ4 : Blk w4 w3.heap.size 29 #[.int .i64 f2, .int .i64 m2, .slice ax M cx, .int .i64 y2] := by rw [← hw4]; exact Blk.new w3 _ _
  have HQ4 := Lib.hid hQ4
  have HB4 := Lib.hid (HB3.out.below hb34 HB3.out.lt)
  have Hb4 := Lib.hid (Hb3.out.trans (hb34.mono Hb3.out.size))
  have Hlx4 := Lib.hid (hlx.next hb34)
  rw [hw4]
  obtain ⟨G5, hG5⟩ : ∃ G5, w3.heap.size = G5 := ⟨_, rfl⟩
  rw [hG5] at HQ4 ⊢
  clear c0 c1 c2 c3 hlt hne hne' hw4 hQ4 hlx hb34
  refine (HAr.out _ Hb4.out).mono ?_
  rintro e w5 ⟨dy, rfl, ⟨vy, rfl, hsy⟩, hb⟩
  simp only [] at hsy
  obtain ⟨ay, cy, rfl⟩ := hsy.len
  have hly : LgV w5 (lgAgg (.slice ay M cy) ⟨f2, m2, S2, y2⟩) ⟨f2, m2, S2, y2⟩ := ⟨_, rfl, by rw [← hM]; exact hsy⟩
  rw [hM]
  unfold lgAgg at hly ⊢
  simp only [] at hly ⊢
  obtain ⟨w6, hw6⟩ : ∃ w6, w5.alloc (.cells #[.int .i64 f2, .int .i64 m2, .slice ay M cy, .int .i64 y2] 29) = w6 := ⟨_, rfl⟩
  have hb56 : Below w5.heap.size w5 w6 := by rw [← hw6]; exact below_alloc w5 _
  have hQ6 : Blk w6 w5.heap.size 29 #[.int .i64 f2, .int .i64 m2, .slice ay M cy, .int .i64 y2] := by rw [← hw6]; exact Blk.new w5 _ _
  have hb46 := hb.trans (hb56.mono hb.size)
  have HB6 := Lib.hid (HB4.out.below hb46 HB4.out.lt)
  have HX6 := Lib.hid (HQ4.out.below hb46 HQ4.out.lt)
  have HY6 := Lib.hid hQ6
  have Hb6 := Lib.hid (Hb4.out.trans (hb46.mono Hb4.out.size))
  have Hlx6 := Lib.hid (Hlx4.out.next hb46)
  have Hly6 := Lib.hid (hly.next hb56)
  have HW6 := Lib.hid hw6
  obtain ⟨G7, hG7⟩ : ∃ G7, w5.heap.size = G7 := ⟨_, rfl⟩
  rw [hG7] at HY6
  have HG7 := Lib.hid hG7
  clear hw6 hQ6 hly hsy hb hb46 hb56 hG5 hM hG7
  have HCk2 := Lib.hid (fun W (hb : Below w6.heap.size w6 W) => thenB hb (HCk.out W (Hb6.out.trans (hb.mono Hb6.out.size))))
  have HCr2 := Lib.hid (fun W (hb : Below w6.heap.size w6 W) => thenB hb (HCr.out W (Hb6.out.trans (hb.mono Hb6.out.size))))
  have HRm2 := Lib.hid (fun W (hb : Below w6.heap.size w6 W) => thenB hb (HRm.out W (Hb6.out.trans (hb.mono Hb6.out.size))))
  have HRr2 := Lib.hid (fun W (hb : Below w6.heap.size w6 W) => thenB hb (HRr.out W (Hb6.out.trans (hb.mono Hb6.out.size))))
  have HSm2 := Lib.hid (fun W (hb : Below w6.heap.size w6 W) => thenB hb (rsame_any ⟨f2, m2, S2, y2⟩ _ _ W (Hlx6.out.next hb) (Hly6.out.next hb) HS2.out))
  have HK := Lib.hid (show ∀ W, Below w6.heap.size w6 W → W.cell? ⟨w.heap.size, 0, none⟩ = some (.int .i64 fi) ∧ W.cell? ⟨w.heap.size, 1, none⟩ = some (.int .i64 ma) ∧ W.cell? ⟨w.heap.size, 2, none⟩ = some (.slice a N cap) ∧ W.cell? ⟨w.heap.size, 3, none⟩ = some (.int .i64 sy) ∧ W.cell? ⟨G5, 0, none⟩ = some (.int .i64 f2) ∧ W.cell? ⟨G5, 1, none⟩ = some (.int .i64 m2) ∧ W.cell? ⟨G5, 2, none⟩ = some (.slice ax M cx) ∧ W.cell? ⟨G5, 3, none⟩ = some (.int .i64 y2) ∧ W.cell? ⟨G7, 0, none⟩ = some (.int .i64 f2) ∧ W.cell? ⟨G7, 1, none⟩ = some (.int .i64 m2) ∧ W.cell? ⟨G7, 2, none⟩ = some (.slice ay M cy) ∧ W.cell? ⟨G7, 3, none⟩ = some (.int .i64 y2) from fun W hb => by
      obtain ⟨q0, q1, q2, q3, _, _, _, _⟩ := dkCells (HB6.out.below hb HB6.out.lt)
      obtain ⟨y0, y1, y2, y3, _, _, _, _⟩ := dkCells (HX6.out.below hb HX6.out.lt)
      obtain ⟨z0, z1, z2, z3, _, _, _, _⟩ := dkCells (HY6.out.below hb HY6.out.lt)
      exact ⟨q0, q1, q2, q3, y0, y1, y2, y3, z0, z1, z2, z3⟩)
  have hbx : Below w6.heap.size w6 w6 := Below.refl _ _
  go_wp2_with fail
  rw [HG7.out, HW6.out]
  go_region_held3 (fun W => W.cell? ⟨w.heap.size, 0, none⟩ = some (.int .i64 fi) ∧ W.cell? ⟨w.heap.size, 1, none⟩ = some (.int .i64 ma) ∧ W.cell? ⟨w.heap.size, 2, none⟩ = some (.slice a N cap) ∧ W.cell? ⟨w.heap.size, 3, none⟩ = some (.int .i64 sy) ∧ W.cell? ⟨G5, 0, none⟩ = some (.int .i64 f2) ∧ W.cell? ⟨G5, 1, none⟩ = some (.int .i64 m2) ∧ W.cell? ⟨G5, 2, none⟩ = some (.slice ax M cx) ∧ W.cell? ⟨G5, 3, none⟩ = some (.int .i64 y2) ∧ W.cell? ⟨G7, 0, none⟩ = some (.int .i64 f2) ∧ W.cell? ⟨G7, 1, none⟩ = some (.int .i64 m2) ∧ W.cell? ⟨G7, 2, none⟩ = some (.slice ay M cy) ∧ W.cell? ⟨G7, 3, none⟩ = some (.int .i64 y2))
    (first
      | (with_reducible exact HK.out _ hbx)
      | (with_reducible exact HK.out _ (by (repeat (refine Below.drew ?_)); exact hbx)))
    (first
      | (go_at_call 18; with_reducible refine Calls.mono (HCk2.out _ (by (repeat (refine Below.drew ?_)); exact hbx)) ?_; rintro e w9 ⟨rfl, hbx⟩)
      | (go_at_call 19; with_reducible refine Calls.mono (HCr2.out _ (by (repeat (refine Below.drew ?_)); exact hbx)) ?_; rintro e w9 ⟨rfl, hbx⟩)
      | (go_at_call 20; with_reducible refine Calls.mono (HRm2.out _ (by (repeat (refine Below.drew ?_)); exact hbx)) ?_; rintro e w9 ⟨rfl, hbx⟩)
      | (go_at_call 21; with_reducible refine Calls.mono (HRr2.out _ (by (repeat (refine Below.drew ?_)); exact hbx)) ?_; rintro e w9 ⟨rfl, hbx⟩)
      | (go_at_call 13; with_reducible refine Calls.mono (HSm2.out _ (by (repeat (refine Below.drew ?_)); exact hbx)) ?_; rintro e w9 ⟨rfl, hbx⟩))
  all_goals
    have Hbx := Lib.hid (Hb6.out.trans (hbx.mono Hb6.out.size))
    go_wp2_with fail
    exact bodyPost_ret (v := .bool true) (by simp [results, Try.results4, go_sem, *]) rfl ⟨rfl, Hbx.out⟩
end Go.Proofs.Ytbinibpkbkhdlaa
