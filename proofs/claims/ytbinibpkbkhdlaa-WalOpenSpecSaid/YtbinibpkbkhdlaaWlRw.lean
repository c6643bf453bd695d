/- Wal: the statement WalRoom, the walk. -/
import Derived.Test.YtbinibpkbkhdlaaWlRmP
import Derived.Test.YtbinibpkbkhdlaaWlSame
import Derived.Deep.RegionHeld3
namespace Go.Proofs.Ytbinibpkbkhdlaa
open Go.RowKit

theorem thenB {f : FuncId} {args : Array Value} {a W : World} {x : Ending} (hb : Below a.heap.size a W) (h : Calls Try.prog f args W fun e w' => e = x ∧ Below W.heap.size W w') : Calls Try.prog f args W fun e w' => e = x ∧ Below a.heap.size a w' :=
  h.mono fun _ _ ⟨he, hb'⟩ => ⟨he, hb.trans (hb'.mono hb.size)⟩
theorem secs_init {w : World} {a : Option Addr} {cap : Nat} {S : List (List UInt8)} {b : List UInt8} (h : Secs w (.slice a (S.length + 1) cap) (S ++ [b])) : Secs w (.slice a S.length cap) S := by
  obtain ⟨vs, ⟨hl, a', cap', he, hc, hr⟩, hel⟩ := h
  simp only [Value.slice.injEq] at he
  obtain ⟨rfl, hle, rfl⟩ := he
  have hl0 : (S ++ [b]).length = S.length + 1 := by simp
  rw [hl0] at hc hr
  have hl' : vs.length = S.length + 1 := by simpa using hl
  refine ⟨vs.take S.length, ⟨by rw [List.length_take, hl']; omega, a, cap, rfl, by omega, .inr ?_⟩, ?_⟩
  · rcases hr with h0 | ⟨g, off, ha, hcs⟩
    · simp at h0
    · exact ⟨g, off, ha, fun k u hk => hcs k u (by rw [List.getElem?_take] at hk; split at hk; exact hk; cases hk)⟩
  · intro i s hs
    have hi : i < S.length := (List.getElem?_eq_some_iff.1 hs).1
    obtain ⟨y, hy, hsy⟩ := hel i s (by rw [List.getElem?_append_left hi]; exact hs)
    exact ⟨y, by rw [List.getElem?_take_of_lt hi]; exact hy, hsy⟩
theorem sameRec_b {a : World} (S : List (List UInt8)) (n : Nat) (hn : S.length = n) (xa xb : Option Addr) (ca cb : Nat) (w : World) (hbw : Below a.heap.size a w) (ha : Secs w (.slice xa n ca) S) (hb : Secs w (.slice xb n cb) S) (hS : n ≤ 140737488351232) :
    Calls Try.prog 23 #[.slice xa n ca, .slice xb n cb] w fun e w' => e = .returned (.bool true) ∧ Below a.heap.size a w' :=
  (sameRec_any S n hn xa xb ca cb w ha hb hS).mono fun e w' ⟨he, m, hm⟩ => ⟨he, by rw [hm]; exact blw_drewN hbw m⟩
set_option maxRecDepth 100000 in
set_option maxHeartbeats 4000000 in
theorem wroom_any (L : Lg) (d : Value) (b : List UInt8) (n : Nat) (hn : b.length = n) (ab : Option Addr) (cb : Nat) (w : World) (hd : LgV w d L) (hS : L.recs.length ≤ 140737488351232) (hvb : Sl w 1 (.slice ab n cb) n (bc b)) :
    Calls Try.prog 6 #[d, .slice ab n cb] w fun e w' => e = .returned (.bool true) ∧ Below w.heap.size w w' := by
  obtain ⟨v, rfl, hv⟩ := hd
  obtain ⟨fi, ma, S, sy⟩ := L
  simp only [lgAgg] at hv hS ⊢
  obtain ⟨a, cap, rfl⟩ := hv.len
  obtain ⟨N, hN⟩ : ∃ N, S.length = N := ⟨_, rfl⟩
  have HLg := Lib.hid (show LgV w (.agg #[.int .i64 fi, .int .i64 ma, .slice a N cap, .int .i64 sy]) ⟨fi, ma, S, sy⟩ from ⟨_, rfl, by rw [← hN]; exact hv⟩)
  rw [hN] at hv hS ⊢
  have HV := Lib.hid hv
  have HVB := Lib.hid hvb
  have Hn := Lib.hid hn
  have HN := Lib.hid hN
  have h0 := Blk.new w 29 #[.int .i64 fi, .int .i64 ma, .slice a N cap, .int .i64 sy]
  have HB0 := Lib.hid h0
  have HBl := Lib.hid h0.lt
  have Hb0 := Lib.hid (below_alloc w (.cells #[.int .i64 fi, .int .i64 ma, .slice a N cap, .int .i64 sy] 29))
  have HFw := Lib.hid (fun W (hb : Below w.heap.size w W) => few_any none 0 0 0 0 false _ S W (HV.out.next hb) (by rw [HN.out]; exact hS))
  have HCk := Lib.hid (fun W (hb : Below w.heap.size w W) => wcheck_any ⟨fi, ma, S, sy⟩ _ W (HLg.out.next hb) (by simp only []; rw [HN.out]; exact hS))
  have HAp := Lib.hid (fun W (hb : Below w.heap.size w W) => append_any ⟨fi, ma, S, sy⟩ _ b n hn ab cb W (HLg.out.next hb) (by simp only []; rw [HN.out]; exact hS) (HVB.out.next hb))
  have HRm := Lib.hid (fun W (hb : Below w.heap.size w W) => room_any ⟨fi, ma, S, sy⟩ _ W (HLg.out.next hb) (by simp only []; rw [HN.out]; exact hS))
  have HS := Lib.hid hS
  clear hS hv hvb hn hN h0
  go_enter Try.func6, Try.ntmps6
  go_wp2_with fail
  refine (sane_any _).mono ?_
  rintro e w1 ⟨rfl, hb⟩
  have Hb1 := Lib.hid (Hb0.out.trans (hb.mono Hb0.out.size))
  have HB1 := Lib.hid (HB0.out.below hb HBl.out)
  clear hb
  obtain ⟨c0, c1, c2, c3, _, _, _, _⟩ := dkCells HB1.out
  go_wp2_with fail
  refine (HFw.out _ Hb1.out).mono ?_
  rintro e w2 ⟨⟨few, rfl⟩, hb⟩
  clear c0 c1 c2 c3
  have Hb2 := Lib.hid (Hb1.out.trans (hb.mono Hb1.out.size))
  have HB2 := Lib.hid (HB1.out.below hb HB1.out.lt)
  clear hb
  obtain ⟨c0, c1, c2, c3, _, _, _, _⟩ := dkCells HB2.out
  cases few
  · go_wp2_with fail
    exact bodyPost_ret (v := .bool true) (by simp [results, Try.results6, go_sem, *]) rfl ⟨rfl, by first | exact Hb2.out | exact Hb3.out | exact Hb6.out⟩
  by_cases h7 : (70000 : Int) < (n : Int)
  · go_wp2_with fail
    exact bodyPost_ret (v := .bool true) (by simp [results, Try.results6, go_sem, *]) rfl ⟨rfl, by first | exact Hb2.out | exact Hb3.out | exact Hb6.out⟩
  go_wp2_with fail
  refine (HCk.out _ Hb2.out).mono ?_
  rintro e w3 ⟨rfl, hb⟩
  clear c0 c1 c2 c3
  have Hb3 := Lib.hid (Hb2.out.trans (hb.mono Hb2.out.size))
  have HB3 := Lib.hid (HB2.out.below hb HB2.out.lt)
  clear hb
  obtain ⟨c0, c1, c2, c3, _, _, _, _⟩ := dkCells HB3.out
  cases hg : lgB ⟨fi, ma, S, sy⟩
  · have hE : lgE ⟨fi, ma, S, sy⟩ = 1 := by simp [lgE, hg]
    rw [hE]
    go_wp2_with fail
    exact bodyPost_ret (v := .bool true) (by simp [results, Try.results6, go_sem, *]) rfl ⟨rfl, by first | exact Hb2.out | exact Hb3.out | exact Hb6.out⟩
  have hE : lgE ⟨fi, ma, S, sy⟩ = 0 := by simp [lgE, hg]
  rw [hE]
  have Hg := Lib.hid hg
  clear hg hE
  go_wp2_with fail
  refine (HAp.out _ Hb3.out).mono ?_
  rintro e w4 ⟨dx, rfl, hlg, hb⟩
  clear c0 c1 c2 c3
  have Hb4 := Lib.hid (Hb3.out.trans (hb.mono Hb3.out.size))
  have HB4 := Lib.hid (HB3.out.below hb HB3.out.lt)
  clear hb
  obtain ⟨vx, rfl, hsx⟩ := hlg
  obtain ⟨c0, c1, c2, c3, _, _, _, _⟩ := dkCells HB4.out
  have hlt := HB4.out.lt
  have hne : ¬ w.heap.size = w4.heap.size := by omega
  have hne' : ¬ w4.heap.size = w.heap.size := by omega
  unfold lgAgg
  have HI := Lib.hid (room_iff Hg.out n)
  rcases ap_or Hg.out n with h2 | h2
  · obtain ⟨e1, e2, e3⟩ := ap_ok Hg.out (b := b) (by rw [Hn.out]; exact h2)
    simp only [] at e1
    rw [e1] at e2 e3 hsx ⊢
    simp only [] at hsx
    obtain ⟨ax, cx, rfl⟩ := hsx.len
    obtain ⟨gx, ox, rfl, hcx, hel⟩ := hsx.at_ (by simp)
    obtain ⟨M, hM⟩ : ∃ M, N + 1 = M := ⟨_, rfl⟩
    have hl1 : (S ++ [b]).length = M := by simp [HN.out, hM]
    rw [hl1] at hsx hcx ⊢
    have hsi0 : Secs w4 (.slice (some ⟨gx, ox, none⟩) (S.length + 1) cx) (S ++ [b]) := by rw [HN.out, hM]; exact hsx
    rw [h2]
    have Hlx := Lib.hid (show LgV w4 (.agg #[.int .i64 fi, .int .i64 ma, (.slice (some ⟨gx, ox, none⟩) M cx), .int .i64 sy]) ⟨fi, ma, S ++ [b], sy⟩ from ⟨_, rfl, hsx⟩)
    have Hsi := Lib.hid (show Secs w4 (.slice (some ⟨gx, ox, none⟩) N cx) S by rw [← HN.out]; exact secs_init hsi0)
    obtain ⟨ay, cy, hcy, hsy⟩ := hel N b (by rw [← HN.out]; simp)
    have HSx := Lib.hid hcy
    have HSy := Lib.hid hsy
    have Hcx := Lib.hid hcx
    have He2 := Lib.hid (show lgE ⟨fi, ma, S ++ [b], sy⟩ = 0 by rw [lgE, if_pos e2])
    have He3 := Lib.hid e3
    have hroom := (HI.out.1 h2)
    have hn4 : N ≤ 4096 := by
      obtain ⟨k0, k1, _, k2, _, _, _, k7⟩ := lgB_ok Hg.out
      have := len_used S
      simp only [] at k0 k1 k2 k7
      rw [HN.out] at this; omega
    have Hn4 := Lib.hid hn4
    clear hsi0 hsx hel hcy hsy hcx e1 e2 e3 h2 hl1
    go_wp2_with fail
    obtain ⟨w5, hw5⟩ : ∃ w5, w4.alloc (.cells #[.int .i64 fi, .int .i64 ma, .slice (some ⟨gx, ox, none⟩) M cx, .int .i64 sy] 29) = w5 := ⟨_, rfl⟩
    have hb45 : Below w4.heap.size w4 w5 := by rw [← hw5]; exact below_alloc w4 _
    have hQ5 : Blk w5 w4.heap.size 29 #[.int .i64 fi, .int .i64 ma, .slice (some ⟨gx, ox, none⟩) M cx, .int .i64 sy] := by rw [← hw5]; exact Blk.new w4 _ _
    have HB5 := Lib.hid (HB4.out.below hb45 HB4.out.lt)
    have Hb5 := Lib.hid (Hb4.out.trans (hb45.mono Hb4.out.size))
    rw [hw5]
    clear c0 c1 c2 c3 hlt hne hne' hw5
    refine (HRm.out _ Hb5.out).mono ?_
    rintro e w6 ⟨rfl, hb⟩
    have Hb6 := Lib.hid (Hb5.out.trans (hb.mono Hb5.out.size))
    have HB6 := Lib.hid (HB5.out.below hb HB5.out.lt)
    have HQ6 := Lib.hid (hQ5.below hb hQ5.lt)
    have hb46 := hb45.trans (hb.mono hb45.size)
    clear hb
    obtain ⟨R, hR⟩ : ∃ R, rm ⟨fi, ma, S, sy⟩ = R := ⟨_, rfl⟩
    rw [hR] at hroom He3 ⊢
    obtain ⟨r1, r2⟩ := hroom
    obtain ⟨R', hR'⟩ : ∃ R, rm ⟨fi, ma, S ++ [b], sy⟩ = R := ⟨_, rfl⟩
    have r3 : R' ≤ R := by rw [← hR']; exact He3.out
    have HRm2 := Lib.hid (fun W (hb : Below w6.heap.size w6 W) => thenB hb (room_any ⟨fi, ma, S ++ [b], sy⟩ _ W ((Hlx.out.next hb46).next hb) (by simp [HN.out]; omega)))
    rw [hR'] at HRm2
    have HCk2 := Lib.hid (fun W (hb : Below w6.heap.size w6 W) => thenB hb (wcheck_any ⟨fi, ma, S ++ [b], sy⟩ _ W ((Hlx.out.next hb46).next hb) (by simp [HN.out]; omega)))
    rw [He2.out] at HCk2
    have HSm := Lib.hid (fun W (hb : Below w6.heap.size w6 W) => sameRec_b S N HN.out _ _ _ _ W hb ((Hsi.out.next hb46).next hb) (HV.out.next (Hb6.out.trans (hb.mono Hb6.out.size))) HS.out)
    have hconv1 : ∀ W, Below w6.heap.size w6 W → (convert 25 9 (.slice ay n cy)).run Try.prog W = .ok (.string (mkS b)) W := fun W hb => by
      have := (HSy.out.next hb46).next hb
      have h := Hn.out
      subst h
      exact conv_bytes this
    have hconv2 : ∀ W, Below w6.heap.size w6 W → (convert 25 9 (.slice ab n cb)).run Try.prog W = .ok (.string (mkS b)) W := fun W hb => by
      have := HVB.out.next (Hb6.out.trans (hb.mono Hb6.out.size))
      have h := Hn.out
      subst h
      exact conv_bytes this
    have HK := Lib.hid (show ∀ W, Below w6.heap.size w6 W → W.cell? ⟨w.heap.size, 0, none⟩ = some (.int .i64 fi) ∧ W.cell? ⟨w.heap.size, 1, none⟩ = some (.int .i64 ma) ∧ W.cell? ⟨w.heap.size, 2, none⟩ = some (.slice a N cap) ∧ W.cell? ⟨w.heap.size, 3, none⟩ = some (.int .i64 sy) ∧ W.cell? ⟨w4.heap.size, 0, none⟩ = some (.int .i64 fi) ∧ W.cell? ⟨w4.heap.size, 1, none⟩ = some (.int .i64 ma) ∧ W.cell? ⟨w4.heap.size, 2, none⟩ = some (.slice (some ⟨gx, ox, none⟩) M cx) ∧ W.cell? ⟨w4.heap.size, 3, none⟩ = some (.int .i64 sy) ∧ W.cell? ⟨gx, ox + N, none⟩ = some (.slice ay n cy) ∧ Below w6.heap.size w6 W from fun W hb => by
        obtain ⟨q0, q1, q2, q3, _, _, _, _⟩ := dkCells (HB6.out.below hb HB6.out.lt)
        obtain ⟨y0, y1, y2, y3, _, _, _, _⟩ := dkCells (HQ6.out.below hb HQ6.out.lt)
        have hc := HSx.out
        have hl := World.block_lt_of_cell? w4 _ hc
        exact ⟨q0, q1, q2, q3, y0, y1, y2, y3, by rw [Hn.out] at hc; exact ((hb46.trans (hb.mono hb46.size)).cell hl).trans hc, hb⟩)
    have hbx : Below w6.heap.size w6 w6 := Below.refl _ _
    obtain ⟨c0, c1, c2, c3, z0, z1, z2, z3, z4, _⟩ := HK.out w6 hbx
    have s1 : IntKind.i64.wrap ((N : Int) + 1) = (M : Int) := by rw [IntKind.wrap_i64]; omega
    have i1 : (0 : Int) ≤ (N : Int) := by omega
    have hcx := Hcx.out
    have i2 : (N : Int) ≤ (cx : Int) := by omega
    have i3 : (N : Int) < (M : Int) := by omega
    obtain ⟨G, hG⟩ : ∃ G, w4.heap.size = G := ⟨_, rfl⟩
    rw [hG] at z0 z1 z2 z3 HK ⊢
    clear hQ5 hb45 hb46 hR hR' hcx hG hn4 hM
    go_wp2_with fail
    go_region_held3 (fun W => W.cell? ⟨w.heap.size, 0, none⟩ = some (.int .i64 fi) ∧ W.cell? ⟨w.heap.size, 1, none⟩ = some (.int .i64 ma) ∧ W.cell? ⟨w.heap.size, 2, none⟩ = some (.slice a N cap) ∧ W.cell? ⟨w.heap.size, 3, none⟩ = some (.int .i64 sy) ∧ W.cell? ⟨G, 0, none⟩ = some (.int .i64 fi) ∧ W.cell? ⟨G, 1, none⟩ = some (.int .i64 ma) ∧ W.cell? ⟨G, 2, none⟩ = some (.slice (some ⟨gx, ox, none⟩) M cx) ∧ W.cell? ⟨G, 3, none⟩ = some (.int .i64 sy) ∧ W.cell? ⟨gx, ox + N, none⟩ = some (.slice ay n cy) ∧ Below w6.heap.size w6 W)
      (first
        | (with_reducible exact HK.out _ hbx)
        | (with_reducible exact HK.out _ (by (repeat (refine Below.drew ?_)); exact hbx)))
      (first
        | (go_at_call 18; with_reducible refine Calls.mono (HCk2.out _ (by (repeat (refine Below.drew ?_)); exact hbx)) ?_; rintro e w9 ⟨rfl, hbx⟩)
        | (go_at_call 23; with_reducible refine Calls.mono (HSm.out _ (by (repeat (refine Below.drew ?_)); exact hbx)) ?_; rintro e w9 ⟨rfl, hbx⟩)
        | (go_at_call 20; with_reducible refine Calls.mono (HRm2.out _ (by (repeat (refine Below.drew ?_)); exact hbx)) ?_; rintro e w9 ⟨rfl, hbx⟩))
    have Hbx := Lib.hid (Hb6.out.trans (hbx.mono Hb6.out.size))
    go_wp2_with fail
    exact bodyPost_ret (v := .bool true) (by simp [results, Try.results6, go_sem, *]) rfl ⟨rfl, Hbx.out⟩
  · have hz : apL ⟨fi, ma, S, sy⟩ b = Lg.zero := apL_bad (by rw [Hn.out, h2]; decide)
    rw [hz] at hsx ⊢
    simp only [Lg.zero] at hsx
    obtain ⟨ax, cx, rfl⟩ := hsx.len
    simp only [Lg.zero, List.length_nil]
    rw [h2]
    have hroom : ¬ (0 < rm ⟨fi, ma, S, sy⟩ ∧ (n : Int) ≤ rm ⟨fi, ma, S, sy⟩) := fun h => by have := HI.out.2 h; omega
    clear hsx hz h2
    go_wp2_with fail
    obtain ⟨w5, hw5⟩ : ∃ w5, w4.alloc (.cells #[.int .i64 0, .int .i64 0, .slice ax 0 cx, .int .i64 0] 29) = w5 := ⟨_, rfl⟩
    have hb45 : Below w4.heap.size w4 w5 := by rw [← hw5]; exact below_alloc w4 _
    have hQ5 : Blk w5 w4.heap.size 29 #[.int .i64 0, .int .i64 0, .slice ax 0 cx, .int .i64 0] := by rw [← hw5]; exact Blk.new w4 _ _
    have Hb5 := Lib.hid (Hb4.out.trans (hb45.mono Hb4.out.size))
    rw [hw5]
    clear c0 c1 c2 c3 hlt hne hne' hw5
    refine (HRm.out _ Hb5.out).mono ?_
    rintro e w6 ⟨rfl, hb⟩
    have Hb6 := Lib.hid (Hb5.out.trans (hb.mono Hb5.out.size))
    have HQ6 := Lib.hid (hQ5.below hb hQ5.lt)
    clear hb
    obtain ⟨c0, c1, c2, c3, _, _, _, _⟩ := dkCells HQ6.out
    obtain ⟨R, hR⟩ : ∃ R, rm ⟨fi, ma, S, sy⟩ = R := ⟨_, rfl⟩
    rw [hR] at hroom ⊢
    clear hQ5 hb45 hR
    by_cases hr : 0 < R
    · have hr2 : ¬ (n : Int) ≤ R := fun h => hroom ⟨hr, h⟩
      clear hroom
      go_wp2_with fail
      exact bodyPost_ret (v := .bool true) (by simp [results, Try.results6, go_sem, *]) rfl ⟨rfl, by first | exact Hb2.out | exact Hb3.out | exact Hb6.out⟩
    · clear hroom
      go_wp2_with fail
      exact bodyPost_ret (v := .bool true) (by simp [results, Try.results6, go_sem, *]) rfl ⟨rfl, by first | exact Hb2.out | exact Hb3.out | exact Hb6.out⟩
end Go.Proofs.Ytbinibpkbkhdlaa
