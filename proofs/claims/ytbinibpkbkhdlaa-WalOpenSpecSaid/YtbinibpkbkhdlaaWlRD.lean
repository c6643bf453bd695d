/- Wal: the reference's Append. -/
import Derived.Test.YtbinibpkbkhdlaaWlRC
import Derived.Test.YtbinibpkbkhdlaaWlRmP
namespace Go.Proofs.Ytbinibpkbkhdlaa
open Go.RowKit

theorem secs_one {w : World} {S : List (List UInt8)} {vs : List Value} (hl : vs.length = S.length) (hel : ∀ (i : Nat) (s : List UInt8), S[i]? = some s → ∃ y, vs[i]? = some y ∧ Sl w 1 y s.length (bc s)) : ∀ u ∈ vs, u.oneCell' = true := by
  intro u hu
  obtain ⟨i, hi, rfl⟩ := List.mem_iff_getElem.1 hu
  obtain ⟨y, hy, hsl⟩ := hel i S[i] (List.getElem?_eq_getElem (by omega))
  obtain ⟨a, c, rfl⟩ := hsl.form
  rw [List.getElem?_eq_getElem hi] at hy
  rw [Option.some.inj hy]
  rfl
set_option maxRecDepth 100000 in
set_option maxHeartbeats 2000000 in
theorem rappend_any (L : Lg) (d : Value) (b : List UInt8) (n : Nat) (hn : b.length = n) (hn2 : n ≤ 140737488351232) (ab : Option Addr) (cb : Nat) (w : World) (hd : LgV w d L) (hS : L.recs.length ≤ 140737488351232) (hall : ∀ s ∈ L.recs, s.length ≤ 140737488351232) (hvb : Sl w 1 (.slice ab n cb) n (bc b)) :
    Calls Try.prog 17 #[d, .slice ab n cb] w fun e w' => RetLE (apL L b) (apE L n) w e w' := by
  obtain ⟨v, rfl, hv⟩ := hd
  obtain ⟨fi, ma, S, sy⟩ := L
  simp only [lgAgg] at hv hS hall ⊢
  obtain ⟨a, cap, rfl⟩ := hv.len
  obtain ⟨vs, hvs, hel⟩ := hv
  have hv : Secs w (.slice a S.length cap) S := ⟨vs, hvs, hel⟩
  have HE := Lib.hid hel
  have HVs := Lib.hid hvs
  have h0 := Blk.new w 29 #[.int .i64 fi, .int .i64 ma, .slice a S.length cap, .int .i64 sy]
  have h0 := h0.alloc (.cells #[.int .i64 0, .int .i64 0, .slice none 0 0, .int .i64 0] 29)
  have h1 := Blk.new (w.alloc (.cells #[.int .i64 fi, .int .i64 ma, .slice a S.length cap, .int .i64 sy] 29)) 29 #[.int .i64 0, .int .i64 0, .slice none 0 0, .int .i64 0]
  rw [World.size_alloc] at h1
  have HB := Lib.hid h0
  have HZ := Lib.hid h1
  have Hb := Lib.hid ((below_alloc w (.cells #[.int .i64 fi, .int .i64 ma, .slice a S.length cap, .int .i64 sy] 29)).alloc (by simp) (.cells #[.int .i64 0, .int .i64 0, .slice none 0 0, .int .i64 0] 29))
  have HS := Lib.hid hS
  have HA := Lib.hid hall
  have HV := Lib.hid (fun W (hb : Below w.heap.size w W) => hv.next hb)
  have HCk := Lib.hid (fun W (hb : Below w.heap.size w W) => rchk_any ⟨fi, ma, S, sy⟩ _ W ⟨_, rfl, hv.next hb⟩ hS hall)
  unfold lgAgg at HCk
  clear hS hv hvs hel h0 h1 hall
  obtain ⟨c0, c1, c2, c3, _, _, _, _⟩ := dkCells HB.out
  have HVB := Lib.hid hvb
  have Hn := Lib.hid hn
  clear hvb hn
  cases hg : lgB ⟨fi, ma, S, sy⟩
  · have hE : lgE ⟨fi, ma, S, sy⟩ = 1 := by simp [lgE, hg]
    rw [hE] at HCk
    have Hr := Lib.hid (apE_1 (n := n) hg)
    have Hl := Lib.hid (apL_bad (b := b) (by rw [Hn.out, Hr.out]; decide))
    clear hE hg
    go_enter Try.func17, Try.ntmps17
    go_wp2_with fail
    refine (HCk.out _ Hb.out).mono ?_
    rintro e w1 ⟨rfl, hb1⟩
    clear c0 c1 c2 c3
    have HB1 := Lib.hid (HB.out.below hb1 HB.out.lt)
    have HZ1 := Lib.hid (HZ.out.below hb1 HZ.out.lt)
    have Hb1 := Lib.hid (Hb.out.trans (hb1.mono Hb.out.size))
    obtain ⟨c0, c1, c2, c3, f0, f1, f2, f3⟩ := dkCells HB1.out
    obtain ⟨z0, z1, z2, z3, y0, y1, y2, y3⟩ := dkCells HZ1.out
    clear hb1
    go_wp2_with fail
    exact bodyPost_ret (v := .tuple #[.agg #[.int .i64 0, .int .i64 0, .slice none 0 0, .int .i64 0], .int .i64 1]) (by simp [results, Try.results17, go_sem, *]) rfl
      ⟨_, by rw [Hr.out], by rw [Hl.out]; exact lgV_zero _, by (repeat (refine Below.setCell ?_ (by first | exact Nat.le_refl _ | (simp; done) | (simp; omega)) _)); exact Hb1.out⟩
  · have hE : lgE ⟨fi, ma, S, sy⟩ = 0 := by simp [lgE, hg]
    rw [hE] at HCk
    obtain ⟨h0, h1, _, h2, _, _, h3, h4⟩ := lgB_ok hg
    simp only [] at h0 h1 h2 h3 h4
    have hwu : IntKind.i64.wrap ((used S : Nat) : Int) = ((used S : Nat) : Int) := by rw [IntKind.wrap_i64]; omega
    have HU := Lib.hid (fun W (hb : Below w.heap.size w W) => calls_flip (rused_any S _ W (HV.out W hb) HS.out HA.out))
    rw [hwu] at HU
    have HL4 := Lib.hid (show S.length ≤ 4096 by have := len_used S; omega)
    have s1 : IntKind.i64.wrap (ma - (used S : Int)) = ma - (used S : Int) := by rw [IntKind.wrap_i64]; omega
    by_cases h5 : 65536 < n
    · have Hr := Lib.hid (apE_2 (n := n) hg (.inl h5))
      have Hl := Lib.hid (apL_bad (b := b) (by rw [Hn.out, Hr.out]; decide))
      have f5 : (65536 : Int) < (n : Int) := by omega
      clear hE hg h3 h5 hwu
      go_enter Try.func17, Try.ntmps17
      go_wp2_with fail
      refine (HCk.out _ Hb.out).mono ?_
      rintro e w1 ⟨rfl, hb1⟩
      clear c0 c1 c2 c3
      have HB1 := Lib.hid (HB.out.below hb1 HB.out.lt)
      have HZ1 := Lib.hid (HZ.out.below hb1 HZ.out.lt)
      have Hb1 := Lib.hid (Hb.out.trans (hb1.mono Hb.out.size))
      obtain ⟨c0, c1, c2, c3, f0, f1, f2, f3⟩ := dkCells HB1.out
      obtain ⟨z0, z1, z2, z3, y0, y1, y2, y3⟩ := dkCells HZ1.out
      clear hb1
      go_wp2_with fail
      go_quiet (fail)
      go_wp2_with fail
      exact bodyPost_ret (v := .tuple #[.agg #[.int .i64 0, .int .i64 0, .slice none 0 0, .int .i64 0], .int .i64 2]) (by simp [results, Try.results17, go_sem, *]) rfl
        ⟨_, by rw [Hr.out], by rw [Hl.out]; exact lgV_zero _, by (repeat (refine Below.setCell ?_ (by first | exact Nat.le_refl _ | (simp; done) | (simp; omega)) _)); exact (blw_drewN Hb1.out _)⟩
    · have HO := Lib.hid (fun W => calls_flip (sectors_any n (by omega) W))
      have f5 : ¬ (65536 : Int) < (n : Int) := by omega
      by_cases h6 : ma - (used S : Int) < (occ n : Int)
      · have Hr := Lib.hid (apE_2 (n := n) hg (.inr h6))
        have Hl := Lib.hid (apL_bad (b := b) (by rw [Hn.out, Hr.out]; decide))
        clear hE hg h3 h5 hwu
        go_enter Try.func17, Try.ntmps17
        go_wp2_with fail
        refine (HCk.out _ Hb.out).mono ?_
        rintro e w1 ⟨rfl, hb1⟩
        clear c0 c1 c2 c3
        have HB1 := Lib.hid (HB.out.below hb1 HB.out.lt)
        have HZ1 := Lib.hid (HZ.out.below hb1 HZ.out.lt)
        have Hb1 := Lib.hid (Hb.out.trans (hb1.mono Hb.out.size))
        obtain ⟨c0, c1, c2, c3, f0, f1, f2, f3⟩ := dkCells HB1.out
        obtain ⟨z0, z1, z2, z3, y0, y1, y2, y3⟩ := dkCells HZ1.out
        clear hb1
        have HU1 := Lib.hid (fun n => HU.out _ (blw_drewN Hb1.out n))
        have HO1 := Lib.hid (fun n => HO.out (w1.drewN n))
        go_wp2_with fail
        go_quiet ((first | (go_at_call 36; with_reducible exact Calls.quiet_of_same (HO1.out _)) | (go_at_call 37; with_reducible exact Calls.quiet_of_same (HU1.out _))))
        go_wp2_with fail
        exact bodyPost_ret (v := .tuple #[.agg #[.int .i64 0, .int .i64 0, .slice none 0 0, .int .i64 0], .int .i64 2]) (by simp [results, Try.results17, go_sem, *]) rfl
          ⟨_, by rw [Hr.out], by rw [Hl.out]; exact lgV_zero _, by (repeat (refine Below.setCell ?_ (by first | exact Nat.le_refl _ | (simp; done) | (simp; omega)) _)); exact (blw_drewN Hb1.out _)⟩
      · have Hr := Lib.hid (apE_0 (n := n) hg (show ¬ (65536 < n ∨ ma - (used S : Int) < (occ n : Int)) by omega))
        have Hl := Lib.hid (show apL ⟨fi, ma, S, sy⟩ b = ⟨fi, ma, S ++ [b], sy⟩ by rw [apL, if_pos (by rw [Hn.out, Hr.out])])
        obtain ⟨i0, hi, hz0, hz1, hz2⟩ := info_parts infoSl
        clear hE hg h3 h5 hwu
        go_enter Try.func17, Try.ntmps17
        go_wp2_with fail
        refine (HCk.out _ Hb.out).mono ?_
        rintro e w1 ⟨rfl, hb1⟩
        clear c0 c1 c2 c3
        have HB1 := Lib.hid (HB.out.below hb1 HB.out.lt)
        have HZ1 := Lib.hid (HZ.out.below hb1 HZ.out.lt)
        have Hb1 := Lib.hid (Hb.out.trans (hb1.mono Hb.out.size))
        obtain ⟨c0, c1, c2, c3, f0, f1, f2, f3⟩ := dkCells HB1.out
        obtain ⟨z0, z1, z2, z3, y0, y1, y2, y3⟩ := dkCells HZ1.out
        clear hb1
        have HU1 := Lib.hid (fun n => HU.out _ (blw_drewN Hb1.out n))
        have HO1 := Lib.hid (fun n => HO.out (w1.drewN n))
        go_wp2_with fail
        go_quiet ((first | (go_at_call 36; with_reducible exact Calls.quiet_of_same (HO1.out _)) | (go_at_call 37; with_reducible exact Calls.quiet_of_same (HU1.out _))))
        clear HU1 HO1
        have HB2 := Lib.hid (HB1.out.drewN nq)
        have HZ2 := Lib.hid (HZ1.out.drewN nq)
        have Hb2 := Lib.hid (blw_drewN Hb1.out nq)
        obtain ⟨w2, hw2⟩ : ∃ w2, w1.drewN nq = w2 := ⟨_, rfl⟩
        rw [hw2] at HB2 HZ2 Hb2 ⊢
        clear hw2 c0 c1 c2 c3 f0 f1 f2 f3 z0 z1 z2 z3 y0 y1 y2 y3
        obtain ⟨c0, c1, c2, c3, f0, f1, f2, f3⟩ := dkCells HB2.out
        have hlt : w.heap.size < w2.heap.size := HB2.out.lt
        have hne : ¬ w.heap.size = w2.heap.size := by omega
        have hlz : w.heap.size + 1 < w2.heap.size := HZ2.out.lt
        have hL4 := HL4.out
        go_wp2_with (at_builtin; refine wpList_append_sl _ rfl (.tmp 29) (.tmp 31) 22 rfl w2.heap.size 25 i0 _ 24 Try.underlying22 hi hz0 hz1 hz2 rfl (.slice (some ⟨w2.heap.size, 0, none⟩) 0 0) 0 [] rfl (own_empty w2 25 1) (.slice a S.length cap) S.length vs rfl (HVs.out.next (Hb2.out.alloc Hb2.out.size _)) (secs_one (by simpa using HVs.out.1) HE.out) (by unfold maxLen; omega) (by omega) (by simp) ?_)
        intro v5 w5 hown5a hg5
        have hb5 : Below w2.heap.size w2 w5 := ((Below.refl w2.heap.size w2).alloc (Nat.le_refl _) _).grown hg5 (by simp) (fun k hk => by simp [Value.ownBlock] at hk; omega)
        have hown5 : w5.ownsRow w2.heap.size 25 1 v5 S.length vs := (by simpa using hown5a)
        clear hown5a hg5 c0 c1 c2 c3 f0 f1 f2 f3 hne
        go_wp2_with (at_builtin; refine wpList_append_sl _ rfl (.tmp 32) (.tmp 34) 22 rfl w2.heap.size 25 i0 _ 24 Try.underlying22 hi hz0 hz1 hz2 rfl v5 S.length vs rfl (hown5.alloc _) (.slice (some ⟨w5.heap.size, 0, none⟩) 1 1) 1 [.slice ab n cb] rfl ((Blk.new w5 25 #[.slice ab n cb]).sl rfl rfl) (by intro u hu; simp at hu; subst hu; rfl) (by unfold maxLen; omega) (by omega) (by have := hb5.size; simp; omega) ?_)
        intro v7 w7 hown7 hg7
        have hb7 : Below w2.heap.size w2 w7 := (hb5.alloc hb5.size _).grown hg7 (by have := hb5.size; simp; omega) (fun k hk => (hown5.lt k hk).1)
        have hB7 := HB2.out.below hb7 hlt
        have hZ7 := HZ2.out.below hb7 hlz
        have Hb7 := Lib.hid (Hb2.out.trans (hb7.mono Hb2.out.size))
        obtain ⟨g, cap', rfl, hgb, hglt⟩ := hown7.form (by omega)
        have Hsec := Lib.hid (fun W (hU : Upd (fun k => k = w.heap.size ∨ k = w.heap.size + 1) w7 W) (hbW : Below w.heap.size w W) => show Secs W (.slice (some ⟨g, 0, none⟩) (S.length + 1) cap') (S ++ [b]) from
          sl_vals (by simpa using HVs.out.1) rfl (hU.own hown7 (fun k hk => by
            have : g = k := by simpa [Value.ownBlock] using hk
            omega)) (fun i s hs => by
              obtain ⟨y, hy, hsy⟩ := HE.out i s hs
              exact ⟨y, hy, hsy.next hbW⟩) (by rw [Hn.out]; exact HVB.out.next hbW))
        clear hb5 hown5 hb7 hown7 hg7 hgb hglt
        obtain ⟨c0, c1, c2, c3, f0, f1, f2, f3⟩ := dkCells hB7
        obtain ⟨z0, z1, z2, z3, y0, y1, y2, y3⟩ := dkCells hZ7
        clear hB7 hZ7
        go_wp2_with fail
        have hU := (((((Upd.refl (fun k => k = w.heap.size ∨ k = w.heap.size + 1) w7).setCell (p := ⟨w.heap.size, 2, none⟩) (.inl (.inl rfl)) (.slice (some ⟨g, 0, none⟩) (S.length + 1) cap')).setCell (p := ⟨w.heap.size + 1, 0, none⟩) (.inl (.inr rfl)) (.int .i64 fi)).setCell (p := ⟨w.heap.size + 1, 1, none⟩) (.inl (.inr rfl)) (.int .i64 ma)).setCell (p := ⟨w.heap.size + 1, 2, none⟩) (.inl (.inr rfl)) (.slice (some ⟨g, 0, none⟩) (S.length + 1) cap')).setCell (p := ⟨w.heap.size + 1, 3, none⟩) (.inl (.inr rfl)) (.int .i64 sy)
        have hbF := ((((Hb7.out.setCell (p := ⟨w.heap.size, 2, none⟩) (Nat.le_refl _) (.slice (some ⟨g, 0, none⟩) (S.length + 1) cap')).setCell (p := ⟨w.heap.size + 1, 0, none⟩) (Nat.le_succ _) (.int .i64 fi)).setCell (p := ⟨w.heap.size + 1, 1, none⟩) (Nat.le_succ _) (.int .i64 ma)).setCell (p := ⟨w.heap.size + 1, 2, none⟩) (Nat.le_succ _) (.slice (some ⟨g, 0, none⟩) (S.length + 1) cap')).setCell (p := ⟨w.heap.size + 1, 3, none⟩) (Nat.le_succ _) (.int .i64 sy)
        have hF := Hsec.out _ hU hbF
        clear hU
        exact bodyPost_ret (v := .tuple #[.agg #[.int .i64 fi, .int .i64 ma, .slice (some ⟨g, 0, none⟩) (S.length + 1) cap', .int .i64 sy], .int .i64 0]) (by simp [results, Try.results17, go_sem, *]) rfl
          ⟨_, by rw [Hr.out], by rw [Hl.out]; exact ⟨_, rfl, hF⟩, hbF⟩
end Go.Proofs.Ytbinibpkbkhdlaa
