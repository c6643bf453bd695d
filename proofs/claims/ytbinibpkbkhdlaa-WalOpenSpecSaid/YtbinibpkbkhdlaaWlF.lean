/- Wal: Append. -/
import Derived.Test.YtbinibpkbkhdlaaWlE
import Derived.Test.YtbinibpkbkhdlaaWkE
import Derived.ArgAppend
namespace Go.Proofs.Ytbinibpkbkhdlaa
open Go.RowKit

theorem Blk.drewN {w : World} {g : Nat} {t : TypeId} {cs : Array Value} (h : Blk w g t cs) (n : Nat) : Blk (w.drewN n) g t cs := h
theorem len_used : ∀ S : List (List UInt8), S.length ≤ used S
  | [] => by simp [used]
  | s :: S => by
    have h1 := len_used S
    have h2 := occ_pos s.length
    simp only [used, List.map_cons, List.sum_cons, List.length_cons] at h1 ⊢
    omega
theorem clip_any (a : Option Addr) (n cap : Nat) (hc : n ≤ cap) (w : World) :
    Calls Try.prog 35 #[.slice a n cap] w fun e w' => e = .returned (.slice a n n) ∧ w = w' := by
  have i1 : (0 : Int) ≤ (n : Int) := by omega
  have i2 : (n : Int) ≤ (cap : Int) := by omega
  go_enter Try.func35, Try.ntmps35
  go_wp2_with fail
  go_ret
  exact ⟨rfl, rfl⟩
def apE (L : Lg) (n : Nat) : Int := if lgB L = false then 1 else if 65536 < n ∨ L.many - (used L.recs : Int) < (occ n : Int) then 2 else 0
def apL (L : Lg) (b : List UInt8) : Lg := if apE L b.length = 0 then ⟨L.first, L.many, L.recs ++ [b], L.synced⟩ else Lg.zero
def RetLE (L : Lg) (c : Int) (w : World) (e : Ending) (w' : World) : Prop := ∃ d, e = .returned (.tuple #[d, .int .i64 c]) ∧ LgV w' d L ∧ Below w.heap.size w w'
theorem apE_1 {L : Lg} {n : Nat} (h : lgB L = false) : apE L n = 1 := if_pos h
theorem apE_2 {L : Lg} {n : Nat} (h : lgB L = true) (h2 : 65536 < n ∨ L.many - (used L.recs : Int) < (occ n : Int)) : apE L n = 2 := by rw [apE, if_neg (by simp [h]), if_pos h2]
theorem apE_0 {L : Lg} {n : Nat} (h : lgB L = true) (h2 : ¬ (65536 < n ∨ L.many - (used L.recs : Int) < (occ n : Int))) : apE L n = 0 := by rw [apE, if_neg (by simp [h]), if_neg h2]
theorem apL_bad {L : Lg} {b : List UInt8} (h : apE L b.length ≠ 0) : apL L b = Lg.zero := if_neg h
theorem sl_vals {w : World} {B : Nat} {e : TypeId} {v : Value} {S : List (List UInt8)} {vs : List Value} {x : Value} {b : List UInt8} {n : Nat} (hl : vs.length = S.length) (hn : n = S.length + 1) (hown : w.ownsRow B e 1 v n (vs ++ [x]))
    (hel : ∀ (i : Nat) (s : List UInt8), S[i]? = some s → ∃ y, vs[i]? = some y ∧ Sl w 1 y s.length (bc s)) (hx : Sl w 1 x b.length (bc b)) : Secs w v (S ++ [b]) := by
  subst hn
  refine ⟨vs ++ [x], by simpa using Sl.of_own hown, fun i s hs => ?_⟩
  rw [List.getElem?_append] at hs ⊢
  split at hs
  · rename_i h
    rw [if_pos (by omega)]
    exact hel i s hs
  · rename_i h
    rw [if_neg (by omega)]
    have h0 : i - S.length = 0 := by
      rcases Nat.eq_zero_or_pos (i - S.length) with h0 | h0
      · exact h0
      · rw [List.getElem?_eq_none (by simp; omega)] at hs; cases hs
    rw [h0] at hs
    cases hs
    exact ⟨x, by rw [hl, h0]; rfl, hx⟩
theorem sl_grow {w : World} {a : Option Addr} {n cap : Nat} {vs : List Value} (h : Sl w 1 (.slice a n cap) n vs) : (a = none → n = 0 ∧ n = 0) ∧ ∀ b, a = some b → ∀ (j : Nat) (u : Value), vs[j]? = some u → w.cell? (b.add j) = some u := by
  obtain ⟨hl, _, _, he, _, hr⟩ := h
  cases he
  refine ⟨fun h => ?_, fun b hb j u hu => ?_⟩
  · rcases hr with h0 | ⟨g, off, h1, _⟩
    · exact ⟨h0, h0⟩
    · rw [h] at h1; cases h1
  · rcases hr with h0 | ⟨g, off, h1, h2⟩
    · have : vs = [] := List.eq_nil_of_length_eq_zero (by omega)
      subst this; simp at hu
    · rw [hb] at h1; cases h1
      have hadd : (⟨g, off, none⟩ : Addr).add j = ⟨g, off + j, none⟩ := by unfold Addr.add; split <;> simp_all
      rw [hadd]; exact h2 j u hu
set_option maxRecDepth 100000 in
set_option maxHeartbeats 2000000 in
theorem append_any (L : Lg) (d : Value) (b : List UInt8) (n : Nat) (hn : b.length = n) (ab : Option Addr) (cb : Nat) (w : World) (hd : LgV w d L) (hS : L.recs.length ≤ 140737488351232) (hvb : Sl w 1 (.slice ab n cb) n (bc b)) :
    Calls Try.prog 16 #[d, .slice ab n cb] w fun e w' => RetLE (apL L b) (apE L n) w e w' := by
  obtain ⟨v, rfl, hv⟩ := hd
  obtain ⟨fi, ma, S, sy⟩ := L
  simp only [lgAgg] at hv hS ⊢
  obtain ⟨a, cap, rfl⟩ := hv.len
  obtain ⟨vs, hvs, hel⟩ := hv
  have hv : Secs w (.slice a S.length cap) S := ⟨vs, hvs, hel⟩
  have HE := Lib.hid hel
  have HVs := Lib.hid hvs
  have h0 := Blk.new w 29 #[.int .i64 fi, .int .i64 ma, .slice a S.length cap, .int .i64 sy]
  have h0 := h0.alloc (.cells #[.int .i64 0, .int .i64 0, .slice none 0 0, .int .i64 0] 29)
  have h1 := Blk.new (w.alloc (.cells #[.int .i64 fi, .int .i64 ma, .slice a S.length cap, .int .i64 sy] 29)) 29 #[.int .i64 0, .int .i64 0, .slice none 0 0, .int .i64 0]
  rw [World.size_alloc] at h1
  have HB := Lib.hid h0
  have HZ := Lib.hid h1
  have Hb := Lib.hid ((below_alloc w (.cells #[.int .i64 fi, .int .i64 ma, .slice a S.length cap, .int .i64 sy] 29)).alloc (by simp) (.cells #[.int .i64 0, .int .i64 0, .slice none 0 0, .int .i64 0] 29))
  have HS := Lib.hid hS
  have HV := Lib.hid (fun W (hb : Below w.heap.size w W) => hv.next hb)
  have HCk := Lib.hid (fun W (hb : Below w.heap.size w W) => wcheck_any ⟨fi, ma, S, sy⟩ _ W ⟨_, rfl, hv.next hb⟩ hS)
  unfold lgAgg at HCk
  clear hS hv hvs hel h0 h1
  obtain ⟨c0, c1, c2, c3, _, _, _, _⟩ := dkCells HB.out
  have HVB := Lib.hid hvb
  have Hn := Lib.hid hn
  clear hvb hn
  cases hg : lgB ⟨fi, ma, S, sy⟩
  · have hE : lgE ⟨fi, ma, S, sy⟩ = 1 := by simp [lgE, hg]
    rw [hE] at HCk
    have Hr := Lib.hid (apE_1 (n := n) hg)
    have Hl := Lib.hid (apL_bad (b := b) (by rw [Hn.out, Hr.out]; decide))
    clear hE hg
    go_enter Try.func16, Try.ntmps16
    go_wp2_with fail
    refine (HCk.out _ Hb.out).mono ?_
    rintro e w1 ⟨rfl, hb1⟩
    clear c0 c1 c2 c3
    have HB1 := Lib.hid (HB.out.below hb1 HB.out.lt)
    have HZ1 := Lib.hid (HZ.out.below hb1 HZ.out.lt)
    have Hb1 := Lib.hid (Hb.out.trans (hb1.mono Hb.out.size))
    obtain ⟨c0, c1, c2, c3, f0, f1, f2, f3⟩ := dkCells HB1.out
    obtain ⟨z0, z1, z2, z3, y0, y1, y2, y3⟩ := dkCells HZ1.out
    clear hb1
    go_wp2_with fail
    exact bodyPost_ret (v := .tuple #[.agg #[.int .i64 0, .int .i64 0, .slice none 0 0, .int .i64 0], .int .i64 1]) (by simp [results, Try.results16, go_sem, *]) rfl
      ⟨_, by rw [Hr.out], by rw [Hl.out]; exact lgV_zero _, by (repeat (refine Below.setCell ?_ (by first | exact Nat.le_refl _ | (simp; done) | (simp; omega)) _)); exact Hb1.out⟩
  · have hE : lgE ⟨fi, ma, S, sy⟩ = 0 := by simp [lgE, hg]
    rw [hE] at HCk
    obtain ⟨h0, h1, _, h2, _, _, h3, h4⟩ := lgB_ok hg
    simp only [] at h0 h1 h2 h3 h4
    have HU := Lib.hid (fun W (hb : Below w.heap.size w W) => calls_flip (occAll_any S _ W (HV.out W hb) HS.out (long_le h3)))
    have s1 : IntKind.i64.wrap (ma - (used S : Int)) = ma - (used S : Int) := by rw [IntKind.wrap_i64]; omega
    by_cases h5 : 65536 < n
    · have Hr := Lib.hid (apE_2 (n := n) hg (.inl h5))
      have Hl := Lib.hid (apL_bad (b := b) (by rw [Hn.out, Hr.out]; decide))
      have f5 : (65536 : Int) < (n : Int) := by omega
      clear hE hg h3 h5
      go_enter Try.func16, Try.ntmps16
      go_wp2_with fail
      refine (HCk.out _ Hb.out).mono ?_
      rintro e w1 ⟨rfl, hb1⟩
      clear c0 c1 c2 c3
      have HB1 := Lib.hid (HB.out.below hb1 HB.out.lt)
      have HZ1 := Lib.hid (HZ.out.below hb1 HZ.out.lt)
      have Hb1 := Lib.hid (Hb.out.trans (hb1.mono Hb.out.size))
      obtain ⟨c0, c1, c2, c3, f0, f1, f2, f3⟩ := dkCells HB1.out
      obtain ⟨z0, z1, z2, z3, y0, y1, y2, y3⟩ := dkCells HZ1.out
      clear hb1
      go_wp2_with fail
      go_quiet (fail)
      go_wp2_with fail
      exact bodyPost_ret (v := .tuple #[.agg #[.int .i64 0, .int .i64 0, .slice none 0 0, .int .i64 0], .int .i64 2]) (by simp [results, Try.results16, go_sem, *]) rfl
        ⟨_, by rw [Hr.out], by rw [Hl.out]; exact lgV_zero _, by (repeat (refine Below.setCell ?_ (by first | exact Nat.le_refl _ | (simp; done) | (simp; omega)) _)); exact (blw_drewN Hb1.out _)⟩
    · have HO := Lib.hid (fun W => calls_flip (occupied_any ab n cb (by omega) W))
      have f5 : ¬ (65536 : Int) < (n : Int) := by omega
      by_cases h6 : ma - (used S : Int) < (occ n : Int)
      · have Hr := Lib.hid (apE_2 (n := n) hg (.inr h6))
        have Hl := Lib.hid (apL_bad (b := b) (by rw [Hn.out, Hr.out]; decide))
        clear hE hg h3 h5
        go_enter Try.func16, Try.ntmps16
        go_wp2_with fail
        refine (HCk.out _ Hb.out).mono ?_
        rintro e w1 ⟨rfl, hb1⟩
        clear c0 c1 c2 c3
        have HB1 := Lib.hid (HB.out.below hb1 HB.out.lt)
        have HZ1 := Lib.hid (HZ.out.below hb1 HZ.out.lt)
        have Hb1 := Lib.hid (Hb.out.trans (hb1.mono Hb.out.size))
        obtain ⟨c0, c1, c2, c3, f0, f1, f2, f3⟩ := dkCells HB1.out
        obtain ⟨z0, z1, z2, z3, y0, y1, y2, y3⟩ := dkCells HZ1.out
        clear hb1
        have HU1 := Lib.hid (fun n => HU.out _ (blw_drewN Hb1.out n))
        have HO1 := Lib.hid (fun n => HO.out (w1.drewN n))
        go_wp2_with fail
        go_quiet ((first | (go_at_call 33; with_reducible exact Calls.quiet_of_same (HO1.out _)) | (go_at_call 34; with_reducible exact Calls.quiet_of_same (HU1.out _))))
        go_wp2_with fail
        exact bodyPost_ret (v := .tuple #[.agg #[.int .i64 0, .int .i64 0, .slice none 0 0, .int .i64 0], .int .i64 2]) (by simp [results, Try.results16, go_sem, *]) rfl
          ⟨_, by rw [Hr.out], by rw [Hl.out]; exact lgV_zero _, by (repeat (refine Below.setCell ?_ (by first | exact Nat.le_refl _ | (simp; done) | (simp; omega)) _)); exact (blw_drewN Hb1.out _)⟩
      · have Hr := Lib.hid (apE_0 (n := n) hg (show ¬ (65536 < n ∨ ma - (used S : Int) < (occ n : Int)) by omega))
        have Hl := Lib.hid (show apL ⟨fi, ma, S, sy⟩ b = ⟨fi, ma, S ++ [b], sy⟩ by rw [apL, if_pos (by rw [Hn.out, Hr.out])])
        obtain ⟨i0, hi, hz0, hz1, hz2⟩ := info_parts infoSl
        have HL4 := Lib.hid (show S.length ≤ 4096 by have := len_used S; omega)
        have hnc : S.length ≤ cap := by
          obtain ⟨_, _, _, he, hnc, _⟩ := HVs.out
          cases he; exact hnc
        have HCl := Lib.hid (fun W => clip_any a S.length cap hnc W)
        clear hE hg h3 h5 hnc
        go_enter Try.func16, Try.ntmps16
        go_wp2_with fail
        refine (HCk.out _ Hb.out).mono ?_
        rintro e w1 ⟨rfl, hb1⟩
        clear c0 c1 c2 c3
        have HB1 := Lib.hid (HB.out.below hb1 HB.out.lt)
        have HZ1 := Lib.hid (HZ.out.below hb1 HZ.out.lt)
        have Hb1 := Lib.hid (Hb.out.trans (hb1.mono Hb.out.size))
        obtain ⟨c0, c1, c2, c3, f0, f1, f2, f3⟩ := dkCells HB1.out
        obtain ⟨z0, z1, z2, z3, y0, y1, y2, y3⟩ := dkCells HZ1.out
        clear hb1
        have HU1 := Lib.hid (fun n => HU.out _ (blw_drewN Hb1.out n))
        have HO1 := Lib.hid (fun n => HO.out (w1.drewN n))
        go_wp2_with fail
        go_quiet ((first | (go_at_call 33; with_reducible exact Calls.quiet_of_same (HO1.out _)) | (go_at_call 34; with_reducible exact Calls.quiet_of_same (HU1.out _))))
        clear HU1 HO1
        have HB2 := Lib.hid (HB1.out.drewN nq)
        have HZ2 := Lib.hid (HZ1.out.drewN nq)
        have Hb2 := Lib.hid (blw_drewN Hb1.out nq)
        obtain ⟨w2, hw2⟩ : ∃ w2, w1.drewN nq = w2 := ⟨_, rfl⟩
        rw [hw2] at HB2 HZ2 Hb2 ⊢
        clear hw2 c0 c1 c2 c3 f0 f1 f2 f3 z0 z1 z2 z3 y0 y1 y2 y3
        obtain ⟨c0, c1, c2, c3, f0, f1, f2, f3⟩ := dkCells HB2.out
        obtain ⟨z0, z1, z2, z3, y0, y1, y2, y3⟩ := dkCells HZ2.out
        go_wp2_with fail
        refine (HCl.out _).mono ?_
        rintro e w' ⟨rfl, rfl⟩
        have hb3 := Hb2.out.alloc Hb2.out.size (.cells #[.slice ab n cb] 25)
        have hB3 := HB2.out.alloc (.cells #[.slice ab n cb] 25)
        have hZ3 := HZ2.out.alloc (.cells #[.slice ab n cb] 25)
        have hN3 := Blk.new w2 25 #[.slice ab n cb]
        have hlt3 : w.heap.size + 1 < w2.heap.size := HZ2.out.lt
        have hlt4 : w2.heap.size < (w2.alloc (.cells #[.slice ab n cb] 25)).heap.size := hN3.lt
        obtain ⟨w3, hw3⟩ : ∃ w3, w2.alloc (.cells #[.slice ab n cb] 25) = w3 := ⟨_, rfl⟩
        rw [hw3] at hb3 hB3 hZ3 hN3 hlt4
        have HW3 := Lib.hid hw3
        have hv3 := HVs.out.next hb3
        have hcl : ∀ j u, [Value.slice ab n cb][j]? = some u → w3.cell? ((⟨w2.heap.size, 0, none⟩ : Addr).add j) = some u := World.news_of_block hN3
        have hg := sl_grow hv3
        clear hw3
        go_wp2_with (first
          | (at_builtin; rw [HW3.out]; refine wpList_append_grows _ rfl (.tmp 30) (.tmp 32) 22 rfl 25 i0 _ 1 24 Try.underlying22 hi hz0 hz1 hz2 rfl (by decide) a S.length S.length vs rfl hg.1 hv3.1 hg.2 ⟨w2.heap.size, 0, none⟩ 1 1 [.slice ab n cb] rfl rfl hcl (by simp [Value.oneCell']) (by omega) (by unfold maxLen; have := HL4.out; omega) (by have := HL4.out; omega) ?_))
        intro v' w4 hown hgr
        obtain ⟨g, cap', rfl, hgb, hglt⟩ := hown.form (by omega)
        have hb4 : Below w.heap.size w w4 := hb3.grown hgr hb3.size (fun k hk => by cases hk)
        have hb34 : Below w3.heap.size w3 w4 := (Below.refl _ _).grown hgr (Nat.le_refl _) (fun k hk => by cases hk)
        have hB4 := hB3.below hb34 (by omega)
        have hZ4 := hZ3.below hb34 (by omega)
        have Hsec := Lib.hid (fun W (hU : Upd (fun k => k = w.heap.size ∨ k = w.heap.size + 1) w4 W) (hbW : Below w.heap.size w W) => show Secs W (.slice (some ⟨g, 0, none⟩) (S.length + 1) cap') (S ++ [b]) from
          sl_vals (by simpa using HVs.out.1) rfl (hU.own hown (fun k hk => by
            have : g = k := by simpa [Value.ownBlock] using hk
            omega)) (fun i s hs => by
              obtain ⟨y, hy, hsy⟩ := HE.out i s hs
              exact ⟨y, hy, hsy.next hbW⟩) (by rw [Hn.out]; exact HVB.out.next hbW))
        have Hb4 := Lib.hid hb4
        clear hb3 hB3 hZ3 hN3 hlt3 hlt4 hv3 hcl hg hgr hown hb34 hgb hglt hb4 c0 c1 c2 c3 f0 f1 f2 f3 z0 z1 z2 z3 y0 y1 y2 y3
        obtain ⟨c0, c1, c2, c3, f0, f1, f2, f3⟩ := dkCells hB4
        obtain ⟨z0, z1, z2, z3, y0, y1, y2, y3⟩ := dkCells hZ4
        clear hB4 hZ4
        go_wp2_with fail
        have hU := (((((Upd.refl (fun k => k = w.heap.size ∨ k = w.heap.size + 1) w4).setCell (p := ⟨w.heap.size, 2, none⟩) (.inl (.inl rfl)) (.slice (some ⟨g, 0, none⟩) (S.length + 1) cap')).setCell (p := ⟨w.heap.size + 1, 0, none⟩) (.inl (.inr rfl)) (.int .i64 fi)).setCell (p := ⟨w.heap.size + 1, 1, none⟩) (.inl (.inr rfl)) (.int .i64 ma)).setCell (p := ⟨w.heap.size + 1, 2, none⟩) (.inl (.inr rfl)) (.slice (some ⟨g, 0, none⟩) (S.length + 1) cap')).setCell (p := ⟨w.heap.size + 1, 3, none⟩) (.inl (.inr rfl)) (.int .i64 sy)
        have hbF := ((((Hb4.out.setCell (p := ⟨w.heap.size, 2, none⟩) (Nat.le_refl _) (.slice (some ⟨g, 0, none⟩) (S.length + 1) cap')).setCell (p := ⟨w.heap.size + 1, 0, none⟩) (Nat.le_succ _) (.int .i64 fi)).setCell (p := ⟨w.heap.size + 1, 1, none⟩) (Nat.le_succ _) (.int .i64 ma)).setCell (p := ⟨w.heap.size + 1, 2, none⟩) (Nat.le_succ _) (.slice (some ⟨g, 0, none⟩) (S.length + 1) cap')).setCell (p := ⟨w.heap.size + 1, 3, none⟩) (Nat.le_succ _) (.int .i64 sy)
        have hF := Hsec.out _ hU hbF
        clear hU
        exact bodyPost_ret (v := .tuple #[.agg #[.int .i64 fi, .int .i64 ma, .slice (some ⟨g, 0, none⟩) (S.length + 1) cap', .int .i64 sy], .int .i64 0]) (by simp [results, Try.results16, go_sem, *]) rfl
          ⟨_, by rw [Hr.out], by rw [Hl.out]; exact ⟨_, rfl, hF⟩, hbF⟩
end Go.Proofs.Ytbinibpkbkhdlaa
