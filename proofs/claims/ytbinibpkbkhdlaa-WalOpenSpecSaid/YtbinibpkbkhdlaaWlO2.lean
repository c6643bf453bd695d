/- Wal: Open, the walk. -/
import Derived.Test.YtbinibpkbkhdlaaWlO
import Derived.Shelf.Abstract
namespace Go.Proofs.Ytbinibpkbkhdlaa
open Go.RowKit Go.Shelf
attribute [local go_sem] Oper.semAt_some

theorem marks_ret {P : Program} {n : Nat} {fn : Func} {R : Ending → World → Prop} {a : Act} {w : World} {v : Value} (hr : (results fn a.tmps).run P w = .ok v w) (hd : a.defers = []) (hR : R (.returned v) w) : bodyPostM Fence.wide n P fn R .ret a w := by
  show LeavesInM Fence.wide n P fn a.tmps R a.defers .returning w
  rw [hd]
  exact ⟨v, hr, hR⟩
theorem records_any (a : Option Addr) (n cap : Nat) (w : World) : Calls Try.prog 30 #[.slice a n cap] w fun e w' => e = .returned (.func (.func 48) #[] #[.pointer (some ⟨w.heap.size, 0, none⟩)]) ∧ w' = w.alloc (.cells #[.slice a n cap] 22) := by
  go_enter Try.func30, Try.ntmps30
  go_wp2_with fail
  go_ret
  exact ⟨rfl, rfl⟩
set_option maxRecDepth 100000 in
set_option maxHeartbeats 2000000 in
theorem open_any (D : Dk) (d : Value) (f m : Int) (w : World) (hd : DkV w d D) :
    Calls Try.prog 11 #[d, .int .i64 f, .int .i64 m] w fun e w' => RetLE (opL D f m) (opE D f m) w e w' := by
  obtain ⟨v, rfl, hv⟩ := hd
  have HCk := Lib.hid (fun W (hb : Below w.heap.size w W) => check_any D _ W ⟨v, rfl, hv.next hb⟩)
  have hck := chk01 D
  have hok := chk_ok (D := D)
  have hE1 := opE_1 (D := D) (f := f) (m := m)
  have hE2 := opE_2 (D := D) (f := f) (m := m)
  have hE3 := opE_3 (D := D) (f := f) (m := m)
  have hLb := opL_bad (D := D) (f := f) (m := m)
  have hLg : opE D f m = 0 → opL D f m = ⟨f, m, recs (part D f.toNat m.toNat), ((recs (part D f.toNat m.toNat)).length : Int)⟩ := fun h => by rw [opL, if_pos h]
  obtain ⟨a, cap, rfl⟩ := hv.len
  obtain ⟨S, left, tear, stop⟩ := D
  simp only [] at hv hE2 hE3 hok hLg
  simp only [dkAgg] at HCk ⊢
  unfold part at hLg
  simp only [] at hLg
  have h0 := (Blk.new w 24 #[.slice a S.length cap, .int .i64 left, .int .i64 tear, .bool stop]).alloc (.cells #[.int .i64 0, .int .i64 0, .slice none 0 0, .int .i64 0] 29)
  have h1 := Blk.new (w.alloc (.cells #[.slice a S.length cap, .int .i64 left, .int .i64 tear, .bool stop] 24)) 29 #[.int .i64 0, .int .i64 0, .slice none 0 0, .int .i64 0]
  rw [World.size_alloc] at h1
  have HB := Lib.hid h0
  have HZ := Lib.hid h1
  have Hb := Lib.hid ((below_alloc w (.cells #[.slice a S.length cap, .int .i64 left, .int .i64 tear, .bool stop] 24)).alloc (by simp) (.cells #[.int .i64 0, .int .i64 0, .slice none 0 0, .int .i64 0] 29))
  obtain ⟨c0, c1, c2, c3, _, _, _, _⟩ := dkCells h0
  have HV := Lib.hid hv
  clear h0 h1 hv
  obtain ⟨ck, hck'⟩ : ∃ x, chk ⟨S, left, tear, stop⟩ = x := ⟨_, rfl⟩
  rw [hck'] at HCk hck hok hE1 hE2 hE3
  rcases hck with rfl | rfl
  · obtain ⟨k1, k2, k3, k4, k5, k6, k7⟩ := hok rfl
    have HF := Lib.hid (fun W => fits_any f m (S.length : Int) (by omega) W)
    have hlt := any_len k3
    cases hfit : fitsB f m (S.length : Int)
    · rw [hfit] at HF
      have Hr := Lib.hid (hE2 rfl hfit)
      have Hl := Lib.hid (hLb (by rw [Hr.out]; decide))
      clear hE1 hE2 hE3 hLb hLg hok hck' hfit k3 hlt k7
      refine callsIn_wide.1 (callsIn_of_wp_marks (n := 5) Try.func11 rfl trivial ?_ rfl)
      simp only [Try.ntmps11, List.size_toArray, List.length_cons, List.length_nil, Nat.reduceAdd, Nat.reduceSub, Array.replicate_succ, Array.replicate_zero, List.push_toArray, List.append_toArray, List.nil_append, List.cons_append]
      refine wpIn_wide.2 ?_
      go_wp2_with fail
      refine (HCk.out _ Hb.out).mono ?_
      rintro e w1 ⟨rfl, hb1⟩
      clear c0 c1 c2 c3
      have HB1 := Lib.hid (HB.out.below hb1 HB.out.lt)
      have HZ1 := Lib.hid (HZ.out.below hb1 HZ.out.lt)
      have Hb1 := Lib.hid (Hb.out.trans (hb1.mono Hb.out.size))
      obtain ⟨c0, c1, c2, c3, f0, f1, f2, f3⟩ := dkCells HB1.out
      obtain ⟨z0, z1, z2, z3, y0, y1, y2, y3⟩ := dkCells HZ1.out
      clear hb1
      go_wp2_with fail
      refine (HF.out _).mono ?_
      rintro e w2 ⟨rfl, rfl⟩
      go_wp2_with fail
      exact marks_ret (v := .tuple #[.agg #[.int .i64 0, .int .i64 0, .slice none 0 0, .int .i64 0], .int .i64 1]) (by simp [results, Try.results11, go_sem, *]) rfl
        ⟨_, by rw [Hr.out], by rw [Hl.out]; exact lgV_zero _, by (repeat (refine Below.setCell ?_ (by first | exact Nat.le_refl _ | (simp; done) | (simp; omega)) _)); exact Hb1.out⟩
    · rw [hfit] at HF
      cases stop
      · have Hr := Lib.hid ((hE3 rfl hfit).trans (if_neg (by decide)))
        have Hl := Lib.hid (hLg Hr.out)
        have hfit' : 0 ≤ f ∧ 1 ≤ m ∧ f < S.length ∧ m ≤ S.length - f := by simpa [fitsB, and_assoc] using hfit
        obtain ⟨fn, rfl⟩ : ∃ fn : Nat, f = (fn : Int) := ⟨f.toNat, by omega⟩
        obtain ⟨mn, rfl⟩ : ∃ mn : Nat, m = (mn : Int) := ⟨m.toNat, by omega⟩
        have i1 : fn + mn ≤ S.length := by omega
        obtain ⟨g, off, rfl, hScap, _⟩ := HV.out.at_ (by omega)
        obtain ⟨q, hq⟩ : ∃ q, fn + mn = q := ⟨_, rfl⟩
        have s1 : IntKind.i64.wrap ((fn : Int) + (mn : Int)) = (q : Int) := by rw [IntKind.wrap_i64]; omega
        have i2 : (q : Int) ≤ (cap : Int) := by omega
        have i3 : fn ≤ q := by omega
        have i4 : ¬ cap = fn := by omega
        have i5 : q - fn = mn := by omega
        have HSub := Lib.hid (fun W (hb : Below w.heap.size w W) => secs_sub (HV.out.next hb) rfl (A := fn) (m := mn) (c := cap - fn) (by omega) (by omega))
        have Hi1 := Lib.hid i1
        have Hlt := Lib.hid hlt
        have Hmn := Lib.hid (show 1 ≤ mn by omega)
        clear hfit' hScap hq i1 hlt
        clear hE1 hE2 hE3 hLb hLg hok hck' hfit k3 k7
        refine callsIn_wide.1 (callsIn_of_wp_marks (n := 5) Try.func11 rfl trivial ?_ rfl)
        simp only [Try.ntmps11, List.size_toArray, List.length_cons, List.length_nil, Nat.reduceAdd, Nat.reduceSub, Array.replicate_succ, Array.replicate_zero, List.push_toArray, List.append_toArray, List.nil_append, List.cons_append]
        refine wpIn_wide.2 ?_
        go_wp2_with fail
        refine (HCk.out _ Hb.out).mono ?_
        rintro e w1 ⟨rfl, hb1⟩
        clear c0 c1 c2 c3
        have HB1 := Lib.hid (HB.out.below hb1 HB.out.lt)
        have HZ1 := Lib.hid (HZ.out.below hb1 HZ.out.lt)
        have Hb1 := Lib.hid (Hb.out.trans (hb1.mono Hb.out.size))
        obtain ⟨c0, c1, c2, c3, f0, f1, f2, f3⟩ := dkCells HB1.out
        obtain ⟨z0, z1, z2, z3, y0, y1, y2, y3⟩ := dkCells HZ1.out
        clear hb1
        go_wp2_with fail
        refine (HF.out _).mono ?_
        rintro e w2 ⟨rfl, rfl⟩
        go_wp2_with fail
        have hz3 : Blk ((((w1.setCell ⟨w.heap.size + 1, 0, none⟩ (.int .i64 (fn : Int))).setCell ⟨w.heap.size + 1, 1, none⟩ (.int .i64 (mn : Int))).setCell ⟨w.heap.size + 1, 2, none⟩ (.slice none 0 0)).setCell ⟨w.heap.size + 1, 3, none⟩ (.int .i64 0)) (w.heap.size + 1) 29 #[.int .i64 (fn : Int), .int .i64 (mn : Int), .slice none 0 0, .int .i64 0] :=
          (((HZ1.out.set_ 0 (.int .i64 (fn : Int))).set_ 1 (.int .i64 (mn : Int))).set_ 2 (.slice none 0 0)).set_ 3 (.int .i64 0)
        have hb3 := (((Hb1.out.setCell (p := ⟨w.heap.size + 1, 0, none⟩) (Nat.le_succ _) (.int .i64 (fn : Int))).setCell (p := ⟨w.heap.size + 1, 1, none⟩) (Nat.le_succ _) (.int .i64 (mn : Int))).setCell (p := ⟨w.heap.size + 1, 2, none⟩) (Nat.le_succ _) (.slice none 0 0)).setCell (p := ⟨w.heap.size + 1, 3, none⟩) (Nat.le_succ _) (.int .i64 0)
        obtain ⟨w3, hw3⟩ : ∃ w3, (((w1.setCell ⟨w.heap.size + 1, 0, none⟩ (.int .i64 (fn : Int))).setCell ⟨w.heap.size + 1, 1, none⟩ (.int .i64 (mn : Int))).setCell ⟨w.heap.size + 1, 2, none⟩ (.slice none 0 0)).setCell ⟨w.heap.size + 1, 3, none⟩ (.int .i64 0) = w3 := ⟨_, rfl⟩
        rw [hw3] at hz3 hb3 ⊢
        refine (records_any _ _ _ w3).mono ?_
        rintro e w4 ⟨rfl, hw4⟩
        have hbx := Blk.new w3 22 #[.slice (some ⟨g, off + fn, none⟩) mn (cap - fn)]
        have hz4 := hz3.alloc (.cells #[.slice (some ⟨g, off + fn, none⟩) mn (cap - fn)] 22)
        have hb4 := hb3.alloc hb3.size (.cells #[.slice (some ⟨g, off + fn, none⟩) mn (cap - fn)] 22)
        rw [← hw4] at hbx hz4 hb4
        have Hlt3 := Lib.hid hz3.lt
        have Hlt4 := Lib.hid hbx.lt
        have Hbx := Lib.hid hbx
        have Hz4 := Lib.hid hz4
        have Hb4 := Lib.hid hb4
        clear hw3 hw4 hz3 hb3 hbx hz4 hb4 c0 c1 c2 c3 f0 f1 f2 f3 z0 z1 z2 z3 y0 y1 y2 y3 s1 i2 i3 i4 i5
        go_wp2_with fail
        have h128 : ∀ s ∈ (S.drop fn).take mn, s.length = 128 := fun s hs => Hlt.out s (List.mem_of_mem_drop (List.mem_of_mem_take hs))
        have hlen : ((S.drop fn).take mn).length = mn := by simp; have := Hi1.out; omega
        obtain ⟨PS, hPS⟩ : ∃ PS, (S.drop fn).take mn = PS := ⟨_, rfl⟩
        rw [hPS] at h128 hlen HSub
        have HPS := Lib.hid hPS
        have H128 := Lib.hid h128
        have Hlen := Lib.hid hlen
        clear h128 hlen hPS
        refine (wpIn_wide (n := 5)).1 ?_
        refine range_law1 (n := 5) (N := 4096) (gf := 48) (lb := #[.pointer (some ⟨w3.heap.size, 0, none⟩)]) rfl (enters_of Try.func48 (by kernel_rfl) rfl) 38 9 (fun x : Rc => .slice x.a x.n x.c) (It w4.heap.size) (Bd w.heap.size w3.heap.size) (fun _ _ h => h.others) (fun h k => h.trans k)
          (fun W l o o' hl h1 h2 => Bd.putObj (w := w4) Hb4.out.size Hlt4.out W l o o' hl h1 h2) (fun xs W => xs.map Rc.b = recs PS ∧ Came w.heap.size W.heap.size W xs) (fun xs W l o o' hl h1 h2 h => ⟨h.1, (h.2.put l o o' h1 h2).mono (by simp)⟩) ?hseq
          (OpI w (w.heap.size + 1) w3.heap.size (.slice (some ⟨g, off + fn, none⟩) mn (cap - fn)) (.int .i64 (fn : Int)) (.int .i64 (mn : Int))) (fun pre W W' h hu => h.it Hb4.out.size hu) (fun pre W l o o' hl h1 h2 h => h.put l o o' (Nat.le_trans Hb4.out.size hl) h1 h2)
          (fun o o' => (OpI.alloc ⟨Hb4.out, Hbx.out, .slice none 0 0, Hz4.out, World.ownsRow_nil _ _ _ _⟩ o).alloc o') ?hassign ?hbody ?hdone
        case hseq =>
          intro l J W hbel hJ hY h0
          refine callsIn_wide.2 (recs_it PS H128.out (by rw [Hlen.out]; have := Hi1.out; omega) w _ (HSub.out w (Below.refl _ _)) w4.heap.size w3.heap.size Hb4.out.size Hlt4.out 3 l J W ⟨Hb4.out.trans (hbel.mono Hb4.out.size), hbel.size, ?_, fun x hx => by simp at hx, h0⟩ hJ hY)
          have := Hbx.out.below hbel Hlt4.out
          rw [this.cell]; rfl
        case hassign =>
          intro l x W K hK
          gi_wp2
          exact hK
        case hbody =>
          rintro l pre x W ⟨bel, box, v, hlog, hrow⟩ hN
          obtain ⟨c0, c1, c2, c3, f0, f1, f2, f3⟩ := dkCells hlog
          obtain ⟨xa, xn, xc, xb⟩ := x
          obtain ⟨i0, hi, hz0, hz1, hz2⟩ := info_parts infoSl
          obtain ⟨va, vc, rfl⟩ := (Sl.of_own hrow).form
          have hnew := Blk.new W 25 #[.slice xa xn xc]
          have hcl : ∀ j u, [Value.slice xa xn xc][j]? = some u → (W.alloc (.cells #[.slice xa xn xc] 25)).cell? ((⟨W.heap.size, 0, none⟩ : Addr).add j) = some u := World.news_of_block hnew
          have hrowA := hrow.alloc (.cells #[.slice xa xn xc] 25)
          have hszA := Nat.le_trans bel.size (show W.heap.size ≤ (W.alloc (.cells #[.slice xa xn xc] 25)).heap.size by simp)
          have Hbel := Lib.hid bel
          have Hbox := Lib.hid box
          have Hlog := Lib.hid hlog
          have Hrow := Lib.hid hrow
          clear hnew bel box hlog hrow
          simp only [List.setIfInBounds_toArray, List.set_cons_zero, List.set_cons_succ]
          gi_wp2_with (first | (gi_at_builtin; refine wpListIn_append_own _ rfl (.tmp 40) (.tmp 42) 22 rfl w.heap.size 25 i0 _ 1 24 Try.underlying22 hi hz0 hz1 hz2 rfl (by decide) _ pre.length (pre.map Rc.v) rfl hrowA ⟨W.heap.size, 0, none⟩ 1 1 [.slice xa xn xc] rfl rfl hcl (by simp [Value.oneCell']) (by unfold maxLen; omega) (by omega) hszA ?_))
          intro v' w6 hown hgr _
          obtain ⟨a5, c5, rfl⟩ := (Sl.of_own hown).form
          have hlogA := Hlog.out.alloc (.cells #[.slice xa xn xc] 25)
          have hlog6 := Blk.grown hlogA hgr (Ne.symm (own_blk_ne hrowA hlogA (by decide)))
          have hu : Upd (fun k => k = w.heap.size + 1 ∨ (Value.slice va pre.length vc).ownBlock = some k) W (w6.setCell ⟨w.heap.size + 1, 2, none⟩ (.slice a5 (pre.length + 1) c5)) :=
            (((Upd.refl _ W).alloc (.cells #[.slice xa xn xc] 25)).grown hgr (fun k hk => .inl (.inr hk))).setCell (p := ⟨w.heap.size + 1, 2, none⟩) (.inl (.inl rfl)) _
          have hu6 : Upd (fun k => k = w.heap.size + 1) w6 (w6.setCell ⟨w.heap.size + 1, 2, none⟩ (.slice a5 (pre.length + 1) c5)) := (Upd.refl (fun k => k = w.heap.size + 1) w6).setCell (p := ⟨w.heap.size + 1, 2, none⟩) (.inl rfl) _
          have hT : ∀ k, (k = w.heap.size + 1 ∨ (Value.slice va pre.length vc).ownBlock = some k) → ∃ t cs, t ≠ 5 ∧ t ≠ 22 ∧ Blk W k t cs ∧ w.heap.size ≤ k := fun k hk => by
            rcases hk with rfl | hk
            · exact ⟨_, _, by decide, by decide, Hlog.out, by omega⟩
            · rcases Hrow.out.2 with ⟨h1, _⟩ | ⟨gg, cap', cur, h1, hgb, hg2, _⟩
              · rw [h1] at hk; cases hk
              · rw [h1] at hk; cases hk; exact ⟨_, _, by decide, by decide, hg2, hgb⟩
          have Hsec := Lib.hid (show OpI w (w.heap.size + 1) w3.heap.size (.slice (some ⟨g, off + fn, none⟩) mn (cap - fn)) (.int .i64 (fn : Int)) (.int .i64 (mn : Int)) (pre ++ [Rc.mk xa xn xc xb]) (w6.setCell ⟨w.heap.size + 1, 2, none⟩ (.slice a5 (pre.length + 1) c5)) from
            ⟨Hbel.out.trans (hu.below Hbel.out.size (fun k hk hs => by obtain ⟨_, _, _, _, _, h⟩ := hT k hs; omega)), Hbox.out.upd hu (fun hs => by
              obtain ⟨t, cs, _, h2, h3, _⟩ := hT _ hs
              have := Hbox.out; rw [Blk, h3] at this; cases this; exact h2 rfl), .slice a5 (pre.length + 1) c5, hlog6.set_ 2 _, by
              rw [List.length_append, List.map_append]; exact hu6.own hown (fun k hk hs => by subst hs; exact own_blk_ne hown hlog6 (by decide) hk)⟩)
          have Hkp := Lib.hid (show KeepsOthers W (w6.setCell ⟨w.heap.size + 1, 2, none⟩ (.slice a5 (pre.length + 1) c5)) from ⟨hu.size, fun k o hk ho => (hu.block k (Array.getElem?_eq_some_iff.1 hk).1 (fun hs => by
              obtain ⟨t, cs, _, _, h3, _⟩ := hT _ hs
              rw [Blk, hk] at h3; cases h3; cases ho)).trans hk⟩)
          have Hbd := Lib.hid (show Bd w.heap.size w3.heap.size W (w6.setCell ⟨w.heap.size + 1, 2, none⟩ (.slice a5 (pre.length + 1) c5)) from hu.mono (fun k _ hs => by
              obtain ⟨t, cs, h1, h2, h3, h4⟩ := hT _ hs
              exact ⟨h4, fun e => by subst e; have := Hbox.out; rw [Blk, h3] at this; cases this; exact h2 rfl, blk_u8 h3 h1⟩))
          obtain ⟨c0, c1, c2, c3, f0, f1, f2, f3⟩ := dkCells hlog6
          clear hown hgr hlogA hlog6 hu hu6 hT hcl hrowA hszA
          gi_wp2
          exact ⟨Hkp.out, Hbd.out, Hsec.out⟩
        case hdone =>
          rintro D xs W hD ⟨hxs, hcame⟩ ⟨bel, box, v, hlog, hrow⟩ hK
          obtain ⟨c0, c1, c2, c3, f0, f1, f2, f3⟩ := dkCells hlog
          obtain ⟨va, vc, rfl⟩ := (Sl.of_own hrow).form
          have Hbel := Lib.hid bel
          have Hlog := Lib.hid hlog
          have Hrow := Lib.hid hrow
          have Hcame := Lib.hid hcame
          have HK := Lib.hid hK
          clear bel box hlog hrow hcame hK
          go_wp2_with fail
          have hlF : Blk (((((W.setCell ⟨w.heap.size + 1, 3, none⟩ (.int .i64 (xs.length : Int))).setCell ⟨w.heap.size + 1, 0, none⟩ (.int .i64 (fn : Int))).setCell ⟨w.heap.size + 1, 1, none⟩ (.int .i64 (mn : Int))).setCell ⟨w.heap.size + 1, 2, none⟩ (.slice va xs.length vc)).setCell ⟨w.heap.size + 1, 3, none⟩ (.int .i64 (xs.length : Int))) (w.heap.size + 1) 29 #[.int .i64 (fn : Int), .int .i64 (mn : Int), .slice va xs.length vc, .int .i64 (xs.length : Int)] :=
            ((((Hlog.out.set_ 3 (.int .i64 (xs.length : Int))).set_ 0 (.int .i64 (fn : Int))).set_ 1 (.int .i64 (mn : Int))).set_ 2 (.slice va xs.length vc)).set_ 3 (.int .i64 (xs.length : Int))
          have huF : Upd (fun k => k = w.heap.size + 1 ∨ k = D) W (((((W.setCell ⟨w.heap.size + 1, 3, none⟩ (.int .i64 (xs.length : Int))).setCell ⟨w.heap.size + 1, 0, none⟩ (.int .i64 (fn : Int))).setCell ⟨w.heap.size + 1, 1, none⟩ (.int .i64 (mn : Int))).setCell ⟨w.heap.size + 1, 2, none⟩ (.slice va xs.length vc)).setCell ⟨w.heap.size + 1, 3, none⟩ (.int .i64 (xs.length : Int))) :=
            (((((Upd.refl _ W).setCell (p := ⟨w.heap.size + 1, 3, none⟩) (.inl (.inl rfl)) _).setCell (p := ⟨w.heap.size + 1, 0, none⟩) (.inl (.inl rfl)) _).setCell (p := ⟨w.heap.size + 1, 1, none⟩) (.inl (.inl rfl)) _).setCell (p := ⟨w.heap.size + 1, 2, none⟩) (.inl (.inl rfl)) _).setCell (p := ⟨w.heap.size + 1, 3, none⟩) (.inl (.inl rfl)) _
          have hDn : D ≠ w.heap.size + 1 := by have := Hlt3.out; have := Hlt4.out; omega
          have hKF : (((((W.setCell ⟨w.heap.size + 1, 3, none⟩ (.int .i64 (xs.length : Int))).setCell ⟨w.heap.size + 1, 0, none⟩ (.int .i64 (fn : Int))).setCell ⟨w.heap.size + 1, 1, none⟩ (.int .i64 (mn : Int))).setCell ⟨w.heap.size + 1, 2, none⟩ (.slice va xs.length vc)).setCell ⟨w.heap.size + 1, 3, none⟩ (.int .i64 (xs.length : Int))).heap[D]? = some (.deferred (some [])) :=
            Upd.heap (S := fun k => k = w.heap.size + 1) ((((((Upd.refl (fun k => k = w.heap.size + 1) W).setCell (p := ⟨w.heap.size + 1, 3, none⟩) (.inl rfl) _).setCell (p := ⟨w.heap.size + 1, 0, none⟩) (.inl rfl) _).setCell (p := ⟨w.heap.size + 1, 1, none⟩) (.inl rfl) _).setCell (p := ⟨w.heap.size + 1, 2, none⟩) (.inl rfl) _).setCell (p := ⟨w.heap.size + 1, 3, none⟩) (.inl rfl) _) HK.out hDn
          obtain ⟨WF, hWF⟩ : ∃ WF, ((((W.setCell ⟨w.heap.size + 1, 3, none⟩ (.int .i64 (xs.length : Int))).setCell ⟨w.heap.size + 1, 0, none⟩ (.int .i64 (fn : Int))).setCell ⟨w.heap.size + 1, 1, none⟩ (.int .i64 (mn : Int))).setCell ⟨w.heap.size + 1, 2, none⟩ (.slice va xs.length vc)).setCell ⟨w.heap.size + 1, 3, none⟩ (.int .i64 (xs.length : Int)) = WF := ⟨_, rfl⟩
          rw [hWF] at hlF huF hKF ⊢
          have hlX : Blk (WF.putObj D (.deferred none)) (w.heap.size + 1) 29 _ := hlF.upd (S := fun k => k = D) ((Upd.refl _ WF).grown (grownBy_putObj' WF D (.deferred none)) (fun k e => by cases e; exact .inl rfl)) (fun h => hDn h.symm)
          have huX := huF.grown (grownBy_putObj' WF D (.deferred none)) (fun k e => by cases e; exact .inl (.inr rfl))
          have hnD : ∀ {e : TypeId} {v : Value} {n : Nat} {ys : List Value} {B : Nat}, W.ownsRow B e 1 v n ys → e ≠ 29 → ∀ k, v.ownBlock = some k → ¬ (k = w.heap.size + 1 ∨ k = D) := fun h he k hk hs => by
            rcases hs with rfl | rfl
            · exact own_blk_ne h Hlog.out he hk
            · rcases h.2 with ⟨rfl, _⟩ | ⟨gg, cap', cur, rfl, _, hg2, _⟩
              · cases hk
              · cases hk; have := HK.out; rw [hg2] at this; cases this
          have hrX := huX.own Hrow.out (hnD Hrow.out (by decide))
          have hcX : ∀ x ∈ xs, (WF.putObj D (.deferred none)).ownsRow w.heap.size 5 1 x.v x.b.length (bc x.b) := fun x hx => huX.own (Hcame.out x hx).1 (hnD (Hcame.out x hx).1 (by decide))
          have hbX : Below w.heap.size w (WF.putObj D (.deferred none)) := Hbel.out.trans (huX.below Hbel.out.size (fun k hk hs => by have := Hb4.out.size; rcases hs with h | h <;> omega))
          obtain ⟨c0, c1, c2, c3, f0, f1, f2, f3⟩ := dkCells hlX
          have hlx : xs.length = (recs PS).length := by rw [← hxs, List.length_map]
          have hsecs : Secs (WF.putObj D (.deferred none)) (.slice va xs.length vc) (recs PS) := by
            refine ⟨xs.map Rc.v, by rw [← hlx]; exact Sl.of_own hrX, fun i s hs => ?_⟩
            rw [← hxs, List.getElem?_map] at hs
            obtain ⟨x, hx, rfl⟩ := Option.map_eq_some_iff.1 hs
            exact ⟨x.v, by rw [List.getElem?_map, hx]; rfl, Sl.of_own (hcX x (List.mem_of_getElem? hx))⟩
          obtain ⟨WX, hWX⟩ : ∃ WX, WF.putObj D (.deferred none) = WX := ⟨_, rfl⟩
          have hrun := run_takeDeferred (P := Try.prog) hKF
          rw [hWX] at c0 c1 c2 c3 hsecs hbX hrun
          clear hlF huF hKF hlX huX hnD hrX hcX hWF hWX
          refine ⟨by simp, .inl ⟨D, WX, rfl, hrun, ?_⟩⟩
          refine ⟨.tuple #[.agg #[.int .i64 (fn : Int), .int .i64 (mn : Int), .slice va xs.length vc, .int .i64 (xs.length : Int)], .int .i64 0], by simp [results, Try.results11, go_sem, *], ?_⟩
          refine ⟨_, by rw [Hr.out], ?_, hbX⟩
          rw [Hl.out]
          refine ⟨.slice va xs.length vc, ?_, ?_⟩
          · simp only [lgAgg, Int.toNat_natCast, HPS.out, hlx]
          · simp only [Int.toNat_natCast, HPS.out]
            exact hsecs
      · have Hr := Lib.hid ((hE3 rfl hfit).trans (if_pos rfl))
        have Hl := Lib.hid (hLb (by rw [Hr.out]; decide))
        clear hE1 hE2 hE3 hLb hLg hok hck' hfit k3 hlt k7
        refine callsIn_wide.1 (callsIn_of_wp_marks (n := 5) Try.func11 rfl trivial ?_ rfl)
        simp only [Try.ntmps11, List.size_toArray, List.length_cons, List.length_nil, Nat.reduceAdd, Nat.reduceSub, Array.replicate_succ, Array.replicate_zero, List.push_toArray, List.append_toArray, List.nil_append, List.cons_append]
        refine wpIn_wide.2 ?_
        go_wp2_with fail
        refine (HCk.out _ Hb.out).mono ?_
        rintro e w1 ⟨rfl, hb1⟩
        clear c0 c1 c2 c3
        have HB1 := Lib.hid (HB.out.below hb1 HB.out.lt)
        have HZ1 := Lib.hid (HZ.out.below hb1 HZ.out.lt)
        have Hb1 := Lib.hid (Hb.out.trans (hb1.mono Hb.out.size))
        obtain ⟨c0, c1, c2, c3, f0, f1, f2, f3⟩ := dkCells HB1.out
        obtain ⟨z0, z1, z2, z3, y0, y1, y2, y3⟩ := dkCells HZ1.out
        clear hb1
        go_wp2_with fail
        refine (HF.out _).mono ?_
        rintro e w2 ⟨rfl, rfl⟩
        go_wp2_with fail
        exact marks_ret (v := .tuple #[.agg #[.int .i64 0, .int .i64 0, .slice none 0 0, .int .i64 0], .int .i64 410]) (by simp [results, Try.results11, go_sem, *]) rfl
          ⟨_, by rw [Hr.out], by rw [Hl.out]; exact lgV_zero _, by (repeat (refine Below.setCell ?_ (by first | exact Nat.le_refl _ | (simp; done) | (simp; omega)) _)); exact Hb1.out⟩
  · have Hr := Lib.hid (hE1 rfl)
    have Hl := Lib.hid (hLb (by rw [Hr.out]; decide))
    clear hE1 hE2 hE3 hLb hLg hok hck'
    refine callsIn_wide.1 (callsIn_of_wp_marks (n := 5) Try.func11 rfl trivial ?_ rfl)
    simp only [Try.ntmps11, List.size_toArray, List.length_cons, List.length_nil, Nat.reduceAdd, Nat.reduceSub, Array.replicate_succ, Array.replicate_zero, List.push_toArray, List.append_toArray, List.nil_append, List.cons_append]
    refine wpIn_wide.2 ?_
    go_wp2_with fail
    refine (HCk.out _ Hb.out).mono ?_
    rintro e w1 ⟨rfl, hb1⟩
    clear c0 c1 c2 c3
    have HB1 := Lib.hid (HB.out.below hb1 HB.out.lt)
    have HZ1 := Lib.hid (HZ.out.below hb1 HZ.out.lt)
    have Hb1 := Lib.hid (Hb.out.trans (hb1.mono Hb.out.size))
    obtain ⟨c0, c1, c2, c3, f0, f1, f2, f3⟩ := dkCells HB1.out
    obtain ⟨z0, z1, z2, z3, y0, y1, y2, y3⟩ := dkCells HZ1.out
    clear hb1
    go_wp2_with fail
    exact marks_ret (v := .tuple #[.agg #[.int .i64 0, .int .i64 0, .slice none 0 0, .int .i64 0], .int .i64 1]) (by simp [results, Try.results11, go_sem, *]) rfl
      ⟨_, by rw [Hr.out], by rw [Hl.out]; exact lgV_zero _, by (repeat (refine Below.setCell ?_ (by first | exact Nat.le_refl _ | (simp; done) | (simp; omega)) _)); exact Hb1.out⟩
end Go.Proofs.Ytbinibpkbkhdlaa
