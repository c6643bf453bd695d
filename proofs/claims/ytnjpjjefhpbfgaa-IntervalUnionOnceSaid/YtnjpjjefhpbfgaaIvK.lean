/- Intervals: Inside. -/
import Derived.Test.YtnjpjjefhpbfgaaIvJ
import Derived.Test.YtnjpjjefhpbfgaaIvC
namespace Go.Proofs.Ytnjpjjefhpbfgaa
open Go.RowKit Go.Shelf
attribute [local go_sem] Oper.semAt_some

/-- what Inside gives -/
def insR (i : Iv) (l : List Iv) : Bool := if ckL (i :: l) = 0 then (uni l).any (within i) else false
/-- the blocks of Inside -/
structure InS (w : World) (lo hi : Int) (ok : Bool) (W : World) : Prop where
  bel : Below w.heap.size w W
  bi : Blk W w.heap.size 23 #[.int .i64 lo, .int .i64 hi]
  bo : Blk W (w.heap.size + 1) 4 #[.bool ok]
  be : Blk W (w.heap.size + 2) 25 #[.int .i64 0]
theorem InS.next {w W W' : World} {lo hi : Int} {ok : Bool} (h : InS w lo hi ok W) (hb : Below W.heap.size W W') : InS w lo hi ok W' :=
  ⟨h.bel.trans (hb.mono h.bel.size), h.bi.below hb h.bi.lt, h.bo.below hb h.bo.lt, h.be.below hb h.be.lt⟩
theorem InS.own {w : World} {lo hi : Int} {ok : Bool} {B : Nat} (f : List Iv → Prop) (hB : w.heap.size ≤ B) : OwnFrom B (fun pre W => f pre ∧ InS w lo hi ok W) := by
  rintro pre W W' row ⟨hf, h⟩ hg hr
  have hne : ∀ {g : Nat} {t : TypeId} {cs : Array Value}, Blk W g t cs → some g ≠ row := fun {g t cs} hb e => by
    obtain ⟨_, o, ho, hc⟩ := hr g e.symm
    rw [hb] at ho; cases ho; cases hc
  exact ⟨hf, h.bel.grown hg h.bel.size (fun k e => Nat.le_trans hB (hr k e).1), h.bi.grown hg (hne h.bi), h.bo.grown hg (hne h.bo), h.be.grown hg (hne h.be)⟩
theorem keeps_below {W W' : World} (h : Below W.heap.size W W') : KeepsOthers W W' := ⟨h.size, fun k _ hk _ => (h.block k (Array.getElem?_eq_some_iff.1 hk).1).trans hk⟩
theorem kpI_below {b : Nat} {W W' : World} (h : Below W.heap.size W W') (hb : b < W.heap.size) : KpI b W W' := ⟨(Upd.of_below h).mono (fun k hk hs => by omega), .inl (ptB_below h hb)⟩
theorem any_snoc (p : Iv → Bool) (l : List Iv) (x : Iv) : (l ++ [x]).any p = (l.any p || p x) := by simp
theorem any_mid (p : Iv → Bool) (l r : List Iv) (x : Iv) (h : (l ++ [x]).any p = true) : (l ++ x :: r).any p = true := by
  rw [any_snoc] at h
  simp only [List.any_append, List.any_cons]
  rw [← Bool.or_assoc, h]
  rfl
/-- the end behind the loop -/
theorem InS.fin {w W : World} {lo hi : Int} {ok : Bool} {D : Nat} (h : InS w lo hi ok W) (hD : W.heap[D]? = some (.deferred (some []))) (hw : w.heap.size ≤ D) :
    InS w lo hi ok (W.putObj D (.deferred none)) := by
  have huX : Upd (fun k => k = D) W (W.putObj D (.deferred none)) := (Upd.refl _ W).grown (grownBy_putObj' W D (.deferred none)) (fun k e => by cases e; exact .inl rfl)
  have hne : ∀ {g : Nat} {t : TypeId} {cs : Array Value}, Blk W g t cs → ¬ g = D := fun hb e => by
    subst e; rw [hb] at hD; cases hD
  exact ⟨h.bel.trans (huX.below h.bel.size (fun k hk hs => by omega)), huX.heap h.bi (hne h.bi), huX.heap h.bo (hne h.bo), huX.heap h.be (hne h.be)⟩
theorem InS.set_ok {w W : World} {lo hi : Int} {ok : Bool} (h : InS w lo hi ok W) (b : Bool) : InS w lo hi b (W.setCell ⟨w.heap.size + 1, 0, none⟩ (.bool b)) := by
  have hu : Upd (fun k => k = w.heap.size + 1) W (W.setCell ⟨w.heap.size + 1, 0, none⟩ (.bool b)) := (Upd.refl (fun k => k = w.heap.size + 1) W).setCell (p := ⟨w.heap.size + 1, 0, none⟩) (.inl rfl) _
  exact ⟨h.bel.trans (hu.below h.bel.size (fun k hk hs => by omega)), hu.heap h.bi (by omega), h.bo.set_ 0 _, hu.heap h.be (by omega)⟩
theorem InS.set_e {w W : World} {lo hi : Int} {ok : Bool} (h : InS w lo hi ok W) : InS w lo hi ok (W.setCell ⟨w.heap.size + 2, 0, none⟩ (.int .i64 0)) := by
  have hu : Upd (fun k => k = w.heap.size + 2) W (W.setCell ⟨w.heap.size + 2, 0, none⟩ (.int .i64 0)) := (Upd.refl (fun k => k = w.heap.size + 2) W).setCell (p := ⟨w.heap.size + 2, 0, none⟩) (.inl rfl) _
  exact ⟨h.bel.trans (hu.below h.bel.size (fun k hk hs => by omega)), hu.heap h.bi (by omega), hu.heap h.bo (by omega), h.be.set_ 0 _⟩
set_option maxRecDepth 100000 in
set_option maxHeartbeats 4000000 in
theorem inside_any (lo hi : Int) (l : List Iv) (n : Nat) (hn : l.length = n) (hm : n ≤ 100000) (a : Option Addr) (cap : Nat) (w : World) (hr : Rd w (.slice a n cap) l) :
    Calls Try.prog 21 #[.agg #[.int .i64 lo, .int .i64 hi], .slice a n cap] w fun e w' => e = .returned (.tuple #[.bool (insR (lo, hi) l), .int .i64 (ckL ((lo, hi) :: l))]) ∧ Below w.heap.size w w' := by
  have HR := Lib.hid hr
  have h1 : InS w lo hi false (((w.alloc (.cells #[.int .i64 lo, .int .i64 hi] 23)).alloc (.cells #[.bool false] 4)).alloc (.cells #[.int .i64 0] 25)) := by
    have hs1 : (w.alloc (.cells #[.int .i64 lo, .int .i64 hi] 23)).heap.size = w.heap.size + 1 := by simp
    have hs2 : ((w.alloc (.cells #[.int .i64 lo, .int .i64 hi] 23)).alloc (.cells #[.bool false] 4)).heap.size = w.heap.size + 2 := by simp
    have b1 := Blk.new (w.alloc (.cells #[.int .i64 lo, .int .i64 hi] 23)) 4 #[.bool false]
    have b2 := Blk.new ((w.alloc (.cells #[.int .i64 lo, .int .i64 hi] 23)).alloc (.cells #[.bool false] 4)) 25 #[.int .i64 0]
    rw [hs1] at b1
    rw [hs2] at b2
    exact ⟨(((below_alloc w _).alloc (by rw [hs1]; omega) _).alloc (by rw [hs2]; omega) _), ((Blk.new w _ _).alloc _).alloc _, b1.alloc _, b2⟩
  obtain ⟨w1, hw1⟩ : ∃ w1, ((w.alloc (.cells #[.int .i64 lo, .int .i64 hi] 23)).alloc (.cells #[.bool false] 4)).alloc (.cells #[.int .i64 0] 25) = w1 := ⟨_, rfl⟩
  rw [hw1] at h1
  have HW1 := Lib.hid hw1
  have HC := Lib.hid (cko_any lo hi l n hn hm a cap w1 (hr.next h1.bel))
  have hok := ckL_ok (l := (lo, hi) :: l)
  have hir : insR (lo, hi) l = if ckL ((lo, hi) :: l) = 0 then (uni l).any (within (lo, hi)) else false := rfl
  obtain ⟨ce, hce⟩ : ∃ x, ckL ((lo, hi) :: l) = x := ⟨_, rfl⟩
  rw [hce] at HC hok hir ⊢
  obtain ⟨c0, c1, _, _⟩ := cells2 h1.bi
  have H1 := Lib.hid h1
  clear h1 hr hce hw1
  refine callsIn_wide.1 (callsIn_of_wp_marks (n := 5) Try.func21 rfl trivial ?_ rfl)
  simp only [Try.ntmps21, List.size_toArray, List.length_cons, List.length_nil, Nat.reduceAdd, Nat.reduceSub, Array.replicate_succ, Array.replicate_zero, List.push_toArray, List.append_toArray, List.nil_append, List.cons_append]
  refine wpIn_wide.2 ?_
  go_wp2_with (rw [HW1.out])
  refine HC.out.mono ?_
  rintro e w2 ⟨rfl, hb2⟩
  have H2 := Lib.hid (H1.out.next hb2)
  clear hb2 c0 c1
  by_cases h0 : ce = 0
  · subst h0
    have Hck := Lib.hid (fun i (hi : i ∈ l) => hok rfl i (List.mem_cons_of_mem _ hi))
    rw [if_pos rfl] at hir
    have Hir := Lib.hid hir
    clear hok hir
    go_wp2_with fail
    refine (unionF_any a n cap w2).mono ?_
    rintro e w3 ⟨rfl, hw3⟩
    have hb0 := Blk.new w2 30 #[.slice a n cap]
    have h3 := H2.out.next (below_alloc w2 (.cells #[.slice a n cap] 30))
    rw [← hw3] at hb0 h3
    have Hb0 := Lib.hid hb0
    have H3 := Lib.hid h3
    have HP := Lib.hid (show ptB w3 (w.heap.size + 1) = none by unfold ptB; rw [h3.bo.cell]; rfl)
    clear hb0 h3 hw3
    go_wp2_with fail
    refine (wpIn_wide (n := 5)).1 ?_
    refine range_lawS (n := 5) 7 (N := 1000000) (gf := 42) (lb := #[.pointer (some ⟨w2.heap.size, 0, none⟩)]) rfl (enters_of Try.func42 (by kernel_rfl) rfl) ivA (fun x => (ivc x).toArray) 23 (KpI (w.heap.size + 1)) (fun h k => h.trans k)
      (fun W l o o' hl h1 h2 => KpI.put W l o o' (by have := H3.out.bo.lt; omega) h1 h2) (fun W o hW => KpI.alloc W o (by have := H3.out.bo.lt; omega)) (fun xs => xs = uni l) (fun pre => ∃ p x r, pre = p ++ [x] ∧ uni l = p ++ x :: r) ?hseq
      (fun pre W => pre.any (within (lo, hi)) = false ∧ InS w lo hi false W) (fun pre W => pre.any (within (lo, hi)) = true ∧ InS w lo hi true W) (InS.own _ H3.out.bel.size) (InS.own _ H3.out.bel.size) ⟨rfl, H3.out⟩ ?hassign ?hbody ?hdone ?hstop
    case hseq => exact union_seq l n hn (by omega) Hck.out w3 _ (HR.out.next H3.out.bel) w2.heap.size (w.heap.size + 1) Hb0.out H3.out.bo.lt HP.out 5
    case hassign =>
      rintro l ⟨lo, hi⟩ W K hK
      unfold ivA at hK ⊢
      gi_wp2
      exact hK
    case hbody =>
      rintro yl pre ⟨xl, xh⟩ b W ⟨hpre, hS⟩ hbx hwb hN
      obtain ⟨c0, c1, _, _⟩ := cells2 hS.bi
      obtain ⟨x0, x1, _, _⟩ := cells2 (show Blk W b 23 #[.int .i64 xl, .int .i64 xh] from hbx)
      have HS := Lib.hid hS
      have Hpre := Lib.hid hpre
      have HWi := Lib.hid (within_any lo hi xl xh W)
      clear hpre hS hbx
      simp only [List.setIfInBounds_toArray, List.set_cons_zero, List.set_cons_succ]
      gi_wp2
      refine ⟨trivial, CallsIn.mono (CallsIn.inRound yl (callsIn_wide.2 HWi.out)) ?_⟩
      rintro e w6 ⟨rfl, hb6⟩
      have H6 := Lib.hid (HS.out.next hb6)
      have Hb6 := Lib.hid hb6
      have Han := Lib.hid (any_snoc (within (lo, hi)) pre (xl, xh))
      clear hb6 x0 x1 c0 c1
      cases hwt : within (lo, hi) (xl, xh)
      · rw [hwt] at Han
        gi_wp2
        exact ⟨keeps_below Hb6.out, kpI_below Hb6.out HS.out.bo.lt, by rw [Han.out, Hpre.out]; rfl, H6.out⟩
      · rw [hwt] at Han
        obtain ⟨c0, g0⟩ := cells1 H6.out.bo
        obtain ⟨c1, g1⟩ := cells1 H6.out.be
        gi_wp2
        exact ⟨(keeps_below Hb6.out).trans ((KeepsOthers.setCell _ _ _).trans (KeepsOthers.setCell _ _ _)), by rw [Han.out, Hpre.out]; rfl, (H6.out.set_ok true).set_e⟩
    case hstop =>
      rintro D pre W hD ⟨p, x, r, rfl, hu⟩ ⟨hany, hS⟩ hK
      have hS2 := hS.fin hK (by have := H3.out.bel.size; omega)
      obtain ⟨c0, g0⟩ := cells1 hS2.bo
      obtain ⟨c1, g1⟩ := cells1 hS2.be
      have hrun := run_takeDeferred (P := Try.prog) hK
      have hres : insR (lo, hi) l = true := by rw [Hir.out, hu]; exact any_mid _ _ _ _ hany
      obtain ⟨WX, hWX⟩ : ∃ WX, W.putObj D (.deferred none) = WX := ⟨_, rfl⟩
      rw [hWX] at hS2 c0 g0 c1 g1 hrun
      gi_wp2
      refine ⟨by simp, .inl ⟨D, WX, rfl, hrun, ?_⟩⟩
      exact ⟨.tuple #[.bool true, .int .i64 0], by simp [results, Try.results21, go_sem, *], by rw [hres], hS2.bel⟩
    case hdone =>
      rintro D xs W hD rfl ⟨hany, hS⟩ hK
      have hS' := hS.set_ok false |>.set_e
      have hDlt : D < W.heap.size := (Array.getElem?_eq_some_iff.1 hK).1
      have hwD : w.heap.size ≤ D := by have := H3.out.bel.size; omega
      obtain ⟨c0, g0⟩ := cells1 hS.bo
      obtain ⟨c1, g1⟩ := cells1 hS.be
      have hres : insR (lo, hi) l = false := by rw [Hir.out]; exact hany
      have H5 := Lib.hid hS'
      have HK := Lib.hid hK
      have HD := Lib.hid (show D ≠ w.heap.size + 1 ∧ D ≠ w.heap.size + 2 from ⟨fun e => (by subst e; rw [hS.bo] at hK; cases hK), fun e => (by subst e; rw [hS.be] at hK; cases hK)⟩)
      clear hS hS' hK hany
      go_wp2_with fail
      have hu : Upd (fun k => k = w.heap.size + 1 ∨ k = w.heap.size + 2) W ((W.setCell ⟨w.heap.size + 1, 0, none⟩ (.bool false)).setCell ⟨w.heap.size + 2, 0, none⟩ (.int .i64 0)) := ((Upd.refl (fun k => k = w.heap.size + 1 ∨ k = w.heap.size + 2) W).setCell (p := ⟨w.heap.size + 1, 0, none⟩) (.inl (.inl rfl)) _).setCell (p := ⟨w.heap.size + 2, 0, none⟩) (.inl (.inr rfl)) _
      have hKF := hu.heap HK.out (by have := HD.out; omega)
      have hS2 := H5.out.fin hKF hwD
      obtain ⟨WF, hWF⟩ : ∃ WF, (W.setCell ⟨w.heap.size + 1, 0, none⟩ (.bool false)).setCell ⟨w.heap.size + 2, 0, none⟩ (.int .i64 0) = WF := ⟨_, rfl⟩
      rw [hWF] at hS2 hKF ⊢
      have hrun := run_takeDeferred (P := Try.prog) hKF
      obtain ⟨WX, hWX⟩ : ∃ WX, WF.putObj D (.deferred none) = WX := ⟨_, rfl⟩
      rw [hWX] at hS2 hrun
      obtain ⟨c0, g0⟩ := cells1 hS2.bo
      obtain ⟨c1, g1⟩ := cells1 hS2.be
      refine ⟨by simp, .inl ⟨D, WX, rfl, hrun, ?_⟩⟩
      exact ⟨.tuple #[.bool false, .int .i64 0], by simp [results, Try.results21, go_sem, *], by rw [hres], hS2.bel⟩
  · rw [if_neg h0] at hir
    have Hir := Lib.hid hir
    have f0 : ((ce : Int) != 0) = true := by simpa using h0
    obtain ⟨c0, g0⟩ := cells1 H2.out.bo
    obtain ⟨c1, g1⟩ := cells1 H2.out.be
    clear hok hir h0
    go_wp2_with fail
    have hu : Upd (fun k => k = w.heap.size + 1 ∨ k = w.heap.size + 2) w2 ((w2.setCell ⟨w.heap.size + 1, 0, none⟩ (.bool false)).setCell ⟨w.heap.size + 2, 0, none⟩ (.int .i64 ce)) := ((Upd.refl (fun k => k = w.heap.size + 1 ∨ k = w.heap.size + 2) w2).setCell (p := ⟨w.heap.size + 1, 0, none⟩) (.inl (.inl rfl)) _).setCell (p := ⟨w.heap.size + 2, 0, none⟩) (.inl (.inr rfl)) _
    have hb := H2.out.bel.trans (hu.below H2.out.bel.size (fun k hk hs => by omega))
    have ho : Blk ((w2.setCell ⟨w.heap.size + 1, 0, none⟩ (.bool false)).setCell ⟨w.heap.size + 2, 0, none⟩ (.int .i64 ce)) (w.heap.size + 1) 4 #[.bool false] := ((Upd.refl (fun k => k = w.heap.size + 2) _).setCell (p := ⟨w.heap.size + 2, 0, none⟩) (.inl rfl) _).heap (H2.out.set_ok false).bo (by omega)
    have he : Blk ((w2.setCell ⟨w.heap.size + 1, 0, none⟩ (.bool false)).setCell ⟨w.heap.size + 2, 0, none⟩ (.int .i64 ce)) (w.heap.size + 2) 25 #[.int .i64 ce] := (H2.out.set_ok false).be.set_ 0 _
    obtain ⟨c0, _⟩ := cells1 ho
    obtain ⟨c1, _⟩ := cells1 he
    exact marks_ret (v := .tuple #[.bool false, .int .i64 ce]) (by simp [results, Try.results21, go_sem, *]) rfl ⟨by rw [Hir.out], hb⟩
end Go.Proofs.Ytnjpjjefhpbfgaa
