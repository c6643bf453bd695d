/- Wal: the records of sectors as a new slice: AppendSeq, Collect. -/
import Derived.Test.YtbinibpkbkhdlaaWlO2
namespace Go.Proofs.Ytbinibpkbkhdlaa
open Go.RowKit Go.Shelf
attribute [local go_sem] Oper.semAt_some

/-- what the loop of AppendSeq has made -/
structure ApI (w : World) (gl b1 : Nat) (v1 : Value) (pre : List Rc) (W : World) : Prop where
  bel : Below w.heap.size w W
  box : Blk W b1 22 #[v1]
  log : ∃ v, Blk W gl 22 #[v] ∧ W.ownsRow w.heap.size 25 1 v pre.length (pre.map Rc.v)
theorem ApI.it {w : World} {B gl b1 : Nat} {v1 : Value} {pre : List Rc} {W W' : World} (hB : w.heap.size ≤ B) (h : ApI w gl b1 v1 pre W) (hu : It B W W') : ApI w gl b1 v1 pre W' := by
  obtain ⟨v, h1, h2⟩ := h.log
  exact ⟨h.bel.trans (hu.below h.bel.size (fun k hk hs => by have := hs.1; omega)), h.box.upd hu (fun hs => blk_u8 h.box (by decide) hs.2), v, h1.upd hu (fun hs => blk_u8 h1 (by decide) hs.2), hu.own h2 (fun k hk hs => own_nu8 h2 (by decide) k hk hs.2)⟩
theorem ApI.put {w : World} {gl b1 : Nat} {v1 : Value} {pre : List Rc} {W : World} (h : ApI w gl b1 v1 pre W) (l : Nat) (o o' : Obj) (hl : w.heap.size ≤ l) (ho : W.heap[l]? = some o) (hc : o.isCells = false) : ApI w gl b1 v1 pre (W.putObj l o') := by
  obtain ⟨v, h1, h2⟩ := h.log
  have hu : Upd (fun k => k = l) W (W.putObj l o') := (Upd.refl _ W).grown (grownBy_putObj' W l o') (fun k e => by cases e; exact .inl rfl)
  have hne : ∀ {g : Nat} {t : TypeId} {cs : Array Value}, Blk W g t cs → ¬ g = l := fun hb e => by subst e; rw [hb] at ho; cases ho; cases hc
  refine ⟨h.bel.trans (hu.below h.bel.size (fun k hk hs => by omega)), h.box.upd hu (hne h.box), v, h1.upd hu (hne h1), hu.own h2 (fun k hk hs => ?_)⟩
  subst hs
  rcases h2.2 with ⟨rfl, _⟩ | ⟨g, cap, cur, rfl, _, hg, _⟩
  · cases hk
  · cases hk; rw [hg] at ho; cases ho; cases hc
theorem ApI.alloc {w : World} {gl b1 : Nat} {v1 : Value} {pre : List Rc} {W : World} (h : ApI w gl b1 v1 pre W) (o : Obj) : ApI w gl b1 v1 pre (W.alloc o) := by
  obtain ⟨v, h1, h2⟩ := h.log
  exact ⟨h.bel.alloc h.bel.size o, h.box.alloc o, v, h1.alloc o, h2.alloc o⟩
set_option maxRecDepth 100000 in
set_option maxHeartbeats 2000000 in
theorem appendSeq_any (PS : List (List UInt8)) (h128 : ∀ s ∈ PS, s.length = 128) (hlen : PS.length ≤ 4096) (w : World) (v1 : Value) (hv : Secs w v1 PS) (b1 : Nat) (hb : Blk w b1 22 #[v1]) :
    Calls Try.prog 54 #[.slice none 0 0, .func (.func 48) #[] #[.pointer (some ⟨b1, 0, none⟩)]] w fun e w' => ∃ v, e = .returned v ∧ Secs w' v (recs PS) ∧ Below w.heap.size w w' := by
  have H128 := Lib.hid h128
  have Hlen := Lib.hid hlen
  have HV := Lib.hid hv
  have HBx := Lib.hid hb
  have Hblt := Lib.hid hb.lt
  clear h128 hlen hv hb
  refine callsIn_wide.1 (callsIn_of_wp_marks (n := 5) Try.func54 rfl trivial ?_ rfl)
  simp only [Try.ntmps54, List.size_toArray, List.length_cons, List.length_nil, Nat.reduceAdd, Nat.reduceSub, Array.replicate_succ, Array.replicate_zero, List.push_toArray, List.append_toArray, List.nil_append, List.cons_append]
  refine wpIn_wide.2 ?_
  go_wp2_with fail
  have hz := Blk.new w 22 #[.slice none 0 0]
  have hbx := HBx.out.alloc (.cells #[.slice none 0 0] 22)
  have hb4 := below_alloc w (.cells #[.slice none 0 0] 22)
  have hlt := hz.lt
  obtain ⟨w4, hw4⟩ : ∃ w4, w.alloc (.cells #[.slice none 0 0] 22) = w4 := ⟨_, rfl⟩
  rw [hw4] at hz hbx hb4 hlt ⊢
  have Hz := Lib.hid hz
  have Hbx := Lib.hid hbx
  have Hb4 := Lib.hid hb4
  have Hlt := Lib.hid hlt
  clear hz hbx hb4 hlt hw4
  refine (wpIn_wide (n := 5)).1 ?_
  refine range_law1 (n := 5) (N := 4096) (gf := 48) (lb := #[.pointer (some ⟨b1, 0, none⟩)]) rfl (enters_of Try.func48 (by kernel_rfl) rfl) 7 5 (fun x : Rc => .slice x.a x.n x.c) (It w4.heap.size) (Bd w.heap.size b1) (fun _ _ h => h.others) (fun h k => h.trans k)
    (fun W l o o' hl h1 h2 => Bd.putObj (w := w4) Hb4.out.size Hbx.out.lt W l o o' hl h1 h2) (fun xs W => xs.map Rc.b = recs PS ∧ Came w.heap.size W.heap.size W xs) (fun xs W l o o' hl h1 h2 h => ⟨h.1, (h.2.put l o o' h1 h2).mono (by simp)⟩) ?hseq
    (ApI w w.heap.size b1 v1) (fun pre W W' h hu => h.it Hb4.out.size hu) (fun pre W l o o' hl h1 h2 h => h.put l o o' (Nat.le_trans Hb4.out.size hl) h1 h2)
    (fun o o' => (ApI.alloc ⟨Hb4.out, Hbx.out, .slice none 0 0, Hz.out, World.ownsRow_nil _ _ _ _⟩ o).alloc o') ?hassign ?hbody ?hdone
  case hseq =>
    intro l J W hbel hJ hY h0
    refine callsIn_wide.2 (recs_it PS H128.out Hlen.out w _ HV.out w4.heap.size b1 Hb4.out.size Hbx.out.lt 3 l J W ⟨Hb4.out.trans (hbel.mono Hb4.out.size), hbel.size, ?_, fun x hx => by simp at hx, h0⟩ hJ hY)
    have := Hbx.out.below hbel Hbx.out.lt
    rw [this.cell]; rfl
  case hassign =>
    intro l x W K hK
    gi_wp2
    exact hK
  case hbody =>
    rintro l pre x W ⟨bel, box, v, hlog, hrow⟩ hN
    have c0 : W.cell? ⟨w.heap.size, 0, none⟩ = some v := by rw [hlog.cell]; rfl
    have f0 := hlog.frozen 0
    obtain ⟨xa, xn, xc, xb⟩ := x
    obtain ⟨i0, hi, hz0, hz1, hz2⟩ := info_parts infoSl
    obtain ⟨va, vc, rfl⟩ := (Sl.of_own hrow).form
    have hnew := Blk.new W 25 #[.slice xa xn xc]
    have hcl : ∀ j u, [Value.slice xa xn xc][j]? = some u → (W.alloc (.cells #[.slice xa xn xc] 25)).cell? ((⟨W.heap.size, 0, none⟩ : Addr).add j) = some u := World.news_of_block hnew
    have hrowA := hrow.alloc (.cells #[.slice xa xn xc] 25)
    have hszA := Nat.le_trans bel.size (show W.heap.size ≤ (W.alloc (.cells #[.slice xa xn xc] 25)).heap.size by simp)
    have Hbel := Lib.hid bel
    have Hbox := Lib.hid box
    have Hlog := Lib.hid hlog
    have Hrow := Lib.hid hrow
    clear hnew bel box hlog hrow
    simp only [List.setIfInBounds_toArray, List.set_cons_zero, List.set_cons_succ]
    gi_wp2_with (first | (gi_at_builtin; refine wpListIn_append_own _ rfl (.tmp 8) (.tmp 10) 22 rfl w.heap.size 25 i0 _ 1 24 Try.underlying22 hi hz0 hz1 hz2 rfl (by decide) _ pre.length (pre.map Rc.v) rfl hrowA ⟨W.heap.size, 0, none⟩ 1 1 [.slice xa xn xc] rfl rfl hcl (by simp [Value.oneCell']) (by unfold maxLen; omega) (by omega) hszA ?_))
    intro v' w6 hown hgr _
    obtain ⟨a5, c5, rfl⟩ := (Sl.of_own hown).form
    have hlogA := Hlog.out.alloc (.cells #[.slice xa xn xc] 25)
    have hlog6 := Blk.grown hlogA hgr (Ne.symm (own_blk_ne hrowA hlogA (by decide)))
    have hu : Upd (fun k => k = w.heap.size ∨ (Value.slice va pre.length vc).ownBlock = some k) W (w6.setCell ⟨w.heap.size, 0, none⟩ (.slice a5 (pre.length + 1) c5)) :=
      (((Upd.refl _ W).alloc (.cells #[.slice xa xn xc] 25)).grown hgr (fun k hk => .inl (.inr hk))).setCell (p := ⟨w.heap.size, 0, none⟩) (.inl (.inl rfl)) _
    have hu6 : Upd (fun k => k = w.heap.size) w6 (w6.setCell ⟨w.heap.size, 0, none⟩ (.slice a5 (pre.length + 1) c5)) := (Upd.refl (fun k => k = w.heap.size) w6).setCell (p := ⟨w.heap.size, 0, none⟩) (.inl rfl) _
    have hT : ∀ k, (k = w.heap.size ∨ (Value.slice va pre.length vc).ownBlock = some k) → ∃ t cs, t ≠ 5 ∧ k ≠ b1 ∧ Blk W k t cs ∧ w.heap.size ≤ k := fun k hk => by
      rcases hk with rfl | hk
      · exact ⟨_, _, by decide, by have := Hblt.out; omega, Hlog.out, by omega⟩
      · rcases Hrow.out.2 with ⟨h1, _⟩ | ⟨gg, cap', cur, h1, hgb, hg2, _⟩
        · rw [h1] at hk; cases hk
        · rw [h1] at hk; cases hk; exact ⟨_, _, by decide, by
              have := own_blk_ne Hrow.out Hbox.out (by decide)
              rw [h1] at this
              intro e; exact this (by rw [← e]; rfl), hg2, hgb⟩
    have Hsec := Lib.hid (show ApI w w.heap.size b1 v1 (pre ++ [Rc.mk xa xn xc xb]) (w6.setCell ⟨w.heap.size, 0, none⟩ (.slice a5 (pre.length + 1) c5)) from
      ⟨Hbel.out.trans (hu.below Hbel.out.size (fun k hk hs => by obtain ⟨_, _, _, _, _, h⟩ := hT k hs; omega)), Hbox.out.upd hu (fun hs => by
        obtain ⟨t, cs, _, h2, h3, _⟩ := hT _ hs
        exact h2 rfl), .slice a5 (pre.length + 1) c5, hlog6.set_ 0 _, by
        rw [List.length_append, List.map_append]; exact hu6.own hown (fun k hk hs => by subst hs; exact own_blk_ne hown hlog6 (by decide) hk)⟩)
    have Hkp := Lib.hid (show KeepsOthers W (w6.setCell ⟨w.heap.size, 0, none⟩ (.slice a5 (pre.length + 1) c5)) from ⟨hu.size, fun k o hk ho => (hu.block k (Array.getElem?_eq_some_iff.1 hk).1 (fun hs => by
        obtain ⟨t, cs, _, _, h3, _⟩ := hT _ hs
        rw [Blk, hk] at h3; cases h3; cases ho)).trans hk⟩)
    have Hbd := Lib.hid (show Bd w.heap.size b1 W (w6.setCell ⟨w.heap.size, 0, none⟩ (.slice a5 (pre.length + 1) c5)) from hu.mono (fun k _ hs => by
        obtain ⟨t, cs, h1, h2, h3, h4⟩ := hT _ hs
        exact ⟨h4, h2, blk_u8 h3 h1⟩))
    have c0 : w6.cell? ⟨w.heap.size, 0, none⟩ = some (.slice va pre.length vc) := by rw [hlog6.cell]; rfl
    have f0 := hlog6.frozen 0
    clear hown hgr hlogA hlog6 hu hu6 hT hcl hrowA hszA
    gi_wp2
    exact ⟨Hkp.out, Hbd.out, Hsec.out⟩
  case hdone =>
    rintro D xs W hD ⟨hxs, hcame⟩ ⟨bel, box, v, hlog, hrow⟩ hK
    have c0 : W.cell? ⟨w.heap.size, 0, none⟩ = some v := by rw [hlog.cell]; rfl
    obtain ⟨va, vc, rfl⟩ := (Sl.of_own hrow).form
    have Hbel := Lib.hid bel
    have Hlog := Lib.hid hlog
    have Hrow := Lib.hid hrow
    have Hcame := Lib.hid hcame
    have HK := Lib.hid hK
    clear bel box hlog hrow hcame hK
    go_wp2_with fail
    have huX : Upd (fun k => k = D) W (W.putObj D (.deferred none)) := (Upd.refl _ W).grown (grownBy_putObj' W D (.deferred none)) (fun k e => by cases e; exact .inl rfl)
    have hnD : ∀ {e : TypeId} {v : Value} {n : Nat} {ys : List Value} {B : Nat}, W.ownsRow B e 1 v n ys → ∀ k, v.ownBlock = some k → ¬ k = D := fun h k hk hs => by
      subst hs
      rcases h.2 with ⟨rfl, _⟩ | ⟨gg, cap', cur, rfl, _, hg2, _⟩
      · cases hk
      · cases hk; have := HK.out; rw [hg2] at this; cases this
    have hrX := huX.own Hrow.out (hnD Hrow.out)
    have hcX : ∀ x ∈ xs, (W.putObj D (.deferred none)).ownsRow w.heap.size 5 1 x.v x.b.length (bc x.b) := fun x hx => huX.own (Hcame.out x hx).1 (hnD (Hcame.out x hx).1)
    have hbX : Below w.heap.size w (W.putObj D (.deferred none)) := Hbel.out.trans (huX.below Hbel.out.size (fun k hk hs => by have := Hb4.out.size; omega))
    have hlx : xs.length = (recs PS).length := by rw [← hxs, List.length_map]
    have hsecs : Secs (W.putObj D (.deferred none)) (.slice va xs.length vc) (recs PS) := by
      refine ⟨xs.map Rc.v, by rw [← hlx]; exact Sl.of_own hrX, fun i s hs => ?_⟩
      rw [← hxs, List.getElem?_map] at hs
      obtain ⟨x, hx, rfl⟩ := Option.map_eq_some_iff.1 hs
      exact ⟨x.v, by rw [List.getElem?_map, hx]; rfl, Sl.of_own (hcX x (List.mem_of_getElem? hx))⟩
    refine ⟨by simp, .inl ⟨D, _, rfl, run_takeDeferred HK.out, ?_⟩⟩
    exact ⟨.slice va xs.length vc, by simp [results, Try.results54, go_sem], _, rfl, hsecs, hbX⟩
set_option maxRecDepth 100000 in
theorem collect_any (PS : List (List UInt8)) (h128 : ∀ s ∈ PS, s.length = 128) (hlen : PS.length ≤ 4096) (w : World) (v1 : Value) (hv : Secs w v1 PS) (b1 : Nat) (hb : Blk w b1 22 #[v1]) :
    Calls Try.prog 40 #[.func (.func 48) #[] #[.pointer (some ⟨b1, 0, none⟩)]] w fun e w' => ∃ v, e = .returned v ∧ Secs w' v (recs PS) ∧ Below w.heap.size w w' := by
  have HA := Lib.hid (appendSeq_any PS h128 hlen w v1 hv b1 hb)
  clear h128 hlen hv hb
  go_enter Try.func40, Try.ntmps40
  go_wp2_with fail
  refine HA.out.mono ?_
  rintro e w' ⟨v, rfl, hs, hb⟩
  obtain ⟨va, vc, rfl⟩ := hs.len
  have Hs := Lib.hid hs
  have Hb := Lib.hid hb
  clear hs hb
  go_wp2_with fail
  go_ret
  exact ⟨_, rfl, Hs.out, Hb.out⟩
end Go.Proofs.Ytbinibpkbkhdlaa
