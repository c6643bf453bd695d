/- Intervals: loops that gather what an iterator over a union yields. -/
import Derived.Test.YtnjpjjefhpbfgaaIvE
import Derived.Test.YtnjpjjefhpbfgaaIvL
import Derived.Maps.OwnIn
import Derived.Shelf.Abstract
namespace Go.Proofs.Ytnjpjjefhpbfgaa
open Go.RowKit Go.Shelf
attribute [local go_sem] Oper.semAt_some

theorem Blk.ne_ {w : World} {g g' : Nat} {t t' : TypeId} {cs cs' : Array Value} (h : Blk w g t cs) (h' : Blk w g' t' cs') (hne : t ≠ t') : g ≠ g' := by
  rintro rfl
  unfold Blk at h h'
  rw [h] at h'
  injection h' with h'
  injection h' with _ ht
  exact hne ht
theorem own_blk_ne {w : World} {g : Nat} {t : TypeId} {cs : Array Value} {base : Nat} {e : TypeId} {size n : Nat} {v : Value} {xs : List Value} (h : w.ownsRow base e size v n xs) (hg : Blk w g t cs) (hne : e ≠ t) : v.ownBlock ≠ some g := by
  rcases h.2 with ⟨rfl, _⟩ | ⟨g', cap, cur, rfl, _, hh, _⟩
  · simp [Value.ownBlock]
  · intro he
    have : g' = g := by simpa [Value.ownBlock] using he
    subst this
    exact Blk.ne_ (t := e) hh hg hne rfl
theorem Blk.grown {w w' : World} {g : Nat} {t : TypeId} {cs : Array Value} {row : Option Nat} (h : Blk w g t cs) (hb : w.grownBy w' row) (hg : some g ≠ row) : Blk w' g t cs := (hb.block g h.lt hg).trans h

theorem marks_ret {P : Program} {n : Nat} {fn : Func} {R : Ending → World → Prop} {a : Act} {w : World} {v : Value} (hr : (results fn a.tmps).run P w = .ok v w) (hd : a.defers = []) (hR : R (.returned v) w) : bodyPostM Fence.wide n P fn R .ret a w := by
  show LeavesInM Fence.wide n P fn a.tmps R a.defers .returning w
  rw [hd]
  exact ⟨v, hr, hR⟩
theorem unionF_any (a : Option Addr) (n cap : Nat) (w : World) : Calls Try.prog 35 #[.slice a n cap] w fun e w' => e = .returned (.func (.func 42) #[] #[.pointer (some ⟨w.heap.size, 0, none⟩)]) ∧ w' = w.alloc (.cells #[.slice a n cap] 30) := by
  go_enter Try.func35, Try.ntmps35
  go_wp2_with fail
  go_ret
  exact ⟨rfl, rfl⟩
/-- the integers' list so far, in the loop's variable -/
structure AccI (w : World) (b1 : Nat) (pre : List Iv) (W : World) : Prop where
  bel : Below w.heap.size w W
  row : ∃ v, Blk W b1 30 #[v] ∧ Ow W w.heap.size v pre
theorem AccI.own {w : World} {b1 B : Nat} (hB : w.heap.size ≤ B) : OwnFrom B (AccI w b1) := by
  intro pre W W' row h hg hr
  obtain ⟨v, h1, h2⟩ := h.row
  refine ⟨h.bel.grown hg h.bel.size (fun k e => Nat.le_trans hB (hr k e).1), v, h1.grown hg (fun e => ?_), ?_⟩
  · obtain ⟨_, o, ho, hc⟩ := hr b1 e.symm
    rw [h1] at ho; cases ho; cases hc
  · refine World.ownsRow.kept h2 hg ?_
    cases hv : v.ownBlock
    · exact .inl rfl
    · rename_i k
      refine .inr fun e => ?_
      obtain ⟨_, o, ho, hc⟩ := hr k e.symm
      obtain ⟨_, ⟨h0, _⟩ | ⟨g, cap, cur, h0, _, hg2, _⟩⟩ := h2
      · rw [h0] at hv; cases hv
      · rw [h0] at hv; cases hv
        rw [hg2] at ho; cases ho; cases hc
theorem acc_round {w W w6 : World} {b1 : Nat} {pre : List Iv} {lo hi : Int} {v v' : Value} (hw : w.heap.size ≤ b1) (hbel : Below w.heap.size w W) (hblk : Blk W b1 30 #[v]) (hrow : Ow W w.heap.size v pre)
    (hown : w6.ownsRow w.heap.size 23 2 v' (pre.length + 1) (ivs pre ++ [.int .i64 lo, .int .i64 hi])) (hgr : (W.alloc (.cells #[.int .i64 lo, .int .i64 hi] 23)).grownBy w6 v.ownBlock) (hat : v'.ownBlock = v.ownBlock ∨ v'.ownBlock = some (W.heap.size + 1)) :
    KeepsOthers W (w6.setCell ⟨b1, 0, none⟩ v') ∧ KpI b1 W (w6.setCell ⟨b1, 0, none⟩ v') ∧ AccI w b1 (pre ++ [(lo, hi)]) (w6.setCell ⟨b1, 0, none⟩ v') ∧ Blk w6 b1 30 #[v] := by
  have hpt : ptB W b1 = v.ownBlock := by unfold ptB; rw [hblk.cell]; rfl
  have hblkA := hblk.alloc (.cells #[.int .i64 lo, .int .i64 hi] 23)
  have hne : v.ownBlock ≠ some b1 := own_blk_ne hrow hblk (by decide)
  have hblk6 := hblkA.grown hgr (Ne.symm hne)
  have hu : Upd (fun k => k = b1 ∨ v.ownBlock = some k) W (w6.setCell ⟨b1, 0, none⟩ v') :=
    (((Upd.refl _ W).alloc (.cells #[.int .i64 lo, .int .i64 hi] 23)).grown hgr (fun k hk => .inl (.inr hk))).setCell (p := ⟨b1, 0, none⟩) (.inl (.inl rfl)) _
  have hu6 : Upd (fun k => k = b1) w6 (w6.setCell ⟨b1, 0, none⟩ v') := (Upd.refl (fun k => k = b1) w6).setCell (p := ⟨b1, 0, none⟩) (.inl rfl) _
  have hown' : (w6.setCell ⟨b1, 0, none⟩ v').ownsRow w.heap.size 23 2 v' (pre.length + 1) (ivs pre ++ [.int .i64 lo, .int .i64 hi]) := hu6.own hown (fun k hk hs => by subst hs; exact own_blk_ne hown hblk6 (by decide) hk)
  have hcell : ∀ k, (k = b1 ∨ v.ownBlock = some k) → ∃ cs t, W.heap[k]? = some (.cells cs t (0, 0)) ∧ w.heap.size ≤ k := fun k hk => by
    rcases hk with rfl | hk
    · exact ⟨_, _, hblk, hw⟩
    · obtain ⟨_, ⟨h0, _⟩ | ⟨g, cap, cur, h0, hgb, hg2, _⟩⟩ := hrow
      · rw [h0] at hk; cases hk
      · rw [h0] at hk; cases hk
        exact ⟨_, _, hg2, hgb⟩
  have hblkF := hblk6.set_ 0 v'
  refine ⟨⟨hu.size, fun k o hk ho => (hu.block k (Array.getElem?_eq_some_iff.1 hk).1 (fun hs => ?_)).trans hk⟩, ⟨hu.mono (fun k _ hs => ?_), ?_⟩, ⟨hbel.trans (hu.below hbel.size (fun k hk hs => ?_)), v', hblkF, ?_⟩, hblk6⟩
  · obtain ⟨cs, t, h1, _⟩ := hcell k hs
    rw [hk] at h1; cases h1; cases ho
  · rcases hs with hs | hs
    · exact .inl hs
    · exact .inr (.inl (hpt.trans hs))
  · have hptF : ptB (w6.setCell ⟨b1, 0, none⟩ v') b1 = v'.ownBlock := by unfold ptB; rw [hblkF.cell]; rfl
    rw [hptF, hpt]
    rcases hat with h | h
    · exact .inl h
    · refine .inr fun k hk => ?_
      rw [h] at hk
      cases hk
      omega
  · obtain ⟨_, _, _, h⟩ := hcell k hs
    omega
  · unfold Ow
    rw [List.length_append, ivs_app]
    exact hown'
theorem union_seq (l : List Iv) (n : Nat) (hn : l.length = n) (hm : n ≤ 1000000) (hck : ∀ i ∈ l, ck i = 0) (w0 : World) (v : Value) (hr : Rd w0 v l) (b0 b1 : Nat) (hb0 : Blk w0 b0 30 #[v]) (hb1 : b1 < w0.heap.size) (hp : ptB w0 b1 = none) (N : Nat) :
    ∀ (yl : Nat) (J Jx : List Iv → World → Prop) (W : World), Below w0.heap.size w0 W → AbidesFrom W.heap.size J → AbidesFrom W.heap.size Jx →
      (∀ pre x W1, J pre W1 → pre.length < 1000000 → YieldAt Fence.wide (N - 1 - 1) Try.prog yl #[ivA x] W1 fun e W' => (e = .returned (.bool true) ∧ J (pre ++ [x]) W' ∧ KpI b1 W1 W') ∨ (e = .returned (.bool false) ∧ Jx (pre ++ [x]) W')) → J [] W →
      CallsIn Fence.wide (N - 1) Try.prog 42 (#[.func (.yield yl) #[] #[]] ++ #[.pointer (some ⟨b0, 0, none⟩)]) W fun e W' => (∃ v, e = .returned v) ∧ ((∃ xs, xs = uni l ∧ J xs W') ∨ (∃ pre, (∃ p x r, pre = p ++ [x] ∧ uni l = p ++ x :: r) ∧ Jx pre W')) :=
  fun yl J Jx W hb hJ hJx hY h0 => (callsIn_wide.2 (union_it l n hn hm hck w0 v hr b0 b1 hb0 hb1 hp (N - 1 - 1) yl J Jx W hb hJ hY hJx h0)).mono fun _ _ ⟨h1, h2⟩ => ⟨h1, h2.elim (fun h => .inl ⟨_, rfl, h⟩) (fun ⟨p, x, ⟨r, hr⟩, h⟩ => .inr ⟨p ++ [x], ⟨p, x, r, rfl, hr⟩, h⟩)⟩
set_option maxRecDepth 100000 in
set_option maxHeartbeats 4000000 in
theorem appendSeq_any (l : List Iv) (n : Nat) (hn : l.length = n) (hm : n ≤ 100000) (hck : ∀ i ∈ l, ck i = 0) (v : Value) (w : World) (hr : Rd w v l) (b0 : Nat) (hb0 : Blk w b0 30 #[v]) :
    Calls Try.prog 47 #[.slice none 0 0, .func (.func 42) #[] #[.pointer (some ⟨b0, 0, none⟩)]] w fun e w' => ∃ u, e = .returned u ∧ Ow w' w.heap.size u (uni l) ∧ Below w.heap.size w w' := by
  have HR := Lib.hid hr
  have HB0 := Lib.hid hb0
  have Hck := Lib.hid hck
  clear hr hb0 hck
  refine callsIn_wide.1 (callsIn_of_wp_marks (n := 5) Try.func47 rfl trivial ?_ rfl)
  simp only [Try.ntmps47, List.size_toArray, List.length_cons, List.length_nil, Nat.reduceAdd, Nat.reduceSub, Array.replicate_succ, Array.replicate_zero, List.push_toArray, List.append_toArray, List.nil_append, List.cons_append]
  refine wpIn_wide.2 ?_
  go_wp2_with fail
  have hz := Blk.new w 30 #[.slice none 0 0]
  have hb4 := below_alloc w (.cells #[.slice none 0 0] 30)
  have hlt := hz.lt
  obtain ⟨w4, hw4⟩ : ∃ w4, w.alloc (.cells #[.slice none 0 0] 30) = w4 := ⟨_, rfl⟩
  rw [hw4] at hz hb4 hlt ⊢
  have Hz := Lib.hid hz
  have Hb4 := Lib.hid hb4
  have Hlt := Lib.hid hlt
  have HWB := Lib.hid (Nat.le_refl w.heap.size)
  have HP := Lib.hid (show ptB w4 w.heap.size = none by unfold ptB; rw [hz.cell]; rfl)
  clear hz hb4 hlt hw4
  refine (wpIn_wide (n := 5)).1 ?_
  refine range_lawS (n := 5) 5 (N := 1000000) (gf := 42) (lb := #[.pointer (some ⟨b0, 0, none⟩)]) rfl (enters_of Try.func42 (by kernel_rfl) rfl) ivA (fun x => (ivc x).toArray) 23 (KpI w.heap.size) (fun h k => h.trans k)
    (fun W l o o' hl h1 h2 => KpI.put W l o o' (by have := Hlt.out; omega) h1 h2) (fun W o hW => KpI.alloc W o (by have := Hlt.out; omega)) (fun xs => xs = uni l) (fun pre => ∃ p x r, pre = p ++ [x] ∧ uni l = p ++ x :: r) ?hseq
    (AccI w w.heap.size) (fun _ _ => False) (AccI.own Hb4.out.size) (fun _ _ _ _ h _ _ => h) ⟨Hb4.out, _, Hz.out, World.ownsRow_nil _ _ _ _⟩ ?hassign ?hbody ?hdone ?hstop
  case hseq => exact union_seq l n hn (by omega) Hck.out w4 v (HR.out.next Hb4.out) b0 w.heap.size (HB0.out.below Hb4.out HB0.out.lt) Hlt.out HP.out 5
  case hassign =>
    rintro l ⟨lo, hi⟩ W K hK
    unfold ivA at hK ⊢
    gi_wp2
    exact hK
  case hbody =>
    rintro l pre ⟨lo, hi⟩ b W ⟨bel, v, hblk, hrow⟩ hbx hwb hN
    obtain ⟨i0, hi', hz0, hz1, hz2⟩ := info_parts infoIv
    obtain ⟨va, vc, rfl⟩ := (Ow.rd hrow).len
    obtain ⟨c0, f0⟩ := cells1 hblk
    obtain ⟨x0, x1, _, _⟩ := cells2 (show Blk W b 23 #[.int .i64 lo, .int .i64 hi] from hbx)
    have hnew := Blk.new W 23 #[.int .i64 lo, .int .i64 hi]
    have hcl : ∀ j u, [Value.int .i64 lo, Value.int .i64 hi][j]? = some u → (W.alloc (.cells #[.int .i64 lo, .int .i64 hi] 23)).cell? ((⟨W.heap.size, 0, none⟩ : Addr).add j) = some u := World.news_of_block hnew
    have hrowA : (W.alloc (.cells #[.int .i64 lo, .int .i64 hi] 23)).ownsRow w.heap.size 23 2 (.slice va pre.length vc) pre.length (ivs pre) := hrow.next (below_alloc W _)
    have hszA := Nat.le_trans bel.size (show W.heap.size ≤ (W.alloc (.cells #[.int .i64 lo, .int .i64 hi] 23)).heap.size by simp)
    have Hbel := Lib.hid bel
    have Hblk := Lib.hid hblk
    have Hrow := Lib.hid hrow
    clear hnew bel hblk hrow hbx hwb
    simp only [List.setIfInBounds_toArray, List.set_cons_zero, List.set_cons_succ]
    gi_wp2_with (first | (gi_at_builtin; refine wpListIn_append_own_at _ rfl (.tmp 8) (.tmp 10) 30 rfl w.heap.size 23 i0 _ 2 16 Try.underlying30 hi' hz0 hz1 hz2 rfl (by decide) (.slice va pre.length vc) pre.length (ivs pre) rfl hrowA ⟨W.heap.size, 0, none⟩ 1 1 [.int .i64 lo, .int .i64 hi] rfl rfl hcl (by intro u hu; simp at hu; rcases hu with rfl | rfl <;> rfl) (by unfold maxLen; omega) (by omega) hszA ?_))
    intro v' w6 hown hgr _ hat
    have hR := acc_round HWB.out Hbel.out Hblk.out Hrow.out hown hgr hat
    obtain ⟨a5, c5, rfl⟩ := (Sl.of_own hown).form
    obtain ⟨c0, f0⟩ := cells1 hR.2.2.2
    have HR := Lib.hid hR
    clear hown hgr hcl hrowA hszA hat hR
    gi_wp2
    exact ⟨HR.out.1, HR.out.2.1, HR.out.2.2.1⟩
  case hstop =>
    rintro D pre W hD _ h
    exact h.elim
  case hdone =>
    rintro D xs W hD rfl ⟨bel, v, hblk, hrow⟩ hK
    obtain ⟨c0, _⟩ := cells1 hblk
    obtain ⟨va, vc, rfl⟩ := (Ow.rd hrow).len
    have Hbel := Lib.hid bel
    have Hrow := Lib.hid hrow
    have HK := Lib.hid hK
    clear bel hblk hrow hK
    go_wp2_with fail
    have huX : Upd (fun k => k = D) W (W.putObj D (.deferred none)) := (Upd.refl _ W).grown (grownBy_putObj' W D (.deferred none)) (fun k e => by cases e; exact .inl rfl)
    have hrX : Ow (W.putObj D (.deferred none)) w.heap.size (.slice va (uni l).length vc) (uni l) := Hrow.out.upd huX (fun k hk hs => by
      subst hs
      obtain ⟨_, ⟨h0, _⟩ | ⟨gg, cap', cur, h0, _, hg2, _⟩⟩ := Hrow.out
      · rw [h0] at hk; cases hk
      · rw [h0] at hk; cases hk; have := HK.out; rw [hg2] at this; cases this)
    have hbX : Below w.heap.size w (W.putObj D (.deferred none)) := Hbel.out.trans (huX.below Hbel.out.size (fun k hk hs => by have := Hb4.out.size; omega))
    have hrun := run_takeDeferred (P := Try.prog) HK.out
    obtain ⟨WX, hWX⟩ : ∃ WX, W.putObj D (.deferred none) = WX := ⟨_, rfl⟩
    rw [hWX] at hrX hbX hrun
    refine ⟨by simp, .inl ⟨D, WX, rfl, hrun, ?_⟩⟩
    exact ⟨.slice va (uni l).length vc, by simp [results, Try.results47, go_sem, *], _, rfl, hrX, hbX⟩
end Go.Proofs.Ytnjpjjefhpbfgaa
