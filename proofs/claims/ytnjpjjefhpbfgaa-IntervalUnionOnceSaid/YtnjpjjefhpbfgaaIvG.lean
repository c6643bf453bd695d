/- Intervals: Collect and Union. -/
import Derived.Test.YtnjpjjefhpbfgaaIvF
namespace Go.Proofs.Ytnjpjjefhpbfgaa
open Go.RowKit Go.Shelf
attribute [local go_sem] Oper.semAt_some

set_option maxRecDepth 100000 in
theorem collect_any (l : List Iv) (n : Nat) (hn : l.length = n) (hm : n ≤ 100000) (hck : ∀ i ∈ l, ck i = 0) (v : Value) (w : World) (hr : Rd w v l) (b0 : Nat) (hb0 : Blk w b0 30 #[v]) :
    Calls Try.prog 39 #[.func (.func 42) #[] #[.pointer (some ⟨b0, 0, none⟩)]] w fun e w' => ∃ u, e = .returned u ∧ Ow w' w.heap.size u (uni l) ∧ Below w.heap.size w w' := by
  have HA := Lib.hid (appendSeq_any l n hn hm hck v w hr b0 hb0)
  clear hck hr hb0
  go_enter Try.func39, Try.ntmps39
  go_wp2_with fail
  refine HA.out.mono ?_
  rintro e w' ⟨u, rfl, hs, hb⟩
  obtain ⟨va, vc, rfl⟩ := (Ow.rd hs).len
  have Hs := Lib.hid hs
  have Hb := Lib.hid hb
  clear hs hb
  go_wp2_with fail
  go_ret
  exact ⟨_, rfl, Hs.out, Hb.out⟩
/-- what Union gives -/
def unR (l : List Iv) : List Iv := if ckL l = 0 then uni l else []
set_option maxRecDepth 100000 in
set_option maxHeartbeats 4000000 in
theorem union_any (l : List Iv) (n : Nat) (hn : l.length = n) (hm : n ≤ 100000) (a : Option Addr) (cap : Nat) (w : World) (hr : Rd w (.slice a n cap) l) :
    Calls Try.prog 19 #[.slice a n cap] w fun e w' => ∃ u, e = .returned (.tuple #[u, .int .i64 (ckL l)]) ∧ Ow w' w.heap.size u (unR l) ∧ Below w.heap.size w w' := by
  have HR := Lib.hid hr
  have hz := Blk.new w 30 #[.slice none 0 0]
  have hb4 := below_alloc w (.cells #[.slice none 0 0] 30)
  obtain ⟨w1, hw1⟩ : ∃ w1, w.alloc (.cells #[.slice none 0 0] 30) = w1 := ⟨_, rfl⟩
  rw [hw1] at hz hb4
  have HC := Lib.hid (checkAll_any l n hn (by unfold maxLen; omega) a cap w1 (hr.next hb4))
  have Hz := Lib.hid hz
  have Hb4 := Lib.hid hb4
  have HW1 := Lib.hid hw1
  have hok := ckL_ok (l := l)
  have hun : unR l = if ckL l = 0 then uni l else [] := rfl
  obtain ⟨ce, hce⟩ : ∃ x, ckL l = x := ⟨_, rfl⟩
  rw [hce] at HC hok hun ⊢
  clear hr hz hb4 hw1 hce
  refine callsIn_wide.1 (callsIn_of_wp_marks (n := 5) Try.func19 rfl trivial ?_ rfl)
  simp only [Try.ntmps19, List.size_toArray, List.length_cons, List.length_nil, Nat.reduceAdd, Nat.reduceSub, Array.replicate_succ, Array.replicate_zero, List.push_toArray, List.append_toArray, List.nil_append, List.cons_append]
  refine wpIn_wide.2 ?_
  go_wp2_with (rw [HW1.out])
  refine HC.out.mono ?_
  rintro e w2 ⟨rfl, hb2⟩
  have Hb2 := Lib.hid (Hb4.out.trans (hb2.mono Hb4.out.size))
  have Hz2 := Lib.hid (Hz.out.below hb2 Hz.out.lt)
  clear hb2
  by_cases h0 : ce = 0
  · subst h0
    have Hck := Lib.hid (hok rfl)
    rw [if_pos rfl] at hun
    have Hun := Lib.hid hun
    clear hok hun
    go_wp2_with fail
    refine (unionF_any a n cap w2).mono ?_
    rintro e w3 ⟨rfl, hw3⟩
    have hb0 := Blk.new w2 30 #[.slice a n cap]
    have hz3 := Hz2.out.alloc (.cells #[.slice a n cap] 30)
    have hb3 := Hb2.out.alloc Hb2.out.size (.cells #[.slice a n cap] 30)
    rw [← hw3] at hb0 hz3 hb3
    have Hb0 := Lib.hid hb0
    have Hz3 := Lib.hid hz3
    have Hb3 := Lib.hid hb3
    have HWB := Lib.hid (Nat.le_refl w.heap.size)
    have HP := Lib.hid (show ptB w3 w.heap.size = none by unfold ptB; rw [hz3.cell]; rfl)
    clear hb0 hz3 hb3 hw3
    go_wp2_with fail
    refine (wpIn_wide (n := 5)).1 ?_
    refine range_lawS (n := 5) 5 (N := 1000000) (gf := 42) (lb := #[.pointer (some ⟨w2.heap.size, 0, none⟩)]) rfl (enters_of Try.func42 (by kernel_rfl) rfl) ivA (fun x => (ivc x).toArray) 23 (KpI w.heap.size) (fun h k => h.trans k)
      (fun W l o o' hl h1 h2 => KpI.put W l o o' (by have := Hz3.out.lt; omega) h1 h2) (fun W o hW => KpI.alloc W o (by have := Hz3.out.lt; omega)) (fun xs => xs = uni l) (fun pre => ∃ p x r, pre = p ++ [x] ∧ uni l = p ++ x :: r) ?hseq
      (AccI w w.heap.size) (fun _ _ => False) (AccI.own Hb3.out.size) (fun _ _ _ _ h _ _ => h) ⟨Hb3.out, _, Hz3.out, World.ownsRow_nil _ _ _ _⟩ ?hassign ?hbody ?hdone ?hstop
    case hseq => exact union_seq l n hn (by omega) Hck.out w3 _ (HR.out.next Hb3.out) w2.heap.size w.heap.size Hb0.out Hz3.out.lt HP.out 5
    case hassign =>
      rintro l ⟨lo, hi⟩ W K hK
      unfold ivA at hK ⊢
      gi_wp2
      exact hK
    case hbody =>
      rintro l pre ⟨lo, hi⟩ b W ⟨bel, v, hblk, hrow⟩ hbx hwb hN
      obtain ⟨i0, hi', hz0, hz1, hz2⟩ := info_parts infoIv
      obtain ⟨va, vc, rfl⟩ := (Ow.rd hrow).len
      obtain ⟨c0, f0⟩ := cells1 hblk
      obtain ⟨x0, x1, _, _⟩ := cells2 (show Blk W b 23 #[.int .i64 lo, .int .i64 hi] from hbx)
      have hnew := Blk.new W 23 #[.int .i64 lo, .int .i64 hi]
      have hcl : ∀ j u, [Value.int .i64 lo, Value.int .i64 hi][j]? = some u → (W.alloc (.cells #[.int .i64 lo, .int .i64 hi] 23)).cell? ((⟨W.heap.size, 0, none⟩ : Addr).add j) = some u := World.news_of_block hnew
      have hrowA : (W.alloc (.cells #[.int .i64 lo, .int .i64 hi] 23)).ownsRow w.heap.size 23 2 (.slice va pre.length vc) pre.length (ivs pre) := hrow.next (below_alloc W _)
      have hszA := Nat.le_trans bel.size (show W.heap.size ≤ (W.alloc (.cells #[.int .i64 lo, .int .i64 hi] 23)).heap.size by simp)
      have Hbel := Lib.hid bel
      have Hblk := Lib.hid hblk
      have Hrow := Lib.hid hrow
      clear hnew bel hblk hrow hbx hwb
      simp only [List.setIfInBounds_toArray, List.set_cons_zero, List.set_cons_succ]
      gi_wp2_with (first | (gi_at_builtin; refine wpListIn_append_own_at _ rfl (.tmp 14) (.tmp 16) 30 rfl w.heap.size 23 i0 _ 2 16 Try.underlying30 hi' hz0 hz1 hz2 rfl (by decide) (.slice va pre.length vc) pre.length (ivs pre) rfl hrowA ⟨W.heap.size, 0, none⟩ 1 1 [.int .i64 lo, .int .i64 hi] rfl rfl hcl (by intro u hu; simp at hu; rcases hu with rfl | rfl <;> rfl) (by unfold maxLen; omega) (by omega) hszA ?_))
      intro v' w6 hown hgr _ hat
      have hR := acc_round HWB.out Hbel.out Hblk.out Hrow.out hown hgr hat
      obtain ⟨a5, c5, rfl⟩ := (Sl.of_own hown).form
      obtain ⟨c0, f0⟩ := cells1 hR.2.2.2
      have HR := Lib.hid hR
      clear hown hgr hcl hrowA hszA hat hR
      gi_wp2
      exact ⟨HR.out.1, HR.out.2.1, HR.out.2.2.1⟩
    case hstop =>
      rintro D pre W hD _ h
      exact h.elim
    case hdone =>
      rintro D xs W hD rfl ⟨bel, v, hblk, hrow⟩ hK
      obtain ⟨va, vc, rfl⟩ := (Ow.rd hrow).len
      obtain ⟨c0, f0⟩ := cells1 hblk
      have Hbel := Lib.hid bel
      have Hblk := Lib.hid hblk
      have Hrow := Lib.hid hrow
      have HK := Lib.hid hK
      clear bel hblk hrow hK
      go_wp2_with fail
      have hlF := Hblk.out.set_ 0 (.slice va (uni l).length vc)
      have hDn : D ≠ w.heap.size := by have := Hz3.out.lt; omega
      have huF : Upd (fun k => k = w.heap.size) W (W.setCell ⟨w.heap.size, 0, none⟩ (.slice va (uni l).length vc)) := (Upd.refl (fun k => k = w.heap.size) W).setCell (p := ⟨w.heap.size, 0, none⟩) (.inl rfl) _
      have hKF := huF.heap HK.out hDn
      have hrF := Hrow.out.upd huF (fun k hk hs => by subst hs; exact own_blk_ne Hrow.out Hblk.out (by decide) hk)
      obtain ⟨WF, hWF⟩ : ∃ WF, W.setCell ⟨w.heap.size, 0, none⟩ (.slice va (uni l).length vc) = WF := ⟨_, rfl⟩
      rw [hWF] at hlF huF hKF hrF ⊢
      have huX : Upd (fun k => k = D) WF (WF.putObj D (.deferred none)) := (Upd.refl _ WF).grown (grownBy_putObj' WF D (.deferred none)) (fun k e => by cases e; exact .inl rfl)
      have hrX : Ow (WF.putObj D (.deferred none)) w.heap.size (.slice va (uni l).length vc) (uni l) := hrF.upd huX (fun k hk hs => by
        subst hs
        obtain ⟨_, ⟨h0, _⟩ | ⟨gg, cap', cur, h0, _, hg2, _⟩⟩ := hrF
        · rw [h0] at hk; cases hk
        · rw [h0] at hk; cases hk; rw [hg2] at hKF; cases hKF)
      have hlX := huX.heap hlF (fun e => hDn e.symm)
      have hbX : Below w.heap.size w (WF.putObj D (.deferred none)) := Hbel.out.trans ((huF.below Hbel.out.size (fun k hk hs => by omega)).trans (huX.below (Nat.le_trans Hbel.out.size huF.size) (fun k hk hs => by have := Hb3.out.size; omega)))
      have hrun := run_takeDeferred (P := Try.prog) hKF
      obtain ⟨WX, hWX⟩ : ∃ WX, WF.putObj D (.deferred none) = WX := ⟨_, rfl⟩
      rw [hWX] at hrX hbX hrun hlX
      obtain ⟨c0, f0⟩ := cells1 hlX
      refine ⟨by simp, .inl ⟨D, WX, rfl, hrun, ?_⟩⟩
      exact ⟨.tuple #[.slice va (uni l).length vc, .int .i64 0], by simp [results, Try.results19, go_sem, *], _, rfl, by rw [Hun.out]; exact hrX, hbX⟩
  · rw [if_neg h0] at hun
    have Hun := Lib.hid hun
    have f0 : ((ce : Int) != 0) = true := by simpa using h0
    obtain ⟨c0, g0⟩ := cells1 Hz2.out
    have Hlt2 := Lib.hid Hz2.out.lt
    clear hok hun h0
    go_wp2_with fail
    have hzF := Hz2.out.set_ 0 (.slice none 0 0)
    obtain ⟨c0, _⟩ := cells1 hzF
    exact marks_ret (v := .tuple #[.slice none 0 0, .int .i64 ce]) (by simp [results, Try.results19, go_sem, *]) rfl
      ⟨_, rfl, by rw [Hun.out]; exact World.ownsRow_nil _ _ _ _, Hb2.out.setCell (p := ⟨w.heap.size, 0, none⟩) (Nat.le_refl _) _⟩
end Go.Proofs.Ytnjpjjefhpbfgaa
