/- Disk: the reference's Copy. -/
import Derived.Test.YtekmdaphkgkgaaaDkS
namespace Go.Proofs.Ytekmdaphkgkgaaa
open Go.RowKit

theorem own_own_ne {w : World} {B B' n n' : Nat} {v v' : Value} {xs xs' : List Value} {e e' : TypeId} (h : w.ownsRow B e 1 v n xs) (h' : w.ownsRow B' e' 1 v' n' xs') (hne : e ≠ e') : v.ownBlock = none ∨ v.ownBlock ≠ v'.ownBlock := by
  obtain ⟨_, ⟨rfl, _⟩ | ⟨g, cap, cur, rfl, hb, hheap, _⟩⟩ := h'
  · cases hv : v.ownBlock
    · exact .inl rfl
    · right; simp [Value.ownBlock]
  · right
    show v.ownBlock ≠ some g
    exact own_blk_ne h hheap hne
theorem own_base {w : World} {B B' n : Nat} {v : Value} {xs : List Value} {e : TypeId} (h : w.ownsRow B e 1 v n xs) (hb : B' ≤ B) : w.ownsRow B' e 1 v n xs := by
  obtain ⟨h1, h2⟩ := h
  refine ⟨h1, ?_⟩
  rcases h2 with h2 | ⟨g, cap, cur, a, b, c⟩
  · exact .inl h2
  · exact .inr ⟨g, cap, cur, a, Nat.le_trans hb b, c⟩
/-- a row of k copies -/
def CpRel (w : World) (B k : Nat) (S : List (List UInt8)) (v : Value) (wr : World) : Prop :=
  ∃ vs : List Value, wr.ownsRow B 32 1 v k vs ∧ (∀ (i : Nat) (s : List UInt8), i < k → S[i]? = some s → ∃ x, vs[i]? = some x ∧ wr.ownsRow B 5 1 x s.length (bc s)) ∧ Below w.heap.size w wr
theorem cp_step {w wr w5 Y w1 : World} {B k gg gcap : Nat} {S : List (List UInt8)} {s : List UInt8} {v v5 : Value} {vs : List Value}
    (hown : wr.ownsRow B 32 1 v k vs) (hvs : ∀ (i : Nat) (s : List UInt8), i < k → S[i]? = some s → ∃ x, vs[i]? = some x ∧ wr.ownsRow B 5 1 x s.length (bc s)) (hb : Below w.heap.size w wr) (hB : w.heap.size ≤ B)
    (hjs : S[k]? = some s) (hb5 : Below wr.heap.size wr w5) (hown5 : w5.ownsRow wr.heap.size 5 1 v5 s.length (bc s)) (hBw : B ≤ wr.heap.size) (hY : Below w5.heap.size w5 Y)
    (hown1 : w1.ownsRow B 32 1 (.slice (some ⟨gg, 0, none⟩) (k + 1) gcap) (k + 1) (vs ++ [v5])) (hgrow : Y.grownBy w1 v.ownBlock) :
    CpRel w B (k + 1) S (.slice (some ⟨gg, 0, none⟩) (k + 1) gcap) w1 := by
  have hl : vs.length = k := by have := hown.1; omega
  have hY0 : Below wr.heap.size wr Y := hb5.trans (hY.mono hb5.size)
  have hownY : Y.ownsRow B 32 1 v k vs := (Upd.of_below (B := wr.heap.size) hY0).own hown (fun q hq h => by have := (hown.lt q hq).2; omega)
  have keep : ∀ {x : Value} {r : List UInt8}, Y.ownsRow B 5 1 x r.length (bc r) → w1.ownsRow B 5 1 x r.length (bc r) := fun h => h.kept hgrow (own_own_ne h hownY (by decide))
  refine ⟨_, hown1, fun i r hi hr => ?_, ?_⟩
  · rcases Nat.lt_or_ge i k with h | h
    · obtain ⟨x, h1, h2⟩ := hvs i r h hr
      exact ⟨x, by rw [List.getElem?_append_left (by omega)]; exact h1, keep ((Upd.of_below (B := wr.heap.size) hY0).own h2 (fun q hq h => by have := (h2.lt q hq).2; omega))⟩
    · have hik : i = k := by omega
      subst hik
      rw [hjs] at hr
      cases hr
      refine ⟨v5, by rw [List.getElem?_append_right (by omega), hl, Nat.sub_self]; rfl, keep ?_⟩
      exact own_base ((Upd.of_below (B := w5.heap.size) hY).own hown5 (fun q hq h => by have := (hown5.lt q hq).2; omega)) hBw
  · exact (hb.trans (hY0.mono hb.size)).grown hgrow (by have := hY0.size; have := hb.size; omega) (fun q hq => by have := (hown.lt q hq).1; omega)
theorem cp_secs {w wr W : World} {B : Nat} {S : List (List UInt8)} {v : Value} (h : CpRel w B S.length S v wr) (hU : Upd (fun q => q < B) wr W) : Secs W v S := by
  obtain ⟨vs, hown, hvs, _⟩ := h
  refine ⟨vs, Sl.of_own (hU.own hown (fun q hq e => by have := (hown.lt q hq).1; omega)), fun i s hs => ?_⟩
  obtain ⟨x, h1, h2⟩ := hvs i s (List.getElem?_eq_some_iff.1 hs).1 hs
  exact ⟨x, h1, Sl.of_own (hU.own h2 (fun q hq e => by have := (h2.lt q hq).1; omega))⟩
set_option maxRecDepth 100000 in
set_option maxHeartbeats 4000000 in
theorem refCopy_any (D : Dk) (d : Value) (w : World) (hd : DkV w d D) (h12 : D.secs.length ≤ 4096) (h256 : ∀ s ∈ D.secs, s.length ≤ 256) :
    Calls Try.prog 14 #[d] w fun e w' => RetD D w e w' := by
  obtain ⟨v, rfl, hs⟩ := hd
  obtain ⟨a, cap, rfl⟩ := hs.len
  obtain ⟨S, left, tear, stop⟩ := D
  simp only [] at hs h12 h256
  have HS := Lib.hid hs
  have H256 := Lib.hid h256
  unfold dkAgg
  simp only []
  clear hs h256
  obtain ⟨i0, hi, hz0, hz1, hz2⟩ := info_parts infoSl
  obtain ⟨iu, hiu, hu0, hu1, hu2⟩ := info_parts infoU8
  go_enter Try.func14, Try.ntmps14
  go_wp2_with fail
  go_loopw [3, 4] (fun l i wr => ∃ k : Nat, k ≤ S.length ∧ i = .int .i64 k ∧ CpRel w (w.heap.size + 2) k S l wr ∧ Blk wr w.heap.size 26 #[.slice a S.length cap, .int .i64 left, .int .i64 tear, .bool stop] ∧ Blk wr (w.heap.size + 1) 26 #[.slice none 0 0, .int .i64 0, .int .i64 0, .bool false]) (fun _ i _ => S.length - (intOf i).toNat)
  case atStart =>
    refine ⟨0, by omega, rfl, ⟨[], ?_, fun i s h => by omega, ((below_alloc w _).alloc (by simp) _).alloc (by simp; omega) _⟩, ((Blk.new w _ _).alloc _).alloc _, (blk_new2 w _ _ _).alloc _⟩
    have := own_empty' ((w.alloc (.cells #[.slice a S.length cap, .int .i64 left, .int .i64 tear, .bool stop] 26)).alloc (.cells #[.slice none 0 0, .int .i64 0, .int .i64 0, .bool false] 26)) (w.heap.size + 2) (by simp) 32 1
    simpa using this
  case round =>
    obtain ⟨k, hk, rfl, ⟨vs, hown, hvs, hb⟩, hD, hR⟩ := hrel
    obtain ⟨x, cx, rfl⟩ := (Sl.of_own hown).form
    have Hvs := Lib.hid hvs
    have HD := Lib.hid hD
    have HR := Lib.hid hR
    have hDl := hD.lt
    have hRl := hR.lt
    obtain ⟨b0, b1, b2, b3, f0, f1, f2, f3⟩ := dkCells hD
    clear hvs hD
    by_cases hlt : k < S.length
    · obtain ⟨g, off, rfl, hcap, hc⟩ := (HS.out.next hb).at_ (by omega)
      obtain ⟨s, hjs⟩ : ∃ s, S[k]? = some s := ⟨_, List.getElem?_eq_getElem hlt⟩
      obtain ⟨ad, c, hcell, hsl⟩ := hc k s hjs
      have hg0 : g < w.heap.size := by
        obtain ⟨g', off', he, _, hc'⟩ := HS.out.at_ (by omega)
        cases he
        obtain ⟨ad', c', hcell', _⟩ := hc' k s hjs
        exact World.block_lt_of_cell? w _ hcell'
      have hs256 := H256.out s (List.mem_of_getElem? hjs)
      have Hjs := Lib.hid hjs
      have Hsl := Lib.hid hsl
      have hgl : g < wr.heap.size := by omega
      have i1 : (0 : Int) ≤ (k : Int) := by omega
      have i2 : (k : Int) < (S.length : Int) := by omega
      have hvB : ∀ q, (Value.slice x k cx).ownBlock = some q → w.heap.size + 2 ≤ q := fun q hq => (hown.lt q hq).1
      have hvB0 : some w.heap.size ≠ (Value.slice x k cx).ownBlock := fun e => by have := hvB _ e.symm; omega
      have hvBg : some g ≠ (Value.slice x k cx).ownBlock := fun e => by have := hvB _ e.symm; omega
      have HvB := Lib.hid hvB
      clear hc hjs hsl hvB b1 b2 b3 f0 f1 f2 f3 hR
      go_wp2_with (at_builtin; refine wpList_append_sl _ rfl (.tmp 14) (.tmp 19) 32 rfl wr.heap.size 5 iu _ 1 Try.underlying32 hiu hu0 hu1 hu2 rfl (.slice (some ⟨wr.heap.size, 0, none⟩) 0 0) 0 [] rfl (own_empty wr 5 1) (.slice ad s.length c) s.length (bc s) rfl (Hsl.out.next (below_alloc wr _)) (bc_one _) (by unfold maxLen; omega) (by omega) (by first | (simp; done) | (simp; omega)) ?_)
      intro v5 w5 hown5a hg5
      have hb5 : Below wr.heap.size wr w5 := ((Below.refl wr.heap.size wr).alloc (Nat.le_refl _) _).grown hg5 (by simp) (fun k hk => by simp [Value.ownBlock] at hk; omega)
      have hown5 : w5.ownsRow wr.heap.size 5 1 v5 s.length (bc s) := (by simpa using hown5a)
      obtain ⟨x5, c5, rfl⟩ := (Sl.of_own hown5).form
      have hsz5 := hb5.size
      have hownY := (((Upd.of_below (B := wr.heap.size) hb5).own hown (fun q hq h => by have := (hown.lt q hq).2; omega)).alloc (.cells #[.slice x5 s.length c5] 32))
      clear hown5a hg5
      go_wp2_with (at_builtin; refine wpList_append_lies _ rfl (.tmp 13) (.tmp 21) 24 rfl (w.heap.size + 2) 32 i0 _ 1 24 Try.underlying24 hi hz0 hz1 hz2 rfl (by omega) (.slice x k cx) k vs rfl hownY ⟨w5.heap.size, 0, none⟩ 1 1 [.slice x5 s.length c5] rfl rfl (World.news_of_block (cs := #[.slice x5 s.length c5]) (t := 32) (fr := (0, 0)) (heap_alloc_new w5 _)) (by simp [Value.oneCell']) (by omega) (by unfold maxLen; omega) (by omega) (by simp; omega) (w5.heap.size + 1) (by simp) ?_)
      intro gg gcap w1 hown1 hgrow hat hlt'
      all_goals
        have hst := Lib.hid (cp_step (k := k) hown Hvs.out hb (by omega) Hjs.out hb5 hown5 (by omega) (below_alloc w5 _) hown1 hgrow)
        have hD1 := Lib.hid (Blk.grown ((HD.out.below hb5 hDl).alloc _) hgrow hvB0)
        have hR1 := Lib.hid (Blk.grown ((HR.out.below hb5 hRl).alloc _) hgrow (fun e => by have := HvB.out _ e.symm; omega))
        clear hown hown1 hgrow hown5 hownY b0 hcell
        go_wp2_with fail
        go_roundw
        case rel => exact ⟨k + 1, by omega, by go_num, hst.out, hD1.out, hR1.out⟩
        case measure => simp [intOf]; omega
    · have hkS : k = S.length := by omega
      subst hkS
      have hcp := Lib.hid (show CpRel w (w.heap.size + 2) S.length S (.slice x S.length cx) wr from ⟨vs, hown, Hvs.out, hb⟩)
      obtain ⟨r0, r1, r2, r3, s0, s1, s2, s3⟩ := dkCells hR
      clear hown hR
      go_wp2_with fail
      exact bodyPost_ret (v := .agg #[.slice x S.length cx, .int .i64 left, .int .i64 tear, .bool stop]) (by simp [results, Try.results14, go_sem, *]) rfl
        ⟨_, rfl, ⟨_, rfl, cp_secs hcp.out (by repeat (first | (with_reducible exact Upd.refl _ _) | (refine Upd.setCell (S := fun q => q < w.heap.size + 2) ?_ (Or.inl (by simp)) _)))⟩, by (repeat (refine Below.setCell ?_ (by first | exact Nat.le_refl _ | (simp; done) | (simp; omega)) _)); exact hb⟩
end Go.Proofs.Ytekmdaphkgkgaaa
