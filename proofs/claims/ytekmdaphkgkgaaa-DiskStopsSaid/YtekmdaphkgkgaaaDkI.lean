/- Disk: rows of sectors that a call appends to; the reference's New; Same. -/
import Derived.Test.YtekmdaphkgkgaaaDkH
namespace Go.Proofs.Ytekmdaphkgkgaaa
open Go.RowKit

/-- a sector in a block of its own from B on -/
def IsSec (B : Nat) (w : World) (x : Value) (s : List UInt8) : Prop := ∃ g cs, x = .slice (some ⟨g, 0, none⟩) 128 128 ∧ B ≤ g ∧ Blk w g 5 cs ∧ cs.toList = bc s ∧ s.length = 128
theorem IsSec.next {B : Nat} {w w' : World} {x : Value} {s : List UInt8} (h : IsSec B w x s) (hb : Below w.heap.size w w') : IsSec B w' x s := by
  obtain ⟨g, cs, h1, h2, h3, h4⟩ := h
  exact ⟨g, cs, h1, h2, h3.below hb h3.lt, h4⟩
theorem IsSec.sl {B : Nat} {w : World} {x : Value} {s : List UInt8} (h : IsSec B w x s) : Sl w 1 x s.length (bc s) := by
  obtain ⟨g, cs, rfl, h2, h3, h4, h5⟩ := h
  rw [h5]
  exact h3.sl h4 (by rw [bc_len, h5])
/-- a slice of sectors that a call appends to, in the variable in block Q -/
def AccRel (w : World) (Q : Nat) (l t : Int) (S : List (List UInt8)) (v : Value) (wr : World) : Prop :=
  ∃ vs : List Value, wr.ownsRow (Q + 1) 32 1 v S.length vs ∧ (∀ (i : Nat) (s : List UInt8), S[i]? = some s → ∃ x, vs[i]? = some x ∧ IsSec (Q + 1) wr x s) ∧
    Blk wr Q 26 #[v, .int .i64 l, .int .i64 t, .bool false] ∧ Below w.heap.size w wr ∧ w.heap.size ≤ Q
theorem acc_nil {w wr : World} {Q : Nat} {l t : Int} (hB : Blk wr Q 26 #[.slice none 0 0, .int .i64 l, .int .i64 t, .bool false]) (hb : Below w.heap.size w wr) (hQ : w.heap.size ≤ Q) : AccRel w Q l t [] (.slice none 0 0) wr :=
  ⟨[], World.ownsRow_nil _ _ _ _, fun i s h => by simp at h, hB, hb, hQ⟩
theorem acc_step {w wr X Y w1 : World} {Q gg gcap : Nat} {l t : Int} {v x : Value} {vs : List Value} {S : List (List UInt8)} {s : List UInt8}
    (hown : wr.ownsRow (Q + 1) 32 1 v S.length vs) (hvs : ∀ (i : Nat) (s : List UInt8), S[i]? = some s → ∃ x, vs[i]? = some x ∧ IsSec (Q + 1) wr x s)
    (hB : Blk wr Q 26 #[v, .int .i64 l, .int .i64 t, .bool false]) (hb : Below w.heap.size w wr) (hQ : w.heap.size ≤ Q)
    (hX : Below wr.heap.size wr X) (hx : IsSec (Q + 1) X x s) (hY : Below X.heap.size X Y)
    (hown1 : w1.ownsRow (Q + 1) 32 1 (.slice (some ⟨gg, 0, none⟩) (S.length + 1) gcap) (S.length + 1) (vs ++ [x])) (hgrow : Y.grownBy w1 v.ownBlock) :
    AccRel w Q l t (S ++ [s]) (.slice (some ⟨gg, 0, none⟩) (S.length + 1) gcap) (w1.setCell ⟨Q, 0, none⟩ (.slice (some ⟨gg, 0, none⟩) (S.length + 1) gcap)) := by
  have hBl := hB.lt
  have hXY : Below wr.heap.size wr Y := hX.trans (hY.mono hX.size)
  have hownX : X.ownsRow (Q + 1) 32 1 v S.length vs := (Upd.of_below (B := wr.heap.size) hX).own hown (fun k hk h => by have := (hown.lt k hk).2; omega)
  have lift : ∀ {g : Nat} {T : TypeId} {cs : Array Value}, 32 ≠ T → Blk X g T cs → Blk w1 g T cs := fun hne h =>
    Blk.grown (h.below hY h.lt) hgrow (Ne.symm (own_blk_ne hownX h hne))
  have lift2 : ∀ {x : Value} {s : List UInt8}, IsSec (Q + 1) X x s → IsSec (Q + 1) (w1.setCell ⟨Q, 0, none⟩ (.slice (some ⟨gg, 0, none⟩) (S.length + 1) gcap)) x s := by
    rintro x s ⟨g, cs, h1, h2, h3, h4⟩
    exact ⟨g, cs, h1, h2, (lift (by decide) h3).far (by show g ≠ Q; omega) _, h4⟩
  have hl : vs.length = S.length := by have := hown.1; omega
  refine ⟨vs ++ [x], ?_, fun i r hr => ?_, (lift (by decide) (hB.below hX hBl)).set_ 0 _, ?_, hQ⟩
  · rw [List.length_append]
    exact (Upd.setCell (S := fun q => q = Q) (Upd.refl _ w1) (p := ⟨Q, 0, none⟩) (Or.inl rfl) _).own hown1 (fun q hq e => by have := (hown1.lt q hq).1; omega)
  · rcases Nat.lt_or_ge i S.length with h | h
    · rw [List.getElem?_append_left h] at hr
      obtain ⟨y, h1, h2⟩ := hvs i r hr
      exact ⟨y, by rw [List.getElem?_append_left (by omega)]; exact h1, lift2 (h2.next hX)⟩
    · rw [List.getElem?_append_right h] at hr
      have hi : i - S.length = 0 := by
        rcases Nat.eq_zero_or_pos (i - S.length) with h0 | h0
        · exact h0
        · rw [List.getElem?_eq_none (by simp; omega)] at hr; cases hr
      rw [hi] at hr
      cases hr
      exact ⟨x, by rw [List.getElem?_append_right (by omega), hl, hi]; rfl, lift2 hx⟩
  · exact ((hb.trans (hXY.mono hb.size)).grown hgrow (by have := hXY.size; have := hb.size; omega) (fun q hq => by have := (hown.lt q hq).1; omega)).setCell (p := ⟨Q, 0, none⟩) hQ _
theorem acc_secs {w wr W : World} {Q : Nat} {l t : Int} {S : List (List UInt8)} {v : Value} (h : AccRel w Q l t S v wr) (hU : Upd (fun q => w.heap.size ≤ q ∧ q ≤ Q) wr W) : Secs W v S := by
  obtain ⟨vs, hown, hvs, _, hb, _⟩ := h
  refine ⟨vs, Sl.of_own (hU.own hown (fun q hq e => by have := (hown.lt q hq).1; have := e.2; omega)), fun i s hs => ?_⟩
  obtain ⟨x, h1, g, cs, h2, h3, h4, h5, h6⟩ := hvs i s hs
  have h4' : Blk W g 5 cs := hU.heap h4 (fun e => by have := e.2; omega)
  exact ⟨x, h1, IsSec.sl (B := Q + 1) ⟨g, cs, h2, h3, h4', h5, h6⟩⟩

set_option maxRecDepth 100000 in
set_option maxHeartbeats 2000000 in
theorem refNew_any (n : Nat) (h0 : 1 ≤ n) (hn : n ≤ 4096) (w : World) :
    Calls Try.prog 11 #[.int .i64 n] w fun e w' => RetDE (newD n) 0 w e w' := by
  obtain ⟨i0, hi, hz0, hz1, hz2⟩ := info_parts infoSl
  have hmk := mk128
  go_enter Try.func11, Try.ntmps11
  go_wp2_with fail
  go_loopw [5] (fun i wr => ∃ (k : Nat) (v : Value), k ≤ n ∧ i = .int .i64 k ∧ AccRel w (w.heap.size + 1) (-1) 0 (List.replicate k zeros) v wr ∧ Blk wr w.heap.size 26 #[.slice none 0 0, .int .i64 0, .int .i64 0, .bool false]) (fun i _ => n - (intOf i).toNat)
  case atStart =>
    refine ⟨0, .slice none 0 0, by omega, rfl, acc_nil ?_ ((below_alloc w _).alloc (by simp) _) (by omega), (Blk.new w _ _).alloc _⟩
    exact blk_new2 w _ _ _
  case round =>
    obtain ⟨k, v, hk, rfl, ⟨vs, hown, hvs, hB, hb, hQ⟩, hR⟩ := hrel
    rw [List.length_replicate] at hown
    obtain ⟨a, cap, rfl⟩ := (Sl.of_own hown).form
    obtain ⟨c0, c1, c2, c3, f0, f1, f2, f3⟩ := dkCells hB
    obtain ⟨r0, r1, r2, r3, s0, s1, s2, s3⟩ := dkCells hR
    have Hvs := Lib.hid hvs
    have hBl := hB.lt
    have hBl2 : w.heap.size < wr.heap.size := by omega
    have HB := Lib.hid hB
    have HRb := Lib.hid hR
    clear hvs hB hR
    by_cases hlt : k < n
    · have hvB : (Value.slice a k cap).ownBlock ≠ some (w.heap.size + 1) := fun e => by have := (hown.lt _ e).1; omega
      clear r0 r1 r2 r3 s0 s1 s2 s3 c1 c2 c3 f1 f2 f3
      go_wp2_with fail
      go_region_law
        ((refine step_append_lies _ (by rfl) _ _ _ (by rfl) (w.heap.size + 1 + 1) 32 i0 _ 1 24 Try.underlying24 hi hz0 hz1 hz2 rfl (by omega) (.slice a k cap) k vs (by rfl) (((hown.alloc _).alloc _).drew)
            ⟨wr.heap.size + 1, 0, none⟩ 1 1 [.slice (some ⟨wr.heap.size, 0, none⟩) 128 128] (by rfl) (by rfl) (World.news_of_block (cs := #[.slice (some ⟨wr.heap.size, 0, none⟩) 128 128]) (t := 32) (fr := (0, 0)) (by have := heap_alloc_new (wr.alloc (.cells (zc 128) 5)) (.cells #[.slice (some ⟨wr.heap.size, 0, none⟩) 128 128] 32); simp only [World.size_alloc] at this; exact this)) (by simp [Value.oneCell'])
            (by omega) (by unfold maxLen; omega) (by omega) (by simp; omega) (wr.heap.size + 2) (by simp) ?_; intro gg gcap w1 hown1 hgrow hat hlt'
          have d0 : w1.cell? ⟨w.heap.size + 1, 0, none⟩ = some (.slice a k cap) := (hgrow.cell_far ⟨w.heap.size + 1, 0, none⟩ (by simp; omega) (Ne.symm hvB)).trans (by rw [World.cell?_drew, World.cell?_alloc_past _ _ _ (by simp; omega), World.cell?_alloc_past _ _ _ hBl]; exact c0)
          have d1 : w1.frozen? ⟨w.heap.size + 1, 0, none⟩ = false := (hgrow.frozen_far ⟨w.heap.size + 1, 0, none⟩ (by simp; omega) (Ne.symm hvB)).trans (by rw [World.frozen?_drew, World.frozen?_alloc_past _ _ _ (by simp; omega), World.frozen?_alloc_past _ _ _ hBl]; exact f0)))
      all_goals
        have hX : Below wr.heap.size wr (wr.alloc (.cells (zc 128) 5)) := below_alloc _ _
        have hY : Below (wr.alloc (.cells (zc 128) 5)).heap.size (wr.alloc (.cells (zc 128) 5)) ((wr.alloc (.cells (zc 128) 5)).alloc (.cells #[.slice (some ⟨wr.heap.size, 0, none⟩) 128 128] 32)).drew := (below_alloc _ _).drew
        have hlen : (List.replicate k zeros).length = k := List.length_replicate
        have hstep := acc_step (S := List.replicate k zeros) (s := zeros) (gg := gg) (gcap := gcap) (by rw [hlen]; exact hown) Hvs.out HB.out hb hQ hX ⟨wr.heap.size, _, rfl, by omega, Blk.new wr _ _, zc_128, zeros_len⟩ hY (by rw [hlen]; exact hown1) hgrow
        rw [hlen] at hstep
        have hres : Blk (w1.setCell ⟨w.heap.size + 1, 0, none⟩ (.slice (some ⟨gg, 0, none⟩) (k + 1) gcap)) w.heap.size 26 #[.slice none 0 0, .int .i64 0, .int .i64 0, .bool false] := by
          refine Blk.far ?_ (by show w.heap.size ≠ w.heap.size + 1; omega) _
          refine Blk.grown (w := ((wr.alloc (.cells (zc 128) 5)).alloc (.cells #[.slice (some ⟨wr.heap.size, 0, none⟩) 128 128] 32)).drew) ((HRb.out.alloc _).alloc _) hgrow (fun e => ?_)
          have := (hown.lt _ e.symm).1; omega
        have Hst := Lib.hid hstep
        have Hre := Lib.hid hres
        clear hown hgrow hown1 d0 d1 hstep hres hX hY hlen
        go_wp2_with fail
        go_roundw
        case rel => exact ⟨k + 1, _, by omega, by go_num, by rw [List.replicate_succ']; exact Hst.out, Hre.out⟩
        case measure => simp [intOf]; omega
    · have hacc := Lib.hid (show AccRel w (w.heap.size + 1) (-1) 0 (List.replicate k zeros) (.slice a k cap) wr from ⟨vs, by rw [List.length_replicate]; exact hown, Hvs.out, HB.out, hb, hQ⟩)
      clear hown
      go_wp2_with fail
      have hkn : k = n := by omega
      subst hkn
      exact bodyPost_ret (v := .tuple #[.agg #[.slice a k cap, .int .i64 (-1), .int .i64 0, .bool false], .int .i64 0]) (by simp [results, Try.results11, go_sem, *]) rfl
          ⟨_, rfl, ⟨_, rfl, acc_secs hacc.out (by (repeat (refine Upd.setCell (S := fun q => w.heap.size ≤ q ∧ q ≤ w.heap.size + 1) ?_ (Or.inl ⟨Nat.le_refl _, by simp⟩) _)); exact Upd.refl _ _)⟩, by (repeat (refine Below.setCell ?_ (by first | exact Nat.le_refl _ | (simp; done) | (simp; omega)) _)); exact hb⟩
theorem refNew_bad (n : Int) (h : n < 1 ∨ 4096 < n) (w : World) :
    Calls Try.prog 11 #[.int .i64 n] w fun e w' => RetDE Dk.zero 1 w e w' := by
  rcases h with h | h
  · go_enter Try.func11, Try.ntmps11
    go_wp2_with fail
    exact bodyPost_ret (v := .tuple #[.agg #[.slice none 0 0, .int .i64 0, .int .i64 0, .bool false], .int .i64 1]) (by simp [results, Try.results11, go_sem, *]) rfl ⟨_, rfl, dkV_zero _, below_alloc w _⟩
  · have h2 : ¬ n < 1 := by omega
    go_enter Try.func11, Try.ntmps11
    go_wp2_with fail
    exact bodyPost_ret (v := .tuple #[.agg #[.slice none 0 0, .int .i64 0, .int .i64 0, .bool false], .int .i64 1]) (by simp [results, Try.results11, go_sem, *]) rfl ⟨_, rfl, dkV_zero _, below_alloc w _⟩
end Go.Proofs.Ytekmdaphkgkgaaa
