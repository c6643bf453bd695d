/- Disk: diskOf. -/
import Derived.Test.YtekmdaphkgkgaaaDkK
namespace Go.Proofs.Ytekmdaphkgkgaaa
open Go.RowKit

set_option maxRecDepth 100000 in
theorem whole_blk (c : UInt8) (w0 w : World) (hb0 : Below w0.heap.size w0 w) :
    Calls Try.prog 15 #[.int .u8 (c.toNat : Int)] w fun e w' =>
      ∃ g cs, e = .returned (.slice (some ⟨g, 0, none⟩) 128 128) ∧ Blk w' g 5 cs ∧ cs.toList = bc (List.replicate 128 c) ∧ w0.heap.size ≤ g ∧ g < w'.heap.size ∧ Below w0.heap.size w0 w' := by
  have hmk := mk128
  have hs0 := hb0.size
  go_enter Try.func15, Try.ntmps15
  go_wp2_with fail
  clear hmk
  go_loopw [8] (fun i wr => ∃ (k : Nat) (cs : Array Value), k ≤ 128 ∧ i = .int .i64 k ∧ cs.size = 128 ∧ (∀ j, j < k → cs[j]? = some (.int .u8 (c.toNat : Int))) ∧ Blk wr w.heap.size 5 cs ∧ Below w.heap.size w wr) (fun i _ => 128 - (intOf i).toNat)
  case atStart => exact ⟨0, _, by omega, rfl, zc_size _, fun j h => by omega, Blk.new w _ _, (Below.refl _ _).alloc (Nat.le_refl _) _⟩
  case round =>
    obtain ⟨k, cs, hk, rfl, hsz, hall, hB, hb⟩ := hrel
    have Hall := Lib.hid hall
    have Hsz := Lib.hid hsz
    have hBl := hB.lt
    clear hall
    by_cases hlt : k < 128
    · obtain ⟨u, hc⟩ : ∃ u, wr.cell? ⟨w.heap.size, k, none⟩ = some u := ⟨cs[k], by rw [hB.cell k]; simp⟩
      have hf := hB.frozen k
      have f1 : (0 : Int) ≤ (k : Int) := by omega
      have f2 : (k : Int) < 128 := by omega
      clear hsz
      go_wp2_with fail
      go_roundw
      case rel =>
        refine ⟨k + 1, cs.setIfInBounds k (.int .u8 (c.toNat : Int)), by omega, by go_num, by simp [Hsz.out], fun j hj => ?_, hB.set_ k _, hb.setCell (Nat.le_refl _) _⟩
        rw [Array.getElem?_setIfInBounds]
        split
        · simp; have := Hsz.out; omega
        · exact Hall.out j (by omega)
      case measure => simp [intOf]; omega
    · clear hsz
      go_wp2_with fail
      go_ret
      have hk : k = 128 := by omega
      subst hk
      refine ⟨_, cs, rfl, hB, ?_, hs0, hBl, hb0.trans (hb.mono hs0)⟩
      have hs := Hsz.out
      apply List.ext_getElem?
      intro j
      rw [Array.getElem?_toList]
      rcases Nat.lt_or_ge j 128 with h | h
      · rw [Hall.out j h, bc, List.getElem?_map, List.getElem?_replicate, if_pos h]; rfl
      · rw [Array.getElem?_eq_none (by omega), List.getElem?_eq_none (by simp [bc]; omega)]

/-- the first k of the sectors that diskOf makes -/
def fourS (k : Nat) : List (List UInt8) := (List.range k).map fun i => List.replicate 128 (UInt8.ofNat (100 + i))
theorem fourS_len (k : Nat) : (fourS k).length = k := by simp [fourS]
theorem fourS_succ (k : Nat) : fourS (k + 1) = fourS k ++ [List.replicate 128 (UInt8.ofNat (100 + k))] := by simp [fourS, List.range_succ]

def lfOf (left : Int) : Int := if -1 < left.tmod 8 then left.tmod 8 else -1
def trOf (tear : Int) : Int := (bits BinOp.and IntKind.i64 tear 1073741823).tmod 129
set_option maxRecDepth 100000 in
set_option maxHeartbeats 4000000 in
theorem diskOf_any (left tear : Int) (w : World) :
    Calls Try.prog 26 #[.int .i64 left, .int .i64 tear] w fun e w' => RetD ⟨fourS 4, lfOf left, trOf tear, false⟩ w e w' := by
  obtain ⟨i0, hi, hz0, hz1, hz2⟩ := info_parts infoSl
  go_enter Try.func26, Try.ntmps26
  go_wp2_with fail
  go_loopw [8] (fun i wr => ∃ (k : Nat) (v : Value), k ≤ 4 ∧ i = .int .i64 k ∧ AccRel w (w.heap.size + 1) (-1) 0 (fourS k) v wr ∧ Blk wr w.heap.size 26 #[.slice none 0 0, .int .i64 0, .int .i64 0, .bool false]) (fun i _ => 4 - (intOf i).toNat)
  case atStart =>
    refine ⟨0, .slice none 0 0, by omega, rfl, acc_nil ?_ ((below_alloc w _).alloc (by simp) _) (by omega), (Blk.new w _ _).alloc _⟩
    exact blk_new2 w _ _ _
  case round =>
    obtain ⟨k, v, hk, rfl, ⟨vs, hown, hvs, hB, hb, hQ⟩, hR⟩ := hrel
    rw [fourS_len] at hown
    obtain ⟨a, cap, rfl⟩ := (Sl.of_own hown).form
    obtain ⟨c0, c1, c2, c3, f0, f1, f2, f3⟩ := dkCells hB
    obtain ⟨r0, r1, r2, r3, s0, s1, s2, s3⟩ := dkCells hR
    have Hvs := Lib.hid hvs
    have hBl := hB.lt
    have hBl2 : w.heap.size < wr.heap.size := by omega
    have HB := Lib.hid hB
    have HRb := Lib.hid hR
    clear hvs hB hR
    by_cases hlt : k < 4
    · have hvB : (Value.slice a k cap).ownBlock ≠ some (w.heap.size + 1) := fun e => by have := (hown.lt _ e).1; omega
      have hWh := fun W hb => whole_blk (UInt8.ofNat (100 + k)) wr W hb
      have hcn : (UInt8.ofNat (100 + k)).toNat = 100 + k := by rw [UInt8.toNat_ofNat']; omega
      rw [hcn] at hWh
      have HWh := Lib.hid hWh
      have u1 : IntKind.i64.wrap (100 + (k : Int)) = 100 + (k : Int) := IntWalk.i64_in _ (by omega)
      have u2 : IntKind.u8.wrap (100 + (k : Int)) = 100 + (k : Int) := by rw [IntKind.wrap_u8]; omega
      have u3 : ((100 + k : Nat) : Int) = 100 + (k : Int) := by omega
      clear r0 r1 r2 r3 s0 s1 s2 s3 c1 c2 c3 f1 f2 f3 hWh hcn
      go_wp2_with fail
      go_region_law
        (first
          | (refine step_append_lies _ (by rfl) _ _ _ (by rfl) (w.heap.size + 1 + 1) 32 i0 _ 1 24 Try.underlying24 hi hz0 hz1 hz2 rfl (by omega) (.slice a k cap) k vs (by rfl) (hown5.alloc _)
              ⟨w5.heap.size, 0, none⟩ 1 1 [.slice (some ⟨gx, 0, none⟩) 128 128] (by rfl) (by rfl) (World.news_of_block (cs := #[.slice (some ⟨gx, 0, none⟩) 128 128]) (t := 32) (fr := (0, 0)) (heap_alloc_new w5 _)) (by simp [Value.oneCell'])
              (by omega) (by unfold maxLen; omega) (by omega) (by simp; omega) (w5.heap.size + 1) (by simp) ?_; intro gg gcap w1 hown1 hgrow hat hlt'
             have d0 : w1.cell? ⟨w.heap.size + 1, 0, none⟩ = some (.slice a k cap) := (hgrow.cell_far ⟨w.heap.size + 1, 0, none⟩ (by simp; omega) (Ne.symm hvB)).trans (by rw [World.cell?_alloc_past _ _ _ (by omega)]; exact e0)
             have d1 : w1.frozen? ⟨w.heap.size + 1, 0, none⟩ = false := (hgrow.frozen_far ⟨w.heap.size + 1, 0, none⟩ (by simp; omega) (Ne.symm hvB)).trans (by rw [World.frozen?_alloc_past _ _ _ (by omega)]; exact e1))
          | (go_simp; go_at_call 15; refine (HWh.out _ (by (repeat (refine Below.drew ?_)); exact Below.refl _ _)).mono ?_; rintro e w5 ⟨gx, cs, rfl, hx1, hx2, hx3, hx4, hb5⟩
             have hs5 := hb5.size
             have hl5 : w.heap.size + 1 < w5.heap.size := (by omega)
             have hl5' : w.heap.size < w5.heap.size := (by omega)
             have e0 := (hb5.cell (p := ⟨w.heap.size + 1, 0, none⟩) hBl).trans c0
             have e1 := (hb5.frozen (p := ⟨w.heap.size + 1, 0, none⟩) hBl).trans f0
             have hown5 : w5.ownsRow (w.heap.size + 1 + 1) 32 1 (.slice a k cap) k vs := (Upd.of_below (B := wr.heap.size) hb5).own hown (fun q hq h => by have := (hown.lt q hq).2; omega)))
      all_goals
        have hstep := acc_step (S := fourS k) (s := List.replicate 128 (UInt8.ofNat (100 + k))) (gg := gg) (gcap := gcap) (by rw [fourS_len]; exact hown) Hvs.out HB.out hb hQ hb5 ⟨gx, cs, rfl, by omega, hx1, hx2, List.length_replicate⟩ (below_alloc _ _) (by rw [fourS_len]; exact hown1) hgrow
        rw [fourS_len, ← fourS_succ] at hstep
        have hres : Blk (w1.setCell ⟨w.heap.size + 1, 0, none⟩ (.slice (some ⟨gg, 0, none⟩) (k + 1) gcap)) w.heap.size 26 #[.slice none 0 0, .int .i64 0, .int .i64 0, .bool false] := by
          refine Blk.far ?_ (by show w.heap.size ≠ w.heap.size + 1; omega) _
          refine Blk.grown ((HRb.out.below hb5 hBl2).alloc _) hgrow (fun e => ?_)
          have := (hown.lt _ e.symm).1; omega
        have Hst := Lib.hid hstep
        have Hre := Lib.hid hres
        clear hown hgrow hown1 d0 d1 hstep hres hown5 e0 e1 hb5 hx1 hx2
        go_wp2_with fail
        go_roundw
        case rel => exact ⟨k + 1, _, by omega, by go_num, Hst.out, Hre.out⟩
        case measure => simp [intOf]; omega
    · have hacc := Lib.hid (show AccRel w (w.heap.size + 1) (-1) 0 (fourS k) (.slice a k cap) wr from ⟨vs, by rw [fourS_len]; exact hown, Hvs.out, HB.out, hb, hQ⟩)
      clear hown
      have hkn : k = 4 := by omega
      subst hkn
      by_cases hlf : -1 < left.tmod 8
      · have HL := Lib.hid (show lfOf left = left.tmod 8 from if_pos hlf)
        go_wp2_with fail
        exact bodyPost_ret (v := .agg #[.slice a 4 cap, .int .i64 (left.tmod 8), .int .i64 ((bits BinOp.and IntKind.i64 tear 1073741823).tmod 129), .bool false]) (by simp [results, Try.results26, go_sem, *]) rfl
          ⟨_, rfl, ⟨_, by rw [HL.out]; rfl, acc_secs hacc.out (by (repeat (refine Upd.setCell (S := fun q => w.heap.size ≤ q ∧ q ≤ w.heap.size + 1) ?_ (Or.inl ⟨by simp, by simp⟩) _)); exact Upd.refl _ _)⟩, by (repeat (refine Below.setCell ?_ (by first | exact Nat.le_refl _ | (simp; done) | (simp; omega)) _)); exact hb⟩
      · have HL := Lib.hid (show lfOf left = -1 from if_neg hlf)
        go_wp2_with fail
        exact bodyPost_ret (v := .agg #[.slice a 4 cap, .int .i64 (-1), .int .i64 ((bits BinOp.and IntKind.i64 tear 1073741823).tmod 129), .bool false]) (by simp [results, Try.results26, go_sem, *]) rfl
          ⟨_, rfl, ⟨_, by rw [HL.out]; rfl, acc_secs hacc.out (by (repeat (refine Upd.setCell (S := fun q => w.heap.size ≤ q ∧ q ≤ w.heap.size + 1) ?_ (Or.inl ⟨by simp, by simp⟩) _)); exact Upd.refl _ _)⟩, by (repeat (refine Below.setCell ?_ (by first | exact Nat.le_refl _ | (simp; done) | (simp; omega)) _)); exact hb⟩
end Go.Proofs.Ytekmdaphkgkgaaa
