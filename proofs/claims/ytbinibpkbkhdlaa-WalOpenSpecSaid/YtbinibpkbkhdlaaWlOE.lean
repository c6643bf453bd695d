/- Wal: the reference's Open. -/
import Derived.Test.YtbinibpkbkhdlaaWlOD
import Derived.Test.YtbinibpkbkhdlaaWlO2
import Derived.Test.YtbinibpkbkhdlaaWkN
namespace Go.Proofs.Ytbinibpkbkhdlaa
open Go.RowKit

set_option maxRecDepth 100000 in
set_option maxHeartbeats 4000000 in
theorem ropen_any (D : Dk) (d : Value) (f m : Int) (w : World) (hd : DkV w d D) (hlen : D.secs.length ≤ maxLen) :
    Calls Try.prog 12 #[d, .int .i64 f, .int .i64 m] w fun e w' => RetLE (opL D f m) (opE D f m) w e w' := by
  obtain ⟨v, rfl, hv⟩ := hd
  have HCk := Lib.hid (fun W (hb : Below w.heap.size w W) => refCheck_any D _ W ⟨v, rfl, hv.next hb⟩ hlen)
  have hck := chk01 D
  have hok := chk_ok (D := D)
  have hE1 := opE_1 (D := D) (f := f) (m := m)
  have hE2 := opE_2 (D := D) (f := f) (m := m)
  have hE3 := opE_3 (D := D) (f := f) (m := m)
  have hLb := opL_bad (D := D) (f := f) (m := m)
  have hLg : opE D f m = 0 → opL D f m = ⟨f, m, recs (part D f.toNat m.toNat), ((recs (part D f.toNat m.toNat)).length : Int)⟩ := fun h => by rw [opL, if_pos h]
  obtain ⟨a, cap, rfl⟩ := hv.len
  obtain ⟨S, left, tear, stop⟩ := D
  simp only [] at hv hE2 hE3 hok hLg
  simp only [dkAgg] at HCk ⊢
  unfold part at hLg
  simp only [] at hLg
  have h0 := (Blk.new w 24 #[.slice a S.length cap, .int .i64 left, .int .i64 tear, .bool stop]).alloc (.cells #[.int .i64 0, .int .i64 0, .slice none 0 0, .int .i64 0] 29)
  have h1 := Blk.new (w.alloc (.cells #[.slice a S.length cap, .int .i64 left, .int .i64 tear, .bool stop] 24)) 29 #[.int .i64 0, .int .i64 0, .slice none 0 0, .int .i64 0]
  rw [World.size_alloc] at h1
  have HB := Lib.hid h0
  have HZ := Lib.hid h1
  have Hb := Lib.hid ((below_alloc w (.cells #[.slice a S.length cap, .int .i64 left, .int .i64 tear, .bool stop] 24)).alloc (by simp) (.cells #[.int .i64 0, .int .i64 0, .slice none 0 0, .int .i64 0] 29))
  obtain ⟨c0, c1, c2, c3, _, _, _, _⟩ := dkCells h0
  have HV := Lib.hid hv
  clear h0 h1 hv hlen
  obtain ⟨ck, hck'⟩ : ∃ x, chk ⟨S, left, tear, stop⟩ = x := ⟨_, rfl⟩
  rw [hck'] at HCk hck hok hE1 hE2 hE3
  rcases hck with rfl | rfl
  case inl =>
    obtain ⟨k1, k2, k3, k4, k5, k6, k7⟩ := hok rfl
    have hlt := any_len k3
    by_cases g1 : f < 0
    · have hfit : fitsB f m (S.length : Int) = false := by
        cases hq : fitsB f m (S.length : Int)
        · rfl
        · have : 0 ≤ f ∧ 1 ≤ m ∧ f < S.length ∧ m ≤ S.length - f := by simpa [fitsB, and_assoc] using hq
          omega
      have Hr := Lib.hid (hE2 rfl hfit)
      have Hl := Lib.hid (hLb (by rw [Hr.out]; decide))
      clear hE1 hE2 hE3 hLb hLg hok hck' hfit k3 k7 hlt
      go_enter Try.func12, Try.ntmps12
      go_wp2_with fail
      refine (HCk.out _ Hb.out).mono ?_
      rintro e w1 ⟨rfl, hb1⟩
      clear c0 c1 c2 c3
      have HB1 := Lib.hid (HB.out.below hb1 HB.out.lt)
      have HZ1 := Lib.hid (HZ.out.below hb1 HZ.out.lt)
      have Hb1 := Lib.hid (Hb.out.trans (hb1.mono Hb.out.size))
      obtain ⟨c0, c1, c2, c3, f0, f1, f2, f3⟩ := dkCells HB1.out
      obtain ⟨z0, z1, z2, z3, y0, y1, y2, y3⟩ := dkCells HZ1.out
      clear hb1
      go_wp2_with fail
      exact bodyPost_ret (v := .tuple #[.agg #[.int .i64 0, .int .i64 0, .slice none 0 0, .int .i64 0], .int .i64 1]) (by simp [results, Try.results12, go_sem, *]) rfl
        ⟨_, by rw [Hr.out], by rw [Hl.out]; exact lgV_zero _, by (repeat (refine Below.setCell ?_ (by first | exact Nat.le_refl _ | (simp; done) | (simp; omega)) _)); exact Hb1.out⟩
    by_cases g2 : m < 1
    · have hfit : fitsB f m (S.length : Int) = false := by
        cases hq : fitsB f m (S.length : Int)
        · rfl
        · have : 0 ≤ f ∧ 1 ≤ m ∧ f < S.length ∧ m ≤ S.length - f := by simpa [fitsB, and_assoc] using hq
          omega
      have Hr := Lib.hid (hE2 rfl hfit)
      have Hl := Lib.hid (hLb (by rw [Hr.out]; decide))
      clear hE1 hE2 hE3 hLb hLg hok hck' hfit k3 k7 hlt
      go_enter Try.func12, Try.ntmps12
      go_wp2_with fail
      refine (HCk.out _ Hb.out).mono ?_
      rintro e w1 ⟨rfl, hb1⟩
      clear c0 c1 c2 c3
      have HB1 := Lib.hid (HB.out.below hb1 HB.out.lt)
      have HZ1 := Lib.hid (HZ.out.below hb1 HZ.out.lt)
      have Hb1 := Lib.hid (Hb.out.trans (hb1.mono Hb.out.size))
      obtain ⟨c0, c1, c2, c3, f0, f1, f2, f3⟩ := dkCells HB1.out
      obtain ⟨z0, z1, z2, z3, y0, y1, y2, y3⟩ := dkCells HZ1.out
      clear hb1
      go_wp2_with fail
      exact bodyPost_ret (v := .tuple #[.agg #[.int .i64 0, .int .i64 0, .slice none 0 0, .int .i64 0], .int .i64 1]) (by simp [results, Try.results12, go_sem, *]) rfl
        ⟨_, by rw [Hr.out], by rw [Hl.out]; exact lgV_zero _, by (repeat (refine Below.setCell ?_ (by first | exact Nat.le_refl _ | (simp; done) | (simp; omega)) _)); exact Hb1.out⟩
    by_cases g3 : (S.length : Int) < m
    · have hfit : fitsB f m (S.length : Int) = false := by
        cases hq : fitsB f m (S.length : Int)
        · rfl
        · have : 0 ≤ f ∧ 1 ≤ m ∧ f < S.length ∧ m ≤ S.length - f := by simpa [fitsB, and_assoc] using hq
          omega
      have Hr := Lib.hid (hE2 rfl hfit)
      have Hl := Lib.hid (hLb (by rw [Hr.out]; decide))
      clear hE1 hE2 hE3 hLb hLg hok hck' hfit k3 k7 hlt
      go_enter Try.func12, Try.ntmps12
      go_wp2_with fail
      refine (HCk.out _ Hb.out).mono ?_
      rintro e w1 ⟨rfl, hb1⟩
      clear c0 c1 c2 c3
      have HB1 := Lib.hid (HB.out.below hb1 HB.out.lt)
      have HZ1 := Lib.hid (HZ.out.below hb1 HZ.out.lt)
      have Hb1 := Lib.hid (Hb.out.trans (hb1.mono Hb.out.size))
      obtain ⟨c0, c1, c2, c3, f0, f1, f2, f3⟩ := dkCells HB1.out
      obtain ⟨z0, z1, z2, z3, y0, y1, y2, y3⟩ := dkCells HZ1.out
      clear hb1
      go_wp2_with fail
      exact bodyPost_ret (v := .tuple #[.agg #[.int .i64 0, .int .i64 0, .slice none 0 0, .int .i64 0], .int .i64 1]) (by simp [results, Try.results12, go_sem, *]) rfl
        ⟨_, by rw [Hr.out], by rw [Hl.out]; exact lgV_zero _, by (repeat (refine Below.setCell ?_ (by first | exact Nat.le_refl _ | (simp; done) | (simp; omega)) _)); exact Hb1.out⟩
    have s0 : IntKind.i64.wrap ((S.length : Int) - m) = (S.length : Int) - m := by rw [IntKind.wrap_i64]; omega
    by_cases g4 : (S.length : Int) - m < f
    · have hfit : fitsB f m (S.length : Int) = false := by
        cases hq : fitsB f m (S.length : Int)
        · rfl
        · have : 0 ≤ f ∧ 1 ≤ m ∧ f < S.length ∧ m ≤ S.length - f := by simpa [fitsB, and_assoc] using hq
          omega
      have Hr := Lib.hid (hE2 rfl hfit)
      have Hl := Lib.hid (hLb (by rw [Hr.out]; decide))
      clear hE1 hE2 hE3 hLb hLg hok hck' hfit k3 k7 hlt
      go_enter Try.func12, Try.ntmps12
      go_wp2_with fail
      refine (HCk.out _ Hb.out).mono ?_
      rintro e w1 ⟨rfl, hb1⟩
      clear c0 c1 c2 c3
      have HB1 := Lib.hid (HB.out.below hb1 HB.out.lt)
      have HZ1 := Lib.hid (HZ.out.below hb1 HZ.out.lt)
      have Hb1 := Lib.hid (Hb.out.trans (hb1.mono Hb.out.size))
      obtain ⟨c0, c1, c2, c3, f0, f1, f2, f3⟩ := dkCells HB1.out
      obtain ⟨z0, z1, z2, z3, y0, y1, y2, y3⟩ := dkCells HZ1.out
      clear hb1
      go_wp2_with fail
      exact bodyPost_ret (v := .tuple #[.agg #[.int .i64 0, .int .i64 0, .slice none 0 0, .int .i64 0], .int .i64 1]) (by simp [results, Try.results12, go_sem, *]) rfl
        ⟨_, by rw [Hr.out], by rw [Hl.out]; exact lgV_zero _, by (repeat (refine Below.setCell ?_ (by first | exact Nat.le_refl _ | (simp; done) | (simp; omega)) _)); exact Hb1.out⟩
    have hfit : fitsB f m (S.length : Int) = true := by
      simp [fitsB]; omega
    cases stop
    · have Hr := Lib.hid ((hE3 rfl hfit).trans (if_neg (by decide)))
      have Hl := Lib.hid (hLg Hr.out)
      obtain ⟨fn, rfl⟩ : ∃ fn : Nat, f = (fn : Int) := ⟨f.toNat, by omega⟩
      obtain ⟨mn, rfl⟩ : ∃ mn : Nat, m = (mn : Int) := ⟨m.toNat, by omega⟩
      have i1 : fn + mn ≤ S.length := by omega
      obtain ⟨g, off, rfl, hScap, _⟩ := HV.out.at_ (by omega)
      obtain ⟨q, hq⟩ : ∃ q, fn + mn = q := ⟨_, rfl⟩
      have s1 : IntKind.i64.wrap ((fn : Int) + (mn : Int)) = (q : Int) := by rw [IntKind.wrap_i64]; omega
      have i2 : (q : Int) ≤ (cap : Int) := by omega
      have i3 : fn ≤ q := by omega
      have i4 : ¬ cap = fn := by omega
      have i5 : q - fn = mn := by omega
      have h128 : ∀ s ∈ (S.drop fn).take mn, s.length = 128 := fun s hs => hlt s (List.mem_of_mem_drop (List.mem_of_mem_take hs))
      have hpl : ((S.drop fn).take mn).length ≤ 4096 := by simp; omega
      have HRs := Lib.hid (fun W (hb : Below w.heap.size w W) => rrecords_any ((S.drop fn).take mn) h128 hpl _ W (secs_sub (HV.out.next hb) rfl (A := fn) (m := mn) (c := cap - fn) (by omega) (by omega)))
      have hl2 : (recs ((S.drop fn).take mn)).length = (recs ((S.drop (fn : Int).toNat).take (mn : Int).toNat)).length := rfl
      simp only [Int.toNat_natCast] at Hl
      obtain ⟨PS, hPS⟩ : ∃ PS, recs ((S.drop fn).take mn) = PS := ⟨_, rfl⟩
      rw [hPS] at HRs Hl
      clear hScap hq i1 hlt hE1 hE2 hE3 hLb hLg hok hck' hfit k3 k7 h128 hpl hPS hl2
      go_enter Try.func12, Try.ntmps12
      go_wp2_with fail
      refine (HCk.out _ Hb.out).mono ?_
      rintro e w1 ⟨rfl, hb1⟩
      clear c0 c1 c2 c3
      have HB1 := Lib.hid (HB.out.below hb1 HB.out.lt)
      have HZ1 := Lib.hid (HZ.out.below hb1 HZ.out.lt)
      have Hb1 := Lib.hid (Hb.out.trans (hb1.mono Hb.out.size))
      obtain ⟨c0, c1, c2, c3, f0, f1, f2, f3⟩ := dkCells HB1.out
      obtain ⟨z0, z1, z2, z3, y0, y1, y2, y3⟩ := dkCells HZ1.out
      clear hb1
      go_wp2_with fail
      refine (HRs.out _ Hb1.out).mono ?_
      rintro e w2 ⟨u, rfl, hsu, _, hb2⟩
      obtain ⟨au, cu, rfl⟩ := (hsu w2 (Upd.refl _ _)).len
      clear c0 c1 c2 c3 f0 f1 f2 f3 z0 z1 z2 z3 y0 y1 y2 y3
      obtain ⟨z0, z1, z2, z3, y0, y1, y2, y3⟩ := dkCells (HZ1.out.below hb2 HZ1.out.lt)
      have Hb2 := Lib.hid (Hb1.out.trans (hb2.mono Hb1.out.size))
      have Hu := Lib.hid (show ∀ W, Upd (fun k => k = w.heap.size + 1) w2 W → Secs W (.slice au PS.length cu) PS from fun W hU => hsu W (hU.mono (fun q hq => by have := HZ1.out.lt; omega)))
      clear hb2 hsu
      go_wp2_with fail
      have hU := ((((Upd.refl (fun k => k = w.heap.size + 1) w2).setCell (p := ⟨w.heap.size + 1, 0, none⟩) (.inl rfl) (.int .i64 (fn : Int))).setCell (p := ⟨w.heap.size + 1, 1, none⟩) (.inl rfl) (.int .i64 (mn : Int))).setCell (p := ⟨w.heap.size + 1, 2, none⟩) (.inl rfl) (.slice au PS.length cu)).setCell (p := ⟨w.heap.size + 1, 3, none⟩) (.inl rfl) (.int .i64 (PS.length : Int))
      exact bodyPost_ret (v := .tuple #[.agg #[.int .i64 (fn : Int), .int .i64 (mn : Int), .slice au PS.length cu, .int .i64 (PS.length : Int)], .int .i64 0]) (by simp [results, Try.results12, go_sem, *]) rfl
        ⟨_, by rw [Hr.out], by rw [Hl.out]; exact ⟨_, rfl, Hu.out _ hU⟩, by (repeat (refine Below.setCell ?_ (by first | exact Nat.le_succ _ | exact Nat.le_refl _ | (simp; done) | (simp; omega)) _)); exact Hb2.out⟩
    · have Hr := Lib.hid ((hE3 rfl hfit).trans (if_pos rfl))
      have Hl := Lib.hid (hLb (by rw [Hr.out]; decide))
      clear hE1 hE2 hE3 hLb hLg hok hck' hfit k3 k7 hlt
      go_enter Try.func12, Try.ntmps12
      go_wp2_with fail
      refine (HCk.out _ Hb.out).mono ?_
      rintro e w1 ⟨rfl, hb1⟩
      clear c0 c1 c2 c3
      have HB1 := Lib.hid (HB.out.below hb1 HB.out.lt)
      have HZ1 := Lib.hid (HZ.out.below hb1 HZ.out.lt)
      have Hb1 := Lib.hid (Hb.out.trans (hb1.mono Hb.out.size))
      obtain ⟨c0, c1, c2, c3, f0, f1, f2, f3⟩ := dkCells HB1.out
      obtain ⟨z0, z1, z2, z3, y0, y1, y2, y3⟩ := dkCells HZ1.out
      clear hb1
      go_wp2_with fail
      exact bodyPost_ret (v := .tuple #[.agg #[.int .i64 0, .int .i64 0, .slice none 0 0, .int .i64 0], .int .i64 410]) (by simp [results, Try.results12, go_sem, *]) rfl
        ⟨_, by rw [Hr.out], by rw [Hl.out]; exact lgV_zero _, by (repeat (refine Below.setCell ?_ (by first | exact Nat.le_refl _ | (simp; done) | (simp; omega)) _)); exact Hb1.out⟩
  case inr =>
    have Hr := Lib.hid (hE1 rfl)
    have Hl := Lib.hid (hLb (by rw [Hr.out]; decide))
    clear hE1 hE2 hE3 hLb hLg hok hck'
    go_enter Try.func12, Try.ntmps12
    go_wp2_with fail
    refine (HCk.out _ Hb.out).mono ?_
    rintro e w1 ⟨rfl, hb1⟩
    clear c0 c1 c2 c3
    have HB1 := Lib.hid (HB.out.below hb1 HB.out.lt)
    have HZ1 := Lib.hid (HZ.out.below hb1 HZ.out.lt)
    have Hb1 := Lib.hid (Hb.out.trans (hb1.mono Hb.out.size))
    obtain ⟨c0, c1, c2, c3, f0, f1, f2, f3⟩ := dkCells HB1.out
    obtain ⟨z0, z1, z2, z3, y0, y1, y2, y3⟩ := dkCells HZ1.out
    clear hb1
    go_wp2_with fail
    exact bodyPost_ret (v := .tuple #[.agg #[.int .i64 0, .int .i64 0, .slice none 0 0, .int .i64 0], .int .i64 1]) (by simp [results, Try.results12, go_sem, *]) rfl
      ⟨_, by rw [Hr.out], by rw [Hl.out]; exact lgV_zero _, by (repeat (refine Below.setCell ?_ (by first | exact Nat.le_refl _ | (simp; done) | (simp; omega)) _)); exact Hb1.out⟩
end Go.Proofs.Ytbinibpkbkhdlaa
