/- Disk: Write. -/
import Derived.Test.YtbinibpkbkhdlaaWkF
namespace Go.Proofs.Ytbinibpkbkhdlaa
open Go.RowKit

/-- what Write says -/
def wtE (D : Dk) (k : Int) (b : List UInt8) : Int := if chkS D k = 1 then 1 else if b.length ≠ 128 then 1 else if D.stop then 410 else if D.left = 0 then 410 else 0
def wtD (D : Dk) (k : Int) (b : List UInt8) : Dk :=
  if chkS D k = 1 ∨ b.length ≠ 128 then Dk.zero else if D.stop then D else ⟨D.secs.set k.toNat (wrSec D.left D.tear.toNat (D.secs.getD k.toNat []) b), wrLeft D.left, D.tear, decide (D.left = 0)⟩

theorem any_len {S : List (List UInt8)} (h : anyOdd S = false) : ∀ s ∈ S, s.length = 128 := by
  intro s hs
  have := (List.any_eq_false.1 h) s hs
  simpa [odd] using this
/-- the last store of Write: the new disk is read again -/
theorem wt_fin {S' : List (List UInt8)} {w w2 W : World} {B : Nat} {v : Value} (h : ∀ W2, Upd (fun q => w.heap.size ≤ q ∧ q ≤ B) w2 W2 → Secs W2 v S') (hW : Upd (fun q => w.heap.size ≤ q ∧ q ≤ B) w2 W) {l t : Int} {st : Bool} :
    DkV W (.agg #[v, .int .i64 l, .int .i64 t, .bool st]) ⟨S', l, t, st⟩ := ⟨v, rfl, h W hW⟩

set_option maxRecDepth 100000 in
set_option maxHeartbeats 4000000 in
theorem wt_any (D : Dk) (d : Value) (k : Int) (b : List UInt8) (vb : Value) (w : World) (hd : DkV w d D) (hvb : Sl w 1 vb b.length (bc b)) (hle : D.left ≤ 9223372036854775807) (_hbm : b.length ≤ maxLen) :
    Calls Try.prog 27 #[d, .int .i64 k, vb] w fun e w' => RetDE (wtD D k b) (wtE D k b) w e w' := by
  unfold maxLen at _hbm
  obtain ⟨ab, cb, rfl⟩ := hvb.form
  have HC := fun W (hb : Below w.heap.size w W) => checkSector_any D d k W (hd.next hb)
  obtain ⟨v, rfl, hs⟩ := hd
  obtain ⟨a, cap, rfl⟩ := hs.len
  have h01 := chkS01 D k
  obtain ⟨c, hc⟩ : ∃ c, chkS D k = c := ⟨_, rfl⟩
  rw [hc] at HC h01
  obtain ⟨S, left, tear, stop⟩ := D
  unfold dkAgg at HC ⊢
  simp only [] at HC hs hle ⊢
  have HC2 := Lib.hid HC
  have HS := Lib.hid hs
  have HCc := Lib.hid hc
  have HV := Lib.hid hvb
  clear HC hs hc hvb
  have hB1 : Blk ((w.alloc (.cells #[.slice a S.length cap, .int .i64 left, .int .i64 tear, .bool stop] 24)).alloc (.cells #[.slice none 0 0, .int .i64 0, .int .i64 0, .bool false] 24)) w.heap.size 24 #[.slice a S.length cap, .int .i64 left, .int .i64 tear, .bool stop] := (Blk.new w _ _).alloc _
  have hB2 : Blk ((w.alloc (.cells #[.slice a S.length cap, .int .i64 left, .int .i64 tear, .bool stop] 24)).alloc (.cells #[.slice none 0 0, .int .i64 0, .int .i64 0, .bool false] 24)) (w.heap.size + 1) 24 #[.slice none 0 0, .int .i64 0, .int .i64 0, .bool false] := by
    have := Blk.new (w.alloc (.cells #[.slice a S.length cap, .int .i64 left, .int .i64 tear, .bool stop] 24)) 24 #[.slice none 0 0, .int .i64 0, .int .i64 0, .bool false]
    simpa using this
  have HB1 := Lib.hid hB1
  have HB2 := Lib.hid hB2
  have hb2 := Lib.hid ((below_alloc w (.cells #[.slice a S.length cap, .int .i64 left, .int .i64 tear, .bool stop] 24)).alloc (by simp) (.cells #[.slice none 0 0, .int .i64 0, .int .i64 0, .bool false] 24))
  clear hB1 hB2
  rcases h01 with rfl | rfl
  · by_cases hbl : b.length = 128
    · obtain ⟨hch, hk0, hk1⟩ := chkS_ok HCc.out
      obtain ⟨ho1, ho2, ho3, ho4, ho5, ho6, ho7⟩ := chk_ok hch
      simp only [] at ho1 ho2 ho3 ho4 ho5 ho6 hk1
      obtain ⟨j, rfl⟩ : ∃ j : Nat, k = j := ⟨k.toNat, by omega⟩
      obtain ⟨t, rfl⟩ : ∃ t : Nat, tear = t := ⟨tear.toNat, by omega⟩
      have hE : wtE ⟨S, left, t, stop⟩ j b = if stop then 410 else if left = 0 then 410 else 0 := by
        rw [wtE, if_neg (by rw [HCc.out]; decide), if_neg (by omega)]
      have hD : wtD ⟨S, left, t, stop⟩ j b = if stop then ⟨S, left, t, stop⟩ else ⟨S.set j (wrSec left t (S.getD j []) b), wrLeft left, t, decide (left = 0)⟩ := by
        rw [wtD, if_neg (by rw [HCc.out]; simp [hbl])]; rfl
      have hbv := HV.out
      rw [hbl] at hbv ⊢
      have HV2 := Lib.hid hbv
      have HE := Lib.hid hE
      have HD := Lib.hid hD
      have HBL := Lib.hid hbl
      clear hE hD hbv hbl hch ho7
      cases stop
      · obtain ⟨s, hjs⟩ : ∃ s, S[j]? = some s := ⟨_, List.getElem?_eq_getElem (by omega)⟩
        have hsl := any_len ho3 s (List.mem_of_getElem? hjs)
        have hget : S.getD j [] = s := by simp [List.getD, hjs]
        have HJ := Lib.hid hjs
        have HG := Lib.hid hget
        have HSL := Lib.hid hsl
        clear hjs hget hsl ho3
        by_cases hz : left = 0
        · subst hz
          have hD := Lib.hid (show wtD ⟨S, 0, t, false⟩ j b = ⟨S.set j (wrSec 0 t s b), wrLeft 0, t, true⟩ by rw [HD.out, if_neg (by decide), HG.out]; rfl)
          have hE := Lib.hid (show wtE ⟨S, 0, t, false⟩ j b = 410 by rw [HE.out, if_neg (by decide), if_pos rfl])
          go_enter Try.func27, Try.ntmps27
          go_wp2_with fail
          refine (HC2.out _ hb2.out).mono ?_
          rintro e w1 ⟨rfl, hb1⟩
          obtain ⟨b0, b1, b2, b3, f0, f1, f2, f3⟩ := dkCells (HB1.out.below hb1 (by simp; omega))
          obtain ⟨r0, r1, r2, r3, s0, s1, s2, s3⟩ := dkCells (HB2.out.below hb1 (by simp))
          have hbF := hb2.out.trans (hb1.mono (by simp; omega))
          go_wp2_with fail
          have hBy := Blk.new w1 79 #[.slice a S.length cap, .int .i64 0, .int .i64 (t : Int), .bool false]
          have hw1 := hbF.size
          have hz : w.heap.size + 1 < w1.heap.size := by have := hb1.size; simp at this; omega
          refine (write_zero S t a cap w1.heap.size j s b _ w _ hBy hw1 (hbF.alloc hw1 _) HS.out HV2.out HBL.out HJ.out HSL.out (by omega) ho2).mono ?_
          rintro e w2 ⟨rfl, hU, v', hsec, hB'⟩
          have hdl : decide ((0 : Int) ≠ 0) = false := by decide
          have hdl2 : decide ((0 : Int) = 0) = true := by decide
          have hdl3 : wrLeft 0 = 0 := rfl
          rw [hdl2, hdl3] at hB'
          obtain ⟨a', cap', hv'⟩ := (hsec w2 (Upd.refl _ _)).len
          subst hv'
          have hres := hU.heap (((HB2.out.below hb1 (by simp))).alloc _) (by show ¬ w.heap.size + 1 = w1.heap.size; omega)
          obtain ⟨r0', r1', r2', r3', s0', s1', s2', s3'⟩ := dkCells (show Blk w2 (w.heap.size + 1) 24 #[.slice none 0 0, .int .i64 0, .int .i64 0, .bool false] from hres)
          obtain ⟨y0, y1, y2, y3, _, _, _, _⟩ := dkCells hB'
          have hne1 : ¬ w1.heap.size = w.heap.size + 1 := by omega
          have hne2 : ¬ w.heap.size + 1 = w1.heap.size := by omega
          have hUB : Below w.heap.size w w2 := (hbF.alloc hw1 _).trans (hU.below (by simp; omega) (fun q hq e => by omega))
          have HSec := Lib.hid hsec
          have hz2 := hz
          clear hsec hU hB' hres hBy r0 r1 r2 r3 s0 s1 s2 s3 b0 b1 b2 b3 f0 f1 f2 f3 hb1
          go_wp2_with fail
          exact bodyPost_ret (v := .tuple #[.agg #[.slice a' (S.set j (wrSec 0 t s b)).length cap', .int .i64 0, .int .i64 (t : Int), .bool true], .int .i64 410]) (by simp [results, Try.results27, go_sem, *]) rfl
            ⟨_, by first | (rw [hE.out]; done) | (rw [hE.out]; rfl), by rw [hD.out]; exact wt_fin HSec.out (by (repeat (refine Upd.setCell (S := fun q => w.heap.size ≤ q ∧ q ≤ w1.heap.size) ?_ (Or.inl ⟨by simp, by simp; omega⟩) _)); exact Upd.refl _ _), by (repeat (refine Below.setCell ?_ (by first | exact Nat.le_refl _ | (simp; done) | (simp; omega)) _)); exact hUB⟩
        · have HZ := Lib.hid hz
          have hD := Lib.hid (show wtD ⟨S, left, t, false⟩ j b = ⟨S.set j (wrSec left t s b), wrLeft left, t, false⟩ by rw [HD.out, if_neg (by decide), HG.out, decide_eq_false hz])
          have hE := Lib.hid (show wtE ⟨S, left, t, false⟩ j b = 0 by rw [HE.out, if_neg (by decide), if_neg hz])
          clear hz
          go_enter Try.func27, Try.ntmps27
          go_wp2_with fail
          refine (HC2.out _ hb2.out).mono ?_
          rintro e w1 ⟨rfl, hb1⟩
          obtain ⟨b0, b1, b2, b3, f0, f1, f2, f3⟩ := dkCells (HB1.out.below hb1 (by simp; omega))
          obtain ⟨r0, r1, r2, r3, s0, s1, s2, s3⟩ := dkCells (HB2.out.below hb1 (by simp))
          have hbF := hb2.out.trans (hb1.mono (by simp; omega))
          go_wp2_with fail
          have hBy := Blk.new w1 79 #[.slice a S.length cap, .int .i64 left, .int .i64 (t : Int), .bool false]
          have hw1 := hbF.size
          have hz : w.heap.size + 1 < w1.heap.size := by have := hb1.size; simp at this; omega
          refine (write_pos S left t a cap w1.heap.size j s b _ w _ hBy hw1 (hbF.alloc hw1 _) HS.out HV2.out HBL.out HJ.out HSL.out (by omega) ho2 hle HZ.out).mono ?_
          rintro e w2 ⟨rfl, hU, v', hsec, hB'⟩
          have hdl : decide (left ≠ 0) = true := decide_eq_true HZ.out
          have hdl2 : decide (left = 0) = false := decide_eq_false HZ.out
          rw [hdl2] at hB'
          obtain ⟨a', cap', hv'⟩ := (hsec w2 (Upd.refl _ _)).len
          subst hv'
          have hres := hU.heap (((HB2.out.below hb1 (by simp))).alloc _) (by show ¬ w.heap.size + 1 = w1.heap.size; omega)
          obtain ⟨r0', r1', r2', r3', s0', s1', s2', s3'⟩ := dkCells (show Blk w2 (w.heap.size + 1) 24 #[.slice none 0 0, .int .i64 0, .int .i64 0, .bool false] from hres)
          obtain ⟨y0, y1, y2, y3, _, _, _, _⟩ := dkCells hB'
          have hne1 : ¬ w1.heap.size = w.heap.size + 1 := by omega
          have hne2 : ¬ w.heap.size + 1 = w1.heap.size := by omega
          have hUB : Below w.heap.size w w2 := (hbF.alloc hw1 _).trans (hU.below (by simp; omega) (fun q hq e => by omega))
          have HSec := Lib.hid hsec
          have hz2 := hz
          clear hsec hU hB' hres hBy r0 r1 r2 r3 s0 s1 s2 s3 b0 b1 b2 b3 f0 f1 f2 f3 hb1
          go_wp2_with fail
          exact bodyPost_ret (v := .tuple #[.agg #[.slice a' (S.set j (wrSec left t s b)).length cap', .int .i64 (wrLeft left), .int .i64 (t : Int), .bool false], .int .i64 0]) (by simp [results, Try.results27, go_sem, *]) rfl
            ⟨_, by first | (rw [hE.out]; done) | (rw [hE.out]; rfl), by rw [hD.out]; exact wt_fin HSec.out (by (repeat (refine Upd.setCell (S := fun q => w.heap.size ≤ q ∧ q ≤ w1.heap.size) ?_ (Or.inl ⟨by simp, by simp; omega⟩) _)); exact Upd.refl _ _), by (repeat (refine Below.setCell ?_ (by first | exact Nat.le_refl _ | (simp; done) | (simp; omega)) _)); exact hUB⟩
      · have hE : wtE ⟨S, left, t, true⟩ j b = 410 := HE.out
        have hD : wtD ⟨S, left, t, true⟩ j b = ⟨S, left, t, true⟩ := HD.out
        have hE := Lib.hid hE
        have hD := Lib.hid hD
        go_enter Try.func27, Try.ntmps27
        go_wp2_with fail
        refine (HC2.out _ hb2.out).mono ?_
        rintro e w1 ⟨rfl, hb1⟩
        obtain ⟨b0, b1, b2, b3, f0, f1, f2, f3⟩ := dkCells (HB1.out.below hb1 (by simp; omega))
        obtain ⟨r0, r1, r2, r3, s0, s1, s2, s3⟩ := dkCells (HB2.out.below hb1 (by simp))
        have hbF := hb2.out.trans (hb1.mono (by simp; omega))
        clear hb1
        go_wp2_with fail
        exact bodyPost_ret (v := .tuple #[.agg #[.slice a S.length cap, .int .i64 left, .int .i64 (t : Int), .bool true], .int .i64 410]) (by simp [results, Try.results27, go_sem, *]) rfl
          ⟨_, by first | (rw [hE.out]; done) | (rw [hE.out]; rfl), by rw [hD.out]; exact ⟨_, rfl, HS.out.next (by (repeat (refine Below.setCell ?_ (by first | exact Nat.le_refl _ | (simp; done) | (simp; omega)) _)); exact hbF)⟩, by (repeat (refine Below.setCell ?_ (by first | exact Nat.le_refl _ | (simp; done) | (simp; omega)) _)); exact hbF⟩
    · have n1 : ((b.length : Int) != 128) = true := by simp; omega
      have hE := Lib.hid (show wtE ⟨S, left, tear, stop⟩ k b = 1 by rw [wtE, if_neg (by rw [HCc.out]; decide), if_pos hbl])
      have hD := Lib.hid (show wtD ⟨S, left, tear, stop⟩ k b = Dk.zero by rw [wtD, if_pos (.inr hbl)])
      clear hbl
      go_enter Try.func27, Try.ntmps27
      go_wp2_with fail
      refine (HC2.out _ hb2.out).mono ?_
      rintro e w1 ⟨rfl, hb1⟩
      obtain ⟨b0, b1, b2, b3, f0, f1, f2, f3⟩ := dkCells (HB1.out.below hb1 (by simp; omega))
      obtain ⟨r0, r1, r2, r3, s0, s1, s2, s3⟩ := dkCells (HB2.out.below hb1 (by simp))
      have hbF := hb2.out.trans (hb1.mono (by simp; omega))
      clear hb1
      go_wp2_with fail
      exact bodyPost_ret (v := .tuple #[.agg #[.slice none 0 0, .int .i64 0, .int .i64 0, .bool false], .int .i64 1]) (by simp [results, Try.results27, go_sem, *]) rfl
        ⟨_, by first | (rw [hE.out]; done) | (rw [hE.out]; rfl), by rw [hD.out]; exact dkV_zero _, by (repeat (refine Below.setCell ?_ (by first | exact Nat.le_refl _ | (simp; done) | (simp; omega)) _)); exact hbF⟩
  · have hE := Lib.hid (show wtE ⟨S, left, tear, stop⟩ k b = 1 by rw [wtE, if_pos HCc.out])
    have hD := Lib.hid (show wtD ⟨S, left, tear, stop⟩ k b = Dk.zero by rw [wtD, if_pos (.inl HCc.out)])
    go_enter Try.func27, Try.ntmps27
    go_wp2_with fail
    refine (HC2.out _ hb2.out).mono ?_
    rintro e w1 ⟨rfl, hb1⟩
    obtain ⟨b0, b1, b2, b3, f0, f1, f2, f3⟩ := dkCells (HB1.out.below hb1 (by simp; omega))
    obtain ⟨r0, r1, r2, r3, s0, s1, s2, s3⟩ := dkCells (HB2.out.below hb1 (by simp))
    have hbF := hb2.out.trans (hb1.mono (by simp; omega))
    clear hb1
    go_wp2_with fail
    exact bodyPost_ret (v := .tuple #[.agg #[.slice none 0 0, .int .i64 0, .int .i64 0, .bool false], .int .i64 1]) (by simp [results, Try.results27, go_sem, *]) rfl
      ⟨_, by first | (rw [hE.out]; done) | (rw [hE.out]; rfl), by rw [hD.out]; exact dkV_zero _, by (repeat (refine Below.setCell ?_ (by first | exact Nat.le_refl _ | (simp; done) | (simp; omega)) _)); exact hbF⟩
end Go.Proofs.Ytbinibpkbkhdlaa
