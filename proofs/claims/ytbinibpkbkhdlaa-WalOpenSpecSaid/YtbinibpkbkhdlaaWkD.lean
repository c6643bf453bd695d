/- Disk: Stop, Restart. -/
import Derived.Test.YtbinibpkbkhdlaaWkC
namespace Go.Proofs.Ytbinibpkbkhdlaa
open Go.RowKit

def restart (D : Dk) : Dk := ⟨D.secs, -1, 0, false⟩
def RetD (D : Dk) (w : World) (e : Ending) (w' : World) : Prop := ∃ d, e = .returned d ∧ DkV w' d D ∧ Below w.heap.size w w'
def RetDE (D : Dk) (c : Int) (w : World) (e : Ending) (w' : World) : Prop := ∃ d, e = .returned (.tuple #[d, .int .i64 c]) ∧ DkV w' d D ∧ Below w.heap.size w w'
set_option maxRecDepth 100000 in
theorem restart_any (D : Dk) (d : Value) (w : World) (hd : DkV w d D) :
    Calls Try.prog 26 #[d] w fun e w' => RetD (restart D) w e w' := by
  obtain ⟨v, rfl, hs⟩ := hd
  obtain ⟨a, cap, rfl⟩ := hs.len
  obtain ⟨S, left, tear, stop⟩ := D
  have HS := Lib.hid hs
  unfold dkAgg
  simp only []
  clear hs
  go_enter Try.func26, Try.ntmps26
  go_wp2_with fail
  have hb : Below w.heap.size w ((w.alloc (.cells #[.slice a S.length cap, .int .i64 (-1), .int .i64 0, .bool false] 24)).alloc (.cells #[.slice a S.length cap, .int .i64 (-1), .int .i64 0, .bool false] 24)) := (below_alloc w _).alloc (by simp) _
  exact bodyPost_ret (v := .agg #[.slice a S.length cap, .int .i64 (-1), .int .i64 0, .bool false]) (by simp [results, Try.results26, go_sem]) rfl ⟨_, rfl, ⟨_, rfl, HS.out.next hb⟩, hb⟩
/-- what Stop says -/
def stE (D : Dk) (l t : Int) : Int := if chk D = 1 then 1 else if l < -1 ∨ t < 0 ∨ 128 < t then 1 else if D.stop then 410 else 0
def stD (D : Dk) (l t : Int) : Dk := if stE D l t = 0 then ⟨D.secs, l, t, D.stop⟩ else Dk.zero
theorem stE_1 {D : Dk} {l t : Int} (h : chk D = 1 ∨ l < -1 ∨ t < 0 ∨ 128 < t) : stE D l t = 1 := by
  unfold stE
  rcases h with h | h
  · rw [if_pos h]
  · rw [if_pos h]; split <;> rfl
theorem stE_2 {D : Dk} {l t : Int} (h : chk D = 0) (h1 : -1 ≤ l) (h2 : 0 ≤ t) (h3 : t ≤ 128) : stE D l t = if D.stop then 410 else 0 := by
  unfold stE
  rw [if_neg (by rw [h]; decide), if_neg (by omega)]
theorem stD_0 {D : Dk} {l t : Int} (h : stE D l t ≠ 0) : stD D l t = Dk.zero := by rw [stD, if_neg h]
theorem dkCells {w : World} {g : Nat} {T : TypeId} {a b c d : Value} (h : Blk w g T #[a, b, c, d]) :
    w.cell? ⟨g, 0, none⟩ = some a ∧ w.cell? ⟨g, 1, none⟩ = some b ∧ w.cell? ⟨g, 2, none⟩ = some c ∧ w.cell? ⟨g, 3, none⟩ = some d ∧
    w.frozen? ⟨g, 0, none⟩ = false ∧ w.frozen? ⟨g, 1, none⟩ = false ∧ w.frozen? ⟨g, 2, none⟩ = false ∧ w.frozen? ⟨g, 3, none⟩ = false :=
  ⟨by rw [h.cell]; rfl, by rw [h.cell]; rfl, by rw [h.cell]; rfl, by rw [h.cell]; rfl, h.frozen 0, h.frozen 1, h.frozen 2, h.frozen 3⟩
set_option maxRecDepth 100000 in
set_option maxHeartbeats 1000000 in
theorem stop_any (D : Dk) (d : Value) (l t : Int) (w : World) (hd : DkV w d D) :
    Calls Try.prog 24 #[d, .int .i64 l, .int .i64 t] w fun e w' => RetDE (stD D l t) (stE D l t) w e w' := by
  have HC := fun W (hb : Below w.heap.size w W) => check_any D d W (hd.next hb)
  obtain ⟨v, rfl, hs⟩ := hd
  obtain ⟨a, cap, rfl⟩ := hs.len
  have h01 := chk01 D
  obtain ⟨c, hc⟩ : ∃ c, chk D = c := ⟨_, rfl⟩
  rw [hc] at HC h01
  obtain ⟨S, left, tear, stop⟩ := D
  unfold dkAgg at HC ⊢
  simp only [] at HC hs ⊢
  have HC2 := Lib.hid HC
  have HS := Lib.hid hs
  have HCc := Lib.hid hc
  clear HC hs hc
  have hB1 : Blk ((w.alloc (.cells #[.slice a S.length cap, .int .i64 left, .int .i64 tear, .bool stop] 24)).alloc (.cells #[.slice none 0 0, .int .i64 0, .int .i64 0, .bool false] 24)) w.heap.size 24 #[.slice a S.length cap, .int .i64 left, .int .i64 tear, .bool stop] := (Blk.new w _ _).alloc _
  have hB2 : Blk ((w.alloc (.cells #[.slice a S.length cap, .int .i64 left, .int .i64 tear, .bool stop] 24)).alloc (.cells #[.slice none 0 0, .int .i64 0, .int .i64 0, .bool false] 24)) (w.heap.size + 1) 24 #[.slice none 0 0, .int .i64 0, .int .i64 0, .bool false] := by
    have := Blk.new (w.alloc (.cells #[.slice a S.length cap, .int .i64 left, .int .i64 tear, .bool stop] 24)) 24 #[.slice none 0 0, .int .i64 0, .int .i64 0, .bool false]
    simpa using this
  have HB1 := Lib.hid hB1
  have HB2 := Lib.hid hB2
  have hb2 := Lib.hid ((below_alloc w (.cells #[.slice a S.length cap, .int .i64 left, .int .i64 tear, .bool stop] 24)).alloc (by simp) (.cells #[.slice none 0 0, .int .i64 0, .int .i64 0, .bool false] 24))
  clear hB1 hB2
  rcases h01 with rfl | rfl
  · by_cases hbad : l < -1 ∨ t < 0 ∨ 128 < t
    · have hE := Lib.hid (stE_1 (D := ⟨S, left, tear, stop⟩) (.inr hbad))
      have hD := Lib.hid (stD_0 (D := ⟨S, left, tear, stop⟩) (l := l) (t := t) (by rw [hE.out]; simp))
      rcases hbad with hbad | hbad | hbad
      · go_enter Try.func24, Try.ntmps24
        go_wp2_with fail
        refine (HC2.out _ hb2.out).mono ?_
        rintro e w1 ⟨rfl, hb1⟩
        obtain ⟨b0, b1, b2, b3, f0, f1, f2, f3⟩ := dkCells (HB1.out.below hb1 (by simp; omega))
        obtain ⟨r0, r1, r2, r3, s0, s1, s2, s3⟩ := dkCells (HB2.out.below hb1 (by simp))
        have hbF := hb2.out.trans (hb1.mono (by simp; omega))
        clear hb1
        go_wp2_with fail
        exact bodyPost_ret (v := .tuple #[.agg #[.slice none 0 0, .int .i64 0, .int .i64 0, .bool false], .int .i64 1]) (by simp [results, Try.results24, go_sem, *]) rfl
          ⟨_, by first | (rw [hE.out]; done) | (rw [hE.out]; rfl), by rw [hD.out]; exact dkV_zero _, by (repeat (refine Below.setCell ?_ (by first | exact Nat.le_refl _ | (simp; done) | (simp; omega)) _)); exact hbF⟩
      · by_cases h1 : l < -1
        · go_enter Try.func24, Try.ntmps24
          go_wp2_with fail
          refine (HC2.out _ hb2.out).mono ?_
          rintro e w1 ⟨rfl, hb1⟩
          obtain ⟨b0, b1, b2, b3, f0, f1, f2, f3⟩ := dkCells (HB1.out.below hb1 (by simp; omega))
          obtain ⟨r0, r1, r2, r3, s0, s1, s2, s3⟩ := dkCells (HB2.out.below hb1 (by simp))
          have hbF := hb2.out.trans (hb1.mono (by simp; omega))
          clear hb1
          go_wp2_with fail
          exact bodyPost_ret (v := .tuple #[.agg #[.slice none 0 0, .int .i64 0, .int .i64 0, .bool false], .int .i64 1]) (by simp [results, Try.results24, go_sem, *]) rfl
            ⟨_, by first | (rw [hE.out]; done) | (rw [hE.out]; rfl), by rw [hD.out]; exact dkV_zero _, by (repeat (refine Below.setCell ?_ (by first | exact Nat.le_refl _ | (simp; done) | (simp; omega)) _)); exact hbF⟩
        · have h1' : -1 ≤ l := by omega
          clear h1
          go_enter Try.func24, Try.ntmps24
          go_wp2_with fail
          refine (HC2.out _ hb2.out).mono ?_
          rintro e w1 ⟨rfl, hb1⟩
          obtain ⟨b0, b1, b2, b3, f0, f1, f2, f3⟩ := dkCells (HB1.out.below hb1 (by simp; omega))
          obtain ⟨r0, r1, r2, r3, s0, s1, s2, s3⟩ := dkCells (HB2.out.below hb1 (by simp))
          have hbF := hb2.out.trans (hb1.mono (by simp; omega))
          clear hb1
          go_wp2_with fail
          exact bodyPost_ret (v := .tuple #[.agg #[.slice none 0 0, .int .i64 0, .int .i64 0, .bool false], .int .i64 1]) (by simp [results, Try.results24, go_sem, *]) rfl
            ⟨_, by first | (rw [hE.out]; done) | (rw [hE.out]; rfl), by rw [hD.out]; exact dkV_zero _, by (repeat (refine Below.setCell ?_ (by first | exact Nat.le_refl _ | (simp; done) | (simp; omega)) _)); exact hbF⟩
      · by_cases h1 : l < -1
        · go_enter Try.func24, Try.ntmps24
          go_wp2_with fail
          refine (HC2.out _ hb2.out).mono ?_
          rintro e w1 ⟨rfl, hb1⟩
          obtain ⟨b0, b1, b2, b3, f0, f1, f2, f3⟩ := dkCells (HB1.out.below hb1 (by simp; omega))
          obtain ⟨r0, r1, r2, r3, s0, s1, s2, s3⟩ := dkCells (HB2.out.below hb1 (by simp))
          have hbF := hb2.out.trans (hb1.mono (by simp; omega))
          clear hb1
          go_wp2_with fail
          exact bodyPost_ret (v := .tuple #[.agg #[.slice none 0 0, .int .i64 0, .int .i64 0, .bool false], .int .i64 1]) (by simp [results, Try.results24, go_sem, *]) rfl
            ⟨_, by first | (rw [hE.out]; done) | (rw [hE.out]; rfl), by rw [hD.out]; exact dkV_zero _, by (repeat (refine Below.setCell ?_ (by first | exact Nat.le_refl _ | (simp; done) | (simp; omega)) _)); exact hbF⟩
        · have h1' : -1 ≤ l := by omega
          have h2' : 0 ≤ t := by omega
          clear h1
          go_enter Try.func24, Try.ntmps24
          go_wp2_with fail
          refine (HC2.out _ hb2.out).mono ?_
          rintro e w1 ⟨rfl, hb1⟩
          obtain ⟨b0, b1, b2, b3, f0, f1, f2, f3⟩ := dkCells (HB1.out.below hb1 (by simp; omega))
          obtain ⟨r0, r1, r2, r3, s0, s1, s2, s3⟩ := dkCells (HB2.out.below hb1 (by simp))
          have hbF := hb2.out.trans (hb1.mono (by simp; omega))
          clear hb1
          go_wp2_with fail
          exact bodyPost_ret (v := .tuple #[.agg #[.slice none 0 0, .int .i64 0, .int .i64 0, .bool false], .int .i64 1]) (by simp [results, Try.results24, go_sem, *]) rfl
            ⟨_, by first | (rw [hE.out]; done) | (rw [hE.out]; rfl), by rw [hD.out]; exact dkV_zero _, by (repeat (refine Below.setCell ?_ (by first | exact Nat.le_refl _ | (simp; done) | (simp; omega)) _)); exact hbF⟩
    · have h1 : -1 ≤ l := by omega
      have h2 : 0 ≤ t := by omega
      have h3 : t ≤ 128 := by omega
      have hE := Lib.hid (stE_2 (D := ⟨S, left, tear, stop⟩) HCc.out h1 h2 h3)
      clear hbad
      cases stop
      · have hD := Lib.hid (show stD ⟨S, left, tear, false⟩ l t = ⟨S, l, t, false⟩ by rw [stD, if_pos (by first | (rw [hE.out]; done) | (rw [hE.out]; rfl))])
        go_enter Try.func24, Try.ntmps24
        go_wp2_with fail
        refine (HC2.out _ hb2.out).mono ?_
        rintro e w1 ⟨rfl, hb1⟩
        obtain ⟨b0, b1, b2, b3, f0, f1, f2, f3⟩ := dkCells (HB1.out.below hb1 (by simp; omega))
        obtain ⟨r0, r1, r2, r3, s0, s1, s2, s3⟩ := dkCells (HB2.out.below hb1 (by simp))
        have hbF := hb2.out.trans (hb1.mono (by simp; omega))
        clear hb1
        go_wp2_with fail
        exact bodyPost_ret (v := .tuple #[.agg #[.slice a S.length cap, .int .i64 l, .int .i64 t, .bool false], .int .i64 0]) (by simp [results, Try.results24, go_sem, *]) rfl
          ⟨_, by first | (rw [hE.out]; done) | (rw [hE.out]; rfl), by rw [hD.out]; exact ⟨_, rfl, HS.out.next (by (repeat (refine Below.setCell ?_ (by first | exact Nat.le_refl _ | (simp; done) | (simp; omega)) _)); exact hbF)⟩, by (repeat (refine Below.setCell ?_ (by first | exact Nat.le_refl _ | (simp; done) | (simp; omega)) _)); exact hbF⟩
      · have hD := Lib.hid (stD_0 (D := ⟨S, left, tear, true⟩) (l := l) (t := t) (by rw [hE.out]; simp))
        go_enter Try.func24, Try.ntmps24
        go_wp2_with fail
        refine (HC2.out _ hb2.out).mono ?_
        rintro e w1 ⟨rfl, hb1⟩
        obtain ⟨b0, b1, b2, b3, f0, f1, f2, f3⟩ := dkCells (HB1.out.below hb1 (by simp; omega))
        obtain ⟨r0, r1, r2, r3, s0, s1, s2, s3⟩ := dkCells (HB2.out.below hb1 (by simp))
        have hbF := hb2.out.trans (hb1.mono (by simp; omega))
        clear hb1
        go_wp2_with fail
        exact bodyPost_ret (v := .tuple #[.agg #[.slice none 0 0, .int .i64 0, .int .i64 0, .bool false], .int .i64 410]) (by simp [results, Try.results24, go_sem, *]) rfl
          ⟨_, by first | (rw [hE.out]; done) | (rw [hE.out]; rfl), by rw [hD.out]; exact dkV_zero _, by (repeat (refine Below.setCell ?_ (by first | exact Nat.le_refl _ | (simp; done) | (simp; omega)) _)); exact hbF⟩
  · have hE := Lib.hid (stE_1 (D := ⟨S, left, tear, stop⟩) (l := l) (t := t) (.inl HCc.out))
    have hD := Lib.hid (stD_0 (D := ⟨S, left, tear, stop⟩) (l := l) (t := t) (by rw [hE.out]; simp))
    go_enter Try.func24, Try.ntmps24
    go_wp2_with fail
    refine (HC2.out _ hb2.out).mono ?_
    rintro e w1 ⟨rfl, hb1⟩
    obtain ⟨b0, b1, b2, b3, f0, f1, f2, f3⟩ := dkCells (HB1.out.below hb1 (by simp; omega))
    obtain ⟨r0, r1, r2, r3, s0, s1, s2, s3⟩ := dkCells (HB2.out.below hb1 (by simp))
    have hbF := hb2.out.trans (hb1.mono (by simp; omega))
    clear hb1
    go_wp2_with fail
    exact bodyPost_ret (v := .tuple #[.agg #[.slice none 0 0, .int .i64 0, .int .i64 0, .bool false], .int .i64 1]) (by simp [results, Try.results24, go_sem, *]) rfl
      ⟨_, by first | (rw [hE.out]; done) | (rw [hE.out]; rfl), by rw [hD.out]; exact dkV_zero _, by (repeat (refine Below.setCell ?_ (by first | exact Nat.le_refl _ | (simp; done) | (simp; omega)) _)); exact hbF⟩
end Go.Proofs.Ytbinibpkbkhdlaa
