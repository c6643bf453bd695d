/- Disk: the reference's Stop and Read. -/
import Derived.Test.YtekmdaphkgkgaaaDkP
namespace Go.Proofs.Ytekmdaphkgkgaaa
open Go.RowKit

set_option maxRecDepth 100000 in
set_option maxHeartbeats 1000000 in
theorem refStop_any (D : Dk) (d : Value) (l t : Int) (w : World) (hd : DkV w d D) (hlen : D.secs.length ≤ maxLen) :
    Calls Try.prog 21 #[d, .int .i64 l, .int .i64 t] w fun e w' => RetDE (stD D l t) (stE D l t) w e w' := by
  have HC := fun W (hb : Below w.heap.size w W) => refCheck_any D d W (hd.next hb) hlen
  obtain ⟨v, rfl, hs⟩ := hd
  obtain ⟨a, cap, rfl⟩ := hs.len
  have h01 := chk01 D
  obtain ⟨c, hc⟩ : ∃ c, chk D = c := ⟨_, rfl⟩
  rw [hc] at HC h01
  obtain ⟨S, left, tear, stop⟩ := D
  unfold dkAgg at HC ⊢
  simp only [] at HC hs ⊢
  have HC2 := Lib.hid HC
  have HS := Lib.hid hs
  have HCc := Lib.hid hc
  clear HC hs hc hlen
  have hB1 : Blk ((w.alloc (.cells #[.slice a S.length cap, .int .i64 left, .int .i64 tear, .bool stop] 26)).alloc (.cells #[.slice none 0 0, .int .i64 0, .int .i64 0, .bool false] 26)) w.heap.size 26 #[.slice a S.length cap, .int .i64 left, .int .i64 tear, .bool stop] := (Blk.new w _ _).alloc _
  have hB2 : Blk ((w.alloc (.cells #[.slice a S.length cap, .int .i64 left, .int .i64 tear, .bool stop] 26)).alloc (.cells #[.slice none 0 0, .int .i64 0, .int .i64 0, .bool false] 26)) (w.heap.size + 1) 26 #[.slice none 0 0, .int .i64 0, .int .i64 0, .bool false] := by
    have := Blk.new (w.alloc (.cells #[.slice a S.length cap, .int .i64 left, .int .i64 tear, .bool stop] 26)) 26 #[.slice none 0 0, .int .i64 0, .int .i64 0, .bool false]
    simpa using this
  have HB1 := Lib.hid hB1
  have HB2 := Lib.hid hB2
  have hb2 := Lib.hid ((below_alloc w (.cells #[.slice a S.length cap, .int .i64 left, .int .i64 tear, .bool stop] 26)).alloc (by simp) (.cells #[.slice none 0 0, .int .i64 0, .int .i64 0, .bool false] 26))
  clear hB1 hB2
  rcases h01 with rfl | rfl
  · by_cases hbad : l < -1 ∨ t < 0 ∨ 128 < t
    · have hE := Lib.hid (stE_1 (D := ⟨S, left, tear, stop⟩) (.inr hbad))
      have hD := Lib.hid (stD_0 (D := ⟨S, left, tear, stop⟩) (l := l) (t := t) (by rw [hE.out]; simp))
      rcases hbad with hbad | hbad | hbad
      · go_enter Try.func21, Try.ntmps21
        go_wp2_with fail
        refine (HC2.out _ hb2.out).mono ?_
        rintro e w1 ⟨rfl, hb1⟩
        obtain ⟨b0, b1, b2, b3, f0, f1, f2, f3⟩ := dkCells (HB1.out.below hb1 (by simp; omega))
        obtain ⟨r0, r1, r2, r3, s0, s1, s2, s3⟩ := dkCells (HB2.out.below hb1 (by simp))
        have hbF := hb2.out.trans (hb1.mono (by simp; omega))
        clear hb1
        go_wp2_with fail
        exact bodyPost_ret (v := .tuple #[.agg #[.slice none 0 0, .int .i64 0, .int .i64 0, .bool false], .int .i64 1]) (by simp [results, Try.results21, go_sem, *]) rfl
          ⟨_, by first | (rw [hE.out]; done) | (rw [hE.out]; rfl), by rw [hD.out]; exact dkV_zero _, by (repeat (refine Below.setCell ?_ (by first | exact Nat.le_refl _ | (simp; done) | (simp; omega)) _)); exact hbF⟩
      · by_cases h1 : l < -1
        · go_enter Try.func21, Try.ntmps21
          go_wp2_with fail
          refine (HC2.out _ hb2.out).mono ?_
          rintro e w1 ⟨rfl, hb1⟩
          obtain ⟨b0, b1, b2, b3, f0, f1, f2, f3⟩ := dkCells (HB1.out.below hb1 (by simp; omega))
          obtain ⟨r0, r1, r2, r3, s0, s1, s2, s3⟩ := dkCells (HB2.out.below hb1 (by simp))
          have hbF := hb2.out.trans (hb1.mono (by simp; omega))
          clear hb1
          go_wp2_with fail
          exact bodyPost_ret (v := .tuple #[.agg #[.slice none 0 0, .int .i64 0, .int .i64 0, .bool false], .int .i64 1]) (by simp [results, Try.results21, go_sem, *]) rfl
            ⟨_, by first | (rw [hE.out]; done) | (rw [hE.out]; rfl), by rw [hD.out]; exact dkV_zero _, by (repeat (refine Below.setCell ?_ (by first | exact Nat.le_refl _ | (simp; done) | (simp; omega)) _)); exact hbF⟩
        · have h1' : -1 ≤ l := by omega
          clear h1
          go_enter Try.func21, Try.ntmps21
          go_wp2_with fail
          refine (HC2.out _ hb2.out).mono ?_
          rintro e w1 ⟨rfl, hb1⟩
          obtain ⟨b0, b1, b2, b3, f0, f1, f2, f3⟩ := dkCells (HB1.out.below hb1 (by simp; omega))
          obtain ⟨r0, r1, r2, r3, s0, s1, s2, s3⟩ := dkCells (HB2.out.below hb1 (by simp))
          have hbF := hb2.out.trans (hb1.mono (by simp; omega))
          clear hb1
          go_wp2_with fail
          exact bodyPost_ret (v := .tuple #[.agg #[.slice none 0 0, .int .i64 0, .int .i64 0, .bool false], .int .i64 1]) (by simp [results, Try.results21, go_sem, *]) rfl
            ⟨_, by first | (rw [hE.out]; done) | (rw [hE.out]; rfl), by rw [hD.out]; exact dkV_zero _, by (repeat (refine Below.setCell ?_ (by first | exact Nat.le_refl _ | (simp; done) | (simp; omega)) _)); exact hbF⟩
      · by_cases h1 : l < -1
        · go_enter Try.func21, Try.ntmps21
          go_wp2_with fail
          refine (HC2.out _ hb2.out).mono ?_
          rintro e w1 ⟨rfl, hb1⟩
          obtain ⟨b0, b1, b2, b3, f0, f1, f2, f3⟩ := dkCells (HB1.out.below hb1 (by simp; omega))
          obtain ⟨r0, r1, r2, r3, s0, s1, s2, s3⟩ := dkCells (HB2.out.below hb1 (by simp))
          have hbF := hb2.out.trans (hb1.mono (by simp; omega))
          clear hb1
          go_wp2_with fail
          exact bodyPost_ret (v := .tuple #[.agg #[.slice none 0 0, .int .i64 0, .int .i64 0, .bool false], .int .i64 1]) (by simp [results, Try.results21, go_sem, *]) rfl
            ⟨_, by first | (rw [hE.out]; done) | (rw [hE.out]; rfl), by rw [hD.out]; exact dkV_zero _, by (repeat (refine Below.setCell ?_ (by first | exact Nat.le_refl _ | (simp; done) | (simp; omega)) _)); exact hbF⟩
        · have h1' : -1 ≤ l := by omega
          have h2' : 0 ≤ t := by omega
          clear h1
          go_enter Try.func21, Try.ntmps21
          go_wp2_with fail
          refine (HC2.out _ hb2.out).mono ?_
          rintro e w1 ⟨rfl, hb1⟩
          obtain ⟨b0, b1, b2, b3, f0, f1, f2, f3⟩ := dkCells (HB1.out.below hb1 (by simp; omega))
          obtain ⟨r0, r1, r2, r3, s0, s1, s2, s3⟩ := dkCells (HB2.out.below hb1 (by simp))
          have hbF := hb2.out.trans (hb1.mono (by simp; omega))
          clear hb1
          go_wp2_with fail
          exact bodyPost_ret (v := .tuple #[.agg #[.slice none 0 0, .int .i64 0, .int .i64 0, .bool false], .int .i64 1]) (by simp [results, Try.results21, go_sem, *]) rfl
            ⟨_, by first | (rw [hE.out]; done) | (rw [hE.out]; rfl), by rw [hD.out]; exact dkV_zero _, by (repeat (refine Below.setCell ?_ (by first | exact Nat.le_refl _ | (simp; done) | (simp; omega)) _)); exact hbF⟩
    · have h1 : -1 ≤ l := by omega
      have h2 : 0 ≤ t := by omega
      have h3 : t ≤ 128 := by omega
      have hE := Lib.hid (stE_2 (D := ⟨S, left, tear, stop⟩) HCc.out h1 h2 h3)
      clear hbad
      cases stop
      · have hD := Lib.hid (show stD ⟨S, left, tear, false⟩ l t = ⟨S, l, t, false⟩ by rw [stD, if_pos (by first | (rw [hE.out]; done) | (rw [hE.out]; rfl))])
        go_enter Try.func21, Try.ntmps21
        go_wp2_with fail
        refine (HC2.out _ hb2.out).mono ?_
        rintro e w1 ⟨rfl, hb1⟩
        obtain ⟨b0, b1, b2, b3, f0, f1, f2, f3⟩ := dkCells (HB1.out.below hb1 (by simp; omega))
        obtain ⟨r0, r1, r2, r3, s0, s1, s2, s3⟩ := dkCells (HB2.out.below hb1 (by simp))
        have hbF := hb2.out.trans (hb1.mono (by simp; omega))
        clear hb1
        go_wp2_with fail
        exact bodyPost_ret (v := .tuple #[.agg #[.slice a S.length cap, .int .i64 l, .int .i64 t, .bool false], .int .i64 0]) (by simp [results, Try.results21, go_sem, *]) rfl
          ⟨_, by first | (rw [hE.out]; done) | (rw [hE.out]; rfl), by rw [hD.out]; exact ⟨_, rfl, HS.out.next (by (repeat (refine Below.setCell ?_ (by first | exact Nat.le_refl _ | (simp; done) | (simp; omega)) _)); exact hbF)⟩, by (repeat (refine Below.setCell ?_ (by first | exact Nat.le_refl _ | (simp; done) | (simp; omega)) _)); exact hbF⟩
      · have hD := Lib.hid (stD_0 (D := ⟨S, left, tear, true⟩) (l := l) (t := t) (by rw [hE.out]; simp))
        go_enter Try.func21, Try.ntmps21
        go_wp2_with fail
        refine (HC2.out _ hb2.out).mono ?_
        rintro e w1 ⟨rfl, hb1⟩
        obtain ⟨b0, b1, b2, b3, f0, f1, f2, f3⟩ := dkCells (HB1.out.below hb1 (by simp; omega))
        obtain ⟨r0, r1, r2, r3, s0, s1, s2, s3⟩ := dkCells (HB2.out.below hb1 (by simp))
        have hbF := hb2.out.trans (hb1.mono (by simp; omega))
        clear hb1
        go_wp2_with fail
        exact bodyPost_ret (v := .tuple #[.agg #[.slice none 0 0, .int .i64 0, .int .i64 0, .bool false], .int .i64 410]) (by simp [results, Try.results21, go_sem, *]) rfl
          ⟨_, by first | (rw [hE.out]; done) | (rw [hE.out]; rfl), by rw [hD.out]; exact dkV_zero _, by (repeat (refine Below.setCell ?_ (by first | exact Nat.le_refl _ | (simp; done) | (simp; omega)) _)); exact hbF⟩
  · have hE := Lib.hid (stE_1 (D := ⟨S, left, tear, stop⟩) (l := l) (t := t) (.inl HCc.out))
    have hD := Lib.hid (stD_0 (D := ⟨S, left, tear, stop⟩) (l := l) (t := t) (by rw [hE.out]; simp))
    go_enter Try.func21, Try.ntmps21
    go_wp2_with fail
    refine (HC2.out _ hb2.out).mono ?_
    rintro e w1 ⟨rfl, hb1⟩
    obtain ⟨b0, b1, b2, b3, f0, f1, f2, f3⟩ := dkCells (HB1.out.below hb1 (by simp; omega))
    obtain ⟨r0, r1, r2, r3, s0, s1, s2, s3⟩ := dkCells (HB2.out.below hb1 (by simp))
    have hbF := hb2.out.trans (hb1.mono (by simp; omega))
    clear hb1
    go_wp2_with fail
    exact bodyPost_ret (v := .tuple #[.agg #[.slice none 0 0, .int .i64 0, .int .i64 0, .bool false], .int .i64 1]) (by simp [results, Try.results21, go_sem, *]) rfl
      ⟨_, by first | (rw [hE.out]; done) | (rw [hE.out]; rfl), by rw [hD.out]; exact dkV_zero _, by (repeat (refine Below.setCell ?_ (by first | exact Nat.le_refl _ | (simp; done) | (simp; omega)) _)); exact hbF⟩

theorem rdB_0 {D : Dk} {k : Int} (h : rdE D k ≠ 0) : rdB D k = [] := by rw [rdB, if_neg h]
set_option maxRecDepth 100000 in
set_option maxHeartbeats 2000000 in
theorem refRead_any (D : Dk) (d : Value) (k : Int) (w : World) (hd : DkV w d D) (hlen : D.secs.length ≤ maxLen) :
    Calls Try.prog 19 #[d, .int .i64 k] w fun e w' => RetRd D k w e w' := by
  have HC := fun W (hb : Below w.heap.size w W) => refCheck_any D d W (hd.next hb) hlen
  obtain ⟨v, rfl, hs⟩ := hd
  obtain ⟨a, cap, rfl⟩ := hs.len
  have h01 := chk01 D
  have hS : chkS D k = if chk D = 0 ∧ 0 ≤ k ∧ k < D.secs.length then 0 else 1 := rfl
  obtain ⟨c, hc⟩ : ∃ c, chk D = c := ⟨_, rfl⟩
  rw [hc] at HC h01 hS
  obtain ⟨S, left, tear, stop⟩ := D
  unfold dkAgg at HC ⊢
  simp only [] at HC hs hS ⊢
  have HC2 := Lib.hid HC
  have HS := Lib.hid hs
  have HCc := Lib.hid hc
  have HSk := Lib.hid hS
  clear HC hs hc hS hlen
  have HB1 := Lib.hid (Blk.new w 26 #[.slice a S.length cap, .int .i64 left, .int .i64 tear, .bool stop])
  have hb2 := Lib.hid (below_alloc w (.cells #[.slice a S.length cap, .int .i64 left, .int .i64 tear, .bool stop] 26))
  rcases h01 with rfl | rfl
  case inr =>
    have hSk : chkS ⟨S, left, tear, stop⟩ k = 1 := by rw [HSk.out, if_neg (fun h => by cases h.1)]
    have hE := Lib.hid (show rdE ⟨S, left, tear, stop⟩ k = 1 by rw [rdE, if_pos hSk])
    have hB := Lib.hid (rdB_0 (D := ⟨S, left, tear, stop⟩) (k := k) (by rw [hE.out]; decide))
    clear hSk
    go_enter Try.func19, Try.ntmps19
    go_wp2_with fail
    refine (HC2.out _ hb2.out).mono ?_
    rintro e w1 ⟨rfl, hb1⟩
    obtain ⟨b0, b1, b2, b3, f0, f1, f2, f3⟩ := dkCells (HB1.out.below hb1 (by simp))
    have hbF := hb2.out.trans (hb1.mono (by simp))
    clear hb1
    go_wp2_with fail
    exact bodyPost_ret (v := .tuple #[.slice none 0 0, .int .i64 1]) (by simp [results, Try.results19, go_sem, *]) rfl
      ⟨_, by rw [hE.out], by rw [hB.out]; exact sl_nil _ 1, hbF⟩
  case inl =>
    by_cases hk0 : k < 0
    · have hSk : chkS ⟨S, left, tear, stop⟩ k = 1 := by rw [HSk.out, if_neg (fun h => by omega)]
      have hE := Lib.hid (show rdE ⟨S, left, tear, stop⟩ k = 1 by rw [rdE, if_pos hSk])
      have hB := Lib.hid (rdB_0 (D := ⟨S, left, tear, stop⟩) (k := k) (by rw [hE.out]; decide))
      clear hSk
      go_enter Try.func19, Try.ntmps19
      go_wp2_with fail
      refine (HC2.out _ hb2.out).mono ?_
      rintro e w1 ⟨rfl, hb1⟩
      obtain ⟨b0, b1, b2, b3, f0, f1, f2, f3⟩ := dkCells (HB1.out.below hb1 (by simp))
      have hbF := hb2.out.trans (hb1.mono (by simp))
      clear hb1
      go_wp2_with fail
      exact bodyPost_ret (v := .tuple #[.slice none 0 0, .int .i64 1]) (by simp [results, Try.results19, go_sem, *]) rfl
        ⟨_, by rw [hE.out], by rw [hB.out]; exact sl_nil _ 1, hbF⟩
    have hk0' : 0 ≤ k := by omega
    clear hk0
    by_cases hk1 : (S.length : Int) ≤ k
    · have hSk : chkS ⟨S, left, tear, stop⟩ k = 1 := by rw [HSk.out, if_neg (fun h => by omega)]
      have hE := Lib.hid (show rdE ⟨S, left, tear, stop⟩ k = 1 by rw [rdE, if_pos hSk])
      have hB := Lib.hid (rdB_0 (D := ⟨S, left, tear, stop⟩) (k := k) (by rw [hE.out]; decide))
      clear hSk
      go_enter Try.func19, Try.ntmps19
      go_wp2_with fail
      refine (HC2.out _ hb2.out).mono ?_
      rintro e w1 ⟨rfl, hb1⟩
      obtain ⟨b0, b1, b2, b3, f0, f1, f2, f3⟩ := dkCells (HB1.out.below hb1 (by simp))
      have hbF := hb2.out.trans (hb1.mono (by simp))
      clear hb1
      go_wp2_with fail
      exact bodyPost_ret (v := .tuple #[.slice none 0 0, .int .i64 1]) (by simp [results, Try.results19, go_sem, *]) rfl
        ⟨_, by rw [hE.out], by rw [hB.out]; exact sl_nil _ 1, hbF⟩
    have hk1' : k < (S.length : Int) := by omega
    clear hk1
    obtain ⟨ho1, ho2, ho3, ho4, ho5, ho6, ho7⟩ := chk_ok HCc.out
    simp only [] at ho1 ho2 ho3 ho4 ho5 ho6
    have hSk0 : chkS ⟨S, left, tear, stop⟩ k = 0 := by rw [HSk.out, if_pos ⟨rfl, hk0', hk1'⟩]
    cases stop
    case «true» =>
      have hE := Lib.hid (show rdE ⟨S, left, tear, true⟩ k = 410 by rw [rdE, if_neg (by rw [hSk0]; decide)]; rfl)
      have hB := Lib.hid (rdB_0 (D := ⟨S, left, tear, true⟩) (k := k) (by rw [hE.out]; decide))
      clear hSk0
      go_enter Try.func19, Try.ntmps19
      go_wp2_with fail
      refine (HC2.out _ hb2.out).mono ?_
      rintro e w1 ⟨rfl, hb1⟩
      obtain ⟨b0, b1, b2, b3, f0, f1, f2, f3⟩ := dkCells (HB1.out.below hb1 (by simp))
      have hbF := hb2.out.trans (hb1.mono (by simp))
      clear hb1
      go_wp2_with fail
      exact bodyPost_ret (v := .tuple #[.slice none 0 0, .int .i64 410]) (by simp [results, Try.results19, go_sem, *]) rfl
        ⟨_, by rw [hE.out], by rw [hB.out]; exact sl_nil _ 1, hbF⟩
    case «false» =>
      have hE0 : rdE ⟨S, left, tear, false⟩ k = 0 := by rw [rdE, if_neg (by rw [hSk0]; decide)]; rfl
      obtain ⟨j, rfl⟩ : ∃ j : Nat, k = j := ⟨k.toNat, by omega⟩
      obtain ⟨s, hjs⟩ : ∃ s, S[j]? = some s := ⟨_, List.getElem?_eq_getElem (by omega)⟩
      have hsl := any_len ho3 s (List.mem_of_getElem? hjs)
      have hB0 : rdB ⟨S, left, tear, false⟩ (j : Int) = s := by
        rw [rdB, if_pos hE0]; simp [List.getD, hjs]
      have hE := Lib.hid hE0
      have hB := Lib.hid hB0
      obtain ⟨g, off, rfl, hcap, hc⟩ := HS.out.at_ (by omega)
      obtain ⟨ad, c, hcell, hsec⟩ := hc j s hjs
      rw [hsl] at hcell hsec
      have hg := World.block_lt_of_cell? w _ hcell
      have HSec := Lib.hid hsec
      have HSL := Lib.hid hsl
      obtain ⟨iu, hiu, hu0, hu1, hu2⟩ := info_parts infoU8
      clear hc hjs hsl hsec hSk0 hE0 hB0 ho3
      go_enter Try.func19, Try.ntmps19
      go_wp2_with fail
      refine (HC2.out _ hb2.out).mono ?_
      rintro e w1 ⟨rfl, hb1⟩
      obtain ⟨b0, b1, b2, b3, f0, f1, f2, f3⟩ := dkCells (HB1.out.below hb1 (by simp))
      have hbF := hb2.out.trans (hb1.mono (by simp))
      have hz := hb1.size
      have hcell1 := (hbF.cell (p := ⟨g, off + j, none⟩) hg).trans hcell
      have hw1 := hbF.size
      have hg1 : g < w1.heap.size := Nat.lt_of_lt_of_le hg hw1
      have hB1l : w.heap.size < w1.heap.size := by simp at hz; omega
      clear hb1 b1 b2 f0 f1 f2 f3
      have HBF := Lib.hid hbF
      clear hbF
      go_wp2_with (at_builtin; refine wpList_append_sl _ rfl (.tmp 22) (.tmp 27) 32 rfl w1.heap.size 5 iu _ 1 Try.underlying32 hiu hu0 hu1 hu2 rfl (.slice (some ⟨w1.heap.size, 0, none⟩) 0 0) 0 [] rfl (own_empty w1 5 1) (.slice ad 128 c) 128 (bc s) rfl (HSec.out.next (HBF.out.alloc hw1 _)) (bc_one _) (by unfold maxLen; omega) (by omega) (by first | (simp; done) | (simp; omega)) ?_)
      intro v6 w6 hown6 hg6
      have hb6 : Below w1.heap.size w1 w6 := (((Below.refl w1.heap.size w1).alloc (Nat.le_refl _) _).grown hg6 (by simp) (fun k hk => by simp [Value.ownBlock] at hk; omega))
      have hsl6 := Lib.hid (show Sl w6 1 v6 128 (bc s) from Sl.of_own hown6)
      have hbw6 := Lib.hid (HBF.out.trans (hb6.mono HBF.out.size))
      clear hown6 hg6
      go_wp2_with fail
      exact bodyPost_ret (v := .tuple #[v6, .int .i64 0]) (by simp [results, Try.results19, go_sem, *]) rfl
        ⟨_, by rw [hE.out], by rw [hB.out, HSL.out]; exact hsl6.out, hbw6.out⟩
end Go.Proofs.Ytekmdaphkgkgaaa
