/- Intervals: the lattice. -/
import Derived.Test.YtnjpjjefhpbfgaaIvU
import Derived.Test.YtnjpjjefhpbfgaaIvO
namespace Go.Proofs.Ytnjpjjefhpbfgaa
open Go.RowKit

set_option maxRecDepth 100000 in
set_option maxHeartbeats 4000000 in
theorem lat_bad (a b c d e f : Int) (w : World) (hbad : ¬ (ck (a, b) = 0 ∧ ck (c, d) = 0 ∧ ck (e, f) = 0)) :
    Calls Try.prog 6 #[.agg #[.int .i64 a, .int .i64 b], .agg #[.int .i64 c, .int .i64 d], .agg #[.int .i64 e, .int .i64 f]] w fun e w' => e = .returned (.bool true) ∧ Below w.heap.size w w' := by
  have q0 := ((Blk.new w 23 #[.int .i64 a, .int .i64 b]).alloc (.cells #[.int .i64 c, .int .i64 d] 23)).alloc (.cells #[.int .i64 e, .int .i64 f] 23)
  have q1 := (blk_new2 w (.cells #[.int .i64 a, .int .i64 b] 23) 23 #[.int .i64 c, .int .i64 d]).alloc (.cells #[.int .i64 e, .int .i64 f] 23)
  have q2 := blk_new2 (w.alloc (.cells #[.int .i64 a, .int .i64 b] 23)) (.cells #[.int .i64 c, .int .i64 d] 23) 23 #[.int .i64 e, .int .i64 f]
  rw [World.size_alloc] at q2
  have hb := ((below_alloc w (.cells #[.int .i64 a, .int .i64 b] 23)).alloc (by simp) (.cells #[.int .i64 c, .int .i64 d] 23)).alloc (by simp; omega) (.cells #[.int .i64 e, .int .i64 f] 23)
  obtain ⟨W, hW⟩ : ∃ W, ((w.alloc (.cells #[.int .i64 a, .int .i64 b] 23)).alloc (.cells #[.int .i64 c, .int .i64 d] 23)).alloc (.cells #[.int .i64 e, .int .i64 f] 23) = W := ⟨_, rfl⟩
  rw [hW] at q0 q1 q2 hb
  have P00 := Lib.hid q0
  have P10 := Lib.hid q1
  have P20 := Lib.hid q2
  have Hb0 := Lib.hid hb
  have HW := Lib.hid hW
  have HS := Lib.hid (fun X => sane_any X)
  have HCI := Lib.hid (fun X => check_any a b X)
  have HCJ := Lib.hid (fun X => check_any c d X)
  have HCK := Lib.hid (fun X => check_any e f X)
  obtain ⟨x0, x1, _, _⟩ := cells2 q0
  obtain ⟨y0, y1, _, _⟩ := cells2 q1
  obtain ⟨z0, z1, _, _⟩ := cells2 q2
  clear q0 q1 q2 hb hW
  have HIJ := Lib.hid (fun X => within_any a b c d X)
  have HJK := Lib.hid (fun X => within_any c d e f X)
  have hpq : within (a, b) (c, d) = false ∨ (within (a, b) (c, d) = true ∧ within (c, d) (e, f) = false) := by
    cases hp : within (a, b) (c, d)
    · exact .inl rfl
    · cases hq : within (c, d) (e, f)
      · exact .inr ⟨rfl, rfl⟩
      · exact absurd ⟨(within_bad hp).1, within_bad hq⟩ hbad
  obtain ⟨p, hp⟩ : ∃ x, within (a, b) (c, d) = x := ⟨_, rfl⟩
  obtain ⟨q, hq⟩ : ∃ x, within (c, d) (e, f) = x := ⟨_, rfl⟩
  obtain ⟨ca, hca⟩ : ∃ x, ck (a, b) = x := ⟨_, rfl⟩
  obtain ⟨cb, hcb⟩ : ∃ x, ck (c, d) = x := ⟨_, rfl⟩
  obtain ⟨cc, hcc⟩ : ∃ x, ck (e, f) = x := ⟨_, rfl⟩
  rw [hca, hcb, hcc] at hbad
  rw [hp, hq] at hpq
  rw [hp] at HIJ
  rw [hq] at HJK
  rw [hca] at HCI
  rw [hcb] at HCJ
  rw [hcc] at HCK
  clear hp hq hca hcb hcc
  by_cases h0 : ca = 0
  · subst h0
    by_cases h1 : cb = 0
    · subst h1
      have h2 : ¬ cc = 0 := fun h => hbad ⟨rfl, rfl, h⟩
      have f0 : ((cc : Int) != 0) = true := by simpa using h2
      clear h2 hbad
      rcases hpq with rfl | ⟨rfl, rfl⟩
      · go_enter Try.func6, Try.ntmps6
        go_wp2_with (rw [HW.out])
        refine (HS.out _).mono ?_
        rintro _ w1 ⟨rfl, hb1⟩
        have P01 := Lib.hid (P00.out.below hb1 P00.out.lt)
        have P11 := Lib.hid (P10.out.below hb1 P10.out.lt)
        have P21 := Lib.hid (P20.out.below hb1 P20.out.lt)
        have Hb1 := Lib.hid (Hb0.out.trans (hb1.mono Hb0.out.size))
        clear hb1 P00 P10 P20 x0 x1 y0 y1 z0 z1
        obtain ⟨x0, x1, _, _⟩ := cells2 P01.out
        obtain ⟨y0, y1, _, _⟩ := cells2 P11.out
        obtain ⟨z0, z1, _, _⟩ := cells2 P21.out
        go_wp2_with fail
        refine (HCI.out _).mono ?_
        rintro _ w2 ⟨rfl, hb2⟩
        have P02 := Lib.hid (P01.out.below hb2 P01.out.lt)
        have P12 := Lib.hid (P11.out.below hb2 P11.out.lt)
        have P22 := Lib.hid (P21.out.below hb2 P21.out.lt)
        have Hb2 := Lib.hid (Hb1.out.trans (hb2.mono Hb1.out.size))
        clear hb2 P01 P11 P21 x0 x1 y0 y1 z0 z1
        obtain ⟨x0, x1, _, _⟩ := cells2 P02.out
        obtain ⟨y0, y1, _, _⟩ := cells2 P12.out
        obtain ⟨z0, z1, _, _⟩ := cells2 P22.out
        go_wp2_with fail
        refine (HCJ.out _).mono ?_
        rintro _ w3 ⟨rfl, hb3⟩
        have P03 := Lib.hid (P02.out.below hb3 P02.out.lt)
        have P13 := Lib.hid (P12.out.below hb3 P12.out.lt)
        have P23 := Lib.hid (P22.out.below hb3 P22.out.lt)
        have Hb3 := Lib.hid (Hb2.out.trans (hb3.mono Hb2.out.size))
        clear hb3 P02 P12 P22 x0 x1 y0 y1 z0 z1
        obtain ⟨x0, x1, _, _⟩ := cells2 P03.out
        obtain ⟨y0, y1, _, _⟩ := cells2 P13.out
        obtain ⟨z0, z1, _, _⟩ := cells2 P23.out
        go_wp2_with fail
        refine (HCK.out _).mono ?_
        rintro _ w4 ⟨rfl, hb4⟩
        have P04 := Lib.hid (P03.out.below hb4 P03.out.lt)
        have P14 := Lib.hid (P13.out.below hb4 P13.out.lt)
        have P24 := Lib.hid (P23.out.below hb4 P23.out.lt)
        have Hb4 := Lib.hid (Hb3.out.trans (hb4.mono Hb3.out.size))
        clear hb4 P03 P13 P23 x0 x1 y0 y1 z0 z1
        obtain ⟨x0, x1, _, _⟩ := cells2 P04.out
        obtain ⟨y0, y1, _, _⟩ := cells2 P14.out
        obtain ⟨z0, z1, _, _⟩ := cells2 P24.out
        go_wp2_with fail
        refine (HIJ.out _).mono ?_
        rintro _ w5 ⟨rfl, hb5⟩
        have P05 := Lib.hid (P04.out.below hb5 P04.out.lt)
        have P15 := Lib.hid (P14.out.below hb5 P14.out.lt)
        have P25 := Lib.hid (P24.out.below hb5 P24.out.lt)
        have Hb5 := Lib.hid (Hb4.out.trans (hb5.mono Hb4.out.size))
        clear hb5 P04 P14 P24 x0 x1 y0 y1 z0 z1
        obtain ⟨x0, x1, _, _⟩ := cells2 P05.out
        obtain ⟨y0, y1, _, _⟩ := cells2 P15.out
        obtain ⟨z0, z1, _, _⟩ := cells2 P25.out
        go_wp2_with fail
        go_ret
        exact ⟨ret_bool (by first | rfl | simp), Hb5.out⟩
      · go_enter Try.func6, Try.ntmps6
        go_wp2_with (rw [HW.out])
        refine (HS.out _).mono ?_
        rintro _ w1 ⟨rfl, hb1⟩
        have P01 := Lib.hid (P00.out.below hb1 P00.out.lt)
        have P11 := Lib.hid (P10.out.below hb1 P10.out.lt)
        have P21 := Lib.hid (P20.out.below hb1 P20.out.lt)
        have Hb1 := Lib.hid (Hb0.out.trans (hb1.mono Hb0.out.size))
        clear hb1 P00 P10 P20 x0 x1 y0 y1 z0 z1
        obtain ⟨x0, x1, _, _⟩ := cells2 P01.out
        obtain ⟨y0, y1, _, _⟩ := cells2 P11.out
        obtain ⟨z0, z1, _, _⟩ := cells2 P21.out
        go_wp2_with fail
        refine (HCI.out _).mono ?_
        rintro _ w2 ⟨rfl, hb2⟩
        have P02 := Lib.hid (P01.out.below hb2 P01.out.lt)
        have P12 := Lib.hid (P11.out.below hb2 P11.out.lt)
        have P22 := Lib.hid (P21.out.below hb2 P21.out.lt)
        have Hb2 := Lib.hid (Hb1.out.trans (hb2.mono Hb1.out.size))
        clear hb2 P01 P11 P21 x0 x1 y0 y1 z0 z1
        obtain ⟨x0, x1, _, _⟩ := cells2 P02.out
        obtain ⟨y0, y1, _, _⟩ := cells2 P12.out
        obtain ⟨z0, z1, _, _⟩ := cells2 P22.out
        go_wp2_with fail
        refine (HCJ.out _).mono ?_
        rintro _ w3 ⟨rfl, hb3⟩
        have P03 := Lib.hid (P02.out.below hb3 P02.out.lt)
        have P13 := Lib.hid (P12.out.below hb3 P12.out.lt)
        have P23 := Lib.hid (P22.out.below hb3 P22.out.lt)
        have Hb3 := Lib.hid (Hb2.out.trans (hb3.mono Hb2.out.size))
        clear hb3 P02 P12 P22 x0 x1 y0 y1 z0 z1
        obtain ⟨x0, x1, _, _⟩ := cells2 P03.out
        obtain ⟨y0, y1, _, _⟩ := cells2 P13.out
        obtain ⟨z0, z1, _, _⟩ := cells2 P23.out
        go_wp2_with fail
        refine (HCK.out _).mono ?_
        rintro _ w4 ⟨rfl, hb4⟩
        have P04 := Lib.hid (P03.out.below hb4 P03.out.lt)
        have P14 := Lib.hid (P13.out.below hb4 P13.out.lt)
        have P24 := Lib.hid (P23.out.below hb4 P23.out.lt)
        have Hb4 := Lib.hid (Hb3.out.trans (hb4.mono Hb3.out.size))
        clear hb4 P03 P13 P23 x0 x1 y0 y1 z0 z1
        obtain ⟨x0, x1, _, _⟩ := cells2 P04.out
        obtain ⟨y0, y1, _, _⟩ := cells2 P14.out
        obtain ⟨z0, z1, _, _⟩ := cells2 P24.out
        go_wp2_with fail
        refine (HIJ.out _).mono ?_
        rintro _ w5 ⟨rfl, hb5⟩
        have P05 := Lib.hid (P04.out.below hb5 P04.out.lt)
        have P15 := Lib.hid (P14.out.below hb5 P14.out.lt)
        have P25 := Lib.hid (P24.out.below hb5 P24.out.lt)
        have Hb5 := Lib.hid (Hb4.out.trans (hb5.mono Hb4.out.size))
        clear hb5 P04 P14 P24 x0 x1 y0 y1 z0 z1
        obtain ⟨x0, x1, _, _⟩ := cells2 P05.out
        obtain ⟨y0, y1, _, _⟩ := cells2 P15.out
        obtain ⟨z0, z1, _, _⟩ := cells2 P25.out
        go_wp2_with fail
        refine (HJK.out _).mono ?_
        rintro _ w6 ⟨rfl, hb6⟩
        have P06 := Lib.hid (P05.out.below hb6 P05.out.lt)
        have P16 := Lib.hid (P15.out.below hb6 P15.out.lt)
        have P26 := Lib.hid (P25.out.below hb6 P25.out.lt)
        have Hb6 := Lib.hid (Hb5.out.trans (hb6.mono Hb5.out.size))
        clear hb6 P05 P15 P25 x0 x1 y0 y1 z0 z1
        obtain ⟨x0, x1, _, _⟩ := cells2 P06.out
        obtain ⟨y0, y1, _, _⟩ := cells2 P16.out
        obtain ⟨z0, z1, _, _⟩ := cells2 P26.out
        go_wp2_with fail
        go_ret
        exact ⟨ret_bool (by first | rfl | simp), Hb6.out⟩
    · have f0 : ((cb : Int) != 0) = true := by simpa using h1
      clear h1 hbad
      rcases hpq with rfl | ⟨rfl, rfl⟩
      · go_enter Try.func6, Try.ntmps6
        go_wp2_with (rw [HW.out])
        refine (HS.out _).mono ?_
        rintro _ w1 ⟨rfl, hb1⟩
        have P01 := Lib.hid (P00.out.below hb1 P00.out.lt)
        have P11 := Lib.hid (P10.out.below hb1 P10.out.lt)
        have P21 := Lib.hid (P20.out.below hb1 P20.out.lt)
        have Hb1 := Lib.hid (Hb0.out.trans (hb1.mono Hb0.out.size))
        clear hb1 P00 P10 P20 x0 x1 y0 y1 z0 z1
        obtain ⟨x0, x1, _, _⟩ := cells2 P01.out
        obtain ⟨y0, y1, _, _⟩ := cells2 P11.out
        obtain ⟨z0, z1, _, _⟩ := cells2 P21.out
        go_wp2_with fail
        refine (HCI.out _).mono ?_
        rintro _ w2 ⟨rfl, hb2⟩
        have P02 := Lib.hid (P01.out.below hb2 P01.out.lt)
        have P12 := Lib.hid (P11.out.below hb2 P11.out.lt)
        have P22 := Lib.hid (P21.out.below hb2 P21.out.lt)
        have Hb2 := Lib.hid (Hb1.out.trans (hb2.mono Hb1.out.size))
        clear hb2 P01 P11 P21 x0 x1 y0 y1 z0 z1
        obtain ⟨x0, x1, _, _⟩ := cells2 P02.out
        obtain ⟨y0, y1, _, _⟩ := cells2 P12.out
        obtain ⟨z0, z1, _, _⟩ := cells2 P22.out
        go_wp2_with fail
        refine (HCJ.out _).mono ?_
        rintro _ w3 ⟨rfl, hb3⟩
        have P03 := Lib.hid (P02.out.below hb3 P02.out.lt)
        have P13 := Lib.hid (P12.out.below hb3 P12.out.lt)
        have P23 := Lib.hid (P22.out.below hb3 P22.out.lt)
        have Hb3 := Lib.hid (Hb2.out.trans (hb3.mono Hb2.out.size))
        clear hb3 P02 P12 P22 x0 x1 y0 y1 z0 z1
        obtain ⟨x0, x1, _, _⟩ := cells2 P03.out
        obtain ⟨y0, y1, _, _⟩ := cells2 P13.out
        obtain ⟨z0, z1, _, _⟩ := cells2 P23.out
        go_wp2_with fail
        refine (HIJ.out _).mono ?_
        rintro _ w5 ⟨rfl, hb5⟩
        have P05 := Lib.hid (P03.out.below hb5 P03.out.lt)
        have P15 := Lib.hid (P13.out.below hb5 P13.out.lt)
        have P25 := Lib.hid (P23.out.below hb5 P23.out.lt)
        have Hb5 := Lib.hid (Hb3.out.trans (hb5.mono Hb3.out.size))
        clear hb5 P03 P13 P23 x0 x1 y0 y1 z0 z1
        obtain ⟨x0, x1, _, _⟩ := cells2 P05.out
        obtain ⟨y0, y1, _, _⟩ := cells2 P15.out
        obtain ⟨z0, z1, _, _⟩ := cells2 P25.out
        go_wp2_with fail
        go_ret
        exact ⟨ret_bool (by first | rfl | simp), Hb5.out⟩
      · go_enter Try.func6, Try.ntmps6
        go_wp2_with (rw [HW.out])
        refine (HS.out _).mono ?_
        rintro _ w1 ⟨rfl, hb1⟩
        have P01 := Lib.hid (P00.out.below hb1 P00.out.lt)
        have P11 := Lib.hid (P10.out.below hb1 P10.out.lt)
        have P21 := Lib.hid (P20.out.below hb1 P20.out.lt)
        have Hb1 := Lib.hid (Hb0.out.trans (hb1.mono Hb0.out.size))
        clear hb1 P00 P10 P20 x0 x1 y0 y1 z0 z1
        obtain ⟨x0, x1, _, _⟩ := cells2 P01.out
        obtain ⟨y0, y1, _, _⟩ := cells2 P11.out
        obtain ⟨z0, z1, _, _⟩ := cells2 P21.out
        go_wp2_with fail
        refine (HCI.out _).mono ?_
        rintro _ w2 ⟨rfl, hb2⟩
        have P02 := Lib.hid (P01.out.below hb2 P01.out.lt)
        have P12 := Lib.hid (P11.out.below hb2 P11.out.lt)
        have P22 := Lib.hid (P21.out.below hb2 P21.out.lt)
        have Hb2 := Lib.hid (Hb1.out.trans (hb2.mono Hb1.out.size))
        clear hb2 P01 P11 P21 x0 x1 y0 y1 z0 z1
        obtain ⟨x0, x1, _, _⟩ := cells2 P02.out
        obtain ⟨y0, y1, _, _⟩ := cells2 P12.out
        obtain ⟨z0, z1, _, _⟩ := cells2 P22.out
        go_wp2_with fail
        refine (HCJ.out _).mono ?_
        rintro _ w3 ⟨rfl, hb3⟩
        have P03 := Lib.hid (P02.out.below hb3 P02.out.lt)
        have P13 := Lib.hid (P12.out.below hb3 P12.out.lt)
        have P23 := Lib.hid (P22.out.below hb3 P22.out.lt)
        have Hb3 := Lib.hid (Hb2.out.trans (hb3.mono Hb2.out.size))
        clear hb3 P02 P12 P22 x0 x1 y0 y1 z0 z1
        obtain ⟨x0, x1, _, _⟩ := cells2 P03.out
        obtain ⟨y0, y1, _, _⟩ := cells2 P13.out
        obtain ⟨z0, z1, _, _⟩ := cells2 P23.out
        go_wp2_with fail
        refine (HIJ.out _).mono ?_
        rintro _ w5 ⟨rfl, hb5⟩
        have P05 := Lib.hid (P03.out.below hb5 P03.out.lt)
        have P15 := Lib.hid (P13.out.below hb5 P13.out.lt)
        have P25 := Lib.hid (P23.out.below hb5 P23.out.lt)
        have Hb5 := Lib.hid (Hb3.out.trans (hb5.mono Hb3.out.size))
        clear hb5 P03 P13 P23 x0 x1 y0 y1 z0 z1
        obtain ⟨x0, x1, _, _⟩ := cells2 P05.out
        obtain ⟨y0, y1, _, _⟩ := cells2 P15.out
        obtain ⟨z0, z1, _, _⟩ := cells2 P25.out
        go_wp2_with fail
        refine (HJK.out _).mono ?_
        rintro _ w6 ⟨rfl, hb6⟩
        have P06 := Lib.hid (P05.out.below hb6 P05.out.lt)
        have P16 := Lib.hid (P15.out.below hb6 P15.out.lt)
        have P26 := Lib.hid (P25.out.below hb6 P25.out.lt)
        have Hb6 := Lib.hid (Hb5.out.trans (hb6.mono Hb5.out.size))
        clear hb6 P05 P15 P25 x0 x1 y0 y1 z0 z1
        obtain ⟨x0, x1, _, _⟩ := cells2 P06.out
        obtain ⟨y0, y1, _, _⟩ := cells2 P16.out
        obtain ⟨z0, z1, _, _⟩ := cells2 P26.out
        go_wp2_with fail
        go_ret
        exact ⟨ret_bool (by first | rfl | simp), Hb6.out⟩
  · have f0 : ((ca : Int) != 0) = true := by simpa using h0
    clear h0 hbad
    rcases hpq with rfl | ⟨rfl, rfl⟩
    · go_enter Try.func6, Try.ntmps6
      go_wp2_with (rw [HW.out])
      refine (HS.out _).mono ?_
      rintro _ w1 ⟨rfl, hb1⟩
      have P01 := Lib.hid (P00.out.below hb1 P00.out.lt)
      have P11 := Lib.hid (P10.out.below hb1 P10.out.lt)
      have P21 := Lib.hid (P20.out.below hb1 P20.out.lt)
      have Hb1 := Lib.hid (Hb0.out.trans (hb1.mono Hb0.out.size))
      clear hb1 P00 P10 P20 x0 x1 y0 y1 z0 z1
      obtain ⟨x0, x1, _, _⟩ := cells2 P01.out
      obtain ⟨y0, y1, _, _⟩ := cells2 P11.out
      obtain ⟨z0, z1, _, _⟩ := cells2 P21.out
      go_wp2_with fail
      refine (HCI.out _).mono ?_
      rintro _ w2 ⟨rfl, hb2⟩
      have P02 := Lib.hid (P01.out.below hb2 P01.out.lt)
      have P12 := Lib.hid (P11.out.below hb2 P11.out.lt)
      have P22 := Lib.hid (P21.out.below hb2 P21.out.lt)
      have Hb2 := Lib.hid (Hb1.out.trans (hb2.mono Hb1.out.size))
      clear hb2 P01 P11 P21 x0 x1 y0 y1 z0 z1
      obtain ⟨x0, x1, _, _⟩ := cells2 P02.out
      obtain ⟨y0, y1, _, _⟩ := cells2 P12.out
      obtain ⟨z0, z1, _, _⟩ := cells2 P22.out
      go_wp2_with fail
      refine (HIJ.out _).mono ?_
      rintro _ w5 ⟨rfl, hb5⟩
      have P05 := Lib.hid (P02.out.below hb5 P02.out.lt)
      have P15 := Lib.hid (P12.out.below hb5 P12.out.lt)
      have P25 := Lib.hid (P22.out.below hb5 P22.out.lt)
      have Hb5 := Lib.hid (Hb2.out.trans (hb5.mono Hb2.out.size))
      clear hb5 P02 P12 P22 x0 x1 y0 y1 z0 z1
      obtain ⟨x0, x1, _, _⟩ := cells2 P05.out
      obtain ⟨y0, y1, _, _⟩ := cells2 P15.out
      obtain ⟨z0, z1, _, _⟩ := cells2 P25.out
      go_wp2_with fail
      go_ret
      exact ⟨ret_bool (by first | rfl | simp), Hb5.out⟩
    · go_enter Try.func6, Try.ntmps6
      go_wp2_with (rw [HW.out])
      refine (HS.out _).mono ?_
      rintro _ w1 ⟨rfl, hb1⟩
      have P01 := Lib.hid (P00.out.below hb1 P00.out.lt)
      have P11 := Lib.hid (P10.out.below hb1 P10.out.lt)
      have P21 := Lib.hid (P20.out.below hb1 P20.out.lt)
      have Hb1 := Lib.hid (Hb0.out.trans (hb1.mono Hb0.out.size))
      clear hb1 P00 P10 P20 x0 x1 y0 y1 z0 z1
      obtain ⟨x0, x1, _, _⟩ := cells2 P01.out
      obtain ⟨y0, y1, _, _⟩ := cells2 P11.out
      obtain ⟨z0, z1, _, _⟩ := cells2 P21.out
      go_wp2_with fail
      refine (HCI.out _).mono ?_
      rintro _ w2 ⟨rfl, hb2⟩
      have P02 := Lib.hid (P01.out.below hb2 P01.out.lt)
      have P12 := Lib.hid (P11.out.below hb2 P11.out.lt)
      have P22 := Lib.hid (P21.out.below hb2 P21.out.lt)
      have Hb2 := Lib.hid (Hb1.out.trans (hb2.mono Hb1.out.size))
      clear hb2 P01 P11 P21 x0 x1 y0 y1 z0 z1
      obtain ⟨x0, x1, _, _⟩ := cells2 P02.out
      obtain ⟨y0, y1, _, _⟩ := cells2 P12.out
      obtain ⟨z0, z1, _, _⟩ := cells2 P22.out
      go_wp2_with fail
      refine (HIJ.out _).mono ?_
      rintro _ w5 ⟨rfl, hb5⟩
      have P05 := Lib.hid (P02.out.below hb5 P02.out.lt)
      have P15 := Lib.hid (P12.out.below hb5 P12.out.lt)
      have P25 := Lib.hid (P22.out.below hb5 P22.out.lt)
      have Hb5 := Lib.hid (Hb2.out.trans (hb5.mono Hb2.out.size))
      clear hb5 P02 P12 P22 x0 x1 y0 y1 z0 z1
      obtain ⟨x0, x1, _, _⟩ := cells2 P05.out
      obtain ⟨y0, y1, _, _⟩ := cells2 P15.out
      obtain ⟨z0, z1, _, _⟩ := cells2 P25.out
      go_wp2_with fail
      refine (HJK.out _).mono ?_
      rintro _ w6 ⟨rfl, hb6⟩
      have P06 := Lib.hid (P05.out.below hb6 P05.out.lt)
      have P16 := Lib.hid (P15.out.below hb6 P15.out.lt)
      have P26 := Lib.hid (P25.out.below hb6 P25.out.lt)
      have Hb6 := Lib.hid (Hb5.out.trans (hb6.mono Hb5.out.size))
      clear hb6 P05 P15 P25 x0 x1 y0 y1 z0 z1
      obtain ⟨x0, x1, _, _⟩ := cells2 P06.out
      obtain ⟨y0, y1, _, _⟩ := cells2 P16.out
      obtain ⟨z0, z1, _, _⟩ := cells2 P26.out
      go_wp2_with fail
      go_ret
      exact ⟨ret_bool (by first | rfl | simp), Hb6.out⟩
end Go.Proofs.Ytnjpjjefhpbfgaa
