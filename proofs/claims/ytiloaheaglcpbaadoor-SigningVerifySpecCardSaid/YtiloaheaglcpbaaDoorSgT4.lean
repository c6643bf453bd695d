/- Signing in the reference: what Sign refuses; signatures compared. -/
import Derived.Test.YtiloaheaglcpbaaDoorSgT3
import Derived.Test.YtiloaheaglcpbaaDoorSgC
import Derived.Test.YtiloaheaglcpbaaDoorSgE
namespace Go.Proofs.YtiloaheaglcpbaaDoor
open Go.RowKit

set_option maxRecDepth 100000 in
theorem rsign_bad (a : Option Addr) (n cap : Nat) (many used : Int) (am : Option Addr) (len capm : Nat) (w : World) (h : signE n many used len ≠ 0) :
    Calls Tryd.prog 23 #[keyV a n cap many used, .slice am len capm] w fun e w' =>
      e = .returned (.tuple #[key0, sig0, .int .i64 (signE n many used len)]) ∧ Below w.heap.size w w' := by
  have HK := Lib.hid (fun W => rvalid_any a n cap many used W)
  have H0 := Lib.hid (((Blk.new w 24 #[.slice a n cap, .int .i64 many, .int .i64 used]).alloc (.cells #[.slice none 0 0, .int .i64 0, .int .i64 0] 24)).alloc (.cells #[.int .i64 0, .slice none 0 0, .slice none 0 0] 42))
  have H1 := Lib.hid ((show Blk ((w.alloc (.cells #[.slice a n cap, .int .i64 many, .int .i64 used] 24)).alloc (.cells #[.slice none 0 0, .int .i64 0, .int .i64 0] 24)) (w.heap.size + 1) _ _ by simpa using Blk.new (w.alloc (.cells #[.slice a n cap, .int .i64 many, .int .i64 used] 24)) 24 #[.slice none 0 0, .int .i64 0, .int .i64 0]).alloc (.cells #[.int .i64 0, .slice none 0 0, .slice none 0 0] 42))
  have H2 := Lib.hid (show Blk (((w.alloc (.cells #[.slice a n cap, .int .i64 many, .int .i64 used] 24)).alloc (.cells #[.slice none 0 0, .int .i64 0, .int .i64 0] 24)).alloc (.cells #[.int .i64 0, .slice none 0 0, .slice none 0 0] 42)) (w.heap.size + 2) _ _ by simpa using Blk.new ((w.alloc (.cells #[.slice a n cap, .int .i64 many, .int .i64 used] 24)).alloc (.cells #[.slice none 0 0, .int .i64 0, .int .i64 0] 24)) 42 #[.int .i64 0, .slice none 0 0, .slice none 0 0])
  have Hb := Lib.hid (((below_alloc w (.cells #[.slice a n cap, .int .i64 many, .int .i64 used] 24)).alloc (by simp) (.cells #[.slice none 0 0, .int .i64 0, .int .i64 0] 24)).alloc (by simp; omega) (.cells #[.int .i64 0, .slice none 0 0, .slice none 0 0] 42))
  unfold keyV key0 sig0
  obtain ⟨c, hE⟩ : ∃ c, signE n many used len = c := ⟨_, rfl⟩
  rw [hE] at h ⊢
  have HE := Lib.hid hE
  have Hh := Lib.hid h
  clear h hE
  cases hk : isKeyB n many used
  · obtain rfl : 320 = c := by rw [← HE.out, signE, if_pos hk]
    rw [hk] at HK
    clear HE hk
    have HE := Lib.hid (rfl : True = True)
    go_enter Tryd.func23, Tryd.ntmps23
    go_wp2_with fail
    refine (HK.out _).mono ?_
    rintro e w1 ⟨rfl, hb1⟩
    obtain ⟨c0, c1, c2, f0, f1, f2⟩ := cells3 (H0.out.below hb1 (by simp; omega))
    obtain ⟨d0, d1, d2, g0, g1, g2⟩ := cells3 (H1.out.below hb1 (by simp))
    obtain ⟨e0, e1, e2, k0, k1, k2⟩ := cells3 (H2.out.below hb1 (by simp))
    have hb2 := Hb.out.trans (hb1.mono (by simp; omega))
    clear hb1
    go_wp2_with fail
    exact bodyPost_ret (v := .tuple #[.agg #[.slice none 0 0, .int .i64 0, .int .i64 0], .agg #[.int .i64 0, .slice none 0 0, .slice none 0 0], .int .i64 320]) (by simp [results, Tryd.results23, go_sem, *]) rfl ⟨rfl, by (repeat (refine Below.setCell ?_ (by first | exact Nat.le_refl _ | (simp; done) | (simp; omega)) _)); exact hb2⟩
  · by_cases hl : 65536 < len
    · obtain rfl : 2 = c := by rw [← HE.out, signE, if_neg (by rw [hk]; simp), if_pos hl]
      rw [hk] at HK
      clear HE hk
      go_enter Tryd.func23, Tryd.ntmps23
      go_wp2_with fail
      refine (HK.out _).mono ?_
      rintro e w1 ⟨rfl, hb1⟩
      obtain ⟨c0, c1, c2, f0, f1, f2⟩ := cells3 (H0.out.below hb1 (by simp; omega))
      obtain ⟨d0, d1, d2, g0, g1, g2⟩ := cells3 (H1.out.below hb1 (by simp))
      obtain ⟨e0, e1, e2, k0, k1, k2⟩ := cells3 (H2.out.below hb1 (by simp))
      have hb2 := Hb.out.trans (hb1.mono (by simp; omega))
      clear hb1
      go_wp2_with fail
      exact bodyPost_ret (v := .tuple #[.agg #[.slice none 0 0, .int .i64 0, .int .i64 0], .agg #[.int .i64 0, .slice none 0 0, .slice none 0 0], .int .i64 2]) (by simp [results, Tryd.results23, go_sem, *]) rfl ⟨rfl, by (repeat (refine Below.setCell ?_ (by first | exact Nat.le_refl _ | (simp; done) | (simp; omega)) _)); exact hb2⟩
    · by_cases hu : used = many
      · obtain rfl : 320 = c := by rw [← HE.out, signE, if_neg (by rw [hk]; simp), if_neg hl, if_pos hu]
        subst hu
        rw [hk] at HK
        clear HE hk
        go_enter Tryd.func23, Tryd.ntmps23
        go_wp2_with fail
        refine (HK.out _).mono ?_
        rintro e w1 ⟨rfl, hb1⟩
        obtain ⟨c0, c1, c2, f0, f1, f2⟩ := cells3 (H0.out.below hb1 (by simp; omega))
        obtain ⟨d0, d1, d2, g0, g1, g2⟩ := cells3 (H1.out.below hb1 (by simp))
        obtain ⟨e0, e1, e2, k0, k1, k2⟩ := cells3 (H2.out.below hb1 (by simp))
        have hb2 := Hb.out.trans (hb1.mono (by simp; omega))
        clear hb1
        go_wp2_with fail
        exact bodyPost_ret (v := .tuple #[.agg #[.slice none 0 0, .int .i64 0, .int .i64 0], .agg #[.int .i64 0, .slice none 0 0, .slice none 0 0], .int .i64 320]) (by simp [results, Tryd.results23, go_sem, *]) rfl ⟨rfl, by (repeat (refine Below.setCell ?_ (by first | exact Nat.le_refl _ | (simp; done) | (simp; omega)) _)); exact hb2⟩
      · exact absurd (by rw [← HE.out, signE, if_neg (by rw [hk]; simp), if_neg hl, if_neg hu]) Hh.out

/-- a slice of digests reads as E -/
def Rd (W : World) (a : Option Addr) (n : Nat) (E : Nat → List UInt8) : Prop := (∀ k, k < n → ∃ g, a = some ⟨g, 0, none⟩ ∧ W.rangeAt g (k * 32) (bc (E k))) ∧ ∀ k, (E k).length = 32
theorem Rd.next {W W' : World} {a : Option Addr} {n : Nat} {E : Nat → List UInt8} (h : Rd W a n E) (hb : Below W.heap.size W W') : Rd W' a n E :=
  ⟨fun k hk => by
    obtain ⟨g, rfl, hr⟩ := h.1 k hk
    refine ⟨g, rfl, rangeAt_below hr hb ?_⟩
    have := hr 0 _ (by rw [bt_cell (d := E k) (k := 0) (by rw [h.2]; omega)])
    exact World.block_lt_of_cell? W _ this, h.2⟩
theorem Rd.of_own {W : World} {B n c : Nat} {a : Option Addr} {E : Nat → List UInt8} (hE : ∀ k, (E k).length = 32) (h : W.ownsRow B 26 32 (.slice a n c) n (bc (ends E n))) : Rd W a n E :=
  ⟨fun k hk => by
    obtain ⟨g, cap, he, _, hr⟩ := own_range h (by omega)
    cases he
    refine ⟨g, rfl, ?_⟩
    have := ends_at (o := 0) E hE n hr k hk
    rwa [Nat.zero_add] at this, hE⟩
def sgC (i : Int) (a : Option Addr) (n c : Nat) (b : Option Addr) (m d : Nat) : Array Value := #[.int .i64 i, .slice a n c, .slice b m d]
set_option maxRecDepth 100000 in
set_option maxHeartbeats 2000000 in
theorem rsame_any (i : Int) (np mp : Nat) (hnp : np ≤ 1000) (hmp : mp ≤ 1000) (E F : Nat → List UInt8) (a : Option Addr) (ca : Nat) (b : Option Addr) (cb : Nat) (a' : Option Addr) (ca' : Nat) (b' : Option Addr) (cb' : Nat) (w : World) (hA : Rd w a np E) (hA' : Rd w a' np E) (hB : Rd w b mp F) (hB' : Rd w b' mp F) :
    Calls Tryd.prog 24 #[.agg #[.int .i64 i, .slice a np ca, .slice b mp cb], .agg #[.int .i64 i, .slice a' np ca', .slice b' mp cb']] w fun e w' => e = .returned (.bool true) ∧ Below w.heap.size w w' := by
  have hb := (below_alloc w (.cells #[.int .i64 i, .slice a np ca, .slice b mp cb] 42)).alloc (by simp) (.cells #[.int .i64 i, .slice a' np ca', .slice b' mp cb'] 42)
  have hX := (Blk.new w 42 #[.int .i64 i, .slice a np ca, .slice b mp cb]).alloc (.cells #[.int .i64 i, .slice a' np ca', .slice b' mp cb'] 42)
  have hY := Blk.new (w.alloc (.cells #[.int .i64 i, .slice a np ca, .slice b mp cb] 42)) 42 #[.int .i64 i, .slice a' np ca', .slice b' mp cb']
  rw [World.size_alloc] at hY
  have hA := hA.next hb
  have hA' := hA'.next hb
  have hB := hB.next hb
  have hB' := hB'.next hb
  obtain ⟨w0, hw0⟩ : ∃ w0, (w.alloc (.cells #[.int .i64 i, .slice a np ca, .slice b mp cb] 42)).alloc (.cells #[.int .i64 i, .slice a' np ca', .slice b' mp cb'] 42) = w0 := ⟨_, rfl⟩
  rw [hw0] at hb hX hY hA hA' hB hB'
  have HW0 := Lib.hid hw0
  have HA := Lib.hid hA
  have HA' := Lib.hid hA'
  have HB := Lib.hid hB
  have HB' := Lib.hid hB'
  have HX := Lib.hid hX
  have HY := Lib.hid hY
  have Hb := Lib.hid hb
  obtain ⟨x0, x1, x2, _, _, _⟩ := cells3 hX
  obtain ⟨y0, y1, y2, _, _, _⟩ := cells3 hY
  clear hA hA' hB hB' hX hY hb hw0
  go_enter Tryd.func24, Tryd.ntmps24
  go_wp2_with (rw [HW0.out])
  clear x0 x1 x2 y0 y1 y2
  go_loopw [5] (fun i wr => ∃ k n : Nat, k ≤ np ∧ i = .int .i64 (k : Int) ∧ wr = w0.drewN n) (fun i _ => np - (intOf i).toNat)
  case atStart => exact ⟨0, 0, by omega, rfl, rfl⟩
  case round =>
    obtain ⟨k, n, hk, rfl, hwr⟩ := hrel
    have HX1 := Lib.hid (show Blk wr w.heap.size _ _ by rw [hwr]; exact HX.out.drewN n)
    have HY1 := Lib.hid (show Blk wr (w.heap.size + 1) _ _ by rw [hwr]; exact HY.out.drewN n)
    obtain ⟨x0, x1, x2, _, _, _⟩ := cells3 HX1.out
    obtain ⟨y0, y1, y2, _, _, _⟩ := cells3 HY1.out
    have Hwr := Lib.hid hwr
    by_cases hlt : k < np
    · obtain ⟨ga, hga, qa⟩ := HA.out.1 k hlt
      obtain ⟨gb, hgb, qb⟩ := HA'.out.1 k hlt
      subst hga hgb
      have q1 : wr.rangeAt ga (k * 32) (bc (E k)) := by rw [hwr]; exact fun j v hv => by have := qa j v hv; simpa using this
      have q2 : wr.rangeAt gb (k * 32) (bc (E k)) := by rw [hwr]; exact fun j v hv => by have := qb j v hv; simpa using this
      have hEl := HA.out.2 k
      have u2 : (Tryd.prog.info? 26).map (·.size) = some (bc (E k)).length := by rw [bc_len, hEl]; exact infoDg
      have heq : ∀ n, (Op.equalIn 10000 26 (.agg (bc (E k)).toArray) (.agg (bc (E k)).toArray)).run Tryd.prog (wr.drewN n) = .ok true (wr.drewN n) := fun n => by
        have := eq_dg (wr.drewN n) (E k) (E k) hEl hEl
        rwa [decide_eq_true rfl] at this
      obtain ⟨D, hD⟩ : ∃ D, bc (E k) = D := ⟨_, rfl⟩
      rw [hD] at q1 q2 u2
      simp only [hD] at heq
      have i1 : (0 : Int) ≤ (k : Int) := by omega
      have i2 : (k : Int) < (np : Int) := by omega
      clear qa qb hEl hD hwr
      go_wp2_with fail
      refine wp_region_quiet_lit (by kernel_rfl) (by kernel_rfl) ?_
      repeat (first
        | (go_big_quiet_want; refine quiet_load_row 26 _ rfl ga (k * 32) rfl D _ q1 Tryd.underlying26 rfl u2 ?_; try simp only [Act.put, List.setIfInBounds_toArray, List.set_cons_zero, List.set_cons_succ]; go_big_quiet_on)
        | (go_big_quiet_want; refine quiet_load_row 26 _ rfl gb (k * 32) rfl D _ q2 Tryd.underlying26 rfl u2 ?_; try simp only [Act.put, List.setIfInBounds_toArray, List.set_cons_zero, List.set_cons_succ]; go_big_quiet_on)
        | (go_big_quiet_step (fail)))
      refine wpQuiet_nil ?_
      intro _ hw'
      obtain ⟨nq, hw''⟩ := hw'
      subst hw''
      go_wp2_with fail
      go_roundw
      case rel => exact ⟨k + 1, n + nq, by omega, by go_num, by rw [Hwr.out, World.drewN_drewN]⟩
      case measure => simp [intOf]; omega
    · have hk9 : k = np := by omega
      subst hk9
      clear hwr
      go_wp2_with fail
      obtain ⟨wz, hwz⟩ : ∃ wz, wr = wz := ⟨_, rfl⟩
      rw [hwz] at Hwr ⊢
      clear hwz x0 x1 x2 y0 y1 y2 hlt hk
      go_loopw [6] (fun i wr => ∃ k n : Nat, k ≤ mp ∧ i = .int .i64 (k : Int) ∧ wr = w0.drewN n) (fun i _ => mp - (intOf i).toNat)
      case atStart => exact ⟨0, n, by omega, rfl, Hwr.out⟩
      case round =>
        clear HX1 HY1
        obtain ⟨k, n, hk, rfl, hwr⟩ := hrel
        have HX1 := Lib.hid (show Blk wr w.heap.size _ _ by rw [hwr]; exact HX.out.drewN n)
        have HY1 := Lib.hid (show Blk wr (w.heap.size + 1) _ _ by rw [hwr]; exact HY.out.drewN n)
        obtain ⟨x0, x1, x2, _, _, _⟩ := cells3 HX1.out
        obtain ⟨y0, y1, y2, _, _, _⟩ := cells3 HY1.out
        have Hwr := Lib.hid hwr
        by_cases hlt : k < mp
        · obtain ⟨ga, hga, qa⟩ := HB.out.1 k hlt
          obtain ⟨gb, hgb, qb⟩ := HB'.out.1 k hlt
          subst hga hgb
          have q1 : wr.rangeAt ga (k * 32) (bc (F k)) := by rw [hwr]; exact fun j v hv => by have := qa j v hv; simpa using this
          have q2 : wr.rangeAt gb (k * 32) (bc (F k)) := by rw [hwr]; exact fun j v hv => by have := qb j v hv; simpa using this
          have hEl := HB.out.2 k
          have u2 : (Tryd.prog.info? 26).map (·.size) = some (bc (F k)).length := by rw [bc_len, hEl]; exact infoDg
          have heq : ∀ n, (Op.equalIn 10000 26 (.agg (bc (F k)).toArray) (.agg (bc (F k)).toArray)).run Tryd.prog (wr.drewN n) = .ok true (wr.drewN n) := fun n => by
            have := eq_dg (wr.drewN n) (F k) (F k) hEl hEl
            rwa [decide_eq_true rfl] at this
          obtain ⟨D, hD⟩ : ∃ D, bc (F k) = D := ⟨_, rfl⟩
          rw [hD] at q1 q2 u2
          simp only [hD] at heq
          have i1 : (0 : Int) ≤ (k : Int) := by omega
          have i2 : (k : Int) < (mp : Int) := by omega
          clear qa qb hEl hD hwr
          go_wp2_with fail
          refine wp_region_quiet_lit (by kernel_rfl) (by kernel_rfl) ?_
          repeat (first
            | (go_big_quiet_want; refine quiet_load_row 26 _ rfl ga (k * 32) rfl D _ q1 Tryd.underlying26 rfl u2 ?_; try simp only [Act.put, List.setIfInBounds_toArray, List.set_cons_zero, List.set_cons_succ]; go_big_quiet_on)
            | (go_big_quiet_want; refine quiet_load_row 26 _ rfl gb (k * 32) rfl D _ q2 Tryd.underlying26 rfl u2 ?_; try simp only [Act.put, List.setIfInBounds_toArray, List.set_cons_zero, List.set_cons_succ]; go_big_quiet_on)
            | (go_big_quiet_step (fail)))
          refine wpQuiet_nil ?_
          intro _ hw'
          obtain ⟨nq, hw''⟩ := hw'
          subst hw''
          go_wp2_with fail
          first
            | (refine ⟨⟨k + 1, n + nq, by omega, by go_num, by rw [Hwr.out, World.drewN_drewN]⟩, ?_⟩; (simp [intOf]; omega))
            | (refine ⟨?_, ?_⟩; (repeat apply Exists.intro); refine ⟨⟨k + 1, n + nq, by omega, by go_num, by rw [Hwr.out, World.drewN_drewN]⟩, rfl⟩; (simp [intOf]; omega))
        · have hk9 : k = mp := by omega
          subst hk9
          clear hwr
          go_wp2_with fail
          go_ret
          exact ⟨rfl, by rw [Hwr.out]; exact blw_drewN Hb.out n⟩
end Go.Proofs.YtiloaheaglcpbaaDoor
