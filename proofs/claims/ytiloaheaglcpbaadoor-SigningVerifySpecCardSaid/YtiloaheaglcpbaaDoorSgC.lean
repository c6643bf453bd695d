/- Signing: what Sign and Verify refuse. -/
import Derived.Test.YtiloaheaglcpbaaDoorSgB
namespace Go.Proofs.YtiloaheaglcpbaaDoor
open Go.RowKit

def sig0 : Value := .agg #[.int .i64 0, .slice none 0 0, .slice none 0 0]
/-- the error of Sign -/
def signE (n : Nat) (many used : Int) (len : Nat) : Int := if isKeyB n many used = false then 320 else if 65536 < len then 2 else if used = many then 320 else 0
set_option maxRecDepth 100000 in
theorem sign_bad (a : Option Addr) (n cap : Nat) (many used : Int) (am : Option Addr) (len capm : Nat) (w : World) (h : signE n many used len ≠ 0) :
    Calls Tryd.prog 22 #[keyV a n cap many used, .slice am len capm] w fun e w' =>
      e = .returned (.tuple #[key0, sig0, .int .i64 (signE n many used len)]) ∧ Below w.heap.size w w' := by
  have HK := Lib.hid (fun W => isKey_any a n cap many used W)
  have H0 := Lib.hid (((Blk.new w 24 #[.slice a n cap, .int .i64 many, .int .i64 used]).alloc (.cells #[.slice none 0 0, .int .i64 0, .int .i64 0] 24)).alloc (.cells #[.int .i64 0, .slice none 0 0, .slice none 0 0] 42))
  have H1 := Lib.hid ((show Blk ((w.alloc (.cells #[.slice a n cap, .int .i64 many, .int .i64 used] 24)).alloc (.cells #[.slice none 0 0, .int .i64 0, .int .i64 0] 24)) (w.heap.size + 1) _ _ by simpa using Blk.new (w.alloc (.cells #[.slice a n cap, .int .i64 many, .int .i64 used] 24)) 24 #[.slice none 0 0, .int .i64 0, .int .i64 0]).alloc (.cells #[.int .i64 0, .slice none 0 0, .slice none 0 0] 42))
  have H2 := Lib.hid (show Blk (((w.alloc (.cells #[.slice a n cap, .int .i64 many, .int .i64 used] 24)).alloc (.cells #[.slice none 0 0, .int .i64 0, .int .i64 0] 24)).alloc (.cells #[.int .i64 0, .slice none 0 0, .slice none 0 0] 42)) (w.heap.size + 2) _ _ by simpa using Blk.new ((w.alloc (.cells #[.slice a n cap, .int .i64 many, .int .i64 used] 24)).alloc (.cells #[.slice none 0 0, .int .i64 0, .int .i64 0] 24)) 42 #[.int .i64 0, .slice none 0 0, .slice none 0 0])
  have Hb := Lib.hid (((below_alloc w (.cells #[.slice a n cap, .int .i64 many, .int .i64 used] 24)).alloc (by simp) (.cells #[.slice none 0 0, .int .i64 0, .int .i64 0] 24)).alloc (by simp; omega) (.cells #[.int .i64 0, .slice none 0 0, .slice none 0 0] 42))
  unfold keyV key0 sig0
  obtain ⟨c, hE⟩ : ∃ c, signE n many used len = c := ⟨_, rfl⟩
  rw [hE] at h ⊢
  have HE := Lib.hid hE
  have Hh := Lib.hid h
  clear h hE
  cases hk : isKeyB n many used
  · obtain rfl : 320 = c := by rw [← HE.out, signE, if_pos hk]
    rw [hk] at HK
    clear HE hk
    have HE := Lib.hid (rfl : True = True)
    go_enter Tryd.func22, Tryd.ntmps22
    go_wp2_with fail
    refine (HK.out _).mono ?_
    rintro e w1 ⟨rfl, hb1⟩
    obtain ⟨c0, c1, c2, f0, f1, f2⟩ := cells3 (H0.out.below hb1 (by simp; omega))
    obtain ⟨d0, d1, d2, g0, g1, g2⟩ := cells3 (H1.out.below hb1 (by simp))
    obtain ⟨e0, e1, e2, k0, k1, k2⟩ := cells3 (H2.out.below hb1 (by simp))
    have hb2 := Hb.out.trans (hb1.mono (by simp; omega))
    clear hb1
    go_wp2_with fail
    exact bodyPost_ret (v := .tuple #[.agg #[.slice none 0 0, .int .i64 0, .int .i64 0], .agg #[.int .i64 0, .slice none 0 0, .slice none 0 0], .int .i64 320]) (by simp [results, Tryd.results22, go_sem, *]) rfl ⟨rfl, by (repeat (refine Below.setCell ?_ (by first | exact Nat.le_refl _ | (simp; done) | (simp; omega)) _)); exact hb2⟩
  · by_cases hl : 65536 < len
    · obtain rfl : 2 = c := by rw [← HE.out, signE, if_neg (by rw [hk]; simp), if_pos hl]
      rw [hk] at HK
      clear HE hk
      go_enter Tryd.func22, Tryd.ntmps22
      go_wp2_with fail
      refine (HK.out _).mono ?_
      rintro e w1 ⟨rfl, hb1⟩
      obtain ⟨c0, c1, c2, f0, f1, f2⟩ := cells3 (H0.out.below hb1 (by simp; omega))
      obtain ⟨d0, d1, d2, g0, g1, g2⟩ := cells3 (H1.out.below hb1 (by simp))
      obtain ⟨e0, e1, e2, k0, k1, k2⟩ := cells3 (H2.out.below hb1 (by simp))
      have hb2 := Hb.out.trans (hb1.mono (by simp; omega))
      clear hb1
      go_wp2_with fail
      exact bodyPost_ret (v := .tuple #[.agg #[.slice none 0 0, .int .i64 0, .int .i64 0], .agg #[.int .i64 0, .slice none 0 0, .slice none 0 0], .int .i64 2]) (by simp [results, Tryd.results22, go_sem, *]) rfl ⟨rfl, by (repeat (refine Below.setCell ?_ (by first | exact Nat.le_refl _ | (simp; done) | (simp; omega)) _)); exact hb2⟩
    · by_cases hu : used = many
      · obtain rfl : 320 = c := by rw [← HE.out, signE, if_neg (by rw [hk]; simp), if_neg hl, if_pos hu]
        subst hu
        rw [hk] at HK
        clear HE hk
        go_enter Tryd.func22, Tryd.ntmps22
        go_wp2_with fail
        refine (HK.out _).mono ?_
        rintro e w1 ⟨rfl, hb1⟩
        obtain ⟨c0, c1, c2, f0, f1, f2⟩ := cells3 (H0.out.below hb1 (by simp; omega))
        obtain ⟨d0, d1, d2, g0, g1, g2⟩ := cells3 (H1.out.below hb1 (by simp))
        obtain ⟨e0, e1, e2, k0, k1, k2⟩ := cells3 (H2.out.below hb1 (by simp))
        have hb2 := Hb.out.trans (hb1.mono (by simp; omega))
        clear hb1
        go_wp2_with fail
        exact bodyPost_ret (v := .tuple #[.agg #[.slice none 0 0, .int .i64 0, .int .i64 0], .agg #[.int .i64 0, .slice none 0 0, .slice none 0 0], .int .i64 320]) (by simp [results, Tryd.results22, go_sem, *]) rfl ⟨rfl, by (repeat (refine Below.setCell ?_ (by first | exact Nat.le_refl _ | (simp; done) | (simp; omega)) _)); exact hb2⟩
      · exact absurd (by rw [← HE.out, signE, if_neg (by rw [hk]; simp), if_neg hl, if_neg hu]) Hh.out
/-- a signature by value -/
def sigV (idx : Int) (ap : Option Addr) (np cp : Nat) (aq : Option Addr) (nq cq : Nat) : Value := .agg #[.int .i64 idx, .slice ap np cp, .slice aq nq cq]
def vfyB (many idx : Int) (np len : Nat) : Bool := decide (1 ≤ many ∧ many ≤ 256 ∧ 0 ≤ idx ∧ idx < many ∧ np = 67 ∧ len ≤ 65536)
theorem verify_bad (D : Array Value) (many idx : Int) (am : Option Addr) (len capm : Nat) (ap : Option Addr) (np cp : Nat) (aq : Option Addr) (nq cq : Nat) (w : World) (h : vfyB many idx np len = false) :
    Calls Tryd.prog 25 #[.agg D, .int .i64 many, .slice am len capm, sigV idx ap np cp aq nq cq] w fun e w' => e = .returned (.bool false) ∧ Below w.heap.size w w' := by
  unfold sigV
  have hv := of_decide_eq_false h
  clear h
  have hb : Below w.heap.size w ((w.alloc (.cells D 26)).alloc (.cells #[.int .i64 idx, .slice ap np cp, .slice aq nq cq] 42)) := (below_alloc _ _).alloc (by simp) _
  have Hb := Lib.hid hb
  have HV := Lib.hid hv
  clear hb hv
  go_enter Tryd.func25, Tryd.ntmps25
  go_wp2_with (first | (exfalso; have := HV.out; omega))
  all_goals
    first
      | (go_ret
         exact ⟨rfl, Hb.out⟩)
      | (exfalso; have := HV.out; omega)
end Go.Proofs.YtiloaheaglcpbaaDoor
