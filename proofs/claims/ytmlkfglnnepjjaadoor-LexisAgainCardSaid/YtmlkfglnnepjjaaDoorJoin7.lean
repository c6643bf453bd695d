/- Layer 1: few, and what both Join give. -/
import Derived.Test.YtmlkfglnnepjjaaDoorJoin6
namespace Go.Proofs.YtmlkfglnnepjjaaDoor
open Go.RowKit

def fewB (ts : List Tk) : Bool := decide (ts.length ≤ 300 ∧ ∀ j, j < ts.length → (tA ts j).2.1.size ≤ 300)
set_option maxRecDepth 100000 in
set_option maxHeartbeats 2000000 in
theorem few_any (ts : List Tk) (v : Value) (w : World) (hv : Sl w 3 v ts.length (tkcs ts)) :
    Calls Tryd.prog 16 #[v] w fun e w' => e = .returned (.bool (fewB ts)) ∧ w = w' := by
  obtain ⟨a, cap, rfl⟩ := hv.form
  by_cases h3 : 300 < ts.length
  · have d3 : decide ((300 : Int) < (ts.length : Int)) = true := decide_eq_true (by omega)
    have hF : fewB ts = false := decide_eq_false (fun h => by omega)
    rw [hF]
    clear hF h3
    go_enter Tryd.func16, Tryd.ntmps16
    go_wp2_with fail
    go_ret
    exact ⟨rfl, rfl⟩
  have d3 : decide ((300 : Int) < (ts.length : Int)) = false := decide_eq_false (by omega)
  go_enter Tryd.func16, Tryd.ntmps16
  go_wp2_with fail
  go_loop [3] (fun i => ∃ j : Nat, j ≤ ts.length ∧ (∀ q, q < j → (tA ts q).2.1.size ≤ 300) ∧ i = .int .i64 j) (fun i => ts.length - (intOf i).toNat)
  case atStart => exact ⟨0, Nat.zero_le _, fun q h => by omega, rfl⟩
  case round =>
    obtain ⟨j, hj, hall, rfl⟩ := hrel
    have Hall := Lib.hid hall
    clear hall
    by_cases hlt : j < ts.length
    · obtain ⟨g, off, rfl, hcap, hc⟩ := hv.toks (by omega)
      obtain ⟨c0, c1, c2⟩ := hc j hlt
      have HV := Lib.hid hv
      obtain ⟨s, hs⟩ : ∃ s, (tA ts j).2.1 = s := ⟨_, rfl⟩
      rw [hs] at c1
      have HS := Lib.hid hs
      clear hc hv c0 c2 hs
      by_cases hb : 300 < s.size
      · have f0 : decide ((300 : Int) < (s.size : Int)) = true := decide_eq_true (by omega)
        have HB := Lib.hid hb
        have HLt := Lib.hid hlt
        go_wp2_with fail
        go_ret
        refine ⟨ret_bool ?_, rfl⟩
        symm
        refine decide_eq_false (fun h => ?_)
        have h1 := h.2 j HLt.out
        rw [HS.out] at h1
        have h2 := HB.out
        omega
      · have f0 : decide ((300 : Int) < (s.size : Int)) = false := decide_eq_false (by omega)
        go_wp2_with fail
        go_round
        case rel =>
          refine ⟨j + 1, by omega, fun q hq => ?_, by go_num⟩
          rcases Nat.lt_or_ge q j with h | h
          · exact Hall.out q h
          · have he : q = j := by omega
            rw [he, HS.out]; omega
        case measure => simp [intOf]; omega
    · have H3 := Lib.hid h3
      have HLt := Lib.hid hlt
      go_wp2_with fail
      go_ret
      refine ⟨ret_bool ?_, rfl⟩
      symm
      exact decide_eq_true ⟨by have := H3.out; omega, fun q hq => Hall.out q (by have := HLt.out; omega)⟩

open Classical in
noncomputable def jR (ok : Tk → Bool) (ts : List Tk) : List UInt8 × Int :=
  if JOk ok ts then (if (jn ts (ts.length - 1)).length ≤ 65536 then (jn ts (ts.length - 1), 0) else ([], 2)) else ([], 1)
theorem JoinOut.res {ok : Tk → Bool} {ts : List Tk} {w w' : World} {e : Ending} (h : JoinOut ok ts w e w') :
    ∃ v, e = .returned (.tuple #[v, .int .i64 (jR ok ts).2]) ∧ Sl w' 1 v (jR ok ts).1.length (bc (jR ok ts).1) ∧ Below w.heap.size w w' := by
  obtain ⟨hb, ⟨h1, rfl⟩ | ⟨h1, h2, rfl⟩ | ⟨h1, h2, v, rfl, hs⟩⟩ := h
  · refine ⟨_, by rw [jR, if_neg h1], ?_, hb⟩
    rw [jR, if_neg h1]; exact sl_nil _ _
  · refine ⟨_, by rw [jR, if_pos h1, if_neg (by omega)], ?_, hb⟩
    rw [jR, if_pos h1, if_neg (by omega)]; exact sl_nil _ _
  · refine ⟨v, by rw [jR, if_pos h1, if_pos h2], ?_, hb⟩
    rw [jR, if_pos h1, if_pos h2]; exact hs
theorem jR_same (ts : List Tk) : jR vld ts = jR tkOk ts := by
  have : vld = tkOk := funext fun t => (tkOk_vld t).symm
  rw [this]
end Go.Proofs.YtmlkfglnnepjjaaDoor
