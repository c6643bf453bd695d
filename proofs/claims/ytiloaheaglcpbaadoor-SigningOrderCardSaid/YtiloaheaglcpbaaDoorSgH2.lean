/- Signing: the statement SigningOrder, all cases. -/
import Derived.Test.YtiloaheaglcpbaaDoorSgH1
namespace Go.Proofs.YtiloaheaglcpbaaDoor
open Go.RowKit

set_option maxRecDepth 100000 in
set_option maxHeartbeats 1000000 in
theorem order_bad (n : Nat) (sa : Option Addr) (scap : Nat) (qa : Nat) (aa : Option Addr) (acap : Nat) (qb : Nat) (ba : Option Addr) (bcap : Nat) (hk : isKeyB n 2 0 = false) (w : World) :
    Calls Tryd.prog 7 #[.slice sa n scap, .slice aa qa acap, .slice ba qb bcap] w fun e w' => e = .returned (.bool true) ∧ Below w.heap.size w w' := by
  have HSane := Lib.hid (fun W => sane_any W)
  have HNew := Lib.hid (fun W => new_any sa n scap 2 W)
  simp only [hk, Bool.false_eq_true, if_false] at HNew
  unfold key0 at HNew
  clear hk
  go_enter Tryd.func7, Tryd.ntmps7
  go_wp2_with (first
    | (refine (HSane.out _).mono ?_; rintro e w1 ⟨rfl, hb1⟩)
    | (refine (HNew.out _).mono ?_; rintro e w2 ⟨rfl, hb2⟩; have Hb2 := Lib.hid (hb1.trans (hb2.mono hb1.size)); clear hb1 hb2))
  go_ret
  exact ⟨rfl, Hb2.out.alloc Hb2.out.size _⟩

set_option maxRecDepth 100000 in
set_option maxHeartbeats 1000000 in
theorem order_longA (n : Nat) (sa : Option Addr) (scap : Nat) (qa : Nat) (aa : Option Addr) (acap : Nat) (qb : Nat) (ba : Option Addr) (bcap : Nat) (hk : isKeyB n 2 0 = true) (hq : 300 < qa) (w : World) :
    Calls Tryd.prog 7 #[.slice sa n scap, .slice aa qa acap, .slice ba qb bcap] w fun e w' => e = .returned (.bool true) ∧ Below w.heap.size w w' := by
  have HSane := Lib.hid (fun W => sane_any W)
  have HNew := Lib.hid (fun W => new_any sa n scap 2 W)
  simp only [hk, if_true] at HNew
  unfold keyV at HNew
  have j1 : (300 : Int) < (qa : Int) := by omega
  clear hk
  go_enter Tryd.func7, Tryd.ntmps7
  go_wp2_with (first
    | (refine (HSane.out _).mono ?_; rintro e w1 ⟨rfl, hb1⟩)
    | (refine (HNew.out _).mono ?_; rintro e w2 ⟨rfl, hb2⟩; have Hb2 := Lib.hid (hb1.trans (hb2.mono hb1.size)); clear hb1 hb2))
  go_ret
  exact ⟨rfl, Hb2.out.alloc Hb2.out.size _⟩
set_option maxRecDepth 100000 in
set_option maxHeartbeats 1000000 in
theorem order_longB (n : Nat) (sa : Option Addr) (scap : Nat) (qa : Nat) (aa : Option Addr) (acap : Nat) (qb : Nat) (ba : Option Addr) (bcap : Nat) (hk : isKeyB n 2 0 = true) (hq : qa ≤ 300 ∧ 300 < qb) (w : World) :
    Calls Tryd.prog 7 #[.slice sa n scap, .slice aa qa acap, .slice ba qb bcap] w fun e w' => e = .returned (.bool true) ∧ Below w.heap.size w w' := by
  have HSane := Lib.hid (fun W => sane_any W)
  have HNew := Lib.hid (fun W => new_any sa n scap 2 W)
  simp only [hk, if_true] at HNew
  unfold keyV at HNew
  obtain ⟨hq1, hq2⟩ := hq; have j1 : ¬ (300 : Int) < (qa : Int) := (by omega); have j2 : (300 : Int) < (qb : Int) := (by omega)
  clear hk
  go_enter Tryd.func7, Tryd.ntmps7
  go_wp2_with (first
    | (refine (HSane.out _).mono ?_; rintro e w1 ⟨rfl, hb1⟩)
    | (refine (HNew.out _).mono ?_; rintro e w2 ⟨rfl, hb2⟩; have Hb2 := Lib.hid (hb1.trans (hb2.mono hb1.size)); clear hb1 hb2))
  go_ret
  exact ⟨rfl, Hb2.out.alloc Hb2.out.size _⟩

/-- the whole statement -/
theorem order_any (seed : List UInt8) (n : Nat) (hn : seed.length = n) (sa : Option Addr) (scap : Nat) (a : List UInt8) (qa : Nat) (ha : a.length = qa) (aa : Option Addr) (acap : Nat) (b : List UInt8) (qb : Nat) (hb' : b.length = qb) (ba : Option Addr) (bcap : Nat)
    (w : World) (hs : Sl w 1 (.slice sa n scap) n (bc seed)) (hya : Sl w 1 (.slice aa qa acap) qa (bc a)) (hyb : Sl w 1 (.slice ba qb bcap) qb (bc b)) (hT : Tabs w) :
    Calls Tryd.prog 7 #[.slice sa n scap, .slice aa qa acap, .slice ba qb bcap] w fun e w' => e = .returned (.bool true) ∧ Below w.heap.size w w' := by
  cases hk : isKeyB n 2 0
  · exact order_bad n sa scap qa aa acap qb ba bcap hk w
  · by_cases h1 : 300 < qa
    · exact order_longA n sa scap qa aa acap qb ba bcap hk h1 w
    · by_cases h2 : 300 < qb
      · exact order_longB n sa scap qa aa acap qb ba bcap hk ⟨by omega, h2⟩ w
      · exact order_main seed n hn sa scap a qa ha aa acap b qb hb' ba bcap hk (by omega) (by omega) w hs hya hyb hT
end Go.Proofs.YtiloaheaglcpbaaDoor
