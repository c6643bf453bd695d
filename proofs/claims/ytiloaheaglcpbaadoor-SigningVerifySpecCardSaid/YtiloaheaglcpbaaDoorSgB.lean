/- Signing: keys; what is refused. -/
import Derived.Test.YtiloaheaglcpbaaDoorSgA
namespace Go.Proofs.YtiloaheaglcpbaaDoor
open Go.RowKit

def isKeyB (n : Nat) (many used : Int) : Bool := decide (1 ≤ n ∧ n ≤ 64 ∧ 1 ≤ many ∧ many ≤ 256 ∧ 0 ≤ used ∧ used ≤ many)
theorem isKeyB_t {n : Nat} {many used : Int} (h : isKeyB n many used = true) : 1 ≤ n ∧ n ≤ 64 ∧ 1 ≤ many ∧ many ≤ 256 ∧ 0 ≤ used ∧ used ≤ many := of_decide_eq_true h
theorem isKey_any (a : Option Addr) (n cap : Nat) (many used : Int) (w : World) :
    Calls Tryd.prog 31 #[.agg #[.slice a n cap, .int .i64 many, .int .i64 used]] w fun e w' => e = .returned (.bool (isKeyB n many used)) ∧ Below w.heap.size w w' := by
  go_enter Tryd.func31, Tryd.ntmps31
  go_wp2_with fail
  all_goals
    go_ret
    refine ⟨ret_bool ?_, (Below.refl _ _).alloc (Nat.le_refl _) _⟩
    unfold isKeyB
    first
      | exact (decide_eq_true (by omega)).symm
      | exact (decide_eq_false (by omega)).symm
      | exact decide_eq_decide.2 ⟨fun h => by omega, fun h => by omega⟩

theorem cells3 {w : World} {g : Nat} {T : TypeId} {a b c : Value} (h : Blk w g T #[a, b, c]) :
    w.cell? ⟨g, 0, none⟩ = some a ∧ w.cell? ⟨g, 1, none⟩ = some b ∧ w.cell? ⟨g, 2, none⟩ = some c ∧
    w.frozen? ⟨g, 0, none⟩ = false ∧ w.frozen? ⟨g, 1, none⟩ = false ∧ w.frozen? ⟨g, 2, none⟩ = false :=
  ⟨by rw [h.cell]; rfl, by rw [h.cell]; rfl, by rw [h.cell]; rfl, h.frozen 0, h.frozen 1, h.frozen 2⟩
def keyV (a : Option Addr) (n cap : Nat) (many used : Int) : Value := .agg #[.slice a n cap, .int .i64 many, .int .i64 used]
def key0 : Value := .agg #[.slice none 0 0, .int .i64 0, .int .i64 0]
/-- New -/
theorem new_any (a : Option Addr) (n cap : Nat) (many : Int) (w : World) :
    Calls Tryd.prog 12 #[.slice a n cap, .int .i64 many] w fun e w' =>
      e = .returned (if isKeyB n many 0 then .tuple #[keyV a n cap many 0, .int .i64 0] else .tuple #[key0, .int .i64 320]) ∧ Below w.heap.size w w' := by
  have HK := Lib.hid (fun W => isKey_any a n cap many 0 W)
  have HB := Lib.hid (Blk.new w 24 #[.slice a n cap, .int .i64 many, .int .i64 0])
  unfold keyV key0
  have go : ∀ b, isKeyB n many 0 = b → Calls Tryd.prog 12 #[.slice a n cap, .int .i64 many] w fun e w' =>
      e = .returned (if b = true then .tuple #[.agg #[.slice a n cap, .int .i64 many, .int .i64 0], .int .i64 0] else .tuple #[.agg #[.slice none 0 0, .int .i64 0, .int .i64 0], .int .i64 320]) ∧ Below w.heap.size w w' := by
    intro b hb
    rw [hb] at HK
    clear hb
    cases b
    all_goals
      go_enter Tryd.func12, Tryd.ntmps12
      go_wp2_with fail
      refine (HK.out _).mono ?_
      rintro e w1 ⟨rfl, hb1⟩
      obtain ⟨c0, c1, c2, f0, f1, f2⟩ := cells3 (HB.out.below hb1 (by simp))
      have hb2 := (below_alloc w (.cells #[.slice a n cap, .int .i64 many, .int .i64 0] 24)).trans (hb1.mono (by simp))
      clear hb1
      go_wp2_with fail
      first
        | exact bodyPost_ret (v := .tuple #[.agg #[.slice a n cap, .int .i64 many, .int .i64 0], .int .i64 0]) (by simp [results, Tryd.results12, go_sem, *]) rfl ⟨rfl, by (repeat (refine Below.setCell ?_ (by first | exact Nat.le_refl _ | (simp; done)) _)); exact hb2⟩
        | exact bodyPost_ret (v := .tuple #[.agg #[.slice none 0 0, .int .i64 0, .int .i64 0], .int .i64 320]) (by simp [results, Tryd.results12, go_sem, *]) rfl ⟨rfl, by (repeat (refine Below.setCell ?_ (by first | exact Nat.le_refl _ | (simp; done)) _)); exact hb2⟩
  exact go _ rfl
end Go.Proofs.YtiloaheaglcpbaaDoor
