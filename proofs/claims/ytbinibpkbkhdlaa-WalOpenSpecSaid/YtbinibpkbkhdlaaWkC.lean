/- Disk: the index of a sector, Read, Stop, Restart. -/
import Derived.Test.YtbinibpkbkhdlaaWkB
namespace Go.Proofs.Ytbinibpkbkhdlaa
open Go.RowKit

theorem chk01 (D : Dk) : chk D = 0 ∨ chk D = 1 := by unfold chk; split <;> simp
theorem chk_ok {D : Dk} (h : chk D = 0) : 1 ≤ D.secs.length ∧ D.secs.length ≤ 4096 ∧ anyOdd D.secs = false ∧ -1 ≤ D.left ∧ 0 ≤ D.tear ∧ D.tear ≤ 128 ∧ (D.stop = false ∨ D.left = 0) := by
  have hn : ¬ (D.secs.length < 1 ∨ 4096 < D.secs.length ∨ anyOdd D.secs = true ∨ D.left < -1 ∨ D.tear < 0 ∨ 128 < D.tear ∨ (D.stop = true ∧ D.left ≠ 0)) := fun h' => by
    rw [chk_1 h'] at h; cases h
  simp only [not_or, not_and, Decidable.not_not] at hn
  obtain ⟨h1, h2, h3, h4, h5, h6, h7⟩ := hn
  refine ⟨by omega, by omega, by simpa using h3, by omega, by omega, by omega, ?_⟩
  cases hs : D.stop
  · exact .inl rfl
  · exact .inr (h7 hs)
def chkS (D : Dk) (k : Int) : Int := if chk D = 0 ∧ 0 ≤ k ∧ k < D.secs.length then 0 else 1
theorem chkS_ok {D : Dk} {k : Int} (h : chkS D k = 0) : chk D = 0 ∧ 0 ≤ k ∧ k < D.secs.length := by
  unfold chkS at h
  split at h
  · assumption
  · cases h
theorem chkS01 (D : Dk) (k : Int) : chkS D k = 0 ∨ chkS D k = 1 := by unfold chkS; split <;> simp
theorem below_alloc (w : World) (o : Obj) : Below w.heap.size w (w.alloc o) := (Below.refl _ _).alloc (Nat.le_refl _) o

theorem bcell {W w1 : World} (hb : Below W.heap.size W w1) : (∀ b o, b < W.heap.size → w1.cell? ⟨b, o, none⟩ = W.cell? ⟨b, o, none⟩) ∧ (∀ b o, b < W.heap.size → w1.frozen? ⟨b, o, none⟩ = W.frozen? ⟨b, o, none⟩) :=
  ⟨fun b o h => hb.cell (p := ⟨b, o, none⟩) h, fun b o h => hb.frozen (p := ⟨b, o, none⟩) h⟩

set_option maxRecDepth 100000 in
theorem checkSector_any (D : Dk) (d : Value) (k : Int) (w : World) (hd : DkV w d D) :
    Calls Try.prog 45 #[d, .int .i64 k] w fun e w' => e = .returned (.int .i64 (chkS D k)) ∧ Below w.heap.size w w' := by
  have HC := fun W (hb : Below w.heap.size w W) => check_any D d W (hd.next hb)
  obtain ⟨v, rfl, hs⟩ := hd
  obtain ⟨a, cap, rfl⟩ := hs.len
  have hS : chkS D k = if chk D = 0 ∧ 0 ≤ k ∧ k < D.secs.length then 0 else 1 := rfl
  have h01 := chk01 D
  obtain ⟨c, hc⟩ : ∃ c, chk D = c := ⟨_, rfl⟩
  rw [hc] at HC hS h01
  obtain ⟨S, left, tear, stop⟩ := D
  unfold dkAgg at HC ⊢
  simp only [] at HC hS ⊢
  have HC2 := Lib.hid HC
  have HS := Lib.hid hS
  clear HC hS hs hc
  rcases h01 with rfl | rfl
  · go_enter Try.func45, Try.ntmps45
    go_wp2_with (first | (go_at_call 28; refine (HC2.out _ (below_alloc _ _)).mono ?_; rintro e w' ⟨rfl, hb1⟩; obtain ⟨hcc, hff⟩ := bcell hb1))
    all_goals
      go_ret
      refine ⟨ret_int ?_, (below_alloc w _).trans (hb1.mono (by simp))⟩
      rw [HS.out]
      first
        | (rw [if_pos ⟨by trivial, by omega, by omega⟩])
        | (rw [if_neg (fun h => by omega)])
  · go_enter Try.func45, Try.ntmps45
    go_wp2_with (first | (go_at_call 28; refine (HC2.out _ (below_alloc _ _)).mono ?_; rintro e w' ⟨rfl, hb1⟩))
    go_ret
    exact ⟨ret_int (by rw [HS.out, if_neg]; simp), (below_alloc w _).trans (hb1.mono (by simp))⟩

end Go.Proofs.Ytbinibpkbkhdlaa
