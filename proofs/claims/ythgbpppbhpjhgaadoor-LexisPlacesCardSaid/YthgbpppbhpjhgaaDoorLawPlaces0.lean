/- Layer 1, the statement LexisPlaces at the empty source: the walk. -/
import Derived.Test.YthgbpppbhpjhgaaDoorSane
namespace Go.Proofs.YthgbpppbhpjhgaaDoor
open Go.RowKit

set_option maxRecDepth 100000 in
set_option maxHeartbeats 2000000 in
theorem lexisPlaces_nil (a : Option Addr) (cap : Nat) (w : World) (hT : TabW w) :
    Calls Tryd.prog 7 #[.slice a 0 cap] w fun e w' => e = .returned (.bool true) ∧ Below w.heap.size w w' := by
  have hv : Sl w 1 (.slice a 0 cap) ([] : List UInt8).length (bc []) := ⟨by simp [bc], _, _, rfl, Nat.zero_le _, .inl rfl⟩
  have hconv0 : ∀ x c W, (convert 22 9 (.slice x 0 c)).run Tryd.prog W = .ok (.string ⟨#[]⟩) W := fun x c W => conv_bytes (l := []) ⟨by simp [bc], _, _, rfl, Nat.zero_le _, .inl rfl⟩
  have hTw := TabW_lt hT
  have ht0 : toks [] = [] := by decide
  have hb0 : bads [] = [] := by decide
  have hcs : tkE [] = [(4, ⟨#[]⟩, 0)] := by simp [tkE, ht0]
  go_enter Tryd.func7, Tryd.ntmps7
  go_wp2_with fail
  refine (sane_any w hT).mono ?_
  rintro e w1 ⟨rfl, hb1⟩
  have hv1 := hv.next hb1
  have hT1 := TabW_below hb1 hTw hT
  go_wp2_with fail
  refine (tokens_any [] _ w1 hv1 (by decide) hT1).mono ?_
  rintro e w2 ⟨vl, vp, rfl, hl2, hp2, hb2⟩
  rw [← tkE_cells, ← tkE_len, hcs] at hl2
  rw [hb0] at hp2
  have hB2 := hb1.trans (hb2.mono hb1.size)
  obtain ⟨al, cl, rfl⟩ := hl2.form
  obtain ⟨ap, cp, rfl⟩ := hp2.form
  obtain ⟨gl, ol, rfl, hcl, hcells⟩ := hl2.toks (by decide)
  obtain ⟨c0, c1, c2⟩ := hcells 0 (by decide)
  simp only [tA, List.getD_cons_zero, Nat.zero_mul, Nat.add_zero] at c0 c1 c2
  change w2.cell? ⟨gl, ol, none⟩ = some (.int .i64 4) at c0
  clear hcells hcs ht0 hb0 hl2 hp2 hv hv1
  have hgl := World.block_lt_of_cell? w2 _ c0
  simp only [List.length_cons, List.length_nil, Nat.zero_add, List.take_nil] at hcl ⊢
  go_wp2_with fail
  refine wp_loop_rounds 2 ?_
  rw [rounds_succ]
  go_wp2_with fail
  go_quiet (fail)
  go_wp2_with fail
  refine wp_loop_rounds 1 ?_
  rw [rounds_succ]
  go_wp2_with fail
  go_quiet (fail)
  go_wp2_with fail
  rw [rounds_succ]
  go_wp2_with fail
  go_ret
  exact ⟨rfl, hB2.trans ((below_drewN ((Below.refl _ _).alloc (Nat.le_refl _) _) _).mono hB2.size)⟩
end Go.Proofs.YthgbpppbhpjhgaaDoor
