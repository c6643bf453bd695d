/- Signing: the ends of the chains that a signature leads to. -/
import Derived.Test.YtiloaheaglcpbaaDoorSgF6
namespace Go.Proofs.YtiloaheaglcpbaaDoor
open Go.RowKit

set_option maxRecDepth 100000 in
set_option maxHeartbeats 1000000 in
theorem vfy1_any (d : List UInt8) (hd : d.length = 32) (j : Nat) (hj : j < 67) (ix dd : Nat) (hix : ix < 256) (g off cap b7 b9 : Nat) (w : World)
    (h70 : w.cell? ⟨b7, 0, none⟩ = some (.int .i64 (ix : Int))) (h71 : w.cell? ⟨b7, 1, none⟩ = some (.slice (some ⟨g, off, none⟩) 67 cap)) (hr : w.rangeAt g (off + j * 32) (bc d)) (h9 : w.cell? ⟨b9, j, none⟩ = some (.int .i64 (dd : Int))) (hT : Tabs w) :
    Calls Tryd.prog 45 #[.int .i64 (j : Int), .pointer (some ⟨b7, 0, none⟩), .pointer (some ⟨b9, 0, none⟩)] w fun e w' => e = .returned (arrV (flw ix j d dd (15 - dd))) ∧ Below w.heap.size w w' := by
  have HF := Lib.hid (fun W (hb : Below w.heap.size w W) => follow_any d hd ix j dd 15 hix (by omega) (by omega) W (hT.next hb))
  have hl0 : b7 < w.heap.size := World.block_lt_of_cell? w _ h70
  have hl1 : b9 < w.heap.size := World.block_lt_of_cell? w _ h9
  have hlt : g < w.heap.size := by
    have := hr 0 _ (by rw [bt_cell (d := d) (k := 0) (by omega)])
    exact World.block_lt_of_cell? w _ this
  have Hl2 := Lib.hid (show (bc (flw ix j d dd (15 - dd))).length = 32 by rw [bc_len, flw_len _ _ _ hd])
  have Ho2 := Lib.hid (bc_one (flw ix j d dd (15 - dd)))
  have u1 : (Tryd.prog.info? 26).map (·.size) = some (bc d).length := by rw [bc_len, hd]; exact infoDg
  unfold arrV at HF ⊢
  obtain ⟨D2, hD2⟩ : ∃ D2, bc (flw ix j d dd (15 - dd)) = D2 := ⟨_, rfl⟩
  rw [hD2] at HF Hl2 Ho2 ⊢
  obtain ⟨D, hD⟩ : ∃ D, bc d = D := ⟨_, rfl⟩
  rw [hD] at HF hr u1
  have hb0 := below_alloc w (.cells #[.int .u8 0, .int .u8 0, .int .u8 0, .int .u8 0, .int .u8 0, .int .u8 0, .int .u8 0, .int .u8 0, .int .u8 0, .int .u8 0, .int .u8 0, .int .u8 0, .int .u8 0, .int .u8 0, .int .u8 0, .int .u8 0, .int .u8 0, .int .u8 0, .int .u8 0, .int .u8 0, .int .u8 0, .int .u8 0, .int .u8 0, .int .u8 0, .int .u8 0, .int .u8 0, .int .u8 0, .int .u8 0, .int .u8 0, .int .u8 0, .int .u8 0, .int .u8 0] 26)
  have H4 := Lib.hid (Blk.new w 26 #[.int .u8 0, .int .u8 0, .int .u8 0, .int .u8 0, .int .u8 0, .int .u8 0, .int .u8 0, .int .u8 0, .int .u8 0, .int .u8 0, .int .u8 0, .int .u8 0, .int .u8 0, .int .u8 0, .int .u8 0, .int .u8 0, .int .u8 0, .int .u8 0, .int .u8 0, .int .u8 0, .int .u8 0, .int .u8 0, .int .u8 0, .int .u8 0, .int .u8 0, .int .u8 0, .int .u8 0, .int .u8 0, .int .u8 0, .int .u8 0, .int .u8 0, .int .u8 0])
  have a70 := (hb0.cell (p := ⟨b7, 0, none⟩) hl0).trans h70
  have a71 := (hb0.cell (p := ⟨b7, 1, none⟩) hl0).trans h71
  have a9 := (hb0.cell (p := ⟨b9, j, none⟩) hl1).trans h9
  have ar := rangeAt_below hr hb0 hlt
  obtain ⟨w0, hw0⟩ : ∃ w0, w.alloc (.cells #[.int .u8 0, .int .u8 0, .int .u8 0, .int .u8 0, .int .u8 0, .int .u8 0, .int .u8 0, .int .u8 0, .int .u8 0, .int .u8 0, .int .u8 0, .int .u8 0, .int .u8 0, .int .u8 0, .int .u8 0, .int .u8 0, .int .u8 0, .int .u8 0, .int .u8 0, .int .u8 0, .int .u8 0, .int .u8 0, .int .u8 0, .int .u8 0, .int .u8 0, .int .u8 0, .int .u8 0, .int .u8 0, .int .u8 0, .int .u8 0, .int .u8 0, .int .u8 0] 26) = w0 := ⟨_, rfl⟩
  rw [hw0] at hb0 H4 a70 a71 a9 ar
  have HW0 := Lib.hid hw0
  have Hb0 := Lib.hid hb0
  clear hT hd hD hD2 hw0 hb0 h70 h71 hr h9
  have u2 : (Tryd.prog.info? 26).map (·.size) = some D2.length := by rw [Hl2.out]; exact infoDg
  have u3 : D2.length = 32 := Hl2.out
  have u4 : ∀ v ∈ D2, v.oneCell' = true := Ho2.out
  have u5 := Tryd.underlying26
  have q4 := there_blk H4.out (n := 32) rfl
  have l4 := H4.out.lt
  have m7 : b7 < w0.heap.size := by have := Hb0.out.size; omega
  have m9 : b9 < w0.heap.size := by have := Hb0.out.size; omega
  have mg : g < w0.heap.size := by have := Hb0.out.size; omega
  have n7 : ¬ b7 = w.heap.size := by omega
  have n9 : ¬ b9 = w.heap.size := by omega
  have ng : ¬ g = w.heap.size := by omega
  have ng' : ¬ w.heap.size = g := by omega
  clear hl0 hl1 hlt
  have i1 : (0 : Int) ≤ (j : Int) := by omega
  have i2 : (j : Int) < 67 := by omega
  have i3 : (j : Int) ≤ 66 := by omega
  go_enter Tryd.func45, Tryd.ntmps45
  go_wp2_with fail
  rw [HW0.out]
  go_region_held3 (fun w' => w'.cell? ⟨b7, 0, none⟩ = some (.int .i64 (ix : Int)) ∧ w'.cell? ⟨b7, 1, none⟩ = some (.slice (some ⟨g, off, none⟩) 67 cap) ∧ w'.cell? ⟨b9, j, none⟩ = some (.int .i64 (dd : Int)) ∧ w'.rangeAt g (off + j * 32) D ∧ w'.there w.heap.size 0 32)
    (first
      | (with_reducible exact ⟨a70, a71, a9, ar, q4⟩)
      | (simp only [World.there_drew, World.cell?_drew, World.rangeAt_drew]; with_reducible exact ⟨a70, a71, a9, ar, q4⟩)
      | (exact ⟨(hbA.cell (p := ⟨b7, 0, none⟩) m7).trans a70, (hbA.cell (p := ⟨b7, 1, none⟩) m7).trans a71, (hbA.cell (p := ⟨b9, j, none⟩) m9).trans a9, rangeAt_below ar hbA mg, there_below q4 hbA l4⟩)
      | (exact ⟨(World.cell?_setCells_out _ _ _ _ _ (fun e _ => absurd e n7)).trans ((hbA.cell (p := ⟨b7, 0, none⟩) m7).trans a70), (World.cell?_setCells_out _ _ _ _ _ (fun e _ => absurd e n7)).trans ((hbA.cell (p := ⟨b7, 1, none⟩) m7).trans a71), (World.cell?_setCells_out _ _ _ _ _ (fun e _ => absurd e n9)).trans ((hbA.cell (p := ⟨b9, j, none⟩) m9).trans a9), fun i u hu => (World.cell?_setCells_out _ _ _ _ _ (fun e _ => absurd e ng)).trans (rangeAt_below ar hbA mg i u hu), World.there_setCells (there_below q4 hbA l4) _ _ _⟩))
    ((go_at_call 46; with_reducible refine Calls.mono (HF.out _ (Hb0.out.drew)) ?_; rintro e wA ⟨rfl, hbA0⟩; have hbA : Below w0.heap.size w0 wA := (Below.refl w0.heap.size w0).drew.trans (hbA0.mono (by simp))))
  have hr := World.rangeAt_setCells_same wA w.heap.size 0 D2 (by rw [u3]; exact there_below q4 hbA l4)
  have Hb7 := Lib.hid (setCells_below w.heap.size D2 0 (Hb0.out.trans (hbA.mono Hb0.out.size)) (Nat.le_refl _))
  have Hr := Lib.hid hr
  clear q4 u2 u3 u4 u1 hr hbA hbA0 a70 a71 a9 ar
  go_wp2_with fail
  refine bodyPost_ret (v := .agg D2.toArray) (results_cell_mid rfl _ _ w.heap.size D2 _ rfl Hr.out Tryd.underlying26 rfl (by rw [Hl2.out]; exact infoDg)) rfl ?_
  exact ⟨rfl, Hb7.out⟩
end Go.Proofs.YtiloaheaglcpbaaDoor
