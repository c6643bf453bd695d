/- Digests: the digest of a list of one or two. -/
import Derived.Test.YtiloaheaglcpbaaDoorSgS8
import Derived.Laws.EntriesVeiled
namespace Go.Proofs.YtiloaheaglcpbaaDoor
open Go.RowKit

set_option maxRecDepth 100000 in
theorem len64_1 (w : World) : Calls Tryd.prog 70 #[.int .u64 1] w fun e w' => e = .returned (.int .i64 1) ∧ w = w' := by
  go_enter Tryd.func70, Tryd.ntmps70
  go_wp2_with fail
  go_ret
  exact ⟨ret_int (by kernel_rfl), rfl⟩
theorem len_1 (w : World) : Calls Tryd.prog 65 #[.int .u64 1] w fun e w' => e = .returned (.int .i64 1) ∧ w = w' := by
  go_enter Tryd.func65, Tryd.ntmps65
  go_wp2_with fail
  refine (len64_1 _).mono ?_
  rintro e w' ⟨rfl, rfl⟩
  go_wp2_with fail
  go_ret
  exact ⟨rfl, rfl⟩
theorem split2 (w : World) : Calls Tryd.prog 53 #[.int .i64 2] w fun e w' => e = .returned (.int .i64 1) ∧ w = w' := by
  go_enter Tryd.func53, Tryd.ntmps53
  go_wp2_with fail
  refine (len_1 _).mono ?_
  rintro e w' ⟨rfl, rfl⟩
  go_wp2_with fail
  go_ret
  exact ⟨rfl, rfl⟩
/-- a list of digests -/
def Dgs (w : World) (v : Value) (L : List (List UInt8)) : Prop := Sl w 32 v L.length (L.flatMap bc) ∧ ∀ d ∈ L, d.length = 32
theorem Dgs.next {w w' : World} (hb : Below w.heap.size w w') {v : Value} {L : List (List UInt8)} (h : Dgs w v L) : Dgs w' v L := ⟨h.1.next hb, h.2⟩
/-- the digest of a list of one or two -/
def tr1 (a : List UInt8) : List UInt8 := lf a
def tr2 (a b : List UInt8) : List UInt8 := nd (lf a) (lf b)

set_option maxRecDepth 100000 in
theorem fold1_any (d : List UInt8) (hd : d.length = 32) (g off cap : Nat) (c : Value) (w : World) (hT : Tabs w) (hr : w.rangeAt g off (bc d)) :
    Calls Tryd.prog 51 #[.slice (some ⟨g, off, none⟩) 1 cap, c] w fun e w' => e = .returned (arrV (lf d)) ∧ Below w.heap.size w w' := by
  have HT := Lib.hid hT
  have HD := Lib.hid (show (bc d).length = 32 by rw [bc_len, hd])
  have Hlf := Lib.hid (fun W hT => leaf_any d hd W hT)
  have Hl2 := Lib.hid (show (bc (lf d)).length = 32 by rw [bc_len, lf_len])
  have Ho2 := Lib.hid (bc_one (lf d))
  have hlt : g < w.heap.size := by
    have := hr 0 _ (by rw [bt_cell (d := d) (k := 0) (by omega)])
    exact World.block_lt_of_cell? w _ this
  have hr2 := rangeAt_below hr (below_alloc w (.cells #[.int .u8 0, .int .u8 0, .int .u8 0, .int .u8 0, .int .u8 0, .int .u8 0, .int .u8 0, .int .u8 0, .int .u8 0, .int .u8 0, .int .u8 0, .int .u8 0, .int .u8 0, .int .u8 0, .int .u8 0, .int .u8 0, .int .u8 0, .int .u8 0, .int .u8 0, .int .u8 0, .int .u8 0, .int .u8 0, .int .u8 0, .int .u8 0, .int .u8 0, .int .u8 0, .int .u8 0, .int .u8 0, .int .u8 0, .int .u8 0, .int .u8 0, .int .u8 0] 26)) hlt
  unfold arrV at Hlf ⊢
  obtain ⟨D, hD⟩ : ∃ D, bc d = D := ⟨_, rfl⟩
  obtain ⟨D2, hD2⟩ : ∃ D2, bc (lf d) = D2 := ⟨_, rfl⟩
  rw [hD] at HD Hlf hr2
  rw [hD2] at Hl2 Ho2 Hlf ⊢
  have HR := Lib.hid hr2
  have HB := Lib.hid (Blk.new w 26 #[.int .u8 0, .int .u8 0, .int .u8 0, .int .u8 0, .int .u8 0, .int .u8 0, .int .u8 0, .int .u8 0, .int .u8 0, .int .u8 0, .int .u8 0, .int .u8 0, .int .u8 0, .int .u8 0, .int .u8 0, .int .u8 0, .int .u8 0, .int .u8 0, .int .u8 0, .int .u8 0, .int .u8 0, .int .u8 0, .int .u8 0, .int .u8 0, .int .u8 0, .int .u8 0, .int .u8 0, .int .u8 0, .int .u8 0, .int .u8 0, .int .u8 0, .int .u8 0])
  have Hb := Lib.hid (below_alloc w (.cells #[.int .u8 0, .int .u8 0, .int .u8 0, .int .u8 0, .int .u8 0, .int .u8 0, .int .u8 0, .int .u8 0, .int .u8 0, .int .u8 0, .int .u8 0, .int .u8 0, .int .u8 0, .int .u8 0, .int .u8 0, .int .u8 0, .int .u8 0, .int .u8 0, .int .u8 0, .int .u8 0, .int .u8 0, .int .u8 0, .int .u8 0, .int .u8 0, .int .u8 0, .int .u8 0, .int .u8 0, .int .u8 0, .int .u8 0, .int .u8 0, .int .u8 0, .int .u8 0] 26))
  clear hT hr hr2 hd hD hD2
  go_enter Tryd.func51, Tryd.ntmps51
  go_wp2_with (refine wpList_load_mid rfl 26 _ rfl g off rfl D _ HR.out Tryd.underlying26 rfl (by rw [HD.out]; exact infoDg) ?_)
  refine (Hlf.out _ (HT.out.next Hb.out)).mono ?_
  rintro e w7 ⟨rfl, hb7⟩
  have HB7 := Lib.hid (HB.out.below hb7 HB.out.lt)
  have Hb7 := Lib.hid (Hb.out.trans (hb7.mono Hb.out.size))
  clear hb7 HB Hb
  go_wp2_with (refine wpList_store_row rfl 26 _ _ rfl w.heap.size D2.toArray rfl rfl 26 _ HB7.out (by rw [List.size_toArray, Hl2.out]; exact infoDg) (show 32 = D2.length from Hl2.out.symm) (all_oneCell_toArray Ho2.out) ?_)
  refine bodyPost_ret (v := .agg D2.toArray) (results_cell_row rfl _ _ w.heap.size 26 D2.toArray (0, 0) _ rfl (HB7.out.setRow D2.toArray) Tryd.underlying26 rfl (by rw [List.size_toArray, Hl2.out]; exact infoDg)) rfl ?_
  exact ⟨rfl, setRow_below Hb7.out (Nat.le_refl _) _⟩

set_option maxRecDepth 100000 in
set_option maxHeartbeats 1000000 in
theorem fold2_any (a b : List UInt8) (ha : a.length = 32) (hb : b.length = 32) (g off cap c : Nat) (w : World) (hcap : 2 ≤ cap) (hT : Tabs w) (hra : w.rangeAt g off (bc a)) (hrb : w.rangeAt g (off + 32) (bc b))
    (hc : w.cell? ⟨c, 0, none⟩ = some (.func (.func 51) #[] #[.pointer (some ⟨c, 0, none⟩)])) :
    Calls Tryd.prog 51 #[.slice (some ⟨g, off, none⟩) 2 cap, .pointer (some ⟨c, 0, none⟩)] w fun e w' => e = .returned (arrV (tr2 a b)) ∧ Below w.heap.size w w' := by
  have HT := Lib.hid hT
  have hlt : g < w.heap.size := by
    have := hra 0 _ (by rw [bt_cell (d := a) (k := 0) (by omega)])
    exact World.block_lt_of_cell? w _ this
  have hcl : c < w.heap.size := World.block_lt_of_cell? w _ hc
  have hb0 := below_alloc w (.cells #[.int .u8 0, .int .u8 0, .int .u8 0, .int .u8 0, .int .u8 0, .int .u8 0, .int .u8 0, .int .u8 0, .int .u8 0, .int .u8 0, .int .u8 0, .int .u8 0, .int .u8 0, .int .u8 0, .int .u8 0, .int .u8 0, .int .u8 0, .int .u8 0, .int .u8 0, .int .u8 0, .int .u8 0, .int .u8 0, .int .u8 0, .int .u8 0, .int .u8 0, .int .u8 0, .int .u8 0, .int .u8 0, .int .u8 0, .int .u8 0, .int .u8 0, .int .u8 0] 26)
  have HF1 := Lib.hid (fun W (hW : Below w.heap.size w W) => fold1_any a ha g off cap (.pointer (some ⟨c, 0, none⟩)) W (hT.next hW) (rangeAt_below hra hW hlt))
  have HF2 := Lib.hid (fun W (hW : Below w.heap.size w W) => fold1_any b hb g (off + 32) (cap - 1) (.pointer (some ⟨c, 0, none⟩)) W (hT.next hW) (rangeAt_below hrb hW hlt))
  have HN := Lib.hid (fun W (hb : Below w.heap.size w W) => node_any (lf a) (lf b) (lf_len a) (lf_len b) W (hT.next hb))
  have Hl2 := Lib.hid (show (bc (tr2 a b)).length = 32 by rw [bc_len]; rfl)
  have Ho2 := Lib.hid (bc_one (tr2 a b))
  have hc0 := (hb0.cell (p := ⟨c, 0, none⟩) hcl).trans hc
  unfold arrV at HF1 HF2 HN ⊢
  obtain ⟨A, hA⟩ : ∃ A, bc (lf a) = A := ⟨_, rfl⟩
  obtain ⟨B, hB⟩ : ∃ B, bc (lf b) = B := ⟨_, rfl⟩
  obtain ⟨D2, hD2⟩ : ∃ D2, bc (tr2 a b) = D2 := ⟨_, rfl⟩
  have hD2' : bc (nd (lf a) (lf b)) = D2 := hD2
  rw [hA] at HF1 HN
  rw [hB] at HF2 HN
  rw [hD2'] at HN
  rw [hD2] at Hl2 Ho2 ⊢
  have H4 := Lib.hid (Blk.new w 26 #[.int .u8 0, .int .u8 0, .int .u8 0, .int .u8 0, .int .u8 0, .int .u8 0, .int .u8 0, .int .u8 0, .int .u8 0, .int .u8 0, .int .u8 0, .int .u8 0, .int .u8 0, .int .u8 0, .int .u8 0, .int .u8 0, .int .u8 0, .int .u8 0, .int .u8 0, .int .u8 0, .int .u8 0, .int .u8 0, .int .u8 0, .int .u8 0, .int .u8 0, .int .u8 0, .int .u8 0, .int .u8 0, .int .u8 0, .int .u8 0, .int .u8 0, .int .u8 0])
  have hw0 : ∃ w0, w.alloc (.cells #[.int .u8 0, .int .u8 0, .int .u8 0, .int .u8 0, .int .u8 0, .int .u8 0, .int .u8 0, .int .u8 0, .int .u8 0, .int .u8 0, .int .u8 0, .int .u8 0, .int .u8 0, .int .u8 0, .int .u8 0, .int .u8 0, .int .u8 0, .int .u8 0, .int .u8 0, .int .u8 0, .int .u8 0, .int .u8 0, .int .u8 0, .int .u8 0, .int .u8 0, .int .u8 0, .int .u8 0, .int .u8 0, .int .u8 0, .int .u8 0, .int .u8 0, .int .u8 0] 26) = w0 := ⟨_, rfl⟩
  obtain ⟨w0, hw0⟩ := hw0
  rw [hw0] at hb0 hc0 H4
  have HW0 := Lib.hid hw0
  have Hb0 := Lib.hid hb0
  clear hT hra hrb ha hb hA hB hD2 hD2' hw0 hb0 hc
  go_enter Tryd.func51, Tryd.ntmps51
  go_wp2_with (first
    | (go_at_call 53; refine (split2 _).mono ?_; rintro _ _ ⟨rfl, rfl⟩))
  rw [HW0.out]
  have q4 := there_blk H4.out (n := 32) rfl
  have u2 : (Tryd.prog.info? 26).map (·.size) = some D2.length := by rw [Hl2.out]; exact infoDg
  have u3 : D2.length = 32 := Hl2.out
  have u4 : ∀ v ∈ D2, v.oneCell' = true := Ho2.out
  have l4 := H4.out.lt
  have lc : c < w0.heap.size := by have := Hb0.out.size; omega
  have hcap1 : ¬ cap = 1 := by omega
  have hcne : ¬ c = w.heap.size := by omega
  have j1 : (1 : Int) ≤ (cap : Int) := by omega
  have j2 : (0 : Int) ≤ (cap : Int) := by omega
  have j3 : (1 : Int) < (cap : Int) := by omega
  have j4 : (2 : Int) ≤ (cap : Int) := by omega
  have j5 : 1 ≤ cap := by omega
  go_region_held3 (fun w' => w'.cell? ⟨c, 0, none⟩ = some (.func (.func 51) #[] #[.pointer (some ⟨c, 0, none⟩)]) ∧ w'.there w.heap.size 0 32)
    (first
      | (with_reducible exact ⟨hc0, q4⟩)
      | (simp only [World.there_drew, World.cell?_drew]; with_reducible exact ⟨hc0, q4⟩)
      | (exact ⟨(hbA.cell (p := ⟨c, 0, none⟩) lc).trans hc0, there_below q4 hbA l4⟩)
      | (exact ⟨(hbB.cell (p := ⟨c, 0, none⟩) lc).trans hc0, there_below q4 hbB l4⟩)
      | (exact ⟨(hbC.cell (p := ⟨c, 0, none⟩) lc).trans hc0, there_below q4 hbC l4⟩)
      | (exact ⟨(World.cell?_setCells_out _ _ _ _ _ (fun e _ => absurd e hcne)).trans ((hbC.cell (p := ⟨c, 0, none⟩) lc).trans hc0), World.there_setCells (there_below q4 hbC l4) _ _ _⟩))
    (first
      | (go_at_call 51; with_reducible refine Calls.mono (HF1.out _ (Hb0.out.drew)) ?_; rintro e wA ⟨rfl, hbA0⟩; have hbA : Below w0.heap.size w0 wA := (Below.refl w0.heap.size w0).drew.trans (hbA0.mono (by simp)))
      | (go_at_call 51; with_reducible refine Calls.mono (HF2.out _ (Hb0.out.trans (hbA.mono Hb0.out.size))) ?_; rintro e wB ⟨rfl, hbB0⟩; have hbB : Below w0.heap.size w0 wB := hbA.trans (hbB0.mono hbA.size))
      | (go_at_call 54; with_reducible refine Calls.mono (HN.out _ (Hb0.out.trans (hbB.mono Hb0.out.size))) ?_; rintro e wC ⟨rfl, hbC0⟩; have hbC : Below w0.heap.size w0 wC := hbB.trans (hbC0.mono hbB.size)))
  have hr := World.rangeAt_setCells_same wC w.heap.size 0 D2 (by rw [u3]; exact there_below q4 hbC l4)
  have Hb7 := Lib.hid (setCells_below w.heap.size D2 0 (Hb0.out.trans (hbC.mono Hb0.out.size)) (Nat.le_refl _))
  have Hr := Lib.hid hr
  clear q4 u2 u3 u4 hr hbA hbB hbC hbA0 hbB0 hbC0 hc0
  go_wp2_with fail
  refine bodyPost_ret (v := .agg D2.toArray) (results_cell_mid rfl _ _ w.heap.size D2 _ rfl Hr.out Tryd.underlying26 rfl (by rw [Hl2.out]; exact infoDg)) rfl ?_
  exact ⟨rfl, Hb7.out⟩

set_option maxRecDepth 100000 in
theorem tree1_any (a : List UInt8) (ha : a.length = 32) (g off cap : Nat) (w : World) (hT : Tabs w) (hra : w.rangeAt g off (bc a)) :
    Calls Tryd.prog 33 #[.slice (some ⟨g, off, none⟩) 1 cap] w fun e w' => e = .returned (arrV (tr1 a)) ∧ Below w.heap.size w w' := by
  have hlt : g < w.heap.size := by
    have := hra 0 _ (by rw [bt_cell (d := a) (k := 0) (by omega)])
    exact World.block_lt_of_cell? w _ this
  have HF1 := (fun (c : Nat) W (hW : Below w.heap.size w W) (_ : W.cell? ⟨c, 0, none⟩ = some (.func (.func 51) #[] #[.pointer (some ⟨c, 0, none⟩)])) => fold1_any a ha g off cap (.pointer (some ⟨c, 0, none⟩)) W (hT.next hW) (rangeAt_below hra hW hlt))
  clear hT hra ha
  have Hl2 := Lib.hid (show (bc (tr1 a)).length = 32 by rw [bc_len]; rfl)
  have Ho2 := Lib.hid (bc_one (tr1 a))
  unfold arrV at HF1 ⊢
  obtain ⟨D2, hD2⟩ : ∃ D2, bc (tr1 a) = D2 := ⟨_, rfl⟩
  have HF1 := Lib.hid (fun c W hW hc => by have := HF1 c W hW hc; rwa [show bc (lf a) = D2 from hD2] at this)
  rw [hD2] at Hl2 Ho2 ⊢
  clear hD2
  have HB := Lib.hid ((Blk.new w 26 #[.int .u8 0, .int .u8 0, .int .u8 0, .int .u8 0, .int .u8 0, .int .u8 0, .int .u8 0, .int .u8 0, .int .u8 0, .int .u8 0, .int .u8 0, .int .u8 0, .int .u8 0, .int .u8 0, .int .u8 0, .int .u8 0, .int .u8 0, .int .u8 0, .int .u8 0, .int .u8 0, .int .u8 0, .int .u8 0, .int .u8 0, .int .u8 0, .int .u8 0, .int .u8 0, .int .u8 0, .int .u8 0, .int .u8 0, .int .u8 0, .int .u8 0, .int .u8 0]).alloc (.cells #[.func (.func 51) #[] #[.pointer (some ⟨w.heap.size + 1, 0, none⟩)]] 57))
  have hB2 := Blk.new (w.alloc (.cells #[.int .u8 0, .int .u8 0, .int .u8 0, .int .u8 0, .int .u8 0, .int .u8 0, .int .u8 0, .int .u8 0, .int .u8 0, .int .u8 0, .int .u8 0, .int .u8 0, .int .u8 0, .int .u8 0, .int .u8 0, .int .u8 0, .int .u8 0, .int .u8 0, .int .u8 0, .int .u8 0, .int .u8 0, .int .u8 0, .int .u8 0, .int .u8 0, .int .u8 0, .int .u8 0, .int .u8 0, .int .u8 0, .int .u8 0, .int .u8 0, .int .u8 0, .int .u8 0] 26)) 57 #[.func (.func 51) #[] #[.pointer (some ⟨w.heap.size + 1, 0, none⟩)]]
  rw [World.size_alloc] at hB2
  have HB2 := Lib.hid (hB2.cell 0)
  have Hb := Lib.hid ((below_alloc w (.cells #[.int .u8 0, .int .u8 0, .int .u8 0, .int .u8 0, .int .u8 0, .int .u8 0, .int .u8 0, .int .u8 0, .int .u8 0, .int .u8 0, .int .u8 0, .int .u8 0, .int .u8 0, .int .u8 0, .int .u8 0, .int .u8 0, .int .u8 0, .int .u8 0, .int .u8 0, .int .u8 0, .int .u8 0, .int .u8 0, .int .u8 0, .int .u8 0, .int .u8 0, .int .u8 0, .int .u8 0, .int .u8 0, .int .u8 0, .int .u8 0, .int .u8 0, .int .u8 0] 26)).alloc (by simp) (.cells #[.func (.func 51) #[] #[.pointer (some ⟨w.heap.size + 1, 0, none⟩)]] 57))
  clear hB2
  go_enter Tryd.func33, Tryd.ntmps33
  go_wp2_with fail
  refine (HF1.out _ _ Hb.out HB2.out).mono ?_
  rintro e w7 ⟨rfl, hb7⟩
  have HB7 := Lib.hid (HB.out.below hb7 HB.out.lt)
  have Hb7 := Lib.hid (Hb.out.trans (hb7.mono Hb.out.size))
  clear hb7 HB Hb HB2
  go_wp2_with (refine wpList_store_row rfl 26 _ _ rfl w.heap.size D2.toArray rfl rfl 26 _ HB7.out (by rw [List.size_toArray, Hl2.out]; exact infoDg) (show 32 = D2.length from Hl2.out.symm) (all_oneCell_toArray Ho2.out) ?_)
  refine bodyPost_ret (v := .agg D2.toArray) (results_cell_row rfl _ _ w.heap.size 26 D2.toArray (0, 0) _ rfl (HB7.out.setRow D2.toArray) Tryd.underlying26 rfl (by rw [List.size_toArray, Hl2.out]; exact infoDg)) rfl ?_
  exact ⟨rfl, setRow_below Hb7.out (Nat.le_refl _) _⟩
set_option maxRecDepth 100000 in
theorem tree2_any (a b : List UInt8) (ha : a.length = 32) (hb : b.length = 32) (g off cap : Nat) (w : World) (hcap : 2 ≤ cap) (hT : Tabs w) (hra : w.rangeAt g off (bc a)) (hrb : w.rangeAt g (off + 32) (bc b)) :
    Calls Tryd.prog 33 #[.slice (some ⟨g, off, none⟩) 2 cap] w fun e w' => e = .returned (arrV (tr2 a b)) ∧ Below w.heap.size w w' := by
  have hlt : g < w.heap.size := by
    have := hra 0 _ (by rw [bt_cell (d := a) (k := 0) (by omega)])
    exact World.block_lt_of_cell? w _ this
  have HF1 := (fun (c : Nat) W (hW : Below w.heap.size w W) hc => fold2_any a b ha hb g off cap c W hcap (hT.next hW) (rangeAt_below hra hW hlt) (rangeAt_below hrb hW hlt) hc)
  clear hT hra hrb ha hb
  have Hl2 := Lib.hid (show (bc (tr2 a b)).length = 32 by rw [bc_len]; rfl)
  have Ho2 := Lib.hid (bc_one (tr2 a b))
  unfold arrV at HF1 ⊢
  obtain ⟨D2, hD2⟩ : ∃ D2, bc (tr2 a b) = D2 := ⟨_, rfl⟩
  have HF1 := Lib.hid (fun c W hW hc => by have := HF1 c W hW hc; rwa [show bc (tr2 a b) = D2 from hD2] at this)
  rw [hD2] at Hl2 Ho2 ⊢
  clear hD2
  have HB := Lib.hid ((Blk.new w 26 #[.int .u8 0, .int .u8 0, .int .u8 0, .int .u8 0, .int .u8 0, .int .u8 0, .int .u8 0, .int .u8 0, .int .u8 0, .int .u8 0, .int .u8 0, .int .u8 0, .int .u8 0, .int .u8 0, .int .u8 0, .int .u8 0, .int .u8 0, .int .u8 0, .int .u8 0, .int .u8 0, .int .u8 0, .int .u8 0, .int .u8 0, .int .u8 0, .int .u8 0, .int .u8 0, .int .u8 0, .int .u8 0, .int .u8 0, .int .u8 0, .int .u8 0, .int .u8 0]).alloc (.cells #[.func (.func 51) #[] #[.pointer (some ⟨w.heap.size + 1, 0, none⟩)]] 57))
  have hB2 := Blk.new (w.alloc (.cells #[.int .u8 0, .int .u8 0, .int .u8 0, .int .u8 0, .int .u8 0, .int .u8 0, .int .u8 0, .int .u8 0, .int .u8 0, .int .u8 0, .int .u8 0, .int .u8 0, .int .u8 0, .int .u8 0, .int .u8 0, .int .u8 0, .int .u8 0, .int .u8 0, .int .u8 0, .int .u8 0, .int .u8 0, .int .u8 0, .int .u8 0, .int .u8 0, .int .u8 0, .int .u8 0, .int .u8 0, .int .u8 0, .int .u8 0, .int .u8 0, .int .u8 0, .int .u8 0] 26)) 57 #[.func (.func 51) #[] #[.pointer (some ⟨w.heap.size + 1, 0, none⟩)]]
  rw [World.size_alloc] at hB2
  have HB2 := Lib.hid (hB2.cell 0)
  have Hb := Lib.hid ((below_alloc w (.cells #[.int .u8 0, .int .u8 0, .int .u8 0, .int .u8 0, .int .u8 0, .int .u8 0, .int .u8 0, .int .u8 0, .int .u8 0, .int .u8 0, .int .u8 0, .int .u8 0, .int .u8 0, .int .u8 0, .int .u8 0, .int .u8 0, .int .u8 0, .int .u8 0, .int .u8 0, .int .u8 0, .int .u8 0, .int .u8 0, .int .u8 0, .int .u8 0, .int .u8 0, .int .u8 0, .int .u8 0, .int .u8 0, .int .u8 0, .int .u8 0, .int .u8 0, .int .u8 0] 26)).alloc (by simp) (.cells #[.func (.func 51) #[] #[.pointer (some ⟨w.heap.size + 1, 0, none⟩)]] 57))
  clear hB2
  go_enter Tryd.func33, Tryd.ntmps33
  go_wp2_with fail
  refine (HF1.out _ _ Hb.out HB2.out).mono ?_
  rintro e w7 ⟨rfl, hb7⟩
  have HB7 := Lib.hid (HB.out.below hb7 HB.out.lt)
  have Hb7 := Lib.hid (Hb.out.trans (hb7.mono Hb.out.size))
  clear hb7 HB Hb HB2
  go_wp2_with (refine wpList_store_row rfl 26 _ _ rfl w.heap.size D2.toArray rfl rfl 26 _ HB7.out (by rw [List.size_toArray, Hl2.out]; exact infoDg) (show 32 = D2.length from Hl2.out.symm) (all_oneCell_toArray Ho2.out) ?_)
  refine bodyPost_ret (v := .agg D2.toArray) (results_cell_row rfl _ _ w.heap.size 26 D2.toArray (0, 0) _ rfl (HB7.out.setRow D2.toArray) Tryd.underlying26 rfl (by rw [List.size_toArray, Hl2.out]; exact infoDg)) rfl ?_
  exact ⟨rfl, setRow_below Hb7.out (Nat.le_refl _) _⟩
end Go.Proofs.YtiloaheaglcpbaaDoor
