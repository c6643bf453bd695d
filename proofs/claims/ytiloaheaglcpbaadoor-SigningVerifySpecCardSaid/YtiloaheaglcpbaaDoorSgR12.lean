/- Digests in the reference: a node. Digests in the reference: the digest of a list of one or two. Signing in the reference: the public key. -/
import Derived.Test.YtiloaheaglcpbaaDoorSgR9
import Derived.Test.YtiloaheaglcpbaaDoorSgX2
import Derived.Test.YtiloaheaglcpbaaDoorSgS8
import Derived.Test.YtiloaheaglcpbaaDoorSgF5
namespace Go.Proofs.YtiloaheaglcpbaaDoor
open Go.RowKit

set_option maxRecDepth 100000 in
set_option maxHeartbeats 1000000 in
theorem rnode_any (a b : List UInt8) (ha : a.length = 32) (hb : b.length = 32) (w : World) :
    Calls Tryd.prog 58 #[arrV a, arrV b] w fun e w' => e = .returned (arrV (nd a b)) ∧ Below w.heap.size w w' := by
  obtain ⟨iu, hiu, hu0, hu1, hu2⟩ := info_parts infoU8
  have HA := Lib.hid (show (bc a).length = 32 by rw [bc_len, ha])
  have HB := Lib.hid (show (bc b).length = 32 by rw [bc_len, hb])
  have HB1c := Lib.hid (bc_one b)
  have HA1c := Lib.hid (bc_one a)
  have Htg := Lib.hid (fun v W (hs : Sl W 1 v 64 (bc (a ++ b))) => rtagged_any ⟨#[110, 111, 100, 101]⟩ (by decide) (a ++ b) 64 (by rw [List.length_append, ha, hb]) (by omega) v W hs)
  have Hl2 := Lib.hid (show (bc (nd a b)).length = 32 by rw [bc_len, nd_len])
  have Ho2 := Lib.hid (bc_one (nd a b))
  have Happ := Lib.hid (bc_app a b)
  unfold arrV at Htg ⊢
  obtain ⟨D2, hD2⟩ : ∃ D2, bc (nd a b) = D2 := ⟨_, rfl⟩
  have hD2' : bc (tg (sB ⟨#[110, 111, 100, 101]⟩) (a ++ b)) = D2 := hD2
  rw [hD2'] at Htg
  rw [hD2] at Hl2 Ho2 ⊢
  obtain ⟨A, hA⟩ : ∃ A, bc a = A := ⟨_, rfl⟩
  obtain ⟨B, hB⟩ : ∃ B, bc b = B := ⟨_, rfl⟩
  obtain ⟨AB, hAB⟩ : ∃ AB, bc (a ++ b) = AB := ⟨_, rfl⟩
  rw [hA] at HA HA1c Happ ⊢
  rw [hB] at HB HB1c Happ ⊢
  rw [hAB] at Htg Happ
  clear ha hb hD2 hD2' hA hB hAB
  have h2 := ((Blk.new w 26 A.toArray).alloc (.cells B.toArray 26)).alloc (.cells #[.int .u8 0, .int .u8 0, .int .u8 0, .int .u8 0, .int .u8 0, .int .u8 0, .int .u8 0, .int .u8 0, .int .u8 0, .int .u8 0, .int .u8 0, .int .u8 0, .int .u8 0, .int .u8 0, .int .u8 0, .int .u8 0, .int .u8 0, .int .u8 0, .int .u8 0, .int .u8 0, .int .u8 0, .int .u8 0, .int .u8 0, .int .u8 0, .int .u8 0, .int .u8 0, .int .u8 0, .int .u8 0, .int .u8 0, .int .u8 0, .int .u8 0, .int .u8 0] 26)
  have h3 := (Blk.new (w.alloc (.cells A.toArray 26)) 26 B.toArray).alloc (.cells #[.int .u8 0, .int .u8 0, .int .u8 0, .int .u8 0, .int .u8 0, .int .u8 0, .int .u8 0, .int .u8 0, .int .u8 0, .int .u8 0, .int .u8 0, .int .u8 0, .int .u8 0, .int .u8 0, .int .u8 0, .int .u8 0, .int .u8 0, .int .u8 0, .int .u8 0, .int .u8 0, .int .u8 0, .int .u8 0, .int .u8 0, .int .u8 0, .int .u8 0, .int .u8 0, .int .u8 0, .int .u8 0, .int .u8 0, .int .u8 0, .int .u8 0, .int .u8 0] 26)
  have h4 := Blk.new ((w.alloc (.cells A.toArray 26)).alloc (.cells B.toArray 26)) 26 #[.int .u8 0, .int .u8 0, .int .u8 0, .int .u8 0, .int .u8 0, .int .u8 0, .int .u8 0, .int .u8 0, .int .u8 0, .int .u8 0, .int .u8 0, .int .u8 0, .int .u8 0, .int .u8 0, .int .u8 0, .int .u8 0, .int .u8 0, .int .u8 0, .int .u8 0, .int .u8 0, .int .u8 0, .int .u8 0, .int .u8 0, .int .u8 0, .int .u8 0, .int .u8 0, .int .u8 0, .int .u8 0, .int .u8 0, .int .u8 0, .int .u8 0, .int .u8 0]
  simp only [World.size_alloc] at h3 h4
  have hb := ((below_alloc w (.cells A.toArray 26)).alloc (by simp) (.cells B.toArray 26)).alloc (by simp; omega) (.cells #[.int .u8 0, .int .u8 0, .int .u8 0, .int .u8 0, .int .u8 0, .int .u8 0, .int .u8 0, .int .u8 0, .int .u8 0, .int .u8 0, .int .u8 0, .int .u8 0, .int .u8 0, .int .u8 0, .int .u8 0, .int .u8 0, .int .u8 0, .int .u8 0, .int .u8 0, .int .u8 0, .int .u8 0, .int .u8 0, .int .u8 0, .int .u8 0, .int .u8 0, .int .u8 0, .int .u8 0, .int .u8 0, .int .u8 0, .int .u8 0, .int .u8 0, .int .u8 0] 26)
  obtain ⟨w0, hw0⟩ : ∃ w0, ((w.alloc (.cells A.toArray 26)).alloc (.cells B.toArray 26)).alloc (.cells #[.int .u8 0, .int .u8 0, .int .u8 0, .int .u8 0, .int .u8 0, .int .u8 0, .int .u8 0, .int .u8 0, .int .u8 0, .int .u8 0, .int .u8 0, .int .u8 0, .int .u8 0, .int .u8 0, .int .u8 0, .int .u8 0, .int .u8 0, .int .u8 0, .int .u8 0, .int .u8 0, .int .u8 0, .int .u8 0, .int .u8 0, .int .u8 0, .int .u8 0, .int .u8 0, .int .u8 0, .int .u8 0, .int .u8 0, .int .u8 0, .int .u8 0, .int .u8 0] 26) = w0 := ⟨_, rfl⟩
  have H2 := Lib.hid h2
  have H3 := Lib.hid h3
  have H4 := Lib.hid h4
  have Hb := Lib.hid hb
  have HW0 := Lib.hid hw0
  clear h2 h3 h4 hb hw0
  go_enter Tryd.func58, Tryd.ntmps58
  go_wp2_with fail
  rw [HW0.out] at H2 H3 H4 Hb ⊢
  have q2 := H2.out.range
  have q3 := H3.out.range
  have q4 := there_blk H4.out (n := 32) rfl
  have u2 : (Tryd.prog.info? 26).map (·.size) = some D2.length := by rw [Hl2.out]; exact infoDg
  have u3 : D2.length = 32 := Hl2.out
  have u4 : ∀ v ∈ D2, v.oneCell' = true := Ho2.out
  have l2 := H2.out.lt
  have l3 := H3.out.lt
  have l4 := H4.out.lt
  go_region_held3 (fun w' => w'.there (w.heap.size + 1 + 1) 0 32)
    (first
      | (with_reducible exact q4)
      | (simp only [World.there_drew]; with_reducible exact q4)
      | (go_keep_ranges; done)
      | (exact there_below q4 hb5 l4)
      | (exact there_below q4 hb6 l4)
      | (exact there_below (there_below q4 hb6 l4) hb7 (by have := hb6.size; omega))
      | (exact World.there_setCells (there_below (there_below q4 hb6 l4) hb7 (by have := hb6.size; omega)) _ _ _))
    (first
      | (refine step_append_sl rfl (.tmp 5) (.tmp 6) 22 rfl w0.heap.size 5 iu _ 1 Tryd.underlying22 hiu hu0 hu1 hu2 rfl (.slice (some ⟨_, 0, none⟩) 0 0) 0 [] rfl (own_emptyAt _ _ _ (by simp) _ _ (by (repeat (first | (with_reducible exact blk_at _ _ _ _ (by simp)) | (with_reducible refine Blk.drew ?_) | (with_reducible refine Blk.alloc ?_ _))))) (.slice (some ⟨w.heap.size, 0, none⟩) 32 32) 32 A rfl (Blk.sl (t := 26) (cs := A.toArray) (by (repeat (first | (with_reducible exact H2.out) | (with_reducible refine Blk.drew ?_) | (with_reducible refine Blk.alloc ?_ _)))) rfl HA.out) HA1c.out (by unfold maxLen; omega) (by omega) (by first | exact Nat.le_refl _ | (simp; done) | (simp; omega)) ?_
         intro v5 w5 hown5 hg5
         have hb5 : Below w0.heap.size w0 w5 := Below.grown (by (repeat (first | (with_reducible exact Below.refl _ _) | (with_reducible refine Below.drew ?_) | (with_reducible refine Below.alloc ?_ (by first | exact Nat.le_refl _ | (simp; done) | (simp; omega)) _)))) hg5 (by first | exact Nat.le_refl _ | (simp; done) | (simp; omega)) (fun k hk => by simp [Value.ownBlock] at hk; omega)
         have hB5 := H3.out.below hb5 H3.out.lt)
      | (refine step_append_sl rfl (.tmp 7) (.tmp 8) 22 rfl w0.heap.size 5 iu _ 1 Tryd.underlying22 hiu hu0 hu1 hu2 rfl v5 (0 + 32) ([] ++ A) rfl (by (repeat (first | (with_reducible exact hown5) | (with_reducible refine own_drew ?_)))) (.slice (some ⟨w.heap.size + 1, 0, none⟩) 32 32) 32 B rfl (Blk.sl (t := 26) (cs := B.toArray) (by (repeat (first | (with_reducible exact hB5) | (with_reducible refine Blk.drew ?_) | (with_reducible refine Blk.alloc ?_ _)))) rfl HB.out) HB1c.out (by unfold maxLen; omega) (by omega) (by have := hb5.size; first | exact this | (simp; omega)) ?_
         intro v6 w6 hown6 hg6
         have hb6 : Below w0.heap.size w0 w6 := Below.grown (by (repeat (first | (with_reducible exact hb5) | (with_reducible refine Below.drew ?_) | (with_reducible refine Below.alloc ?_ (by first | exact Nat.le_refl _ | (simp; done) | (simp; omega)) _)))) hg6 (by have := hb5.size; first | exact this | (simp; omega)) (fun k hk => (hown5.lt _ hk).1)
         have hs6 : Sl w6 1 v6 64 (A ++ B) := Sl.of_own hown6)
      | (go_at_call 56; with_reducible refine Calls.mono (Htg.out _ _ (by rw [Happ.out]; exact hs6)) ?_; rintro e w7 ⟨rfl, hb7⟩))
  have hr := World.rangeAt_setCells_same w7 (w.heap.size + 1 + 1) 0 D2 (by rw [u3]; exact there_below (there_below q4 hb6 l4) hb7 (by have := hb6.size; omega))
  have Hb7 := Lib.hid (setCells_below (w.heap.size + 1 + 1) D2 0 ((Hb.out.trans (hb6.mono Hb.out.size)).trans (hb7.mono (Hb.out.trans (hb6.mono Hb.out.size)).size)) (by omega))
  have Hr := Lib.hid hr
  clear q2 q3 q4 u2 u3 u4 hr hb6 hb7 hown6 hg6
  go_wp2_with fail
  refine bodyPost_ret (v := .agg D2.toArray) (results_cell_mid rfl _ _ (w.heap.size + 1 + 1) D2 _ rfl Hr.out Tryd.underlying26 rfl (by rw [Hl2.out]; exact infoDg)) rfl ?_
  exact ⟨rfl, Hb7.out⟩

theorem half2_any (w : World) : Calls Tryd.prog 57 #[.int .i64 2] w fun e w' => e = .returned (.int .i64 1) ∧ w = w' := by
  go_enter Tryd.func57, Tryd.ntmps57
  go_wp2_with fail
  go_loopw [3] (fun k wr => k = .int .i64 1 ∧ w = wr) (fun _ _ => 0)
  case atStart => exact ⟨rfl, rfl⟩
  case round =>
    obtain ⟨rfl, rfl⟩ := hrel
    go_wp2_with fail
    go_ret
    exact ⟨rfl, rfl⟩
set_option maxRecDepth 100000 in
set_option maxHeartbeats 1000000 in
theorem rtree1_any (d : List UInt8) (hd : d.length = 32) (g off cap : Nat) (w : World) (hr : w.rangeAt g off (bc d)) :
    Calls Tryd.prog 35 #[.slice (some ⟨g, off, none⟩) 1 cap] w fun e w' => e = .returned (arrV (lf d)) ∧ Below w.heap.size w w' := by
  have hlt : g < w.heap.size := by
    have := hr 0 _ (by rw [bt_cell (d := d) (k := 0) (by omega)])
    exact World.block_lt_of_cell? w _ this
  have Hs := Lib.hid (sl_range (rangeAt_below hr (below_alloc w (.cells #[.int .u8 0, .int .u8 0, .int .u8 0, .int .u8 0, .int .u8 0, .int .u8 0, .int .u8 0, .int .u8 0, .int .u8 0, .int .u8 0, .int .u8 0, .int .u8 0, .int .u8 0, .int .u8 0, .int .u8 0, .int .u8 0, .int .u8 0, .int .u8 0, .int .u8 0, .int .u8 0, .int .u8 0, .int .u8 0, .int .u8 0, .int .u8 0, .int .u8 0, .int .u8 0, .int .u8 0, .int .u8 0, .int .u8 0, .int .u8 0, .int .u8 0, .int .u8 0] 26)) hlt) (show (bc d).length = 32 by rw [bc_len, hd]))
  have Htg := Lib.hid (fun v W (hs : Sl W 1 v 32 (bc d)) => rtagged_any ⟨#[108, 101, 97, 102]⟩ (by decide) d 32 hd (by omega) v W hs)
  rw [show tg (sB ⟨#[108, 101, 97, 102]⟩) d = lf d from rfl] at Htg
  have Hl1 := Lib.hid (show (bc (lf d)).length = 32 by rw [bc_len, lf_len])
  have Ho1 := Lib.hid (bc_one (lf d))
  unfold arrV at Htg ⊢
  obtain ⟨D, hD⟩ : ∃ D, bc d = D := ⟨_, rfl⟩
  obtain ⟨D1, hD1⟩ : ∃ D1, bc (lf d) = D1 := ⟨_, rfl⟩
  rw [hD] at Hs Htg
  rw [hD1] at Htg Hl1 Ho1 ⊢
  have HB := Lib.hid (Blk.new w 26 #[.int .u8 0, .int .u8 0, .int .u8 0, .int .u8 0, .int .u8 0, .int .u8 0, .int .u8 0, .int .u8 0, .int .u8 0, .int .u8 0, .int .u8 0, .int .u8 0, .int .u8 0, .int .u8 0, .int .u8 0, .int .u8 0, .int .u8 0, .int .u8 0, .int .u8 0, .int .u8 0, .int .u8 0, .int .u8 0, .int .u8 0, .int .u8 0, .int .u8 0, .int .u8 0, .int .u8 0, .int .u8 0, .int .u8 0, .int .u8 0, .int .u8 0, .int .u8 0])
  have Hb := Lib.hid (below_alloc w (.cells #[.int .u8 0, .int .u8 0, .int .u8 0, .int .u8 0, .int .u8 0, .int .u8 0, .int .u8 0, .int .u8 0, .int .u8 0, .int .u8 0, .int .u8 0, .int .u8 0, .int .u8 0, .int .u8 0, .int .u8 0, .int .u8 0, .int .u8 0, .int .u8 0, .int .u8 0, .int .u8 0, .int .u8 0, .int .u8 0, .int .u8 0, .int .u8 0, .int .u8 0, .int .u8 0, .int .u8 0, .int .u8 0, .int .u8 0, .int .u8 0, .int .u8 0, .int .u8 0] 26))
  clear hr hd hD hD1 hlt
  go_enter Tryd.func35, Tryd.ntmps35
  go_wp2_with (first
    | (refine (Htg.out _ _ Hs.out).mono ?_
       rintro e w8 ⟨rfl, hb8⟩
       have HB8 := Lib.hid (HB.out.below hb8 HB.out.lt)
       have Hb8 := Lib.hid (Hb.out.trans (hb8.mono Hb.out.size))
       clear hb8)
    | (refine wpList_store_row rfl 26 _ _ rfl w.heap.size D1.toArray rfl rfl 26 _ HB8.out (by rw [List.size_toArray, Hl1.out]; exact infoDg) (show 32 = D1.length from Hl1.out.symm) (all_oneCell_toArray Ho1.out) ?_))
  refine bodyPost_ret (v := .agg D1.toArray) (results_cell_row rfl _ _ w.heap.size 26 D1.toArray (0, 0) _ rfl (HB8.out.setRow D1.toArray) Tryd.underlying26 rfl (by rw [List.size_toArray, Hl1.out]; exact infoDg)) rfl ?_
  exact ⟨rfl, setRow_below Hb8.out (Nat.le_refl _) _⟩
set_option maxRecDepth 100000 in
set_option maxHeartbeats 1000000 in
theorem rtree2_any (a b : List UInt8) (ha : a.length = 32) (hb : b.length = 32) (g off cap : Nat) (w : World) (hcap : 2 ≤ cap) (hra : w.rangeAt g off (bc a)) (hrb : w.rangeAt g (off + 32) (bc b)) :
    Calls Tryd.prog 35 #[.slice (some ⟨g, off, none⟩) 2 cap] w fun e w' => e = .returned (arrV (tr2 a b)) ∧ Below w.heap.size w w' := by
  have hlt : g < w.heap.size := by
    have := hra 0 _ (by rw [bt_cell (d := a) (k := 0) (by omega)])
    exact World.block_lt_of_cell? w _ this
  have hbw := below_alloc w (.cells #[.int .u8 0, .int .u8 0, .int .u8 0, .int .u8 0, .int .u8 0, .int .u8 0, .int .u8 0, .int .u8 0, .int .u8 0, .int .u8 0, .int .u8 0, .int .u8 0, .int .u8 0, .int .u8 0, .int .u8 0, .int .u8 0, .int .u8 0, .int .u8 0, .int .u8 0, .int .u8 0, .int .u8 0, .int .u8 0, .int .u8 0, .int .u8 0, .int .u8 0, .int .u8 0, .int .u8 0, .int .u8 0, .int .u8 0, .int .u8 0, .int .u8 0, .int .u8 0] 26)
  have hra0 := rangeAt_below hra hbw hlt
  have hrb0 := rangeAt_below hrb hbw hlt
  have hB := Blk.new w 26 #[.int .u8 0, .int .u8 0, .int .u8 0, .int .u8 0, .int .u8 0, .int .u8 0, .int .u8 0, .int .u8 0, .int .u8 0, .int .u8 0, .int .u8 0, .int .u8 0, .int .u8 0, .int .u8 0, .int .u8 0, .int .u8 0, .int .u8 0, .int .u8 0, .int .u8 0, .int .u8 0, .int .u8 0, .int .u8 0, .int .u8 0, .int .u8 0, .int .u8 0, .int .u8 0, .int .u8 0, .int .u8 0, .int .u8 0, .int .u8 0, .int .u8 0, .int .u8 0]
  obtain ⟨w0, hw0⟩ : ∃ w0, w.alloc (.cells #[.int .u8 0, .int .u8 0, .int .u8 0, .int .u8 0, .int .u8 0, .int .u8 0, .int .u8 0, .int .u8 0, .int .u8 0, .int .u8 0, .int .u8 0, .int .u8 0, .int .u8 0, .int .u8 0, .int .u8 0, .int .u8 0, .int .u8 0, .int .u8 0, .int .u8 0, .int .u8 0, .int .u8 0, .int .u8 0, .int .u8 0, .int .u8 0, .int .u8 0, .int .u8 0, .int .u8 0, .int .u8 0, .int .u8 0, .int .u8 0, .int .u8 0, .int .u8 0] 26) = w0 := ⟨_, rfl⟩
  rw [hw0] at hbw hra0 hrb0 hB
  have HW0 := Lib.hid hw0
  have hlt0 : g < w0.heap.size := by have := hbw.size; omega
  have HT1 : Hid (∀ W, Below w0.heap.size w0 W → Calls Tryd.prog 35 #[.slice (some ⟨g, off, none⟩) 1 cap] W fun e w' => e = .returned (arrV (lf a)) ∧ Below W.heap.size W w') := Lib.hid (fun W hb => rtree1_any a ha g off cap W (rangeAt_below hra0 hb hlt0))
  have HT2 : Hid (∀ W, Below w0.heap.size w0 W → Calls Tryd.prog 35 #[.slice (some ⟨g, off + 32, none⟩) 1 (cap - 1)] W fun e w' => e = .returned (arrV (lf b)) ∧ Below W.heap.size W w') := Lib.hid (fun W hb' => rtree1_any b hb g (off + 32) (cap - 1) W (rangeAt_below hrb0 hb' hlt0))
  have HN := Lib.hid (fun W => rnode_any (lf a) (lf b) (lf_len a) (lf_len b) W)
  rw [show nd (lf a) (lf b) = tr2 a b from rfl] at HN
  have HH := Lib.hid (fun W => half2_any W)
  have Hl1 := Lib.hid (show (bc (tr2 a b)).length = 32 by rw [bc_len]; rfl)
  have Ho1 := Lib.hid (bc_one (tr2 a b))
  unfold arrV at HT1 HT2 HN
  obtain ⟨D1, hD1⟩ : ∃ D1, bc (tr2 a b) = D1 := ⟨_, rfl⟩
  obtain ⟨DA, hDA⟩ : ∃ D, bc (lf a) = D := ⟨_, rfl⟩
  obtain ⟨DB, hDB⟩ : ∃ D, bc (lf b) = D := ⟨_, rfl⟩
  rw [hDA] at HT1 HN
  rw [hDB] at HT2 HN
  rw [hD1] at HN Hl1 Ho1
  have HA := Lib.hid (show arrV (tr2 a b) = .agg D1.toArray by unfold arrV; rw [hD1])
  have Hb := Lib.hid hbw
  have q4 := there_blk hB (n := 32) rfl
  have l4 := hB.lt
  have u2 : (Tryd.prog.info? 26).map (·.size) = some D1.length := by rw [Hl1.out]; exact infoDg
  have u3 : D1.length = 32 := Hl1.out
  have u4 : ∀ v ∈ D1, v.oneCell' = true := Ho1.out
  have hnc : ¬ cap = 1 := by omega
  have i1 : (1 : Int) ≤ (cap : Int) := by omega
  have i2 : (1 : Int) < (cap : Int) := by omega
  have i3 : (2 : Int) ≤ (cap : Int) := by omega
  clear hra hrb hra0 hrb0 hB ha hb hD1 hDA hDB hw0 hlt hlt0 hbw
  go_enter Tryd.func35, Tryd.ntmps35
  go_wp2_with (first
    | (refine (HH.out _).mono ?_
       rintro e wh ⟨rfl, rfl⟩))
  rw [HW0.out]
  go_region_held3 (fun w' => w'.there w.heap.size 0 32)
    (first
      | (with_reducible exact q4)
      | (simp only [World.there_drew]; with_reducible exact q4)
      | (go_keep_ranges; done)
      | (exact there_below q4 hb5 l4)
      | (exact there_below q4 hb6 l4)
      | (exact there_below q4 hb7 l4)
      | (exact World.there_setCells (there_below q4 hb7 l4) _ _ _))
    (first
      | (go_at_call 35; with_reducible refine Calls.mono (HT1.out _ (by (repeat (first | (with_reducible exact Below.refl _ _) | (with_reducible refine Below.drew ?_))))) ?_; rintro e w5 ⟨rfl, hb5'⟩; have hb5 : Below w0.heap.size w0 w5 := Below.trans (by (repeat (first | (with_reducible exact Below.refl _ _) | (with_reducible refine Below.drew ?_)))) (hb5'.mono (by simp)))
      | (go_at_call 35; with_reducible refine Calls.mono (HT2.out _ (by (repeat (first | (with_reducible exact hb5) | (with_reducible refine Below.drew ?_))))) ?_; rintro e w6 ⟨rfl, hb6'⟩; have hb6 : Below w0.heap.size w0 w6 := hb5.trans (Below.trans (by (repeat (first | (with_reducible exact Below.refl _ _) | (with_reducible refine Below.drew ?_)))) (hb6'.mono (by have := hb5.size; simp; try omega))))
      | (go_at_call 58; with_reducible refine Calls.mono (HN.out _) ?_; rintro e w7 ⟨rfl, hb7'⟩; have hb7 : Below w0.heap.size w0 w7 := hb6.trans (Below.trans (by (repeat (first | (with_reducible exact Below.refl _ _) | (with_reducible refine Below.drew ?_)))) (hb7'.mono (by have := hb6.size; simp; try omega)))))
  have hr := World.rangeAt_setCells_same w7 w.heap.size 0 D1 (by rw [u3]; exact there_below q4 hb7 l4)
  have Hb7 := Lib.hid (setCells_below w.heap.size D1 0 (Hb.out.trans (hb7.mono Hb.out.size)) (Nat.le_refl _))
  have Hr := Lib.hid hr
  clear q4 u2 u3 u4 hr hb5 hb6 hb7 hb5' hb6' hb7'
  go_wp2_with fail
  refine bodyPost_ret (v := .agg D1.toArray) (results_cell_mid rfl _ _ w.heap.size D1 _ rfl Hr.out Tryd.underlying26 rfl (by rw [Hl1.out]; exact infoDg)) rfl ?_
  exact ⟨by rw [HA.out], Hb7.out⟩

theorem rvalid_any (a : Option Addr) (n cap : Nat) (many used : Int) (w : World) :
    Calls Tryd.prog 19 #[.agg #[.slice a n cap, .int .i64 many, .int .i64 used]] w fun e w' => e = .returned (.bool (isKeyB n many used)) ∧ Below w.heap.size w w' := by
  go_enter Tryd.func19, Tryd.ntmps19
  go_wp2_with fail
  all_goals
    go_ret
    refine ⟨ret_bool ?_, (Below.refl _ _).alloc (Nat.le_refl _) _⟩
    unfold isKeyB
    first
      | exact (decide_eq_true (by omega)).symm
      | exact (decide_eq_false (by omega)).symm
      | exact decide_eq_decide.2 ⟨fun h => by omega, fun h => by omega⟩
theorem rtree_pk (seed : List UInt8) (m : Nat) (hm : m = 1 ∨ m = 2) (B : Nat) (v : Value) (w : World) (h : w.ownsRow B 26 32 v m (pkC seed m)) :
    Calls Tryd.prog 35 #[v] w fun e w' => e = .returned (arrV (pub seed m)) ∧ Below w.heap.size w w' := by
  obtain ⟨g, cap, rfl, hcap, hr⟩ := own_range h (by omega)
  rcases hm with rfl | rfl
  · rw [pkC_1] at hr
    exact rtree1_any (pk1 seed 0) rfl g 0 cap w hr
  · rw [pkC_2] at hr
    exact rtree2_any (pk1 seed 0) (pk1 seed 1) rfl rfl g 0 cap w hcap (range_left hr) (range_right hr (by rw [bc_len]; rfl))
set_option maxRecDepth 100000 in
set_option maxHeartbeats 1000000 in
theorem rpublic_ok (seed : List UInt8) (n : Nat) (hn : seed.length = n) (a : Option Addr) (cap : Nat) (m : Nat) (hm : m = 1 ∨ m = 2) (used : Int) (hk : isKeyB n (m : Int) used = true) (w : World) (hs : Sl w 1 (.slice a n cap) n (bc seed)) :
    Calls Tryd.prog 21 #[keyV a n cap (m : Int) used] w fun e w' => e = .returned (.tuple #[arrV (pub seed m), .int .i64 0]) ∧ Below w.heap.size w w' := by
  have HK := Lib.hid (fun W => rvalid_any a n cap (m : Int) used W)
  have hk9 := isKeyB_t hk
  rw [hk] at HK
  have HP := Lib.hid (fun W (hb : Below w.heap.size w W) => rkeys_any seed n hn (by omega) a cap m used (by omega) W (hs.next hb))
  have HTr := Lib.hid (fun B v W h (hb : Below w.heap.size w W) => rtree_pk seed m hm B v W h)
  have Hl2 := Lib.hid (show (bc (pub seed m)).length = 32 by rw [bc_len, pub_len])
  have Ho2 := Lib.hid (bc_one (pub seed m))
  unfold arrV at HTr ⊢
  obtain ⟨D2, hD2⟩ : ∃ D2, bc (pub seed m) = D2 := ⟨_, rfl⟩
  rw [hD2] at HTr Hl2 Ho2 ⊢
  have hg1 := (Blk.new w 24 #[.slice a n cap, .int .i64 (m : Int), .int .i64 used]).alloc (.cells #[.int .u8 0, .int .u8 0, .int .u8 0, .int .u8 0, .int .u8 0, .int .u8 0, .int .u8 0, .int .u8 0, .int .u8 0, .int .u8 0, .int .u8 0, .int .u8 0, .int .u8 0, .int .u8 0, .int .u8 0, .int .u8 0, .int .u8 0, .int .u8 0, .int .u8 0, .int .u8 0, .int .u8 0, .int .u8 0, .int .u8 0, .int .u8 0, .int .u8 0, .int .u8 0, .int .u8 0, .int .u8 0, .int .u8 0, .int .u8 0, .int .u8 0, .int .u8 0] 26)
  have hg2 := Blk.new (w.alloc (.cells #[.slice a n cap, .int .i64 (m : Int), .int .i64 used] 24)) 26 #[.int .u8 0, .int .u8 0, .int .u8 0, .int .u8 0, .int .u8 0, .int .u8 0, .int .u8 0, .int .u8 0, .int .u8 0, .int .u8 0, .int .u8 0, .int .u8 0, .int .u8 0, .int .u8 0, .int .u8 0, .int .u8 0, .int .u8 0, .int .u8 0, .int .u8 0, .int .u8 0, .int .u8 0, .int .u8 0, .int .u8 0, .int .u8 0, .int .u8 0, .int .u8 0, .int .u8 0, .int .u8 0, .int .u8 0, .int .u8 0, .int .u8 0, .int .u8 0]
  rw [World.size_alloc] at hg2
  have H1 := Lib.hid hg1
  have H2 := Lib.hid hg2
  have Hb := Lib.hid ((below_alloc w (.cells #[.slice a n cap, .int .i64 (m : Int), .int .i64 used] 24)).alloc (by simp) (.cells #[.int .u8 0, .int .u8 0, .int .u8 0, .int .u8 0, .int .u8 0, .int .u8 0, .int .u8 0, .int .u8 0, .int .u8 0, .int .u8 0, .int .u8 0, .int .u8 0, .int .u8 0, .int .u8 0, .int .u8 0, .int .u8 0, .int .u8 0, .int .u8 0, .int .u8 0, .int .u8 0, .int .u8 0, .int .u8 0, .int .u8 0, .int .u8 0, .int .u8 0, .int .u8 0, .int .u8 0, .int .u8 0, .int .u8 0, .int .u8 0, .int .u8 0, .int .u8 0] 26))
  obtain ⟨c0, c1, c2, f0, f1, f2⟩ := cells3 hg1
  unfold keyV
  clear hs hn hD2 hg1 hg2 hk hk9
  go_enter Tryd.func21, Tryd.ntmps21
  go_wp2_with (first
    | (refine (HK.out _).mono ?_
       rintro e w7 ⟨rfl, hb7⟩
       have H17 := Lib.hid (H1.out.below hb7 H1.out.lt)
       have H27 := Lib.hid (H2.out.below hb7 H2.out.lt)
       have Hb7 := Lib.hid (Hb.out.trans (hb7.mono Hb.out.size))
       clear hb7 c0 c1 c2 f0 f1 f2
       obtain ⟨c0, c1, c2, f0, f1, f2⟩ := cells3 H17.out)
    | (refine (HP.out _ Hb7.out).mono ?_
       rintro e w8 ⟨v8, rfl, hown8, hb8⟩
       have H28 := Lib.hid (H27.out.below hb8 H27.out.lt)
       have Hb8 := Lib.hid (Hb7.out.trans (hb8.mono Hb7.out.size))
       have Hown8 := Lib.hid hown8
       clear hb8 hown8)
    | (refine (HTr.out _ _ _ Hown8.out Hb8.out).mono ?_
       rintro e w9 ⟨rfl, hb9⟩
       have H29 := Lib.hid (H28.out.below hb9 H28.out.lt)
       have Hb9 := Lib.hid (Hb8.out.trans (hb9.mono Hb8.out.size))
       clear hb9)
    | (refine wpList_store_row rfl 26 _ _ rfl (w.heap.size + 1) D2.toArray rfl rfl 26 _ H29.out (by rw [List.size_toArray, Hl2.out]; exact infoDg) (show 32 = D2.length from Hl2.out.symm) (all_oneCell_toArray Ho2.out) ?_))
  refine bodyPost_ret (v := .tuple #[.agg D2.toArray, .int .i64 0]) (results_row_slot rfl _ _ (w.heap.size + 1) D2 _ _ rfl rfl (H29.out.setRow D2.toArray).range Tryd.underlying26 rfl (by rw [Hl2.out]; exact infoDg)) rfl ?_
  exact ⟨rfl, setRow_below Hb9.out (by omega) _⟩
set_option maxRecDepth 100000 in
set_option maxHeartbeats 1000000 in
theorem rpublic_bad (a : Option Addr) (n cap : Nat) (many used : Int) (hk : isKeyB n many used = false) (w : World) :
    Calls Tryd.prog 21 #[.agg #[.slice a n cap, .int .i64 many, .int .i64 used]] w fun e w' => e = .returned (.tuple #[.agg #[.int .u8 0, .int .u8 0, .int .u8 0, .int .u8 0, .int .u8 0, .int .u8 0, .int .u8 0, .int .u8 0, .int .u8 0, .int .u8 0, .int .u8 0, .int .u8 0, .int .u8 0, .int .u8 0, .int .u8 0, .int .u8 0, .int .u8 0, .int .u8 0, .int .u8 0, .int .u8 0, .int .u8 0, .int .u8 0, .int .u8 0, .int .u8 0, .int .u8 0, .int .u8 0, .int .u8 0, .int .u8 0, .int .u8 0, .int .u8 0, .int .u8 0, .int .u8 0], .int .i64 320]) ∧ Below w.heap.size w w' := by
  have HK := Lib.hid (fun W => rvalid_any a n cap many used W)
  rw [hk] at HK
  have hg1 := (Blk.new w 24 #[.slice a n cap, .int .i64 many, .int .i64 used]).alloc (.cells #[.int .u8 0, .int .u8 0, .int .u8 0, .int .u8 0, .int .u8 0, .int .u8 0, .int .u8 0, .int .u8 0, .int .u8 0, .int .u8 0, .int .u8 0, .int .u8 0, .int .u8 0, .int .u8 0, .int .u8 0, .int .u8 0, .int .u8 0, .int .u8 0, .int .u8 0, .int .u8 0, .int .u8 0, .int .u8 0, .int .u8 0, .int .u8 0, .int .u8 0, .int .u8 0, .int .u8 0, .int .u8 0, .int .u8 0, .int .u8 0, .int .u8 0, .int .u8 0] 26)
  have hg2 := Blk.new (w.alloc (.cells #[.slice a n cap, .int .i64 many, .int .i64 used] 24)) 26 #[.int .u8 0, .int .u8 0, .int .u8 0, .int .u8 0, .int .u8 0, .int .u8 0, .int .u8 0, .int .u8 0, .int .u8 0, .int .u8 0, .int .u8 0, .int .u8 0, .int .u8 0, .int .u8 0, .int .u8 0, .int .u8 0, .int .u8 0, .int .u8 0, .int .u8 0, .int .u8 0, .int .u8 0, .int .u8 0, .int .u8 0, .int .u8 0, .int .u8 0, .int .u8 0, .int .u8 0, .int .u8 0, .int .u8 0, .int .u8 0, .int .u8 0, .int .u8 0]
  rw [World.size_alloc] at hg2
  have H1 := Lib.hid hg1
  have H2 := Lib.hid hg2
  have Hb := Lib.hid ((below_alloc w (.cells #[.slice a n cap, .int .i64 many, .int .i64 used] 24)).alloc (by simp) (.cells #[.int .u8 0, .int .u8 0, .int .u8 0, .int .u8 0, .int .u8 0, .int .u8 0, .int .u8 0, .int .u8 0, .int .u8 0, .int .u8 0, .int .u8 0, .int .u8 0, .int .u8 0, .int .u8 0, .int .u8 0, .int .u8 0, .int .u8 0, .int .u8 0, .int .u8 0, .int .u8 0, .int .u8 0, .int .u8 0, .int .u8 0, .int .u8 0, .int .u8 0, .int .u8 0, .int .u8 0, .int .u8 0, .int .u8 0, .int .u8 0, .int .u8 0, .int .u8 0] 26))
  obtain ⟨c0, c1, c2, f0, f1, f2⟩ := cells3 hg1
  clear hg1 hg2 hk
  go_enter Tryd.func21, Tryd.ntmps21
  go_wp2_with (first
    | (refine (HK.out _).mono ?_
       rintro e w7 ⟨rfl, hb7⟩
       have H17 := Lib.hid (H1.out.below hb7 H1.out.lt)
       have H27 := Lib.hid (H2.out.below hb7 H2.out.lt)
       have Hb7 := Lib.hid (Hb.out.trans (hb7.mono Hb.out.size))
       clear hb7 c0 c1 c2 f0 f1 f2
       obtain ⟨c0, c1, c2, f0, f1, f2⟩ := cells3 H17.out)
    | (refine wpList_store_row rfl 26 _ _ rfl (w.heap.size + 1) #[.int .u8 0, .int .u8 0, .int .u8 0, .int .u8 0, .int .u8 0, .int .u8 0, .int .u8 0, .int .u8 0, .int .u8 0, .int .u8 0, .int .u8 0, .int .u8 0, .int .u8 0, .int .u8 0, .int .u8 0, .int .u8 0, .int .u8 0, .int .u8 0, .int .u8 0, .int .u8 0, .int .u8 0, .int .u8 0, .int .u8 0, .int .u8 0, .int .u8 0, .int .u8 0, .int .u8 0, .int .u8 0, .int .u8 0, .int .u8 0, .int .u8 0, .int .u8 0] rfl rfl 26 _ H27.out infoDg rfl (by decide +kernel) ?_))
  refine bodyPost_ret (v := .tuple #[.agg #[.int .u8 0, .int .u8 0, .int .u8 0, .int .u8 0, .int .u8 0, .int .u8 0, .int .u8 0, .int .u8 0, .int .u8 0, .int .u8 0, .int .u8 0, .int .u8 0, .int .u8 0, .int .u8 0, .int .u8 0, .int .u8 0, .int .u8 0, .int .u8 0, .int .u8 0, .int .u8 0, .int .u8 0, .int .u8 0, .int .u8 0, .int .u8 0, .int .u8 0, .int .u8 0, .int .u8 0, .int .u8 0, .int .u8 0, .int .u8 0, .int .u8 0, .int .u8 0], .int .i64 320]) (results_row_slot rfl _ _ (w.heap.size + 1) [.int .u8 0, .int .u8 0, .int .u8 0, .int .u8 0, .int .u8 0, .int .u8 0, .int .u8 0, .int .u8 0, .int .u8 0, .int .u8 0, .int .u8 0, .int .u8 0, .int .u8 0, .int .u8 0, .int .u8 0, .int .u8 0, .int .u8 0, .int .u8 0, .int .u8 0, .int .u8 0, .int .u8 0, .int .u8 0, .int .u8 0, .int .u8 0, .int .u8 0, .int .u8 0, .int .u8 0, .int .u8 0, .int .u8 0, .int .u8 0, .int .u8 0, .int .u8 0] _ _ rfl rfl (H27.out.setRow #[.int .u8 0, .int .u8 0, .int .u8 0, .int .u8 0, .int .u8 0, .int .u8 0, .int .u8 0, .int .u8 0, .int .u8 0, .int .u8 0, .int .u8 0, .int .u8 0, .int .u8 0, .int .u8 0, .int .u8 0, .int .u8 0, .int .u8 0, .int .u8 0, .int .u8 0, .int .u8 0, .int .u8 0, .int .u8 0, .int .u8 0, .int .u8 0, .int .u8 0, .int .u8 0, .int .u8 0, .int .u8 0, .int .u8 0, .int .u8 0, .int .u8 0, .int .u8 0]).range Tryd.underlying26 rfl infoDg) rfl ?_
  exact ⟨rfl, setRow_below Hb7.out (by omega) _⟩
end Go.Proofs.YtiloaheaglcpbaaDoor
