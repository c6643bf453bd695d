/- Digests: leaf, node. -/
import Derived.Test.YtiloaheaglcpbaaDoorSgS7
namespace Go.Proofs.YtiloaheaglcpbaaDoor
open Go.RowKit

def leafB : List UInt8 := sB ⟨#[108, 101, 97, 102]⟩
def nodeB : List UInt8 := sB ⟨#[110, 111, 100, 101]⟩
def lf (d : List UInt8) : List UInt8 := tg leafB d
def nd (a b : List UInt8) : List UInt8 := tg nodeB (a ++ b)
theorem lf_len (d : List UInt8) : (lf d).length = 32 := rfl
theorem nd_len (a b : List UInt8) : (nd a b).length = 32 := rfl

set_option maxRecDepth 100000 in
theorem leaf_any (d : List UInt8) (hd : d.length = 32) (w : World) (hT : Tabs w) :
    Calls Tryd.prog 52 #[arrV d] w fun e w' => e = .returned (arrV (lf d)) ∧ Below w.heap.size w w' := by
  have HT := Lib.hid hT
  have Hd := Lib.hid (show (bc d).length = 32 by rw [bc_len, hd])
  have hd1 := Lib.hid hd
  have Htg := Lib.hid (fun v W (hs : Sl W 1 v 32 (bc d)) hT => tagged_any ⟨#[108, 101, 97, 102]⟩ (by decide) d 32 hd (by omega) (by omega) v W hs hT)
  have Hl2 := Lib.hid (show (bc (lf d)).length = 32 by rw [bc_len, lf_len])
  have Ho2 := Lib.hid (bc_one (lf d))
  unfold arrV at Htg ⊢
  obtain ⟨D2, hD2⟩ : ∃ D2, bc (lf d) = D2 := ⟨_, rfl⟩
  have hD2' : bc (tg (sB ⟨#[108, 101, 97, 102]⟩) d) = D2 := hD2
  rw [hD2'] at Htg
  rw [hD2] at Hl2 Ho2 ⊢
  obtain ⟨D, hD⟩ : ∃ D, bc d = D := ⟨_, rfl⟩
  rw [hD] at Hd Htg ⊢
  clear hT hd hD2 hD2' hD
  have hB1 := (Blk.new w 26 D.toArray).alloc (.cells #[.int .u8 0, .int .u8 0, .int .u8 0, .int .u8 0, .int .u8 0, .int .u8 0, .int .u8 0, .int .u8 0, .int .u8 0, .int .u8 0, .int .u8 0, .int .u8 0, .int .u8 0, .int .u8 0, .int .u8 0, .int .u8 0, .int .u8 0, .int .u8 0, .int .u8 0, .int .u8 0, .int .u8 0, .int .u8 0, .int .u8 0, .int .u8 0, .int .u8 0, .int .u8 0, .int .u8 0, .int .u8 0, .int .u8 0, .int .u8 0, .int .u8 0, .int .u8 0] 26)
  have hB2 := Blk.new (w.alloc (.cells D.toArray 26)) 26 #[.int .u8 0, .int .u8 0, .int .u8 0, .int .u8 0, .int .u8 0, .int .u8 0, .int .u8 0, .int .u8 0, .int .u8 0, .int .u8 0, .int .u8 0, .int .u8 0, .int .u8 0, .int .u8 0, .int .u8 0, .int .u8 0, .int .u8 0, .int .u8 0, .int .u8 0, .int .u8 0, .int .u8 0, .int .u8 0, .int .u8 0, .int .u8 0, .int .u8 0, .int .u8 0, .int .u8 0, .int .u8 0, .int .u8 0, .int .u8 0, .int .u8 0, .int .u8 0]
  rw [World.size_alloc] at hB2
  have hb := (below_alloc w (.cells D.toArray 26)).alloc (by simp) (.cells #[.int .u8 0, .int .u8 0, .int .u8 0, .int .u8 0, .int .u8 0, .int .u8 0, .int .u8 0, .int .u8 0, .int .u8 0, .int .u8 0, .int .u8 0, .int .u8 0, .int .u8 0, .int .u8 0, .int .u8 0, .int .u8 0, .int .u8 0, .int .u8 0, .int .u8 0, .int .u8 0, .int .u8 0, .int .u8 0, .int .u8 0, .int .u8 0, .int .u8 0, .int .u8 0, .int .u8 0, .int .u8 0, .int .u8 0, .int .u8 0, .int .u8 0, .int .u8 0] 26)
  have HB1 := Lib.hid (hB1.sl (n := 32) (xs := D) rfl Hd.out)
  have HB2 := Lib.hid hB2
  have Hb := Lib.hid hb
  clear hB1 hB2 hb
  go_enter Tryd.func52, Tryd.ntmps52
  go_wp2_with fail
  refine (Htg.out _ _ HB1.out (HT.out.next Hb.out)).mono ?_
  rintro e w7 ⟨rfl, hb7⟩
  have HB27 := Lib.hid (HB2.out.below hb7 HB2.out.lt)
  have Hb7 := Lib.hid (Hb.out.trans (hb7.mono Hb.out.size))
  clear hb7 HB1 HB2 Hb
  go_wp2_with (refine wpList_store_row rfl 26 _ _ rfl (w.heap.size + 1) D2.toArray rfl rfl 26 _ HB27.out (by rw [List.size_toArray, Hl2.out]; exact infoDg) (show 32 = D2.length from Hl2.out.symm) (all_oneCell_toArray Ho2.out) ?_)
  refine bodyPost_ret (v := .agg D2.toArray) (results_cell_row rfl _ _ (w.heap.size + 1) 26 D2.toArray (0, 0) _ rfl (HB27.out.setRow D2.toArray) Tryd.underlying26 rfl (by rw [List.size_toArray, Hl2.out]; exact infoDg)) rfl ?_
  exact ⟨rfl, setRow_below Hb7.out (by omega) _⟩

theorem setCells_below {B : Nat} {w0 : World} (g : Nat) : ∀ (vs : List Value) (o : Nat) {w : World}, Below B w0 w → B ≤ g → Below B w0 (w.setCells g o vs)
  | [], _, _, h, _ => h
  | v :: r, o, w, h, hg => by
    rw [World.setCells]
    exact setCells_below g r (o + 1) (h.setCell (p := ⟨g, o, none⟩) hg v) hg
/-- a result that lies in some cells -/
theorem results_cell_mid {P : Program} {fn : Func} {p : Tmp} {ty : TypeId} (h : fn.results = #[.cell p ty]) (tmps : Array Value) (w : World) (g : Nat) (cs : List Value) (d : TypeDesc)
    (hp : tmps.getD p undef = .pointer (some ⟨g, 0, none⟩)) (hg : w.rangeAt g 0 cs) (hu : P.underlying ty = some d) (hd : d.isRow = true) (hi : (P.info? ty).map (·.size) = some cs.length) :
    (results fn tmps).run P w = .ok (.agg cs.toArray) w := by
  have hp' : tmps[p]?.getD undef = .pointer (some ⟨g, 0, none⟩) := by simpa using hp
  simp [results, h, hp', asAddr, run_loadVar_mid w g 0 ty cs d hg hu hd hi]
theorem there_blk {w : World} {g n : Nat} {t : TypeId} {cs : Array Value} (h : Blk w g t cs) (hn : cs.size = n) : w.there g 0 n := fun j hj => by
  refine ⟨?_, h.frozen _⟩
  rw [Nat.zero_add, h.cell, Array.getElem?_eq_getElem (by omega)]; rfl
theorem there_below {w w' : World} {b o n B : Nat} (h : w.there b o n) (hb : Below B w w') (hlt : b < B) : w'.there b o n := fun j hj => by
  rw [hb.cell (p := ⟨b, o + j, none⟩) hlt, hb.frozen (p := ⟨b, o + j, none⟩) hlt]; exact h j hj

set_option maxRecDepth 100000 in
set_option maxHeartbeats 1000000 in
theorem node_any (a b : List UInt8) (ha : a.length = 32) (hb : b.length = 32) (w : World) (hT : Tabs w) :
    Calls Tryd.prog 54 #[arrV a, arrV b] w fun e w' => e = .returned (arrV (nd a b)) ∧ Below w.heap.size w w' := by
  obtain ⟨iu, hiu, hu0, hu1, hu2⟩ := info_parts infoU8
  have HT := Lib.hid hT
  have HA := Lib.hid (show (bc a).length = 32 by rw [bc_len, ha])
  have HB := Lib.hid (show (bc b).length = 32 by rw [bc_len, hb])
  have HB1c := Lib.hid (bc_one b)
  have Htg := Lib.hid (fun v W (hs : Sl W 1 v 64 (bc (a ++ b))) hT => tagged_any ⟨#[110, 111, 100, 101]⟩ (by decide) (a ++ b) 64 (by rw [List.length_append, ha, hb]) (by omega) (by omega) v W hs hT)
  have Hl2 := Lib.hid (show (bc (nd a b)).length = 32 by rw [bc_len, nd_len])
  have Ho2 := Lib.hid (bc_one (nd a b))
  have Happ := Lib.hid (bc_app a b)
  unfold arrV at Htg ⊢
  obtain ⟨D2, hD2⟩ : ∃ D2, bc (nd a b) = D2 := ⟨_, rfl⟩
  have hD2' : bc (tg (sB ⟨#[110, 111, 100, 101]⟩) (a ++ b)) = D2 := hD2
  rw [hD2'] at Htg
  rw [hD2] at Hl2 Ho2 ⊢
  obtain ⟨A, hA⟩ : ∃ A, bc a = A := ⟨_, rfl⟩
  obtain ⟨B, hB⟩ : ∃ B, bc b = B := ⟨_, rfl⟩
  obtain ⟨AB, hAB⟩ : ∃ AB, bc (a ++ b) = AB := ⟨_, rfl⟩
  rw [hA] at HA Happ ⊢
  rw [hB] at HB HB1c Happ ⊢
  rw [hAB] at Htg Happ
  clear hT ha hb hD2 hD2' hA hB hAB
  have h2 := ((Blk.new w 26 A.toArray).alloc (.cells B.toArray 26)).alloc (.cells #[.int .u8 0, .int .u8 0, .int .u8 0, .int .u8 0, .int .u8 0, .int .u8 0, .int .u8 0, .int .u8 0, .int .u8 0, .int .u8 0, .int .u8 0, .int .u8 0, .int .u8 0, .int .u8 0, .int .u8 0, .int .u8 0, .int .u8 0, .int .u8 0, .int .u8 0, .int .u8 0, .int .u8 0, .int .u8 0, .int .u8 0, .int .u8 0, .int .u8 0, .int .u8 0, .int .u8 0, .int .u8 0, .int .u8 0, .int .u8 0, .int .u8 0, .int .u8 0] 26)
  have h3 := (Blk.new (w.alloc (.cells A.toArray 26)) 26 B.toArray).alloc (.cells #[.int .u8 0, .int .u8 0, .int .u8 0, .int .u8 0, .int .u8 0, .int .u8 0, .int .u8 0, .int .u8 0, .int .u8 0, .int .u8 0, .int .u8 0, .int .u8 0, .int .u8 0, .int .u8 0, .int .u8 0, .int .u8 0, .int .u8 0, .int .u8 0, .int .u8 0, .int .u8 0, .int .u8 0, .int .u8 0, .int .u8 0, .int .u8 0, .int .u8 0, .int .u8 0, .int .u8 0, .int .u8 0, .int .u8 0, .int .u8 0, .int .u8 0, .int .u8 0] 26)
  have h4 := Blk.new ((w.alloc (.cells A.toArray 26)).alloc (.cells B.toArray 26)) 26 #[.int .u8 0, .int .u8 0, .int .u8 0, .int .u8 0, .int .u8 0, .int .u8 0, .int .u8 0, .int .u8 0, .int .u8 0, .int .u8 0, .int .u8 0, .int .u8 0, .int .u8 0, .int .u8 0, .int .u8 0, .int .u8 0, .int .u8 0, .int .u8 0, .int .u8 0, .int .u8 0, .int .u8 0, .int .u8 0, .int .u8 0, .int .u8 0, .int .u8 0, .int .u8 0, .int .u8 0, .int .u8 0, .int .u8 0, .int .u8 0, .int .u8 0, .int .u8 0]
  simp only [World.size_alloc] at h3 h4
  have hb := ((below_alloc w (.cells A.toArray 26)).alloc (by simp) (.cells B.toArray 26)).alloc (by simp; omega) (.cells #[.int .u8 0, .int .u8 0, .int .u8 0, .int .u8 0, .int .u8 0, .int .u8 0, .int .u8 0, .int .u8 0, .int .u8 0, .int .u8 0, .int .u8 0, .int .u8 0, .int .u8 0, .int .u8 0, .int .u8 0, .int .u8 0, .int .u8 0, .int .u8 0, .int .u8 0, .int .u8 0, .int .u8 0, .int .u8 0, .int .u8 0, .int .u8 0, .int .u8 0, .int .u8 0, .int .u8 0, .int .u8 0, .int .u8 0, .int .u8 0, .int .u8 0, .int .u8 0] 26)
  obtain ⟨w0, hw0⟩ : ∃ w0, ((w.alloc (.cells A.toArray 26)).alloc (.cells B.toArray 26)).alloc (.cells #[.int .u8 0, .int .u8 0, .int .u8 0, .int .u8 0, .int .u8 0, .int .u8 0, .int .u8 0, .int .u8 0, .int .u8 0, .int .u8 0, .int .u8 0, .int .u8 0, .int .u8 0, .int .u8 0, .int .u8 0, .int .u8 0, .int .u8 0, .int .u8 0, .int .u8 0, .int .u8 0, .int .u8 0, .int .u8 0, .int .u8 0, .int .u8 0, .int .u8 0, .int .u8 0, .int .u8 0, .int .u8 0, .int .u8 0, .int .u8 0, .int .u8 0, .int .u8 0] 26) = w0 := ⟨_, rfl⟩
  have H2 := Lib.hid h2
  have H3 := Lib.hid h3
  have H4 := Lib.hid h4
  have Hb := Lib.hid hb
  have HW0 := Lib.hid hw0
  clear h2 h3 h4 hb hw0
  go_enter Tryd.func54, Tryd.ntmps54
  go_wp2_with fail
  rw [HW0.out] at H2 H3 H4 Hb ⊢
  have q2 := H2.out.range
  have q3 := H3.out.range
  have q4 := there_blk H4.out (n := 32) rfl
  have u2 : (Tryd.prog.info? 26).map (·.size) = some D2.length := by rw [Hl2.out]; exact infoDg
  have u3 : D2.length = 32 := Hl2.out
  have u4 : ∀ v ∈ D2, v.oneCell' = true := Ho2.out
  have l2 := H2.out.lt
  have l3 := H3.out.lt
  have l4 := H4.out.lt
  go_region_held3 (fun w' => w'.there (w.heap.size + 1 + 1) 0 32)
    (first
      | (with_reducible exact q4)
      | (simp only [World.there_drew]; with_reducible exact q4)
      | (go_keep_ranges; done)
      | (exact there_below q4 hb6 l4)
      | (exact there_below (there_below q4 hb6 l4) hb7 (by have := hb6.size; omega))
      | (exact World.there_setCells (there_below (there_below q4 hb6 l4) hb7 (by have := hb6.size; omega)) _ _ _))
    (first
      | (refine step_append_grows rfl (.tmp 5) (.tmp 6) 22 rfl 5 iu _ 1 1 Tryd.underlying22 hiu hu0 hu1 hu2 rfl (by omega) (some ⟨w.heap.size, 0, none⟩) 32 32 A rfl (fun h => by cases h) (by rw [HA.out]) (fun b hb j u hu => by cases hb; rw [Addr.add_mid]; exact q2 j u hu) ⟨w.heap.size + 1, 0, none⟩ 32 32 B rfl (by rw [HB.out]) (fun j u hu => by rw [Addr.add_mid]; exact q3 j u hu) HB1c.out (by omega) (by unfold maxLen; omega) (by omega) ?_; intro v6 w6 hown6 hg6; have hb6 : Below w0.heap.size w0 w6 := (Below.refl w0.heap.size w0).drew.grown hg6 (by simp) (fun k hk => by cases hk))
      | (go_at_call 28; with_reducible refine Calls.mono (Htg.out _ _ (by rw [Happ.out]; exact Sl.of_own hown6) (HT.out.next (Hb.out.trans (hb6.mono Hb.out.size)))) ?_; rintro e w7 ⟨rfl, hb7⟩))
  have hr := World.rangeAt_setCells_same w7 (w.heap.size + 1 + 1) 0 D2 (by rw [u3]; exact there_below (there_below q4 hb6 l4) hb7 (by have := hb6.size; omega))
  have Hb7 := Lib.hid (setCells_below (w.heap.size + 1 + 1) D2 0 ((Hb.out.trans (hb6.mono Hb.out.size)).trans (hb7.mono (Hb.out.trans (hb6.mono Hb.out.size)).size)) (by omega))
  have Hr := Lib.hid hr
  clear q2 q3 q4 u2 u3 u4 hr hb6 hb7 hown6 hg6
  go_wp2_with fail
  refine bodyPost_ret (v := .agg D2.toArray) (results_cell_mid rfl _ _ (w.heap.size + 1 + 1) D2 _ rfl Hr.out Tryd.underlying26 rfl (by rw [Hl2.out]; exact infoDg)) rfl ?_
  exact ⟨rfl, Hb7.out⟩
end Go.Proofs.YtiloaheaglcpbaaDoor
