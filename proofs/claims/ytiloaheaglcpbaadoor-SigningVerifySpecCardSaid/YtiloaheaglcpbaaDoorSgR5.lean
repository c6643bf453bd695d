/- Digests in the reference: Tagged. -/
import Derived.Test.YtiloaheaglcpbaaDoorSgR4
import Derived.Test.YtiloaheaglcpbaaDoorSgS7
import Derived.Test.YtiloaheaglcpbaaDoorSgF5
namespace Go.Proofs.YtiloaheaglcpbaaDoor
open Go.RowKit

set_option maxRecDepth 100000 in
set_option maxHeartbeats 1000000 in
theorem rtagged_any (s : ByteArray) (hs9 : s.size ≤ 1000000) (l : List UInt8) (m : Nat) (hm : l.length = m) (h9 : m ≤ 10000000) (v : Value) (w : World) (hv : Sl w 1 v m (bc l)) :
    Calls Tryd.prog 56 #[.string s, v] w fun e w' => e = .returned (arrV (tg (sB s) l)) ∧ Below w.heap.size w w' := by
  obtain ⟨a, cap, rfl⟩ := hv.form
  obtain ⟨iu, hiu, hu0, hu1, hu2⟩ := info_parts infoU8
  have hcv := fun W => Lib.run_convert_string_bytes (P := Tryd.prog) W 9 22 5 s Tryd.underlying9 Tryd.underlying22 Tryd.underlying5
  have HV := Lib.hid (fun W (hb : Below w.heap.size w W) => hv.next hb)
  have HM := Lib.hid hm
  have HB4 := Lib.hid (Blk.new w 26 #[.int .u8 0, .int .u8 0, .int .u8 0, .int .u8 0, .int .u8 0, .int .u8 0, .int .u8 0, .int .u8 0, .int .u8 0, .int .u8 0, .int .u8 0, .int .u8 0, .int .u8 0, .int .u8 0, .int .u8 0, .int .u8 0, .int .u8 0, .int .u8 0, .int .u8 0, .int .u8 0, .int .u8 0, .int .u8 0, .int .u8 0, .int .u8 0, .int .u8 0, .int .u8 0, .int .u8 0, .int .u8 0, .int .u8 0, .int .u8 0, .int .u8 0, .int .u8 0])
  have Hb4 := Lib.hid (below_alloc w (.cells #[.int .u8 0, .int .u8 0, .int .u8 0, .int .u8 0, .int .u8 0, .int .u8 0, .int .u8 0, .int .u8 0, .int .u8 0, .int .u8 0, .int .u8 0, .int .u8 0, .int .u8 0, .int .u8 0, .int .u8 0, .int .u8 0, .int .u8 0, .int .u8 0, .int .u8 0, .int .u8 0, .int .u8 0, .int .u8 0, .int .u8 0, .int .u8 0, .int .u8 0, .int .u8 0, .int .u8 0, .int .u8 0, .int .u8 0, .int .u8 0, .int .u8 0, .int .u8 0] 26))
  clear hm
  go_enter Tryd.func56, Tryd.ntmps56
  go_wp2_with fail
  have hbw := Hb4.out.trans ((bytesWorld_below (w.alloc (.cells #[.int .u8 0, .int .u8 0, .int .u8 0, .int .u8 0, .int .u8 0, .int .u8 0, .int .u8 0, .int .u8 0, .int .u8 0, .int .u8 0, .int .u8 0, .int .u8 0, .int .u8 0, .int .u8 0, .int .u8 0, .int .u8 0, .int .u8 0, .int .u8 0, .int .u8 0, .int .u8 0, .int .u8 0, .int .u8 0, .int .u8 0, .int .u8 0, .int .u8 0, .int .u8 0, .int .u8 0, .int .u8 0, .int .u8 0, .int .u8 0, .int .u8 0, .int .u8 0] 26)) 5 s).mono (by simp))
  have hsw := bytesWorld_sl (w.alloc (.cells #[.int .u8 0, .int .u8 0, .int .u8 0, .int .u8 0, .int .u8 0, .int .u8 0, .int .u8 0, .int .u8 0, .int .u8 0, .int .u8 0, .int .u8 0, .int .u8 0, .int .u8 0, .int .u8 0, .int .u8 0, .int .u8 0, .int .u8 0, .int .u8 0, .int .u8 0, .int .u8 0, .int .u8 0, .int .u8 0, .int .u8 0, .int .u8 0, .int .u8 0, .int .u8 0, .int .u8 0, .int .u8 0, .int .u8 0, .int .u8 0, .int .u8 0, .int .u8 0] 26)) 5 s (grownCap (w.alloc (.cells #[.int .u8 0, .int .u8 0, .int .u8 0, .int .u8 0, .int .u8 0, .int .u8 0, .int .u8 0, .int .u8 0, .int .u8 0, .int .u8 0, .int .u8 0, .int .u8 0, .int .u8 0, .int .u8 0, .int .u8 0, .int .u8 0, .int .u8 0, .int .u8 0, .int .u8 0, .int .u8 0, .int .u8 0, .int .u8 0, .int .u8 0, .int .u8 0, .int .u8 0, .int .u8 0, .int .u8 0, .int .u8 0, .int .u8 0, .int .u8 0, .int .u8 0, .int .u8 0] 26)) s.size 0 5) (grownCap_ge _ _ _ _)
  have hB4 := HB4.out.below (bytesWorld_below (w.alloc (.cells #[.int .u8 0, .int .u8 0, .int .u8 0, .int .u8 0, .int .u8 0, .int .u8 0, .int .u8 0, .int .u8 0, .int .u8 0, .int .u8 0, .int .u8 0, .int .u8 0, .int .u8 0, .int .u8 0, .int .u8 0, .int .u8 0, .int .u8 0, .int .u8 0, .int .u8 0, .int .u8 0, .int .u8 0, .int .u8 0, .int .u8 0, .int .u8 0, .int .u8 0, .int .u8 0, .int .u8 0, .int .u8 0, .int .u8 0, .int .u8 0, .int .u8 0, .int .u8 0] 26)) 5 s) HB4.out.lt
  rw [World.size_alloc] at hsw
  obtain ⟨w2, hw2⟩ : ∃ w2, Lib.bytesWorld (w.alloc (.cells #[.int .u8 0, .int .u8 0, .int .u8 0, .int .u8 0, .int .u8 0, .int .u8 0, .int .u8 0, .int .u8 0, .int .u8 0, .int .u8 0, .int .u8 0, .int .u8 0, .int .u8 0, .int .u8 0, .int .u8 0, .int .u8 0, .int .u8 0, .int .u8 0, .int .u8 0, .int .u8 0, .int .u8 0, .int .u8 0, .int .u8 0, .int .u8 0, .int .u8 0, .int .u8 0, .int .u8 0, .int .u8 0, .int .u8 0, .int .u8 0, .int .u8 0, .int .u8 0] 26)) 5 s = w2 := ⟨_, rfl⟩
  obtain ⟨c, hc⟩ : ∃ c, grownCap (w.alloc (.cells #[.int .u8 0, .int .u8 0, .int .u8 0, .int .u8 0, .int .u8 0, .int .u8 0, .int .u8 0, .int .u8 0, .int .u8 0, .int .u8 0, .int .u8 0, .int .u8 0, .int .u8 0, .int .u8 0, .int .u8 0, .int .u8 0, .int .u8 0, .int .u8 0, .int .u8 0, .int .u8 0, .int .u8 0, .int .u8 0, .int .u8 0, .int .u8 0, .int .u8 0, .int .u8 0, .int .u8 0, .int .u8 0, .int .u8 0, .int .u8 0, .int .u8 0, .int .u8 0] 26)) s.size 0 5 = c := ⟨_, rfl⟩
  rw [hw2] at hbw hsw hB4 ⊢
  rw [hc] at hsw ⊢
  obtain ⟨Z, hZ⟩ : ∃ Z : Array Value, #[.int .u8 0, .int .u8 0, .int .u8 0, .int .u8 0, .int .u8 0, .int .u8 0, .int .u8 0, .int .u8 0, .int .u8 0, .int .u8 0, .int .u8 0, .int .u8 0, .int .u8 0, .int .u8 0, .int .u8 0, .int .u8 0, .int .u8 0, .int .u8 0, .int .u8 0, .int .u8 0, .int .u8 0, .int .u8 0, .int .u8 0, .int .u8 0, .int .u8 0, .int .u8 0, .int .u8 0, .int .u8 0, .int .u8 0, .int .u8 0, .int .u8 0, .int .u8 0] = Z := ⟨_, rfl⟩
  have HZ := Lib.hid (show Z.size = 32 by rw [← hZ]; rfl)
  rw [hZ] at hB4
  have HB4 := Lib.hid hB4
  have Hbw := Lib.hid hbw
  clear hcv hw2 hc hZ hB4 hbw Hb4
  refine (rsum_any (sB s) s.size (sB_len s) (by omega) _ w2 hsw).mono ?_
  rintro e w3 ⟨rfl, hb3⟩
  have hb3' := Hbw.out.trans (hb3.mono Hbw.out.size)
  have hB43 := HB4.out.below hb3 HB4.out.lt
  unfold arrV
  have Hl1 := Lib.hid (show (bc (sha (sB s))).length = 32 by rw [bc_len, sha_len])
  have Ho1 := Lib.hid (bc_one (sha (sB s)))
  obtain ⟨D1, hD1⟩ : ∃ D1, bc (sha (sB s)) = D1 := ⟨_, rfl⟩
  rw [hD1] at Hl1 Ho1 ⊢
  have HD1 := Lib.hid hD1
  have hB5 := Blk.new w3 26 #[.int .u8 0, .int .u8 0, .int .u8 0, .int .u8 0, .int .u8 0, .int .u8 0, .int .u8 0, .int .u8 0, .int .u8 0, .int .u8 0, .int .u8 0, .int .u8 0, .int .u8 0, .int .u8 0, .int .u8 0, .int .u8 0, .int .u8 0, .int .u8 0, .int .u8 0, .int .u8 0, .int .u8 0, .int .u8 0, .int .u8 0, .int .u8 0, .int .u8 0, .int .u8 0, .int .u8 0, .int .u8 0, .int .u8 0, .int .u8 0, .int .u8 0, .int .u8 0]
  have hB5' := hB5.setRow D1.toArray
  have hB44 := (hB43.alloc (.cells #[.int .u8 0, .int .u8 0, .int .u8 0, .int .u8 0, .int .u8 0, .int .u8 0, .int .u8 0, .int .u8 0, .int .u8 0, .int .u8 0, .int .u8 0, .int .u8 0, .int .u8 0, .int .u8 0, .int .u8 0, .int .u8 0, .int .u8 0, .int .u8 0, .int .u8 0, .int .u8 0, .int .u8 0, .int .u8 0, .int .u8 0, .int .u8 0, .int .u8 0, .int .u8 0, .int .u8 0, .int .u8 0, .int .u8 0, .int .u8 0, .int .u8 0, .int .u8 0] 26)).farRow (g' := w3.heap.size) (by have := hB43.lt; omega) D1.toArray
  have hb4 := setRow_below (hb3'.alloc hb3'.size (.cells #[.int .u8 0, .int .u8 0, .int .u8 0, .int .u8 0, .int .u8 0, .int .u8 0, .int .u8 0, .int .u8 0, .int .u8 0, .int .u8 0, .int .u8 0, .int .u8 0, .int .u8 0, .int .u8 0, .int .u8 0, .int .u8 0, .int .u8 0, .int .u8 0, .int .u8 0, .int .u8 0, .int .u8 0, .int .u8 0, .int .u8 0, .int .u8 0, .int .u8 0, .int .u8 0, .int .u8 0, .int .u8 0, .int .u8 0, .int .u8 0, .int .u8 0, .int .u8 0] 26)) hb3'.size D1.toArray
  obtain ⟨w4, hw4⟩ : ∃ w4, (w3.alloc (.cells #[.int .u8 0, .int .u8 0, .int .u8 0, .int .u8 0, .int .u8 0, .int .u8 0, .int .u8 0, .int .u8 0, .int .u8 0, .int .u8 0, .int .u8 0, .int .u8 0, .int .u8 0, .int .u8 0, .int .u8 0, .int .u8 0, .int .u8 0, .int .u8 0, .int .u8 0, .int .u8 0, .int .u8 0, .int .u8 0, .int .u8 0, .int .u8 0, .int .u8 0, .int .u8 0, .int .u8 0, .int .u8 0, .int .u8 0, .int .u8 0, .int .u8 0, .int .u8 0] 26)).setRow w3.heap.size D1.toArray = w4 := ⟨_, rfl⟩
  rw [hw4] at hB5' hB44 hb4
  have HW4 := Lib.hid hw4
  have HB5 := Lib.hid hB5
  have HB5' := Lib.hid hB5'
  have HB44 := Lib.hid hB44
  have Hb4 := Lib.hid hb4
  clear hsw hb3 hb3' hB43 hD1 hB5 hB5' hB44 hb4 hw4 HB4 Hbw
  go_wp2_with (first
    | (refine wpList_store_row rfl 26 _ _ rfl w3.heap.size D1.toArray rfl rfl 26 _ HB5.out (by rw [List.size_toArray, Hl1.out]; exact infoDg) (show 32 = D1.length from Hl1.out.symm) (all_oneCell_toArray Ho1.out) ?_; rw [HW4.out])
    | (at_builtin; refine wpList_append_sl _ rfl (.tmp 9) (.tmp 10) 22 rfl w4.heap.size 5 iu _ 1 Tryd.underlying22 hiu hu0 hu1 hu2 rfl (.slice (some ⟨w4.heap.size, 0, none⟩) 0 0) 0 [] rfl (own_empty' w4 _ (Nat.le_refl _) _ _) (.slice (some ⟨w3.heap.size, 0, none⟩) 32 32) 32 D1 rfl ((HB5'.out.alloc _).sl rfl Hl1.out) Ho1.out (by unfold maxLen; omega) (by omega) (by simp) ?_
       intro v5 w5 hown5 hg5
       have hb5 : Below w.heap.size w w5 := (Hb4.out.alloc Hb4.out.size _).grown hg5 (by have := Hb4.out.size; simp; omega) (fun k hk => by cases hk; exact Hb4.out.size)
       have hB45 := blk_grown (HB44.out.alloc _) hg5 (fun e => by have := HB44.out.lt; have h : w.heap.size = w4.heap.size := Option.some.inj e; omega)
       have Hown5 := Lib.hid hown5
       have Hb5 := Lib.hid hb5
       have HB45 := Lib.hid hB45
       have Hs5 := Lib.hid (show w4.heap.size ≤ w5.heap.size by have := hg5.size; simp at this; omega)
       have Hl4 := Lib.hid HB44.out.lt
       clear hown5 hg5 hb5 hB45)
    | (at_builtin; refine wpList_append_sl _ rfl (.tmp 11) (.tmp 12) 22 rfl w4.heap.size 5 iu _ 1 Tryd.underlying22 hiu hu0 hu1 hu2 rfl v5 32 D1 rfl Hown5.out (.slice a m cap) m (bc l) rfl (HV.out _ Hb5.out) (bc_one _) (by unfold maxLen; omega) (by omega) Hs5.out ?_
       intro v6 w6 hown6 hg6))
  have hs6 := Sl.of_own hown6
  rw [← HD1.out, ← bc_app] at hs6
  have hb6 : Below w.heap.size w w6 := Hb5.out.grown hg6 Hb5.out.size (fun k hk => by have := (Hown5.out.lt _ hk).1; have := Hb4.out.size; omega)
  have hB46 : Blk w6 w.heap.size 26 Z := blk_grown HB45.out hg6 (fun e => by have := (Hown5.out.lt _ e.symm).1; have := Hl4.out; omega)
  refine (rsum_any (sha (sB s) ++ l) (32 + m) (by rw [List.length_append, sha_len, HM.out]) (by omega) _ w6 hs6).mono ?_
  rintro e w7 ⟨rfl, hb7⟩
  have hB47 := hB46.below hb7 hB46.lt
  have hb7' := hb6.trans (hb7.mono hb6.size)
  unfold arrV
  have Hl2 := Lib.hid (show (bc (sha (sha (sB s) ++ l))).length = 32 by rw [bc_len, sha_len])
  have Ho2 := Lib.hid (bc_one (sha (sha (sB s) ++ l)))
  have Htg := Lib.hid (show bc (tg (sB s) l) = bc (sha (sha (sB s) ++ l)) from rfl)
  obtain ⟨D2, hD2⟩ : ∃ D2, bc (sha (sha (sB s) ++ l)) = D2 := ⟨_, rfl⟩
  rw [hD2] at Hl2 Ho2 Htg ⊢
  have HB47 := Lib.hid hB47
  have Hb7 := Lib.hid hb7'
  clear hD2 hs6 hb6 hB46 hb7 hB47 hb7' hown6 hg6 HB5 HB5' HB44 Hb4 HW4
  go_wp2_with (refine wpList_store_row rfl 26 _ _ rfl w.heap.size D2.toArray rfl rfl 26 _ HB47.out (by rw [List.size_toArray, Hl2.out]; exact infoDg) (show Z.size = D2.length by rw [HZ.out, Hl2.out]) (all_oneCell_toArray Ho2.out) ?_)
  refine bodyPost_ret (v := .agg D2.toArray) (results_cell_row rfl _ _ w.heap.size 26 D2.toArray (0, 0) _ rfl (HB47.out.setRow D2.toArray) Tryd.underlying26 rfl (by rw [List.size_toArray, Hl2.out]; exact infoDg)) rfl ?_
  exact ⟨by unfold arrV; rw [Htg.out], setRow_below Hb7.out (Nat.le_refl _) _⟩
end Go.Proofs.YtiloaheaglcpbaaDoor
