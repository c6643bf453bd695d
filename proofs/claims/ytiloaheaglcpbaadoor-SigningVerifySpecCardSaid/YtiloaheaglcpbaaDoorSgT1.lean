/- Signing in the reference: the digest of a message. -/
import Derived.Test.YtiloaheaglcpbaaDoorSgR15
namespace Go.Proofs.YtiloaheaglcpbaaDoor
open Go.RowKit

set_option maxRecDepth 100000 in
set_option maxHeartbeats 1000000 in
theorem rhash_any (d : List UInt8) (hd : d.length = 32) (ix : Nat) (hix : ix < 256) (msg : List UInt8) (q : Nat) (hq : msg.length = q) (hq9 : q ≤ 1000000) (ya : Option Addr) (ycap : Nat) (w : World) (hy : Sl w 1 (.slice ya q ycap) q (bc msg)) :
    Calls Tryd.prog 40 #[arrV d, .int .i64 (ix : Int), .slice ya q ycap] w fun e w' => e = .returned (arrV (mh d ix msg)) ∧ Below w.heap.size w w' := by
  obtain ⟨iu, hiu, hu0, hu1, hu2⟩ := info_parts infoU8
  have hbi := bc1 hix
  have Htg := Lib.hid (fun v W (hs : Sl W 1 v (32 + 1 + q) (bc (d ++ [UInt8.ofNat ix] ++ msg))) => rtagged_any ⟨#[109, 101, 115, 115, 97, 103, 101]⟩ (by decide) (d ++ [UInt8.ofNat ix] ++ msg) (32 + 1 + q) (by rw [List.length_append, List.length_append, hd, hq]; rfl) (by omega) v W hs)
  rw [show tg (sB ⟨#[109, 101, 115, 115, 97, 103, 101]⟩) (d ++ [UInt8.ofNat ix] ++ msg) = mh d ix msg from rfl, bc_app, bc_app, hbi] at Htg
  have Hl1 := Lib.hid (show (bc d).length = 32 by rw [bc_len, hd])
  have Ho1 := Lib.hid (bc_one d)
  have HoM := Lib.hid (bc_one msg)
  have Hl2 := Lib.hid (show (bc (mh d ix msg)).length = 32 by rw [bc_len, mh_len])
  have Ho2 := Lib.hid (bc_one (mh d ix msg))
  have HY := Lib.hid (fun W (hb : Below w.heap.size w W) => hy.next hb)
  unfold arrV at Htg ⊢
  obtain ⟨D2, hD2⟩ : ∃ D2, bc (mh d ix msg) = D2 := ⟨_, rfl⟩
  rw [hD2] at Htg Hl2 Ho2 ⊢
  obtain ⟨D, hD⟩ : ∃ D, bc d = D := ⟨_, rfl⟩
  rw [hD] at Htg Hl1 Ho1 ⊢
  obtain ⟨M, hM⟩ : ∃ M, bc msg = M := ⟨_, rfl⟩
  rw [hM] at Htg HoM HY
  have hg1 := ((Blk.new w 26 D.toArray).alloc (.cells #[.int .u8 0, .int .u8 0, .int .u8 0, .int .u8 0, .int .u8 0, .int .u8 0, .int .u8 0, .int .u8 0, .int .u8 0, .int .u8 0, .int .u8 0, .int .u8 0, .int .u8 0, .int .u8 0, .int .u8 0, .int .u8 0, .int .u8 0, .int .u8 0, .int .u8 0, .int .u8 0, .int .u8 0, .int .u8 0, .int .u8 0, .int .u8 0, .int .u8 0, .int .u8 0, .int .u8 0, .int .u8 0, .int .u8 0, .int .u8 0, .int .u8 0, .int .u8 0] 26)).alloc (.cells #[] 5)
  have hg2 := (Blk.new (w.alloc (.cells D.toArray 26)) 26 #[.int .u8 0, .int .u8 0, .int .u8 0, .int .u8 0, .int .u8 0, .int .u8 0, .int .u8 0, .int .u8 0, .int .u8 0, .int .u8 0, .int .u8 0, .int .u8 0, .int .u8 0, .int .u8 0, .int .u8 0, .int .u8 0, .int .u8 0, .int .u8 0, .int .u8 0, .int .u8 0, .int .u8 0, .int .u8 0, .int .u8 0, .int .u8 0, .int .u8 0, .int .u8 0, .int .u8 0, .int .u8 0, .int .u8 0, .int .u8 0, .int .u8 0, .int .u8 0]).alloc (.cells #[] 5)
  have hb := ((below_alloc w (.cells D.toArray 26)).alloc (by simp) (.cells #[.int .u8 0, .int .u8 0, .int .u8 0, .int .u8 0, .int .u8 0, .int .u8 0, .int .u8 0, .int .u8 0, .int .u8 0, .int .u8 0, .int .u8 0, .int .u8 0, .int .u8 0, .int .u8 0, .int .u8 0, .int .u8 0, .int .u8 0, .int .u8 0, .int .u8 0, .int .u8 0, .int .u8 0, .int .u8 0, .int .u8 0, .int .u8 0, .int .u8 0, .int .u8 0, .int .u8 0, .int .u8 0, .int .u8 0, .int .u8 0, .int .u8 0, .int .u8 0] 26)).alloc (by simp; omega) (.cells #[] 5)
  have hsz : ((w.alloc (.cells D.toArray 26)).alloc (.cells #[.int .u8 0, .int .u8 0, .int .u8 0, .int .u8 0, .int .u8 0, .int .u8 0, .int .u8 0, .int .u8 0, .int .u8 0, .int .u8 0, .int .u8 0, .int .u8 0, .int .u8 0, .int .u8 0, .int .u8 0, .int .u8 0, .int .u8 0, .int .u8 0, .int .u8 0, .int .u8 0, .int .u8 0, .int .u8 0, .int .u8 0, .int .u8 0, .int .u8 0, .int .u8 0, .int .u8 0, .int .u8 0, .int .u8 0, .int .u8 0, .int .u8 0, .int .u8 0] 26)).heap.size = w.heap.size + 1 + 1 := by simp
  have ho := own_empty' ((w.alloc (.cells D.toArray 26)).alloc (.cells #[.int .u8 0, .int .u8 0, .int .u8 0, .int .u8 0, .int .u8 0, .int .u8 0, .int .u8 0, .int .u8 0, .int .u8 0, .int .u8 0, .int .u8 0, .int .u8 0, .int .u8 0, .int .u8 0, .int .u8 0, .int .u8 0, .int .u8 0, .int .u8 0, .int .u8 0, .int .u8 0, .int .u8 0, .int .u8 0, .int .u8 0, .int .u8 0, .int .u8 0, .int .u8 0, .int .u8 0, .int .u8 0, .int .u8 0, .int .u8 0, .int .u8 0, .int .u8 0] 26)) (w.heap.size + 1 + 1) (by simp) 5 1
  rw [hsz] at ho
  rw [World.size_alloc] at hg2
  have H1 := Lib.hid hg1
  have H2 := Lib.hid hg2
  have Hb := Lib.hid hb
  have HO := Lib.hid ho
  have hwrap : IntKind.u8.wrap (ix : Int) = (ix : Int) := by rw [IntKind.wrap_u8]; omega
  clear hy hq hd hD hD2 hM hbi hg1 hg2 hb hsz ho
  go_enter Tryd.func40, Tryd.ntmps40
  go_wp2_with (first
    | (at_builtin; refine wpList_append_sl _ rfl (.tmp 8) (.tmp 9) 22 rfl (w.heap.size + 1 + 1) 5 iu _ 1 Tryd.underlying22 hiu hu0 hu1 hu2 rfl (.slice (some ⟨w.heap.size + 1 + 1, 0, none⟩) 0 0) 0 [] rfl HO.out (.slice (some ⟨w.heap.size, 0, none⟩) 32 32) 32 D rfl (H1.out.sl rfl Hl1.out) Ho1.out (by unfold maxLen; omega) (by omega) (by simp) ?_
       intro v6 w6 hown6 hg6
       have hb6 := Hb.out.grown hg6 Hb.out.size (fun k hk => by simp [Value.ownBlock] at hk; omega)
       have hB6 := blk_grown H2.out hg6 (fun e => by have h : w.heap.size + 1 = w.heap.size + 1 + 1 := Option.some.inj e; omega)
       have Hown := Lib.hid hown6
       have Hb6 := Lib.hid hb6
       have HB6 := Lib.hid hB6
       have Hs6 := Lib.hid (show w.heap.size + 1 + 1 ≤ w6.heap.size by have := hB6.lt; omega)
       clear hown6 hg6 hb6 hB6)
    | (at_builtin; refine wpList_append_sl _ rfl (.tmp 10) (.tmp 13) 22 rfl (w.heap.size + 1 + 1) 5 iu _ 1 Tryd.underlying22 hiu hu0 hu1 hu2 rfl v6 (0 + 32) ([] ++ D) rfl (Hown.out.alloc _) (.slice (some ⟨w6.heap.size, 0, none⟩) 1 1) 1 [.int .u8 (ix : Int)] rfl ((Blk.new w6 5 #[.int .u8 (ix : Int)]).sl rfl rfl) (by intro u hu; simp at hu; subst hu; rfl) (by unfold maxLen; omega) (by omega) (by have := Hs6.out; rw [World.size_alloc]; omega) ?_
       intro v7 w7 hown7 hg7
       have hb7 := (Hb6.out.alloc Hb6.out.size _).grown hg7 (by have := Hb6.out.size; rw [World.size_alloc]; omega) (fun k hk => by have := (Hown.out.lt _ hk).1; omega)
       have hB7 := blk_grown (HB6.out.alloc _) hg7 (fun e => by have := (Hown.out.lt _ e.symm).1; omega)
       have Hown7 := Lib.hid hown7
       have Hb7 := Lib.hid hb7
       have HB7 := Lib.hid hB7
       have Hs7 := Lib.hid (show w.heap.size + 1 + 1 ≤ w7.heap.size by have := hB7.lt; omega)
       clear hown7 hg7 hb7 hB7)
    | (at_builtin; refine wpList_append_sl _ rfl (.tmp 15) (.tmp 16) 22 rfl (w.heap.size + 1 + 1) 5 iu _ 1 Tryd.underlying22 hiu hu0 hu1 hu2 rfl v7 (0 + 32 + 1) ([] ++ D ++ [.int .u8 (ix : Int)]) rfl Hown7.out (.slice ya q ycap) q M rfl (HY.out _ Hb7.out) HoM.out (by unfold maxLen; omega) (by omega) Hs7.out ?_
       intro v8 w8 hown8 hg8
       have hb8 := Hb7.out.grown hg8 Hb7.out.size (fun k hk => by have := (Hown7.out.lt _ hk).1; omega)
       have hB8 := blk_grown HB7.out hg8 (fun e => by have := (Hown7.out.lt _ e.symm).1; omega)
       have hs8 : Sl w8 1 v8 (32 + 1 + q) (D ++ [.int .u8 (ix : Int)] ++ M) := Sl.of_own hown8
       have Hs8 := Lib.hid hs8
       have Hb8 := Lib.hid hb8
       have HB8 := Lib.hid hB8
       clear hown8 hg8 hb8 hB8 hs8)
    | (refine (Htg.out _ _ Hs8.out).mono ?_
       rintro e w9 ⟨rfl, hb9⟩
       have HB9 := Lib.hid (HB8.out.below hb9 HB8.out.lt)
       have Hb9 := Lib.hid (Hb8.out.trans (hb9.mono Hb8.out.size))
       clear hb9)
    | (refine wpList_store_row rfl 26 _ _ rfl (w.heap.size + 1) D2.toArray rfl rfl 26 _ HB9.out (by rw [List.size_toArray, Hl2.out]; exact infoDg) (show 32 = D2.length from Hl2.out.symm) (all_oneCell_toArray Ho2.out) ?_))
  refine bodyPost_ret (v := .agg D2.toArray) (results_cell_row rfl _ _ (w.heap.size + 1) 26 D2.toArray (0, 0) _ rfl (HB9.out.setRow D2.toArray) Tryd.underlying26 rfl (by rw [List.size_toArray, Hl2.out]; exact infoDg)) rfl ?_
  exact ⟨rfl, setRow_below Hb9.out (by omega) _⟩
end Go.Proofs.YtiloaheaglcpbaaDoor
