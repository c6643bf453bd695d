/- Signing: the public key that a signature leads to. -/
import Derived.Test.YtiloaheaglcpbaaDoorSgF8
namespace Go.Proofs.YtiloaheaglcpbaaDoor
open Go.RowKit

set_option maxRecDepth 100000 in
set_option maxHeartbeats 1000000 in
theorem opub_vfy (Pt : Nat → List UInt8) (hP : ∀ j, (Pt j).length = 32) (ix : Nat) (hix : ix < 256) (dg : List UInt8) (g off cap b7 b9 : Nat) (w : World)
    (h70 : w.cell? ⟨b7, 0, none⟩ = some (.int .i64 (ix : Int))) (h71 : w.cell? ⟨b7, 1, none⟩ = some (.slice (some ⟨g, off, none⟩) 67 cap)) (hr : ∀ j, j < 67 → w.rangeAt g (off + j * 32) (bc (Pt j))) (h9 : Blk w b9 55 (digC dg)) (hT : Tabs w) :
    Calls Tryd.prog 44 #[.func (.func 45) #[] #[.pointer (some ⟨b7, 0, none⟩), .pointer (some ⟨b9, 0, none⟩)]] w fun e w' => e = .returned (arrV (opub fun j => flw ix j (Pt j) (dig dg j) (15 - dig dg j))) ∧ Below w.heap.size w w' := by
  have hl0 : b7 < w.heap.size := World.block_lt_of_cell? w _ h70
  have hlt : g < w.heap.size := by
    have := hr 0 (by omega) 0 _ (by rw [bt_cell (d := Pt 0) (k := 0) (by rw [hP]; omega)])
    exact World.block_lt_of_cell? w _ this
  have HE := Lib.hid (fun (k : Nat) W (hk : k < 67) (hb : Below w.heap.size w W) => vfy1_any (Pt k) (hP k) k hk ix (dig dg k) hix g off cap b7 b9 W ((hb.cell (p := ⟨b7, 0, none⟩) hl0).trans h70) ((hb.cell (p := ⟨b7, 1, none⟩) hl0).trans h71) (rangeAt_below (hr k hk) hb hlt) (by rw [(h9.below hb h9.lt).cell]; exact digC_at dg k hk) (hT.next hb))
  have hEl : ∀ j, ((fun j => flw ix j (Pt j) (dig dg j) (15 - dig dg j)) j).length = 32 := fun j => flw_len _ _ _ (hP j) _ _
  obtain ⟨E, hEd⟩ : ∃ E, (fun j => flw ix j (Pt j) (dig dg j) (15 - dig dg j)) = E := ⟨_, rfl⟩
  rw [hEd] at hEl ⊢
  have hE2 : ∀ k, flw ix k (Pt k) (dig dg k) (15 - dig dg k) = E k := fun k => by rw [← hEd]
  simp only [hE2] at HE
  clear h70 h71 hr h9 hEd hE2 hP hl0 hlt
  have HEl := Lib.hid hEl
  have HT := Lib.hid hT
  obtain ⟨iu, hiu, hu0, hu1, hu2⟩ := info_parts infoU8
  have HB := Lib.hid (Blk.new w 26 #[.int .u8 0, .int .u8 0, .int .u8 0, .int .u8 0, .int .u8 0, .int .u8 0, .int .u8 0, .int .u8 0, .int .u8 0, .int .u8 0, .int .u8 0, .int .u8 0, .int .u8 0, .int .u8 0, .int .u8 0, .int .u8 0, .int .u8 0, .int .u8 0, .int .u8 0, .int .u8 0, .int .u8 0, .int .u8 0, .int .u8 0, .int .u8 0, .int .u8 0, .int .u8 0, .int .u8 0, .int .u8 0, .int .u8 0, .int .u8 0, .int .u8 0, .int .u8 0])
  have Hb := Lib.hid (below_alloc w (.cells #[.int .u8 0, .int .u8 0, .int .u8 0, .int .u8 0, .int .u8 0, .int .u8 0, .int .u8 0, .int .u8 0, .int .u8 0, .int .u8 0, .int .u8 0, .int .u8 0, .int .u8 0, .int .u8 0, .int .u8 0, .int .u8 0, .int .u8 0, .int .u8 0, .int .u8 0, .int .u8 0, .int .u8 0, .int .u8 0, .int .u8 0, .int .u8 0, .int .u8 0, .int .u8 0, .int .u8 0, .int .u8 0, .int .u8 0, .int .u8 0, .int .u8 0, .int .u8 0] 26))
  have Htg := Lib.hid (fun v W (hs : Sl W 1 v 2144 (bc (ends E 67))) hT => tagged_any ⟨#[111, 110, 101]⟩ (by decide) (ends E 67) 2144 (by rw [ends_len E hEl]) (by omega) (by omega) v W hs hT)
  rw [show tg (sB ⟨#[111, 110, 101]⟩) (ends E 67) = opub E from rfl] at Htg
  have Hl2 := Lib.hid (show (bc (opub E)).length = 32 by rw [bc_len, opub_len])
  have Ho2 := Lib.hid (bc_one (opub E))
  unfold arrV at HE Htg ⊢
  obtain ⟨D2, hD2⟩ : ∃ D2, bc (opub E) = D2 := ⟨_, rfl⟩
  rw [hD2] at Htg Hl2 Ho2 ⊢
  clear hEl hT hD2
  go_enter Tryd.func44, Tryd.ntmps44
  go_wp2_with fail
  go_loopw [3, 6] (fun b i wr => ∃ k : Nat, k ≤ 67 ∧ i = .int .i64 k ∧ wr.ownsRow (w.heap.size + 1) 5 1 b (k * 32) (bc (ends E k)) ∧ Blk wr w.heap.size 26 #[.int .u8 0, .int .u8 0, .int .u8 0, .int .u8 0, .int .u8 0, .int .u8 0, .int .u8 0, .int .u8 0, .int .u8 0, .int .u8 0, .int .u8 0, .int .u8 0, .int .u8 0, .int .u8 0, .int .u8 0, .int .u8 0, .int .u8 0, .int .u8 0, .int .u8 0, .int .u8 0, .int .u8 0, .int .u8 0, .int .u8 0, .int .u8 0, .int .u8 0, .int .u8 0, .int .u8 0, .int .u8 0, .int .u8 0, .int .u8 0, .int .u8 0, .int .u8 0] ∧ Below w.heap.size w wr) (fun _ i _ => 67 - (intOf i).toNat)
  case atStart => exact ⟨0, by omega, rfl, World.ownsRow_nil _ _ _ _, HB.out, Hb.out⟩
  case round =>
    clear HB Hb
    obtain ⟨k, hk, rfl, hown, hB, hb⟩ := hrel
    obtain ⟨ba, bcap, rfl⟩ := (Sl.of_own hown).form
    have HB := Lib.hid hB
    have Hb := Lib.hid hb
    have Hown := Lib.hid hown
    clear hB hb hown
    by_cases hlt : k < 67
    · have Hl1 := Lib.hid (show (bc (E k)).length = 32 by rw [bc_len, HEl.out])
      have Ho1 := Lib.hid (bc_one (E k))
      have Hap := Lib.hid (show bc (ends E k) ++ bc (E k) = bc (ends E (k + 1)) by rw [ends_succ, bc_app])
      have HEk := Lib.hid (HE.out k)
      obtain ⟨D1, hD1⟩ : ∃ D1, bc (E k) = D1 := ⟨_, rfl⟩
      rw [hD1] at HEk Hl1 Ho1 Hap
      clear hD1
      have k1 : (67 : Int) - ((k : Int) + 1) = 66 - k := by omega
      go_wp2_with (first
        | (refine (HEk.out _ (by omega) Hb.out).mono ?_
           rintro e w8 ⟨rfl, hb8⟩
           have hB5 := Blk.new w8 26 #[.int .u8 0, .int .u8 0, .int .u8 0, .int .u8 0, .int .u8 0, .int .u8 0, .int .u8 0, .int .u8 0, .int .u8 0, .int .u8 0, .int .u8 0, .int .u8 0, .int .u8 0, .int .u8 0, .int .u8 0, .int .u8 0, .int .u8 0, .int .u8 0, .int .u8 0, .int .u8 0, .int .u8 0, .int .u8 0, .int .u8 0, .int .u8 0, .int .u8 0, .int .u8 0, .int .u8 0, .int .u8 0, .int .u8 0, .int .u8 0, .int .u8 0, .int .u8 0]
           have hB5' := hB5.setRow D1.toArray
           have hb9 := setRow_below (g := w8.heap.size) (hb8.alloc hb8.size (.cells #[.int .u8 0, .int .u8 0, .int .u8 0, .int .u8 0, .int .u8 0, .int .u8 0, .int .u8 0, .int .u8 0, .int .u8 0, .int .u8 0, .int .u8 0, .int .u8 0, .int .u8 0, .int .u8 0, .int .u8 0, .int .u8 0, .int .u8 0, .int .u8 0, .int .u8 0, .int .u8 0, .int .u8 0, .int .u8 0, .int .u8 0, .int .u8 0, .int .u8 0, .int .u8 0, .int .u8 0, .int .u8 0, .int .u8 0, .int .u8 0, .int .u8 0, .int .u8 0] 26)) hb8.size D1.toArray
           obtain ⟨w9, hw9⟩ : ∃ w9, (w8.alloc (.cells #[.int .u8 0, .int .u8 0, .int .u8 0, .int .u8 0, .int .u8 0, .int .u8 0, .int .u8 0, .int .u8 0, .int .u8 0, .int .u8 0, .int .u8 0, .int .u8 0, .int .u8 0, .int .u8 0, .int .u8 0, .int .u8 0, .int .u8 0, .int .u8 0, .int .u8 0, .int .u8 0, .int .u8 0, .int .u8 0, .int .u8 0, .int .u8 0, .int .u8 0, .int .u8 0, .int .u8 0, .int .u8 0, .int .u8 0, .int .u8 0, .int .u8 0, .int .u8 0] 26)).setRow w8.heap.size D1.toArray = w9 := ⟨_, rfl⟩
           rw [hw9] at hB5' hb9
           have HW9 := Lib.hid hw9
           have HB5 := Lib.hid hB5
           have HB5' := Lib.hid hB5'
           have HB2 := Lib.hid (HB.out.below hb9 HB.out.lt)
           have Hb9 := Lib.hid (Hb.out.trans (hb9.mono Hb.out.size))
           have Hown9 := Lib.hid (own_next Hown.out hb9)
           have Hsz9 := Lib.hid (show w.heap.size + 1 ≤ w9.heap.size from HB2.out.lt)
           clear hb8 hB5 hB5' hb9 hw9)
        | (refine wpList_store_row rfl 26 _ _ rfl w8.heap.size D1.toArray rfl rfl 26 _ HB5.out (by rw [List.size_toArray, Hl1.out]; exact infoDg) (show 32 = D1.length from Hl1.out.symm) (all_oneCell_toArray Ho1.out) ?_
           rw [HW9.out])
        | (at_builtin; refine wpList_append_sl _ rfl (.tmp 12) (.tmp 13) 22 rfl (w.heap.size + 1) 5 iu _ 1 Tryd.underlying22 hiu hu0 hu1 hu2 rfl (.slice ba (k * 32) bcap) (k * 32) (bc (ends E k)) rfl Hown9.out (.slice (some ⟨w8.heap.size, 0, none⟩) 32 32) 32 D1 rfl (HB5'.out.sl rfl Hl1.out) Ho1.out (by unfold maxLen; omega) (by omega) Hsz9.out ?_
           intro v7 w7 hown7 hg7
           have hb7 : Below w.heap.size w w7 := Hb9.out.grown hg7 (by have := Hsz9.out; omega) (fun k hk => by have := (Hown9.out.lt _ hk).1; omega)
           have hB7 : Blk w7 w.heap.size 26 #[.int .u8 0, .int .u8 0, .int .u8 0, .int .u8 0, .int .u8 0, .int .u8 0, .int .u8 0, .int .u8 0, .int .u8 0, .int .u8 0, .int .u8 0, .int .u8 0, .int .u8 0, .int .u8 0, .int .u8 0, .int .u8 0, .int .u8 0, .int .u8 0, .int .u8 0, .int .u8 0, .int .u8 0, .int .u8 0, .int .u8 0, .int .u8 0, .int .u8 0, .int .u8 0, .int .u8 0, .int .u8 0, .int .u8 0, .int .u8 0, .int .u8 0, .int .u8 0] := blk_grown HB2.out hg7 (fun e => by have := (Hown9.out.lt _ e.symm).1; omega)
           rw [Hap.out] at hown7
           have Hb7 := Lib.hid hb7
           have HB7 := Lib.hid hB7
           have Hown7 := Lib.hid hown7
           clear hb7 hB7 hown7 hg7))
      go_roundw
      case rel => exact ⟨k + 1, by omega, by go_num, by rw [Nat.add_mul]; exact Hown7.out, HB7.out, Hb7.out⟩
      case measure => simp [intOf]; omega
    · have hk9 : k = 67 := by omega
      subst hk9
      clear hlt hk
      go_wp2_with fail
      refine (Htg.out _ _ (Sl.of_own Hown.out) (HT.out.next Hb.out)).mono ?_
      rintro e w7 ⟨rfl, hb7⟩
      have HB7 := Lib.hid (HB.out.below hb7 HB.out.lt)
      have Hb7 := Lib.hid (Hb.out.trans (hb7.mono Hb.out.size))
      clear hb7 HB Hb
      go_wp2_with (refine wpList_store_row rfl 26 _ _ rfl w.heap.size D2.toArray rfl rfl 26 _ HB7.out (by rw [List.size_toArray, Hl2.out]; exact infoDg) (show 32 = D2.length from Hl2.out.symm) (all_oneCell_toArray Ho2.out) ?_)
      refine bodyPost_ret (v := .agg D2.toArray) (results_cell_row rfl _ _ w.heap.size 26 D2.toArray (0, 0) _ rfl (HB7.out.setRow D2.toArray) Tryd.underlying26 rfl (by rw [List.size_toArray, Hl2.out]; exact infoDg)) rfl ?_
      exact ⟨rfl, setRow_below Hb7.out (Nat.le_refl _) _⟩

theorem infoB : (Tryd.prog.info? 4).map (fun i => (i.zero, i.size, i.bytes)) = some (some (.bool false), 1, 1) := by kernel_rfl
/-- the root that a path of the right length leads to -/
def clm1 (d : List UInt8) : List UInt8 := lf d
def clm2 (b : Bool) (d p : List UInt8) : List UInt8 := if b then nd p (lf d) else nd (lf d) p

set_option maxRecDepth 100000 in
set_option maxHeartbeats 1000000 in
theorem climb1_any (d : List UInt8) (hd : d.length = 32) (pa : Option Addr) (pcap : Nat) (w : World) (hT : Tabs w) :
    Calls Tryd.prog 47 #[arrV d, .int .i64 0, .int .i64 1, .slice pa 0 pcap] w fun e w' => e = .returned (.tuple #[arrV (lf d), .int .i64 0]) ∧ Below w.heap.size w w' := by
  have HL := Lib.hid (fun W (hb : Below w.heap.size w W) => leaf_any d hd W (hT.next hb))
  have Hl1 := Lib.hid (show (bc d).length = 32 by rw [bc_len, hd])
  have Ho1 := Lib.hid (bc_one d)
  have Hl2 := Lib.hid (show (bc (lf d)).length = 32 by rw [bc_len, lf_len])
  have Ho2 := Lib.hid (bc_one (lf d))
  unfold arrV at HL ⊢
  obtain ⟨D2, hD2⟩ : ∃ D2, bc (lf d) = D2 := ⟨_, rfl⟩
  obtain ⟨D, hD⟩ : ∃ D, bc d = D := ⟨_, rfl⟩
  rw [hD2] at HL Hl2 Ho2 ⊢
  rw [hD] at HL Hl1 Ho1 ⊢
  have hg1 := (Blk.new w 26 D.toArray).alloc (.cells #[.int .u8 0, .int .u8 0, .int .u8 0, .int .u8 0, .int .u8 0, .int .u8 0, .int .u8 0, .int .u8 0, .int .u8 0, .int .u8 0, .int .u8 0, .int .u8 0, .int .u8 0, .int .u8 0, .int .u8 0, .int .u8 0, .int .u8 0, .int .u8 0, .int .u8 0, .int .u8 0, .int .u8 0, .int .u8 0, .int .u8 0, .int .u8 0, .int .u8 0, .int .u8 0, .int .u8 0, .int .u8 0, .int .u8 0, .int .u8 0, .int .u8 0, .int .u8 0] 26)
  have hg2 := Blk.new (w.alloc (.cells D.toArray 26)) 26 #[.int .u8 0, .int .u8 0, .int .u8 0, .int .u8 0, .int .u8 0, .int .u8 0, .int .u8 0, .int .u8 0, .int .u8 0, .int .u8 0, .int .u8 0, .int .u8 0, .int .u8 0, .int .u8 0, .int .u8 0, .int .u8 0, .int .u8 0, .int .u8 0, .int .u8 0, .int .u8 0, .int .u8 0, .int .u8 0, .int .u8 0, .int .u8 0, .int .u8 0, .int .u8 0, .int .u8 0, .int .u8 0, .int .u8 0, .int .u8 0, .int .u8 0, .int .u8 0]
  rw [World.size_alloc] at hg2
  have hb := (below_alloc w (.cells D.toArray 26)).alloc (by simp) (.cells #[.int .u8 0, .int .u8 0, .int .u8 0, .int .u8 0, .int .u8 0, .int .u8 0, .int .u8 0, .int .u8 0, .int .u8 0, .int .u8 0, .int .u8 0, .int .u8 0, .int .u8 0, .int .u8 0, .int .u8 0, .int .u8 0, .int .u8 0, .int .u8 0, .int .u8 0, .int .u8 0, .int .u8 0, .int .u8 0, .int .u8 0, .int .u8 0, .int .u8 0, .int .u8 0, .int .u8 0, .int .u8 0, .int .u8 0, .int .u8 0, .int .u8 0, .int .u8 0] 26)
  obtain ⟨w0, hw0⟩ : ∃ w0, (w.alloc (.cells D.toArray 26)).alloc (.cells #[.int .u8 0, .int .u8 0, .int .u8 0, .int .u8 0, .int .u8 0, .int .u8 0, .int .u8 0, .int .u8 0, .int .u8 0, .int .u8 0, .int .u8 0, .int .u8 0, .int .u8 0, .int .u8 0, .int .u8 0, .int .u8 0, .int .u8 0, .int .u8 0, .int .u8 0, .int .u8 0, .int .u8 0, .int .u8 0, .int .u8 0, .int .u8 0, .int .u8 0, .int .u8 0, .int .u8 0, .int .u8 0, .int .u8 0, .int .u8 0, .int .u8 0, .int .u8 0] 26) = w0 := ⟨_, rfl⟩
  rw [hw0] at hg1 hg2 hb
  have HW0 := Lib.hid hw0
  have H1 := Lib.hid hg1
  have H2 := Lib.hid hg2
  have Hb := Lib.hid hb
  clear hT hd hD hD2 hg1 hg2 hb hw0
  go_enter Tryd.func47, Tryd.ntmps47
  go_wp2_with fail
  rw [HW0.out]
  go_loopw [1, 2, 10] (fun i n r wr => i = .int .i64 0 ∧ n = .int .i64 1 ∧ r = .slice none 0 0 ∧ w0 = wr) (fun _ _ _ _ => 0)
  case atStart => exact ⟨rfl, rfl, rfl, rfl⟩
  case round =>
    obtain ⟨rfl, rfl, rfl, rfl⟩ := hrel
    go_wp2_with (first
      | (refine wpList_load_row rfl 26 _ rfl w.heap.size rfl 26 D.toArray (0, 0) _ H1.out Tryd.underlying26 rfl (by rw [List.size_toArray, Hl1.out]; exact infoDg) ?_)
      | (refine (HL.out _ Hb.out).mono ?_
         rintro e w5 ⟨rfl, hb5⟩
         have H25 := Lib.hid (H2.out.below hb5 H2.out.lt)
         have Hb5 := Lib.hid (Hb.out.trans (hb5.mono Hb.out.size))
         clear hb5)
      | (refine wpList_store_row rfl 26 _ _ rfl (w.heap.size + 1) D2.toArray rfl rfl 26 _ H25.out (by rw [List.size_toArray, Hl2.out]; exact infoDg) (show 32 = D2.length from Hl2.out.symm) (all_oneCell_toArray Ho2.out) ?_))
    have hR := H25.out.setRow D2.toArray
    have hBR := setRow_below (g := w.heap.size + 1) Hb5.out (by omega) D2.toArray
    obtain ⟨w6, hw6⟩ : ∃ w6, w5.setRow (w.heap.size + 1) D2.toArray = w6 := ⟨_, rfl⟩
    rw [hw6] at hR hBR ⊢
    have HR := Lib.hid hR
    have HBR := Lib.hid hBR
    clear hR hBR hw6
    go_loopw [60] (fun i wr => i = .int .i64 0 ∧ w6 = wr) (fun _ _ => 0)
    case atStart => exact ⟨rfl, rfl⟩
    case round =>
      obtain ⟨rfl, rfl⟩ := hrel
      go_wp2_with (first
        | (refine wpList_load_row rfl 26 _ rfl (w.heap.size + 1) rfl 26 D2.toArray (0, 0) _ HR.out Tryd.underlying26 rfl (by rw [List.size_toArray, Hl2.out]; exact infoDg) ?_)
        | (refine wpList_store_row rfl 26 _ _ rfl (w.heap.size + 1) D2.toArray rfl rfl 26 _ HR.out (by rw [List.size_toArray, Hl2.out]; exact infoDg) (show D2.length = D2.length from rfl) (all_oneCell_toArray Ho2.out) ?_))
      refine bodyPost_ret (v := .tuple #[.agg D2.toArray, .int .i64 0]) (results_row_slot rfl _ _ (w.heap.size + 1) D2 _ _ rfl rfl (HR.out.setRow D2.toArray).range Tryd.underlying26 rfl (by rw [Hl2.out]; exact infoDg)) rfl ?_
      exact ⟨rfl, setRow_below HBR.out (by omega) _⟩
end Go.Proofs.YtiloaheaglcpbaaDoor
