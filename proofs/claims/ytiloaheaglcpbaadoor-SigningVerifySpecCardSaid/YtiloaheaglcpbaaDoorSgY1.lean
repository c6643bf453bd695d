/- Signing: a path of the wrong length. -/
import Derived.Test.YtiloaheaglcpbaaDoorSgG3
namespace Go.Proofs.YtiloaheaglcpbaaDoor
open Go.RowKit

set_option maxRecDepth 100000 in
set_option maxHeartbeats 1000000 in
theorem verify_err (dp : List UInt8) (hdp : dp.length = 32) (m : Nat) (h1 : 1 ≤ m) (h2 : m ≤ 256) (ix : Nat) (hix : ix < m) (msg : List UInt8) (q : Nat) (hq : msg.length = q) (hq9 : q ≤ 65536) (am : Option Addr) (capm : Nat)
    (Pt : Nat → List UInt8) (hP : ∀ j, (Pt j).length = 32) (g off cap : Nat) (pa : Option Addr) (pn pcap : Nat) (w : World) (hy : Sl w 1 (.slice am q capm) q (bc msg)) (hr : ∀ j, j < 67 → w.rangeAt g (off + j * 32) (bc (Pt j))) (hT : Tabs w)
    (X : List UInt8) (hX : X.length = 32)
    (hC : ∀ W, Below w.heap.size w W → Calls Tryd.prog 47 #[arrV (opub fun j => flw ix j (Pt j) (dig (mh dp ix msg) j) (15 - dig (mh dp ix msg) j)), .int .i64 (ix : Int), .int .i64 (m : Int), .slice pa pn pcap] W fun e w' => e = .returned (.tuple #[arrV X, .int .i64 1]) ∧ Below W.heap.size W w') :
    Calls Tryd.prog 25 #[arrV dp, .int .i64 (m : Int), .slice am q capm, .agg #[.int .i64 (ix : Int), .slice (some ⟨g, off, none⟩) 67 cap, .slice pa pn pcap]] w fun e w' => e = .returned (.bool false) ∧ Below w.heap.size w w' := by
  have hlt : g < w.heap.size := by
    have := hr 0 (by omega) 0 _ (by rw [bt_cell (d := Pt 0) (k := 0) (by rw [hP]; omega)])
    exact World.block_lt_of_cell? w _ this
  have HMH := Lib.hid (fun W (hb : Below w.heap.size w W) => messageHash_any dp hdp ix (by omega) msg q hq (by omega) _ W (hy.next hb) (hT.next hb))
  have HDG := Lib.hid (fun W => digitsOf_any (mh dp ix msg) (mh_len _ _ _) W)
  have HO := Lib.hid (fun (b7 b9 : Nat) W (hb : Below w.heap.size w W) (h70 : W.cell? ⟨b7, 0, none⟩ = some (.int .i64 (ix : Int))) (h71 : W.cell? ⟨b7, 1, none⟩ = some (.slice (some ⟨g, off, none⟩) 67 cap)) (h9 : Blk W b9 55 (digC (mh dp ix msg))) => opub_vfy Pt hP ix (by omega) (mh dp ix msg) g off cap b7 b9 W h70 h71 (fun j hj => rangeAt_below (hr j hj) hb hlt) h9 (hT.next hb))
  have HC := Lib.hid hC
  have Hl1 := Lib.hid (show (bc dp).length = 32 by rw [bc_len, hdp])
  have Ho1 := Lib.hid (bc_one dp)
  have HlO := Lib.hid (show (bc (opub fun j => flw ix j (Pt j) (dig (mh dp ix msg) j) (15 - dig (mh dp ix msg) j))).length = 32 by rw [bc_len]; rfl)
  have HoO := Lib.hid (bc_one (opub fun j => flw ix j (Pt j) (dig (mh dp ix msg) j) (15 - dig (mh dp ix msg) j)))
  have HlX := Lib.hid (show (bc X).length = 32 by rw [bc_len, hX])
  have HoX := Lib.hid (bc_one X)
  unfold arrV at HMH HDG HO HC ⊢
  obtain ⟨O, hO⟩ : ∃ O, bc (opub fun j => flw ix j (Pt j) (dig (mh dp ix msg) j) (15 - dig (mh dp ix msg) j)) = O := ⟨_, rfl⟩
  rw [hO] at HlO HoO HC
  simp only [hO] at HO
  obtain ⟨dg, hdg⟩ : ∃ dg, mh dp ix msg = dg := ⟨_, rfl⟩
  rw [hdg] at HMH HDG
  simp only [hdg] at HO
  obtain ⟨DG, hDG⟩ : ∃ DG, bc dg = DG := ⟨_, rfl⟩
  rw [hDG] at HMH HDG
  have HdC := Lib.hid (digC_size dg)
  have Hd1 := Lib.hid (digC_one dg)
  obtain ⟨DC, hDC⟩ : ∃ DC, digC dg = DC := ⟨_, rfl⟩
  rw [hDC] at HDG HdC Hd1
  simp only [hDC] at HO
  obtain ⟨D, hD⟩ : ∃ D, bc dp = D := ⟨_, rfl⟩
  obtain ⟨DX, hDX⟩ : ∃ DX, bc X = DX := ⟨_, rfl⟩
  rw [hD] at HMH Hl1 Ho1 ⊢
  rw [hDX] at HC HlX HoX
  have hg1 := (Blk.new w 26 D.toArray).alloc (.cells #[.int .i64 (ix : Int), .slice (some ⟨g, off, none⟩) 67 cap, .slice pa pn pcap] 42)
  have hg2 := Blk.new (w.alloc (.cells D.toArray 26)) 42 #[.int .i64 (ix : Int), .slice (some ⟨g, off, none⟩) 67 cap, .slice pa pn pcap]
  rw [World.size_alloc] at hg2
  have hb := (below_alloc w (.cells D.toArray 26)).alloc (by simp) (.cells #[.int .i64 (ix : Int), .slice (some ⟨g, off, none⟩) 67 cap, .slice pa pn pcap] 42)
  obtain ⟨w0, hw0⟩ : ∃ w0, (w.alloc (.cells D.toArray 26)).alloc (.cells #[.int .i64 (ix : Int), .slice (some ⟨g, off, none⟩) 67 cap, .slice pa pn pcap] 42) = w0 := ⟨_, rfl⟩
  rw [hw0] at hg1 hg2 hb
  have HW0 := Lib.hid hw0
  have H1 := Lib.hid hg1
  have H2 := Lib.hid hg2
  have Hb := Lib.hid hb
  obtain ⟨c0, c1, c2, f0, f1, f2⟩ := cells3 hg2
  clear hT hdp hX hP hr hy hlt hC hq hO hdg hDG hDC hD hDX hg1 hg2 hb hw0
  go_enter Tryd.func25, Tryd.ntmps25
  go_wp2_with (first
    | (refine wpList_load_row rfl 26 _ rfl w.heap.size rfl 26 D.toArray (0, 0) _ (by rw [HW0.out]; exact H1.out) Tryd.underlying26 rfl (by rw [List.size_toArray, Hl1.out]; exact infoDg) ?_; rw [HW0.out])
    | (refine (HMH.out _ Hb.out).mono ?_
       rintro e w5 ⟨rfl, hb5⟩
       have H15 := Lib.hid (H1.out.below hb5 H1.out.lt)
       have H25 := Lib.hid (H2.out.below hb5 H2.out.lt)
       have Hb5 := Lib.hid (Hb.out.trans (hb5.mono Hb.out.size))
       clear hb5 c0 c1 c2 f0 f1 f2)
    | (refine (HDG.out _).mono ?_
       rintro e w6 ⟨rfl, hb6⟩
       have hB := Blk.new w6 55 Tryd.zeroCells55
       have h16 := H15.out.below hb6 H15.out.lt
       have h26 := H25.out.below hb6 H25.out.lt
       have hb6' := Hb5.out.trans (hb6.mono Hb5.out.size)
       have hl1 := h16.lt
       have hl2 := h26.lt
       have hBr := hB.setRow DC
       have h17 := (h16.alloc (.cells Tryd.zeroCells55 55)).farRow (show w.heap.size ≠ w6.heap.size by omega) DC
       have h27 := (h26.alloc (.cells Tryd.zeroCells55 55)).farRow (show w.heap.size + 1 ≠ w6.heap.size by omega) DC
       have hb7 := setRow_below (g := w6.heap.size) (hb6'.alloc hb6'.size (.cells Tryd.zeroCells55 55)) hb6'.size DC
       obtain ⟨w7, hw7⟩ : ∃ w7, (w6.alloc (.cells Tryd.zeroCells55 55)).setRow w6.heap.size DC = w7 := ⟨_, rfl⟩
       rw [hw7] at hBr h17 h27 hb7
       have HW7 := Lib.hid hw7
       have HB9 := Lib.hid hB
       have HB9r := Lib.hid hBr
       have H17 := Lib.hid h17
       have H27 := Lib.hid h27
       have Hb7 := Lib.hid hb7
       clear hB h16 h26 hb6 hb6' hl1 hl2 hBr h17 h27 hb7 hw7)
    | (refine wpList_store_row rfl 55 _ _ rfl w6.heap.size DC rfl rfl 55 _ HB9.out (by rw [HdC.out]; exact infoD67) (show (Tryd.zeroCells55).size = DC.size by rw [HdC.out]; rfl) Hd1.out ?_; rw [HW7.out])
    | (refine (HO.out (w.heap.size + 1) w6.heap.size _ Hb7.out (cells3 H27.out).1 (cells3 H27.out).2.1 HB9r.out).mono ?_
       rintro e w8 ⟨rfl, hb8⟩
       have hB := Blk.new w8 26 #[.int .u8 0, .int .u8 0, .int .u8 0, .int .u8 0, .int .u8 0, .int .u8 0, .int .u8 0, .int .u8 0, .int .u8 0, .int .u8 0, .int .u8 0, .int .u8 0, .int .u8 0, .int .u8 0, .int .u8 0, .int .u8 0, .int .u8 0, .int .u8 0, .int .u8 0, .int .u8 0, .int .u8 0, .int .u8 0, .int .u8 0, .int .u8 0, .int .u8 0, .int .u8 0, .int .u8 0, .int .u8 0, .int .u8 0, .int .u8 0, .int .u8 0, .int .u8 0]
       have h18 := H17.out.below hb8 H17.out.lt
       have h28 := H27.out.below hb8 H27.out.lt
       have hb8' := Hb7.out.trans (hb8.mono Hb7.out.size)
       have hl1 := h18.lt
       have hl2 := h28.lt
       have hBr := hB.setRow O.toArray
       have h19 := (h18.alloc (.cells #[.int .u8 0, .int .u8 0, .int .u8 0, .int .u8 0, .int .u8 0, .int .u8 0, .int .u8 0, .int .u8 0, .int .u8 0, .int .u8 0, .int .u8 0, .int .u8 0, .int .u8 0, .int .u8 0, .int .u8 0, .int .u8 0, .int .u8 0, .int .u8 0, .int .u8 0, .int .u8 0, .int .u8 0, .int .u8 0, .int .u8 0, .int .u8 0, .int .u8 0, .int .u8 0, .int .u8 0, .int .u8 0, .int .u8 0, .int .u8 0, .int .u8 0, .int .u8 0] 26)).farRow (show w.heap.size ≠ w8.heap.size by omega) O.toArray
       have h29 := (h28.alloc (.cells #[.int .u8 0, .int .u8 0, .int .u8 0, .int .u8 0, .int .u8 0, .int .u8 0, .int .u8 0, .int .u8 0, .int .u8 0, .int .u8 0, .int .u8 0, .int .u8 0, .int .u8 0, .int .u8 0, .int .u8 0, .int .u8 0, .int .u8 0, .int .u8 0, .int .u8 0, .int .u8 0, .int .u8 0, .int .u8 0, .int .u8 0, .int .u8 0, .int .u8 0, .int .u8 0, .int .u8 0, .int .u8 0, .int .u8 0, .int .u8 0, .int .u8 0, .int .u8 0] 26)).farRow (show w.heap.size + 1 ≠ w8.heap.size by omega) O.toArray
       have hb9 := setRow_below (g := w8.heap.size) (hb8'.alloc hb8'.size (.cells #[.int .u8 0, .int .u8 0, .int .u8 0, .int .u8 0, .int .u8 0, .int .u8 0, .int .u8 0, .int .u8 0, .int .u8 0, .int .u8 0, .int .u8 0, .int .u8 0, .int .u8 0, .int .u8 0, .int .u8 0, .int .u8 0, .int .u8 0, .int .u8 0, .int .u8 0, .int .u8 0, .int .u8 0, .int .u8 0, .int .u8 0, .int .u8 0, .int .u8 0, .int .u8 0, .int .u8 0, .int .u8 0, .int .u8 0, .int .u8 0, .int .u8 0, .int .u8 0] 26)) hb8'.size O.toArray
       obtain ⟨w9, hw9⟩ : ∃ w9, (w8.alloc (.cells #[.int .u8 0, .int .u8 0, .int .u8 0, .int .u8 0, .int .u8 0, .int .u8 0, .int .u8 0, .int .u8 0, .int .u8 0, .int .u8 0, .int .u8 0, .int .u8 0, .int .u8 0, .int .u8 0, .int .u8 0, .int .u8 0, .int .u8 0, .int .u8 0, .int .u8 0, .int .u8 0, .int .u8 0, .int .u8 0, .int .u8 0, .int .u8 0, .int .u8 0, .int .u8 0, .int .u8 0, .int .u8 0, .int .u8 0, .int .u8 0, .int .u8 0, .int .u8 0] 26)).setRow w8.heap.size O.toArray = w9 := ⟨_, rfl⟩
       rw [hw9] at hBr h19 h29 hb9
       have HW9 := Lib.hid hw9
       have HB10 := Lib.hid hB
       have HB10r := Lib.hid hBr
       have H19 := Lib.hid h19
       have Hb9 := Lib.hid hb9
       clear hB h18 h28 hb8 hb8' hl1 hl2 hBr h19 hb9 hw9
       obtain ⟨c0, c1, c2, f0, f1, f2⟩ := cells3 h29
       clear h29)
    | (refine wpList_store_row rfl 26 _ _ rfl w8.heap.size O.toArray rfl rfl 26 _ HB10.out (by rw [List.size_toArray, HlO.out]; exact infoDg) (show 32 = O.length from HlO.out.symm) (all_oneCell_toArray HoO.out) ?_; rw [HW9.out])
    | (refine wpList_load_row rfl 26 _ rfl w8.heap.size rfl 26 O.toArray (0, 0) _ HB10r.out Tryd.underlying26 rfl (by rw [List.size_toArray, HlO.out]; exact infoDg) ?_)
    | (refine (HC.out _ Hb9.out).mono ?_
       rintro e w10 ⟨rfl, hb10⟩
       have hB := Blk.new w10 26 #[.int .u8 0, .int .u8 0, .int .u8 0, .int .u8 0, .int .u8 0, .int .u8 0, .int .u8 0, .int .u8 0, .int .u8 0, .int .u8 0, .int .u8 0, .int .u8 0, .int .u8 0, .int .u8 0, .int .u8 0, .int .u8 0, .int .u8 0, .int .u8 0, .int .u8 0, .int .u8 0, .int .u8 0, .int .u8 0, .int .u8 0, .int .u8 0, .int .u8 0, .int .u8 0, .int .u8 0, .int .u8 0, .int .u8 0, .int .u8 0, .int .u8 0, .int .u8 0]
       have h18 := H19.out.below hb10 H19.out.lt
       have hb8' := Hb9.out.trans (hb10.mono Hb9.out.size)
       have hl1 := h18.lt
       have hBr := hB.setRow DX.toArray
       have h19 := (h18.alloc (.cells #[.int .u8 0, .int .u8 0, .int .u8 0, .int .u8 0, .int .u8 0, .int .u8 0, .int .u8 0, .int .u8 0, .int .u8 0, .int .u8 0, .int .u8 0, .int .u8 0, .int .u8 0, .int .u8 0, .int .u8 0, .int .u8 0, .int .u8 0, .int .u8 0, .int .u8 0, .int .u8 0, .int .u8 0, .int .u8 0, .int .u8 0, .int .u8 0, .int .u8 0, .int .u8 0, .int .u8 0, .int .u8 0, .int .u8 0, .int .u8 0, .int .u8 0, .int .u8 0] 26)).farRow (show w.heap.size ≠ w10.heap.size by omega) DX.toArray
       have hb9 := setRow_below (g := w10.heap.size) (hb8'.alloc hb8'.size (.cells #[.int .u8 0, .int .u8 0, .int .u8 0, .int .u8 0, .int .u8 0, .int .u8 0, .int .u8 0, .int .u8 0, .int .u8 0, .int .u8 0, .int .u8 0, .int .u8 0, .int .u8 0, .int .u8 0, .int .u8 0, .int .u8 0, .int .u8 0, .int .u8 0, .int .u8 0, .int .u8 0, .int .u8 0, .int .u8 0, .int .u8 0, .int .u8 0, .int .u8 0, .int .u8 0, .int .u8 0, .int .u8 0, .int .u8 0, .int .u8 0, .int .u8 0, .int .u8 0] 26)) hb8'.size DX.toArray
       obtain ⟨w11, hw11⟩ : ∃ w11, (w10.alloc (.cells #[.int .u8 0, .int .u8 0, .int .u8 0, .int .u8 0, .int .u8 0, .int .u8 0, .int .u8 0, .int .u8 0, .int .u8 0, .int .u8 0, .int .u8 0, .int .u8 0, .int .u8 0, .int .u8 0, .int .u8 0, .int .u8 0, .int .u8 0, .int .u8 0, .int .u8 0, .int .u8 0, .int .u8 0, .int .u8 0, .int .u8 0, .int .u8 0, .int .u8 0, .int .u8 0, .int .u8 0, .int .u8 0, .int .u8 0, .int .u8 0, .int .u8 0, .int .u8 0] 26)).setRow w10.heap.size DX.toArray = w11 := ⟨_, rfl⟩
       rw [hw11] at hBr h19 hb9
       have HW11 := Lib.hid hw11
       have HB11 := Lib.hid hB
       have HB11r := Lib.hid hBr
       have H111 := Lib.hid h19
       have Hb11 := Lib.hid hb9
       clear hB h18 hb10 hb8' hl1 hBr h19 hb9 hw11 c0 c1 c2 f0 f1 f2)
    | (refine wpList_store_row rfl 26 _ _ rfl w10.heap.size DX.toArray rfl rfl 26 _ HB11.out (by rw [List.size_toArray, HlX.out]; exact infoDg) (show 32 = DX.length from HlX.out.symm) (all_oneCell_toArray HoX.out) ?_; rw [HW11.out]))
  go_ret
  exact ⟨rfl, Hb11.out⟩

set_option maxRecDepth 100000 in
set_option maxHeartbeats 1000000 in
theorem climb1_bad (D : List Value) (pa : Option Addr) (pcap : Nat) (w : World) :
    Calls Tryd.prog 47 #[.agg D.toArray, .int .i64 0, .int .i64 1, .slice pa 1 pcap] w fun e w' => e = .returned (.tuple #[.agg #[.int .u8 0, .int .u8 0, .int .u8 0, .int .u8 0, .int .u8 0, .int .u8 0, .int .u8 0, .int .u8 0, .int .u8 0, .int .u8 0, .int .u8 0, .int .u8 0, .int .u8 0, .int .u8 0, .int .u8 0, .int .u8 0, .int .u8 0, .int .u8 0, .int .u8 0, .int .u8 0, .int .u8 0, .int .u8 0, .int .u8 0, .int .u8 0, .int .u8 0, .int .u8 0, .int .u8 0, .int .u8 0, .int .u8 0, .int .u8 0, .int .u8 0, .int .u8 0], .int .i64 1]) ∧ Below w.heap.size w w' := by
  have hg1 := (Blk.new w 26 D.toArray).alloc (.cells #[.int .u8 0, .int .u8 0, .int .u8 0, .int .u8 0, .int .u8 0, .int .u8 0, .int .u8 0, .int .u8 0, .int .u8 0, .int .u8 0, .int .u8 0, .int .u8 0, .int .u8 0, .int .u8 0, .int .u8 0, .int .u8 0, .int .u8 0, .int .u8 0, .int .u8 0, .int .u8 0, .int .u8 0, .int .u8 0, .int .u8 0, .int .u8 0, .int .u8 0, .int .u8 0, .int .u8 0, .int .u8 0, .int .u8 0, .int .u8 0, .int .u8 0, .int .u8 0] 26)
  have hg2 := Blk.new (w.alloc (.cells D.toArray 26)) 26 #[.int .u8 0, .int .u8 0, .int .u8 0, .int .u8 0, .int .u8 0, .int .u8 0, .int .u8 0, .int .u8 0, .int .u8 0, .int .u8 0, .int .u8 0, .int .u8 0, .int .u8 0, .int .u8 0, .int .u8 0, .int .u8 0, .int .u8 0, .int .u8 0, .int .u8 0, .int .u8 0, .int .u8 0, .int .u8 0, .int .u8 0, .int .u8 0, .int .u8 0, .int .u8 0, .int .u8 0, .int .u8 0, .int .u8 0, .int .u8 0, .int .u8 0, .int .u8 0]
  rw [World.size_alloc] at hg2
  have hb := (below_alloc w (.cells D.toArray 26)).alloc (by simp) (.cells #[.int .u8 0, .int .u8 0, .int .u8 0, .int .u8 0, .int .u8 0, .int .u8 0, .int .u8 0, .int .u8 0, .int .u8 0, .int .u8 0, .int .u8 0, .int .u8 0, .int .u8 0, .int .u8 0, .int .u8 0, .int .u8 0, .int .u8 0, .int .u8 0, .int .u8 0, .int .u8 0, .int .u8 0, .int .u8 0, .int .u8 0, .int .u8 0, .int .u8 0, .int .u8 0, .int .u8 0, .int .u8 0, .int .u8 0, .int .u8 0, .int .u8 0, .int .u8 0] 26)
  obtain ⟨w0, hw0⟩ : ∃ w0, (w.alloc (.cells D.toArray 26)).alloc (.cells #[.int .u8 0, .int .u8 0, .int .u8 0, .int .u8 0, .int .u8 0, .int .u8 0, .int .u8 0, .int .u8 0, .int .u8 0, .int .u8 0, .int .u8 0, .int .u8 0, .int .u8 0, .int .u8 0, .int .u8 0, .int .u8 0, .int .u8 0, .int .u8 0, .int .u8 0, .int .u8 0, .int .u8 0, .int .u8 0, .int .u8 0, .int .u8 0, .int .u8 0, .int .u8 0, .int .u8 0, .int .u8 0, .int .u8 0, .int .u8 0, .int .u8 0, .int .u8 0] 26) = w0 := ⟨_, rfl⟩
  rw [hw0] at hg1 hg2 hb
  have HW0 := Lib.hid hw0
  have H1 := Lib.hid hg1
  have H2 := Lib.hid hg2
  have Hb := Lib.hid hb
  clear hg1 hg2 hb hw0
  go_enter Tryd.func47, Tryd.ntmps47
  go_wp2_with fail
  rw [HW0.out]
  go_loopw [1, 2, 10] (fun i n r wr => i = .int .i64 0 ∧ n = .int .i64 1 ∧ r = .slice none 0 0 ∧ w0 = wr) (fun _ _ _ _ => 0)
  case atStart => exact ⟨rfl, rfl, rfl, rfl⟩
  case round =>
    obtain ⟨rfl, rfl, rfl, rfl⟩ := hrel
    go_wp2_with (first
      | (refine wpList_store_row rfl 26 _ _ rfl (w.heap.size + 1) #[.int .u8 0, .int .u8 0, .int .u8 0, .int .u8 0, .int .u8 0, .int .u8 0, .int .u8 0, .int .u8 0, .int .u8 0, .int .u8 0, .int .u8 0, .int .u8 0, .int .u8 0, .int .u8 0, .int .u8 0, .int .u8 0, .int .u8 0, .int .u8 0, .int .u8 0, .int .u8 0, .int .u8 0, .int .u8 0, .int .u8 0, .int .u8 0, .int .u8 0, .int .u8 0, .int .u8 0, .int .u8 0, .int .u8 0, .int .u8 0, .int .u8 0, .int .u8 0] rfl rfl 26 _ H2.out infoDg rfl (by decide +kernel) ?_))
    refine bodyPost_ret (v := .tuple #[.agg #[.int .u8 0, .int .u8 0, .int .u8 0, .int .u8 0, .int .u8 0, .int .u8 0, .int .u8 0, .int .u8 0, .int .u8 0, .int .u8 0, .int .u8 0, .int .u8 0, .int .u8 0, .int .u8 0, .int .u8 0, .int .u8 0, .int .u8 0, .int .u8 0, .int .u8 0, .int .u8 0, .int .u8 0, .int .u8 0, .int .u8 0, .int .u8 0, .int .u8 0, .int .u8 0, .int .u8 0, .int .u8 0, .int .u8 0, .int .u8 0, .int .u8 0, .int .u8 0], .int .i64 1]) (results_row_slot rfl _ _ (w.heap.size + 1) [.int .u8 0, .int .u8 0, .int .u8 0, .int .u8 0, .int .u8 0, .int .u8 0, .int .u8 0, .int .u8 0, .int .u8 0, .int .u8 0, .int .u8 0, .int .u8 0, .int .u8 0, .int .u8 0, .int .u8 0, .int .u8 0, .int .u8 0, .int .u8 0, .int .u8 0, .int .u8 0, .int .u8 0, .int .u8 0, .int .u8 0, .int .u8 0, .int .u8 0, .int .u8 0, .int .u8 0, .int .u8 0, .int .u8 0, .int .u8 0, .int .u8 0, .int .u8 0] _ _ rfl rfl (H2.out.setRow #[.int .u8 0, .int .u8 0, .int .u8 0, .int .u8 0, .int .u8 0, .int .u8 0, .int .u8 0, .int .u8 0, .int .u8 0, .int .u8 0, .int .u8 0, .int .u8 0, .int .u8 0, .int .u8 0, .int .u8 0, .int .u8 0, .int .u8 0, .int .u8 0, .int .u8 0, .int .u8 0, .int .u8 0, .int .u8 0, .int .u8 0, .int .u8 0, .int .u8 0, .int .u8 0, .int .u8 0, .int .u8 0, .int .u8 0, .int .u8 0, .int .u8 0, .int .u8 0]).range Tryd.underlying26 rfl infoDg) rfl ?_
    exact ⟨rfl, setRow_below Hb.out (by omega) _⟩

set_option maxRecDepth 100000 in
set_option maxHeartbeats 1000000 in
theorem climb2_bad_0 (D : List Value) (pa : Option Addr) (pcap : Nat) (w : World) :
    Calls Tryd.prog 47 #[.agg D.toArray, .int .i64 0, .int .i64 2, .slice pa 2 pcap] w fun e w' => e = .returned (.tuple #[.agg #[.int .u8 0, .int .u8 0, .int .u8 0, .int .u8 0, .int .u8 0, .int .u8 0, .int .u8 0, .int .u8 0, .int .u8 0, .int .u8 0, .int .u8 0, .int .u8 0, .int .u8 0, .int .u8 0, .int .u8 0, .int .u8 0, .int .u8 0, .int .u8 0, .int .u8 0, .int .u8 0, .int .u8 0, .int .u8 0, .int .u8 0, .int .u8 0, .int .u8 0, .int .u8 0, .int .u8 0, .int .u8 0, .int .u8 0, .int .u8 0, .int .u8 0, .int .u8 0], .int .i64 1]) ∧ Below w.heap.size w w' := by
  obtain ⟨iu, hiu, hu0, hu1, hu2⟩ := info_parts infoB
  have hg1 := (Blk.new w 26 D.toArray).alloc (.cells #[.int .u8 0, .int .u8 0, .int .u8 0, .int .u8 0, .int .u8 0, .int .u8 0, .int .u8 0, .int .u8 0, .int .u8 0, .int .u8 0, .int .u8 0, .int .u8 0, .int .u8 0, .int .u8 0, .int .u8 0, .int .u8 0, .int .u8 0, .int .u8 0, .int .u8 0, .int .u8 0, .int .u8 0, .int .u8 0, .int .u8 0, .int .u8 0, .int .u8 0, .int .u8 0, .int .u8 0, .int .u8 0, .int .u8 0, .int .u8 0, .int .u8 0, .int .u8 0] 26)
  have hg2 := Blk.new (w.alloc (.cells D.toArray 26)) 26 #[.int .u8 0, .int .u8 0, .int .u8 0, .int .u8 0, .int .u8 0, .int .u8 0, .int .u8 0, .int .u8 0, .int .u8 0, .int .u8 0, .int .u8 0, .int .u8 0, .int .u8 0, .int .u8 0, .int .u8 0, .int .u8 0, .int .u8 0, .int .u8 0, .int .u8 0, .int .u8 0, .int .u8 0, .int .u8 0, .int .u8 0, .int .u8 0, .int .u8 0, .int .u8 0, .int .u8 0, .int .u8 0, .int .u8 0, .int .u8 0, .int .u8 0, .int .u8 0]
  rw [World.size_alloc] at hg2
  have hb := (below_alloc w (.cells D.toArray 26)).alloc (by simp) (.cells #[.int .u8 0, .int .u8 0, .int .u8 0, .int .u8 0, .int .u8 0, .int .u8 0, .int .u8 0, .int .u8 0, .int .u8 0, .int .u8 0, .int .u8 0, .int .u8 0, .int .u8 0, .int .u8 0, .int .u8 0, .int .u8 0, .int .u8 0, .int .u8 0, .int .u8 0, .int .u8 0, .int .u8 0, .int .u8 0, .int .u8 0, .int .u8 0, .int .u8 0, .int .u8 0, .int .u8 0, .int .u8 0, .int .u8 0, .int .u8 0, .int .u8 0, .int .u8 0] 26)
  obtain ⟨w0, hw0⟩ : ∃ w0, (w.alloc (.cells D.toArray 26)).alloc (.cells #[.int .u8 0, .int .u8 0, .int .u8 0, .int .u8 0, .int .u8 0, .int .u8 0, .int .u8 0, .int .u8 0, .int .u8 0, .int .u8 0, .int .u8 0, .int .u8 0, .int .u8 0, .int .u8 0, .int .u8 0, .int .u8 0, .int .u8 0, .int .u8 0, .int .u8 0, .int .u8 0, .int .u8 0, .int .u8 0, .int .u8 0, .int .u8 0, .int .u8 0, .int .u8 0, .int .u8 0, .int .u8 0, .int .u8 0, .int .u8 0, .int .u8 0, .int .u8 0] 26) = w0 := ⟨_, rfl⟩
  rw [hw0] at hg1 hg2 hb
  have HW0 := Lib.hid hw0
  have H1 := Lib.hid hg1
  have H2 := Lib.hid hg2
  have Hb := Lib.hid hb
  clear hg1 hg2 hb hw0
  go_enter Tryd.func47, Tryd.ntmps47
  go_wp2_with fail
  rw [HW0.out]
  go_loopw [1, 2, 10] (fun i n r wr => (i = .int .i64 0 ∧ n = .int .i64 2 ∧ r = .slice none 0 0 ∧ w0 = wr) ∨ (i = .int .i64 0 ∧ n = .int .i64 1 ∧ wr.ownsRow w0.heap.size 4 1 r 1 [.bool false] ∧ Below w0.heap.size w0 wr)) (fun _ n _ _ => (intOf n).toNat)
  case atStart => exact .inl ⟨rfl, rfl, rfl, rfl⟩
  case round =>
    rcases hrel with ⟨rfl, rfl, rfl, rfl⟩ | ⟨rfl, rfl, hown, hb1⟩
    · go_wp2_with (first
        | (go_at_call 53; refine (split2 _).mono ?_; rintro _ _ ⟨rfl, rfl⟩)
        | (at_builtin
           refine wpList_append_sl _ rfl (.tmp 34) (.tmp 38) 73 rfl w0.heap.size 4 iu _ 1 Tryd.underlying73 hiu hu0 hu1 hu2 rfl (.slice none 0 0) 0 [] rfl (World.ownsRow_nil _ _ _ _) (.slice (some ⟨w0.heap.size, 0, none⟩) 1 1) 1 [.bool false] rfl ((Blk.new w0 4 #[.bool false]).sl rfl rfl) (by intro u hu; simp at hu; subst hu; rfl) (by unfold maxLen; omega) (by omega) (by rw [World.size_alloc]; omega) ?_
           intro v7 w7 hown7 hg7
           have hb7 : Below w0.heap.size w0 w7 := (below_alloc w0 _).grown hg7 (by rw [World.size_alloc]; omega) (fun k hk => by cases hk)
           have Hown7 := Lib.hid hown7
           have Hb7 := Lib.hid hb7
           clear hown7 hg7 hb7))
      go_roundw
      case rel => exact .inr ⟨rfl, rfl, Hown7.out, Hb7.out⟩
      case measure => simp [intOf]
    · obtain ⟨rg, rcap, rfl, _⟩ := hown.form (by omega)
      have H2a := Lib.hid (H2.out.below hb1 H2.out.lt)
      have Hba := Lib.hid (Hb.out.trans (hb1.mono Hb.out.size))
      clear hown hb1
      go_wp2_with (first
        | (refine wpList_store_row rfl 26 _ _ rfl (w.heap.size + 1) #[.int .u8 0, .int .u8 0, .int .u8 0, .int .u8 0, .int .u8 0, .int .u8 0, .int .u8 0, .int .u8 0, .int .u8 0, .int .u8 0, .int .u8 0, .int .u8 0, .int .u8 0, .int .u8 0, .int .u8 0, .int .u8 0, .int .u8 0, .int .u8 0, .int .u8 0, .int .u8 0, .int .u8 0, .int .u8 0, .int .u8 0, .int .u8 0, .int .u8 0, .int .u8 0, .int .u8 0, .int .u8 0, .int .u8 0, .int .u8 0, .int .u8 0, .int .u8 0] rfl rfl 26 _ H2a.out infoDg rfl (by decide +kernel) ?_))
      refine bodyPost_ret (v := .tuple #[.agg #[.int .u8 0, .int .u8 0, .int .u8 0, .int .u8 0, .int .u8 0, .int .u8 0, .int .u8 0, .int .u8 0, .int .u8 0, .int .u8 0, .int .u8 0, .int .u8 0, .int .u8 0, .int .u8 0, .int .u8 0, .int .u8 0, .int .u8 0, .int .u8 0, .int .u8 0, .int .u8 0, .int .u8 0, .int .u8 0, .int .u8 0, .int .u8 0, .int .u8 0, .int .u8 0, .int .u8 0, .int .u8 0, .int .u8 0, .int .u8 0, .int .u8 0, .int .u8 0], .int .i64 1]) (results_row_slot rfl _ _ (w.heap.size + 1) [.int .u8 0, .int .u8 0, .int .u8 0, .int .u8 0, .int .u8 0, .int .u8 0, .int .u8 0, .int .u8 0, .int .u8 0, .int .u8 0, .int .u8 0, .int .u8 0, .int .u8 0, .int .u8 0, .int .u8 0, .int .u8 0, .int .u8 0, .int .u8 0, .int .u8 0, .int .u8 0, .int .u8 0, .int .u8 0, .int .u8 0, .int .u8 0, .int .u8 0, .int .u8 0, .int .u8 0, .int .u8 0, .int .u8 0, .int .u8 0, .int .u8 0, .int .u8 0] _ _ rfl rfl (H2a.out.setRow #[.int .u8 0, .int .u8 0, .int .u8 0, .int .u8 0, .int .u8 0, .int .u8 0, .int .u8 0, .int .u8 0, .int .u8 0, .int .u8 0, .int .u8 0, .int .u8 0, .int .u8 0, .int .u8 0, .int .u8 0, .int .u8 0, .int .u8 0, .int .u8 0, .int .u8 0, .int .u8 0, .int .u8 0, .int .u8 0, .int .u8 0, .int .u8 0, .int .u8 0, .int .u8 0, .int .u8 0, .int .u8 0, .int .u8 0, .int .u8 0, .int .u8 0, .int .u8 0]).range Tryd.underlying26 rfl infoDg) rfl ?_
      exact ⟨rfl, setRow_below Hba.out (by omega) _⟩
set_option maxRecDepth 100000 in
set_option maxHeartbeats 1000000 in
theorem climb2_bad_1 (D : List Value) (pa : Option Addr) (pcap : Nat) (w : World) :
    Calls Tryd.prog 47 #[.agg D.toArray, .int .i64 1, .int .i64 2, .slice pa 2 pcap] w fun e w' => e = .returned (.tuple #[.agg #[.int .u8 0, .int .u8 0, .int .u8 0, .int .u8 0, .int .u8 0, .int .u8 0, .int .u8 0, .int .u8 0, .int .u8 0, .int .u8 0, .int .u8 0, .int .u8 0, .int .u8 0, .int .u8 0, .int .u8 0, .int .u8 0, .int .u8 0, .int .u8 0, .int .u8 0, .int .u8 0, .int .u8 0, .int .u8 0, .int .u8 0, .int .u8 0, .int .u8 0, .int .u8 0, .int .u8 0, .int .u8 0, .int .u8 0, .int .u8 0, .int .u8 0, .int .u8 0], .int .i64 1]) ∧ Below w.heap.size w w' := by
  obtain ⟨iu, hiu, hu0, hu1, hu2⟩ := info_parts infoB
  have hg1 := (Blk.new w 26 D.toArray).alloc (.cells #[.int .u8 0, .int .u8 0, .int .u8 0, .int .u8 0, .int .u8 0, .int .u8 0, .int .u8 0, .int .u8 0, .int .u8 0, .int .u8 0, .int .u8 0, .int .u8 0, .int .u8 0, .int .u8 0, .int .u8 0, .int .u8 0, .int .u8 0, .int .u8 0, .int .u8 0, .int .u8 0, .int .u8 0, .int .u8 0, .int .u8 0, .int .u8 0, .int .u8 0, .int .u8 0, .int .u8 0, .int .u8 0, .int .u8 0, .int .u8 0, .int .u8 0, .int .u8 0] 26)
  have hg2 := Blk.new (w.alloc (.cells D.toArray 26)) 26 #[.int .u8 0, .int .u8 0, .int .u8 0, .int .u8 0, .int .u8 0, .int .u8 0, .int .u8 0, .int .u8 0, .int .u8 0, .int .u8 0, .int .u8 0, .int .u8 0, .int .u8 0, .int .u8 0, .int .u8 0, .int .u8 0, .int .u8 0, .int .u8 0, .int .u8 0, .int .u8 0, .int .u8 0, .int .u8 0, .int .u8 0, .int .u8 0, .int .u8 0, .int .u8 0, .int .u8 0, .int .u8 0, .int .u8 0, .int .u8 0, .int .u8 0, .int .u8 0]
  rw [World.size_alloc] at hg2
  have hb := (below_alloc w (.cells D.toArray 26)).alloc (by simp) (.cells #[.int .u8 0, .int .u8 0, .int .u8 0, .int .u8 0, .int .u8 0, .int .u8 0, .int .u8 0, .int .u8 0, .int .u8 0, .int .u8 0, .int .u8 0, .int .u8 0, .int .u8 0, .int .u8 0, .int .u8 0, .int .u8 0, .int .u8 0, .int .u8 0, .int .u8 0, .int .u8 0, .int .u8 0, .int .u8 0, .int .u8 0, .int .u8 0, .int .u8 0, .int .u8 0, .int .u8 0, .int .u8 0, .int .u8 0, .int .u8 0, .int .u8 0, .int .u8 0] 26)
  obtain ⟨w0, hw0⟩ : ∃ w0, (w.alloc (.cells D.toArray 26)).alloc (.cells #[.int .u8 0, .int .u8 0, .int .u8 0, .int .u8 0, .int .u8 0, .int .u8 0, .int .u8 0, .int .u8 0, .int .u8 0, .int .u8 0, .int .u8 0, .int .u8 0, .int .u8 0, .int .u8 0, .int .u8 0, .int .u8 0, .int .u8 0, .int .u8 0, .int .u8 0, .int .u8 0, .int .u8 0, .int .u8 0, .int .u8 0, .int .u8 0, .int .u8 0, .int .u8 0, .int .u8 0, .int .u8 0, .int .u8 0, .int .u8 0, .int .u8 0, .int .u8 0] 26) = w0 := ⟨_, rfl⟩
  rw [hw0] at hg1 hg2 hb
  have HW0 := Lib.hid hw0
  have H1 := Lib.hid hg1
  have H2 := Lib.hid hg2
  have Hb := Lib.hid hb
  clear hg1 hg2 hb hw0
  go_enter Tryd.func47, Tryd.ntmps47
  go_wp2_with fail
  rw [HW0.out]
  go_loopw [1, 2, 10] (fun i n r wr => (i = .int .i64 1 ∧ n = .int .i64 2 ∧ r = .slice none 0 0 ∧ w0 = wr) ∨ (i = .int .i64 0 ∧ n = .int .i64 1 ∧ wr.ownsRow w0.heap.size 4 1 r 1 [.bool true] ∧ Below w0.heap.size w0 wr)) (fun _ n _ _ => (intOf n).toNat)
  case atStart => exact .inl ⟨rfl, rfl, rfl, rfl⟩
  case round =>
    rcases hrel with ⟨rfl, rfl, rfl, rfl⟩ | ⟨rfl, rfl, hown, hb1⟩
    · go_wp2_with (first
        | (go_at_call 53; refine (split2 _).mono ?_; rintro _ _ ⟨rfl, rfl⟩)
        | (at_builtin
           refine wpList_append_sl _ rfl (.tmp 34) (.tmp 38) 73 rfl w0.heap.size 4 iu _ 1 Tryd.underlying73 hiu hu0 hu1 hu2 rfl (.slice none 0 0) 0 [] rfl (World.ownsRow_nil _ _ _ _) (.slice (some ⟨w0.heap.size, 0, none⟩) 1 1) 1 [.bool true] rfl ((Blk.new w0 4 #[.bool true]).sl rfl rfl) (by intro u hu; simp at hu; subst hu; rfl) (by unfold maxLen; omega) (by omega) (by rw [World.size_alloc]; omega) ?_
           intro v7 w7 hown7 hg7
           have hb7 : Below w0.heap.size w0 w7 := (below_alloc w0 _).grown hg7 (by rw [World.size_alloc]; omega) (fun k hk => by cases hk)
           have Hown7 := Lib.hid hown7
           have Hb7 := Lib.hid hb7
           clear hown7 hg7 hb7))
      go_roundw
      case rel => exact .inr ⟨rfl, rfl, Hown7.out, Hb7.out⟩
      case measure => simp [intOf]
    · obtain ⟨rg, rcap, rfl, _⟩ := hown.form (by omega)
      have H2a := Lib.hid (H2.out.below hb1 H2.out.lt)
      have Hba := Lib.hid (Hb.out.trans (hb1.mono Hb.out.size))
      clear hown hb1
      go_wp2_with (first
        | (refine wpList_store_row rfl 26 _ _ rfl (w.heap.size + 1) #[.int .u8 0, .int .u8 0, .int .u8 0, .int .u8 0, .int .u8 0, .int .u8 0, .int .u8 0, .int .u8 0, .int .u8 0, .int .u8 0, .int .u8 0, .int .u8 0, .int .u8 0, .int .u8 0, .int .u8 0, .int .u8 0, .int .u8 0, .int .u8 0, .int .u8 0, .int .u8 0, .int .u8 0, .int .u8 0, .int .u8 0, .int .u8 0, .int .u8 0, .int .u8 0, .int .u8 0, .int .u8 0, .int .u8 0, .int .u8 0, .int .u8 0, .int .u8 0] rfl rfl 26 _ H2a.out infoDg rfl (by decide +kernel) ?_))
      refine bodyPost_ret (v := .tuple #[.agg #[.int .u8 0, .int .u8 0, .int .u8 0, .int .u8 0, .int .u8 0, .int .u8 0, .int .u8 0, .int .u8 0, .int .u8 0, .int .u8 0, .int .u8 0, .int .u8 0, .int .u8 0, .int .u8 0, .int .u8 0, .int .u8 0, .int .u8 0, .int .u8 0, .int .u8 0, .int .u8 0, .int .u8 0, .int .u8 0, .int .u8 0, .int .u8 0, .int .u8 0, .int .u8 0, .int .u8 0, .int .u8 0, .int .u8 0, .int .u8 0, .int .u8 0, .int .u8 0], .int .i64 1]) (results_row_slot rfl _ _ (w.heap.size + 1) [.int .u8 0, .int .u8 0, .int .u8 0, .int .u8 0, .int .u8 0, .int .u8 0, .int .u8 0, .int .u8 0, .int .u8 0, .int .u8 0, .int .u8 0, .int .u8 0, .int .u8 0, .int .u8 0, .int .u8 0, .int .u8 0, .int .u8 0, .int .u8 0, .int .u8 0, .int .u8 0, .int .u8 0, .int .u8 0, .int .u8 0, .int .u8 0, .int .u8 0, .int .u8 0, .int .u8 0, .int .u8 0, .int .u8 0, .int .u8 0, .int .u8 0, .int .u8 0] _ _ rfl rfl (H2a.out.setRow #[.int .u8 0, .int .u8 0, .int .u8 0, .int .u8 0, .int .u8 0, .int .u8 0, .int .u8 0, .int .u8 0, .int .u8 0, .int .u8 0, .int .u8 0, .int .u8 0, .int .u8 0, .int .u8 0, .int .u8 0, .int .u8 0, .int .u8 0, .int .u8 0, .int .u8 0, .int .u8 0, .int .u8 0, .int .u8 0, .int .u8 0, .int .u8 0, .int .u8 0, .int .u8 0, .int .u8 0, .int .u8 0, .int .u8 0, .int .u8 0, .int .u8 0, .int .u8 0]).range Tryd.underlying26 rfl infoDg) rfl ?_
      exact ⟨rfl, setRow_below Hba.out (by omega) _⟩

def zb : List UInt8 := List.replicate 32 0
theorem zb_arr : arrV zb = .agg #[.int .u8 0, .int .u8 0, .int .u8 0, .int .u8 0, .int .u8 0, .int .u8 0, .int .u8 0, .int .u8 0, .int .u8 0, .int .u8 0, .int .u8 0, .int .u8 0, .int .u8 0, .int .u8 0, .int .u8 0, .int .u8 0, .int .u8 0, .int .u8 0, .int .u8 0, .int .u8 0, .int .u8 0, .int .u8 0, .int .u8 0, .int .u8 0, .int .u8 0, .int .u8 0, .int .u8 0, .int .u8 0, .int .u8 0, .int .u8 0, .int .u8 0, .int .u8 0] := rfl
/-- Verify at what Sign gave, but with a path that is longer by one -/
theorem verify_long (seed : List UInt8) (m : Nat) (hm : m = 1 ∨ m = 2) (ix : Nat) (hix : ix < m) (msg : List UInt8) (q : Nat) (hq : msg.length = q) (hq9 : q ≤ 65536) (am : Option Addr) (capm : Nat) (v : Value) (B : Nat) (pa : Option Addr) (pcap : Nat) (w : World)
    (hy : Sl w 1 (.slice am q capm) q (bc msg)) (hv : w.ownsRow B 26 32 v 67 (prC seed ix (mh (pub seed m) ix msg) 67)) (hT : Tabs w) :
    Calls Tryd.prog 25 #[arrV (pub seed m), .int .i64 (m : Int), .slice am q capm, .agg #[.int .i64 (ix : Int), v, .slice pa m pcap]] w fun e w' => e = .returned (.bool false) ∧ Below w.heap.size w w' := by
  obtain ⟨g, cap, rfl, _, hr⟩ := own_range hv (by omega)
  have hr' := fun j hj => ends_at (o := 0) _ (prt_len seed ix (mh (pub seed m) ix msg)) 67 hr j hj
  refine verify_err (pub seed m) (pub_len seed m) m (by omega) (by omega) ix hix msg q hq hq9 am capm (prt seed ix (mh (pub seed m) ix msg)) (prt_len _ _ _) g 0 cap pa m pcap w hy hr' hT zb rfl ?_
  intro W hb
  rw [zb_arr]
  rcases hm with rfl | rfl
  · obtain rfl : ix = 0 := by omega
    exact climb1_bad _ pa pcap W
  · rcases (show ix = 0 ∨ ix = 1 by omega) with rfl | rfl
    · exact climb2_bad_0 _ pa pcap W
    · exact climb2_bad_1 _ pa pcap W
end Go.Proofs.YtiloaheaglcpbaaDoor
