/- Signing: Verify. -/
import Derived.Test.YtiloaheaglcpbaaDoorSgG1
import Derived.Test.YtiloaheaglcpbaaDoorSgE
namespace Go.Proofs.YtiloaheaglcpbaaDoor
open Go.RowKit

/-- a load of a whole row under a guard that holds -/
theorem wpList_load_row_g {P : Program} {ops : Array Oper} {rest : List Oper} {o : Oper} {a : Act} {w : World} {Q : Exit → Act → World → Prop} (hw : Region.wanted o (yielded ops a.tmps) = true) (ty : TypeId) (x : Operand) (ho : o.op = .load ty x)
    (g : Nat) (hx : a.eval x = .pointer (some ⟨g, 0, none⟩)) (t : TypeId) (cs : Array Value) (fr : Nat × Nat) (d : TypeDesc) (hg : w.heap[g]? = some (.cells cs t fr))
    (hu : P.underlying ty = some d) (hd : (match d with | .struct _ | .array _ _ => true | _ => false) = true) (hi : (P.info? ty).map (·.size) = some cs.size)
    (h : wpList P ops Q rest (a.put o.dst (.agg cs)) w) : wpList P ops Q (o :: rest) a w := by
  unfold wpList
  rw [if_pos hw]
  exact .inl (wp_load_row ty x ho g hx t cs fr d hg hu hd hi h)

set_option maxRecDepth 100000 in
set_option maxHeartbeats 1000000 in
theorem verify_any (dp : List UInt8) (hdp : dp.length = 32) (m : Nat) (h1 : 1 ≤ m) (h2 : m ≤ 256) (ix : Nat) (hix : ix < m) (msg : List UInt8) (q : Nat) (hq : msg.length = q) (hq9 : q ≤ 65536) (am : Option Addr) (capm : Nat)
    (Pt : Nat → List UInt8) (hP : ∀ j, (Pt j).length = 32) (g off cap : Nat) (pa : Option Addr) (pn pcap : Nat) (w : World) (hy : Sl w 1 (.slice am q capm) q (bc msg)) (hr : ∀ j, j < 67 → w.rangeAt g (off + j * 32) (bc (Pt j))) (hT : Tabs w)
    (X : List UInt8) (hX : X.length = 32)
    (hC : ∀ W, Below w.heap.size w W → Calls Tryd.prog 47 #[arrV (opub fun j => flw ix j (Pt j) (dig (mh dp ix msg) j) (15 - dig (mh dp ix msg) j)), .int .i64 (ix : Int), .int .i64 (m : Int), .slice pa pn pcap] W fun e w' => e = .returned (.tuple #[arrV X, .int .i64 0]) ∧ Below W.heap.size W w') :
    Calls Tryd.prog 25 #[arrV dp, .int .i64 (m : Int), .slice am q capm, .agg #[.int .i64 (ix : Int), .slice (some ⟨g, off, none⟩) 67 cap, .slice pa pn pcap]] w fun e w' => e = .returned (.bool (decide (X = dp))) ∧ Below w.heap.size w w' := by
  have hlt : g < w.heap.size := by
    have := hr 0 (by omega) 0 _ (by rw [bt_cell (d := Pt 0) (k := 0) (by rw [hP]; omega)])
    exact World.block_lt_of_cell? w _ this
  have HMH := Lib.hid (fun W (hb : Below w.heap.size w W) => messageHash_any dp hdp ix (by omega) msg q hq (by omega) _ W (hy.next hb) (hT.next hb))
  have HDG := Lib.hid (fun W => digitsOf_any (mh dp ix msg) (mh_len _ _ _) W)
  have HO := Lib.hid (fun (b7 b9 : Nat) W (hb : Below w.heap.size w W) (h70 : W.cell? ⟨b7, 0, none⟩ = some (.int .i64 (ix : Int))) (h71 : W.cell? ⟨b7, 1, none⟩ = some (.slice (some ⟨g, off, none⟩) 67 cap)) (h9 : Blk W b9 55 (digC (mh dp ix msg))) => opub_vfy Pt hP ix (by omega) (mh dp ix msg) g off cap b7 b9 W h70 h71 (fun j hj => rangeAt_below (hr j hj) hb hlt) h9 (hT.next hb))
  have HC := Lib.hid hC
  have Hl1 := Lib.hid (show (bc dp).length = 32 by rw [bc_len, hdp])
  have Ho1 := Lib.hid (bc_one dp)
  have HlO := Lib.hid (show (bc (opub fun j => flw ix j (Pt j) (dig (mh dp ix msg) j) (15 - dig (mh dp ix msg) j))).length = 32 by rw [bc_len]; rfl)
  have HoO := Lib.hid (bc_one (opub fun j => flw ix j (Pt j) (dig (mh dp ix msg) j) (15 - dig (mh dp ix msg) j)))
  have HlX := Lib.hid (show (bc X).length = 32 by rw [bc_len, hX])
  have HoX := Lib.hid (bc_one X)
  have heq := fun W => eq_dg W X dp hX hdp
  unfold arrV at HMH HDG HO HC ⊢
  obtain ⟨O, hO⟩ : ∃ O, bc (opub fun j => flw ix j (Pt j) (dig (mh dp ix msg) j) (15 - dig (mh dp ix msg) j)) = O := ⟨_, rfl⟩
  rw [hO] at HlO HoO HC
  simp only [hO] at HO
  obtain ⟨dg, hdg⟩ : ∃ dg, mh dp ix msg = dg := ⟨_, rfl⟩
  rw [hdg] at HMH HDG
  simp only [hdg] at HO
  obtain ⟨DG, hDG⟩ : ∃ DG, bc dg = DG := ⟨_, rfl⟩
  rw [hDG] at HMH HDG
  have HdC := Lib.hid (digC_size dg)
  have Hd1 := Lib.hid (digC_one dg)
  obtain ⟨DC, hDC⟩ : ∃ DC, digC dg = DC := ⟨_, rfl⟩
  rw [hDC] at HDG HdC Hd1
  simp only [hDC] at HO
  obtain ⟨D, hD⟩ : ∃ D, bc dp = D := ⟨_, rfl⟩
  obtain ⟨DX, hDX⟩ : ∃ DX, bc X = DX := ⟨_, rfl⟩
  rw [hD] at HMH Hl1 Ho1 ⊢
  rw [hDX] at HC HlX HoX
  simp only [hD, hDX] at heq
  have hg1 := (Blk.new w 26 D.toArray).alloc (.cells #[.int .i64 (ix : Int), .slice (some ⟨g, off, none⟩) 67 cap, .slice pa pn pcap] 42)
  have hg2 := Blk.new (w.alloc (.cells D.toArray 26)) 42 #[.int .i64 (ix : Int), .slice (some ⟨g, off, none⟩) 67 cap, .slice pa pn pcap]
  rw [World.size_alloc] at hg2
  have hb := (below_alloc w (.cells D.toArray 26)).alloc (by simp) (.cells #[.int .i64 (ix : Int), .slice (some ⟨g, off, none⟩) 67 cap, .slice pa pn pcap] 42)
  obtain ⟨w0, hw0⟩ : ∃ w0, (w.alloc (.cells D.toArray 26)).alloc (.cells #[.int .i64 (ix : Int), .slice (some ⟨g, off, none⟩) 67 cap, .slice pa pn pcap] 42) = w0 := ⟨_, rfl⟩
  rw [hw0] at hg1 hg2 hb
  have HW0 := Lib.hid hw0
  have H1 := Lib.hid hg1
  have H2 := Lib.hid hg2
  have Hb := Lib.hid hb
  have Heq := Lib.hid heq
  obtain ⟨c0, c1, c2, f0, f1, f2⟩ := cells3 hg2
  clear hT hdp hX hP hr hy hlt hC hq hO hdg hDG hDC hD hDX hg1 hg2 hb hw0 heq
  go_enter Tryd.func25, Tryd.ntmps25
  go_wp2_with (first
    | (refine wpList_load_row rfl 26 _ rfl w.heap.size rfl 26 D.toArray (0, 0) _ (by rw [HW0.out]; exact H1.out) Tryd.underlying26 rfl (by rw [List.size_toArray, Hl1.out]; exact infoDg) ?_; rw [HW0.out])
    | (refine (HMH.out _ Hb.out).mono ?_
       rintro e w5 ⟨rfl, hb5⟩
       have H15 := Lib.hid (H1.out.below hb5 H1.out.lt)
       have H25 := Lib.hid (H2.out.below hb5 H2.out.lt)
       have Hb5 := Lib.hid (Hb.out.trans (hb5.mono Hb.out.size))
       clear hb5 c0 c1 c2 f0 f1 f2)
    | (refine (HDG.out _).mono ?_
       rintro e w6 ⟨rfl, hb6⟩
       have hB := Blk.new w6 55 Tryd.zeroCells55
       have h16 := H15.out.below hb6 H15.out.lt
       have h26 := H25.out.below hb6 H25.out.lt
       have hb6' := Hb5.out.trans (hb6.mono Hb5.out.size)
       have hl1 := h16.lt
       have hl2 := h26.lt
       have hBr := hB.setRow DC
       have h17 := (h16.alloc (.cells Tryd.zeroCells55 55)).farRow (show w.heap.size ≠ w6.heap.size by omega) DC
       have h27 := (h26.alloc (.cells Tryd.zeroCells55 55)).farRow (show w.heap.size + 1 ≠ w6.heap.size by omega) DC
       have hb7 := setRow_below (g := w6.heap.size) (hb6'.alloc hb6'.size (.cells Tryd.zeroCells55 55)) hb6'.size DC
       obtain ⟨w7, hw7⟩ : ∃ w7, (w6.alloc (.cells Tryd.zeroCells55 55)).setRow w6.heap.size DC = w7 := ⟨_, rfl⟩
       rw [hw7] at hBr h17 h27 hb7
       have HW7 := Lib.hid hw7
       have HB9 := Lib.hid hB
       have HB9r := Lib.hid hBr
       have H17 := Lib.hid h17
       have H27 := Lib.hid h27
       have Hb7 := Lib.hid hb7
       clear hB h16 h26 hb6 hb6' hl1 hl2 hBr h17 h27 hb7 hw7)
    | (refine wpList_store_row rfl 55 _ _ rfl w6.heap.size DC rfl rfl 55 _ HB9.out (by rw [HdC.out]; exact infoD67) (show (Tryd.zeroCells55).size = DC.size by rw [HdC.out]; rfl) Hd1.out ?_; rw [HW7.out])
    | (refine (HO.out (w.heap.size + 1) w6.heap.size _ Hb7.out (cells3 H27.out).1 (cells3 H27.out).2.1 HB9r.out).mono ?_
       rintro e w8 ⟨rfl, hb8⟩
       have hB := Blk.new w8 26 #[.int .u8 0, .int .u8 0, .int .u8 0, .int .u8 0, .int .u8 0, .int .u8 0, .int .u8 0, .int .u8 0, .int .u8 0, .int .u8 0, .int .u8 0, .int .u8 0, .int .u8 0, .int .u8 0, .int .u8 0, .int .u8 0, .int .u8 0, .int .u8 0, .int .u8 0, .int .u8 0, .int .u8 0, .int .u8 0, .int .u8 0, .int .u8 0, .int .u8 0, .int .u8 0, .int .u8 0, .int .u8 0, .int .u8 0, .int .u8 0, .int .u8 0, .int .u8 0]
       have h18 := H17.out.below hb8 H17.out.lt
       have h28 := H27.out.below hb8 H27.out.lt
       have hb8' := Hb7.out.trans (hb8.mono Hb7.out.size)
       have hl1 := h18.lt
       have hl2 := h28.lt
       have hBr := hB.setRow O.toArray
       have h19 := (h18.alloc (.cells #[.int .u8 0, .int .u8 0, .int .u8 0, .int .u8 0, .int .u8 0, .int .u8 0, .int .u8 0, .int .u8 0, .int .u8 0, .int .u8 0, .int .u8 0, .int .u8 0, .int .u8 0, .int .u8 0, .int .u8 0, .int .u8 0, .int .u8 0, .int .u8 0, .int .u8 0, .int .u8 0, .int .u8 0, .int .u8 0, .int .u8 0, .int .u8 0, .int .u8 0, .int .u8 0, .int .u8 0, .int .u8 0, .int .u8 0, .int .u8 0, .int .u8 0, .int .u8 0] 26)).farRow (show w.heap.size ≠ w8.heap.size by omega) O.toArray
       have h29 := (h28.alloc (.cells #[.int .u8 0, .int .u8 0, .int .u8 0, .int .u8 0, .int .u8 0, .int .u8 0, .int .u8 0, .int .u8 0, .int .u8 0, .int .u8 0, .int .u8 0, .int .u8 0, .int .u8 0, .int .u8 0, .int .u8 0, .int .u8 0, .int .u8 0, .int .u8 0, .int .u8 0, .int .u8 0, .int .u8 0, .int .u8 0, .int .u8 0, .int .u8 0, .int .u8 0, .int .u8 0, .int .u8 0, .int .u8 0, .int .u8 0, .int .u8 0, .int .u8 0, .int .u8 0] 26)).farRow (show w.heap.size + 1 ≠ w8.heap.size by omega) O.toArray
       have hb9 := setRow_below (g := w8.heap.size) (hb8'.alloc hb8'.size (.cells #[.int .u8 0, .int .u8 0, .int .u8 0, .int .u8 0, .int .u8 0, .int .u8 0, .int .u8 0, .int .u8 0, .int .u8 0, .int .u8 0, .int .u8 0, .int .u8 0, .int .u8 0, .int .u8 0, .int .u8 0, .int .u8 0, .int .u8 0, .int .u8 0, .int .u8 0, .int .u8 0, .int .u8 0, .int .u8 0, .int .u8 0, .int .u8 0, .int .u8 0, .int .u8 0, .int .u8 0, .int .u8 0, .int .u8 0, .int .u8 0, .int .u8 0, .int .u8 0] 26)) hb8'.size O.toArray
       obtain ⟨w9, hw9⟩ : ∃ w9, (w8.alloc (.cells #[.int .u8 0, .int .u8 0, .int .u8 0, .int .u8 0, .int .u8 0, .int .u8 0, .int .u8 0, .int .u8 0, .int .u8 0, .int .u8 0, .int .u8 0, .int .u8 0, .int .u8 0, .int .u8 0, .int .u8 0, .int .u8 0, .int .u8 0, .int .u8 0, .int .u8 0, .int .u8 0, .int .u8 0, .int .u8 0, .int .u8 0, .int .u8 0, .int .u8 0, .int .u8 0, .int .u8 0, .int .u8 0, .int .u8 0, .int .u8 0, .int .u8 0, .int .u8 0] 26)).setRow w8.heap.size O.toArray = w9 := ⟨_, rfl⟩
       rw [hw9] at hBr h19 h29 hb9
       have HW9 := Lib.hid hw9
       have HB10 := Lib.hid hB
       have HB10r := Lib.hid hBr
       have H19 := Lib.hid h19
       have Hb9 := Lib.hid hb9
       clear hB h18 h28 hb8 hb8' hl1 hl2 hBr h19 hb9 hw9
       obtain ⟨c0, c1, c2, f0, f1, f2⟩ := cells3 h29
       clear h29)
    | (refine wpList_store_row rfl 26 _ _ rfl w8.heap.size O.toArray rfl rfl 26 _ HB10.out (by rw [List.size_toArray, HlO.out]; exact infoDg) (show 32 = O.length from HlO.out.symm) (all_oneCell_toArray HoO.out) ?_; rw [HW9.out])
    | (refine wpList_load_row rfl 26 _ rfl w8.heap.size rfl 26 O.toArray (0, 0) _ HB10r.out Tryd.underlying26 rfl (by rw [List.size_toArray, HlO.out]; exact infoDg) ?_)
    | (refine (HC.out _ Hb9.out).mono ?_
       rintro e w10 ⟨rfl, hb10⟩
       have hB := Blk.new w10 26 #[.int .u8 0, .int .u8 0, .int .u8 0, .int .u8 0, .int .u8 0, .int .u8 0, .int .u8 0, .int .u8 0, .int .u8 0, .int .u8 0, .int .u8 0, .int .u8 0, .int .u8 0, .int .u8 0, .int .u8 0, .int .u8 0, .int .u8 0, .int .u8 0, .int .u8 0, .int .u8 0, .int .u8 0, .int .u8 0, .int .u8 0, .int .u8 0, .int .u8 0, .int .u8 0, .int .u8 0, .int .u8 0, .int .u8 0, .int .u8 0, .int .u8 0, .int .u8 0]
       have h18 := H19.out.below hb10 H19.out.lt
       have hb8' := Hb9.out.trans (hb10.mono Hb9.out.size)
       have hl1 := h18.lt
       have hBr := hB.setRow DX.toArray
       have h19 := (h18.alloc (.cells #[.int .u8 0, .int .u8 0, .int .u8 0, .int .u8 0, .int .u8 0, .int .u8 0, .int .u8 0, .int .u8 0, .int .u8 0, .int .u8 0, .int .u8 0, .int .u8 0, .int .u8 0, .int .u8 0, .int .u8 0, .int .u8 0, .int .u8 0, .int .u8 0, .int .u8 0, .int .u8 0, .int .u8 0, .int .u8 0, .int .u8 0, .int .u8 0, .int .u8 0, .int .u8 0, .int .u8 0, .int .u8 0, .int .u8 0, .int .u8 0, .int .u8 0, .int .u8 0] 26)).farRow (show w.heap.size ≠ w10.heap.size by omega) DX.toArray
       have hb9 := setRow_below (g := w10.heap.size) (hb8'.alloc hb8'.size (.cells #[.int .u8 0, .int .u8 0, .int .u8 0, .int .u8 0, .int .u8 0, .int .u8 0, .int .u8 0, .int .u8 0, .int .u8 0, .int .u8 0, .int .u8 0, .int .u8 0, .int .u8 0, .int .u8 0, .int .u8 0, .int .u8 0, .int .u8 0, .int .u8 0, .int .u8 0, .int .u8 0, .int .u8 0, .int .u8 0, .int .u8 0, .int .u8 0, .int .u8 0, .int .u8 0, .int .u8 0, .int .u8 0, .int .u8 0, .int .u8 0, .int .u8 0, .int .u8 0] 26)) hb8'.size DX.toArray
       obtain ⟨w11, hw11⟩ : ∃ w11, (w10.alloc (.cells #[.int .u8 0, .int .u8 0, .int .u8 0, .int .u8 0, .int .u8 0, .int .u8 0, .int .u8 0, .int .u8 0, .int .u8 0, .int .u8 0, .int .u8 0, .int .u8 0, .int .u8 0, .int .u8 0, .int .u8 0, .int .u8 0, .int .u8 0, .int .u8 0, .int .u8 0, .int .u8 0, .int .u8 0, .int .u8 0, .int .u8 0, .int .u8 0, .int .u8 0, .int .u8 0, .int .u8 0, .int .u8 0, .int .u8 0, .int .u8 0, .int .u8 0, .int .u8 0] 26)).setRow w10.heap.size DX.toArray = w11 := ⟨_, rfl⟩
       rw [hw11] at hBr h19 hb9
       have HW11 := Lib.hid hw11
       have HB11 := Lib.hid hB
       have HB11r := Lib.hid hBr
       have H111 := Lib.hid h19
       have Hb11 := Lib.hid hb9
       have heq := Heq.out w11
       clear hB h18 hb10 hb8' hl1 hBr h19 hb9 hw11 c0 c1 c2 f0 f1 f2)
    | (refine wpList_store_row rfl 26 _ _ rfl w10.heap.size DX.toArray rfl rfl 26 _ HB11.out (by rw [List.size_toArray, HlX.out]; exact infoDg) (show 32 = DX.length from HlX.out.symm) (all_oneCell_toArray HoX.out) ?_; rw [HW11.out])
    | (refine wpList_load_row_g (by first | rfl | simp [Region.wanted, yielded]) 26 _ rfl w10.heap.size rfl 26 DX.toArray (0, 0) _ HB11r.out Tryd.underlying26 rfl (by rw [List.size_toArray, HlX.out]; exact infoDg) ?_)
    | (refine wpList_load_row_g (by first | rfl | simp [Region.wanted, yielded]) 26 _ rfl w.heap.size rfl 26 D.toArray (0, 0) _ H111.out Tryd.underlying26 rfl (by rw [List.size_toArray, Hl1.out]; exact infoDg) ?_))
  go_ret
  exact ⟨rfl, Hb11.out⟩
end Go.Proofs.YtiloaheaglcpbaaDoor
