/- Digests: Climb in a list of two. -/
import Derived.Test.YtiloaheaglcpbaaDoorSgF9
namespace Go.Proofs.YtiloaheaglcpbaaDoor
open Go.RowKit

theorem cell_setRow_far {w : World} {g h : Nat} (hne : g ≠ h) (i : Nat) (cs : Array Value) : (w.setRow g cs).cell? ⟨h, i, none⟩ = w.cell? ⟨h, i, none⟩ := by
  unfold World.cell?
  simp only [setRow_other w g h cs (Ne.symm hne)]
set_option maxRecDepth 100000 in
set_option maxHeartbeats 1000000 in
theorem climb2_0 (d p : List UInt8) (hd : d.length = 32) (hp : p.length = 32) (pg po pcap : Nat) (w : World) (hr : w.rangeAt pg po (bc p)) (hT : Tabs w) :
    Calls Tryd.prog 47 #[arrV d, .int .i64 0, .int .i64 2, .slice (some ⟨pg, po, none⟩) 1 pcap] w fun e w' => e = .returned (.tuple #[arrV (nd (lf d) p), .int .i64 0]) ∧ Below w.heap.size w w' := by
  obtain ⟨iu, hiu, hu0, hu1, hu2⟩ := info_parts infoB
  have hlt : pg < w.heap.size := by
    have := hr 0 _ (by rw [bt_cell (d := p) (k := 0) (by omega)])
    exact World.block_lt_of_cell? w _ this
  have HL := Lib.hid (fun W (hb : Below w.heap.size w W) => leaf_any d hd W (hT.next hb))
  have HN := Lib.hid (fun W (hb : Below w.heap.size w W) => node_any (lf d) p (by first | exact hp | rfl) (by first | exact hp | rfl) W (hT.next hb))
  have HR := Lib.hid (fun W (hb : Below w.heap.size w W) => rangeAt_below hr hb hlt)
  have Hl1 := Lib.hid (show (bc d).length = 32 by rw [bc_len, hd])
  have Hlp := Lib.hid (show (bc p).length = 32 by rw [bc_len, hp])
  have Hop := Lib.hid (bc_one p)
  have Hl2 := Lib.hid (show (bc (lf d)).length = 32 by rw [bc_len, lf_len])
  have Ho2 := Lib.hid (bc_one (lf d))
  have Hl3 := Lib.hid (show (bc (nd (lf d) p)).length = 32 by rw [bc_len]; rfl)
  have Ho3 := Lib.hid (bc_one (nd (lf d) p))
  unfold arrV at HL HN ⊢
  obtain ⟨D3, hD3⟩ : ∃ D3, bc (nd (lf d) p) = D3 := ⟨_, rfl⟩
  rw [hD3] at HN Hl3 Ho3 ⊢
  obtain ⟨D2, hD2⟩ : ∃ D2, bc (lf d) = D2 := ⟨_, rfl⟩
  obtain ⟨D, hD⟩ : ∃ D, bc d = D := ⟨_, rfl⟩
  obtain ⟨P, hPd⟩ : ∃ P, bc p = P := ⟨_, rfl⟩
  rw [hD2] at HL HN Hl2 Ho2
  rw [hD] at HL Hl1 ⊢
  rw [hPd] at HN HR Hlp Hop
  have hg1 := (Blk.new w 26 D.toArray).alloc (.cells #[.int .u8 0, .int .u8 0, .int .u8 0, .int .u8 0, .int .u8 0, .int .u8 0, .int .u8 0, .int .u8 0, .int .u8 0, .int .u8 0, .int .u8 0, .int .u8 0, .int .u8 0, .int .u8 0, .int .u8 0, .int .u8 0, .int .u8 0, .int .u8 0, .int .u8 0, .int .u8 0, .int .u8 0, .int .u8 0, .int .u8 0, .int .u8 0, .int .u8 0, .int .u8 0, .int .u8 0, .int .u8 0, .int .u8 0, .int .u8 0, .int .u8 0, .int .u8 0] 26)
  have hg2 := Blk.new (w.alloc (.cells D.toArray 26)) 26 #[.int .u8 0, .int .u8 0, .int .u8 0, .int .u8 0, .int .u8 0, .int .u8 0, .int .u8 0, .int .u8 0, .int .u8 0, .int .u8 0, .int .u8 0, .int .u8 0, .int .u8 0, .int .u8 0, .int .u8 0, .int .u8 0, .int .u8 0, .int .u8 0, .int .u8 0, .int .u8 0, .int .u8 0, .int .u8 0, .int .u8 0, .int .u8 0, .int .u8 0, .int .u8 0, .int .u8 0, .int .u8 0, .int .u8 0, .int .u8 0, .int .u8 0, .int .u8 0]
  rw [World.size_alloc] at hg2
  have hb := (below_alloc w (.cells D.toArray 26)).alloc (by simp) (.cells #[.int .u8 0, .int .u8 0, .int .u8 0, .int .u8 0, .int .u8 0, .int .u8 0, .int .u8 0, .int .u8 0, .int .u8 0, .int .u8 0, .int .u8 0, .int .u8 0, .int .u8 0, .int .u8 0, .int .u8 0, .int .u8 0, .int .u8 0, .int .u8 0, .int .u8 0, .int .u8 0, .int .u8 0, .int .u8 0, .int .u8 0, .int .u8 0, .int .u8 0, .int .u8 0, .int .u8 0, .int .u8 0, .int .u8 0, .int .u8 0, .int .u8 0, .int .u8 0] 26)
  obtain ⟨w0, hw0⟩ : ∃ w0, (w.alloc (.cells D.toArray 26)).alloc (.cells #[.int .u8 0, .int .u8 0, .int .u8 0, .int .u8 0, .int .u8 0, .int .u8 0, .int .u8 0, .int .u8 0, .int .u8 0, .int .u8 0, .int .u8 0, .int .u8 0, .int .u8 0, .int .u8 0, .int .u8 0, .int .u8 0, .int .u8 0, .int .u8 0, .int .u8 0, .int .u8 0, .int .u8 0, .int .u8 0, .int .u8 0, .int .u8 0, .int .u8 0, .int .u8 0, .int .u8 0, .int .u8 0, .int .u8 0, .int .u8 0, .int .u8 0, .int .u8 0] 26) = w0 := ⟨_, rfl⟩
  rw [hw0] at hg1 hg2 hb
  have HW0 := Lib.hid hw0
  have H1 := Lib.hid hg1
  have H2 := Lib.hid hg2
  have Hb := Lib.hid hb
  clear hT hd hp hr hlt hD hD2 hD3 hPd hg1 hg2 hb hw0
  go_enter Tryd.func47, Tryd.ntmps47
  go_wp2_with fail
  rw [HW0.out]
  go_loopw [1, 2, 10] (fun i n r wr => (i = .int .i64 0 ∧ n = .int .i64 2 ∧ r = .slice none 0 0 ∧ w0 = wr) ∨ (i = .int .i64 0 ∧ n = .int .i64 1 ∧ wr.ownsRow w0.heap.size 4 1 r 1 [.bool false] ∧ Below w0.heap.size w0 wr)) (fun _ n _ _ => (intOf n).toNat)
  case atStart => exact .inl ⟨rfl, rfl, rfl, rfl⟩
  case round =>
    rcases hrel with ⟨rfl, rfl, rfl, rfl⟩ | ⟨rfl, rfl, hown, hb1⟩
    · go_wp2_with (first
        | (go_at_call 53; refine (split2 _).mono ?_; rintro _ _ ⟨rfl, rfl⟩)
        | (at_builtin
           refine wpList_append_sl _ rfl (.tmp 34) (.tmp 38) 73 rfl w0.heap.size 4 iu _ 1 Tryd.underlying73 hiu hu0 hu1 hu2 rfl (.slice none 0 0) 0 [] rfl (World.ownsRow_nil _ _ _ _) (.slice (some ⟨w0.heap.size, 0, none⟩) 1 1) 1 [.bool false] rfl ((Blk.new w0 4 #[.bool false]).sl rfl rfl) (by intro u hu; simp at hu; subst hu; rfl) (by unfold maxLen; omega) (by omega) (by rw [World.size_alloc]; omega) ?_
           intro v7 w7 hown7 hg7
           have hb7 : Below w0.heap.size w0 w7 := (below_alloc w0 _).grown hg7 (by rw [World.size_alloc]; omega) (fun k hk => by cases hk)
           have Hown7 := Lib.hid hown7
           have Hb7 := Lib.hid hb7
           clear hown7 hg7 hb7))
      go_roundw
      case rel => exact .inr ⟨rfl, rfl, Hown7.out, Hb7.out⟩
      case measure => simp [intOf]
    · obtain ⟨rg, rcap, rfl, _⟩ := hown.form (by omega)
      have hrc : wr.cell? ⟨rg, 0, none⟩ = some (.bool false) := hown.cellAt 0 (by omega)
      have hrl : rg < wr.heap.size := World.block_lt_of_cell? wr _ hrc
      have H1a := Lib.hid (H1.out.below hb1 H1.out.lt)
      have H2a := Lib.hid (H2.out.below hb1 H2.out.lt)
      have Hba := Lib.hid (Hb.out.trans (hb1.mono Hb.out.size))
      have Hrc := Lib.hid hrc
      have hrg : w0.heap.size ≤ rg := (hown.lt _ rfl).1
      have hz0 : w.heap.size + 1 < w0.heap.size := H2.out.lt
      clear hown hb1 hrc
      go_wp2_with (first
        | (refine wpList_load_row rfl 26 _ rfl w.heap.size rfl 26 D.toArray (0, 0) _ H1a.out Tryd.underlying26 rfl (by rw [List.size_toArray, Hl1.out]; exact infoDg) ?_)
        | (refine (HL.out _ Hba.out).mono ?_
           rintro e w5 ⟨rfl, hb5⟩
           have H25 := Lib.hid (H2a.out.below hb5 H2a.out.lt)
           have Hb5 := Lib.hid (Hba.out.trans (hb5.mono Hba.out.size))
           have Hrc5 := Lib.hid ((hb5.cell (p := ⟨rg, 0, none⟩) hrl).trans Hrc.out)
           have Hrl5 := Lib.hid (show rg < w5.heap.size by have := hb5.size; omega)
           clear hb5)
        | (refine wpList_store_row rfl 26 _ _ rfl (w.heap.size + 1) D2.toArray rfl rfl 26 _ H25.out (by rw [List.size_toArray, Hl2.out]; exact infoDg) (show 32 = D2.length from Hl2.out.symm) (all_oneCell_toArray Ho2.out) ?_))
      have hR := H25.out.setRow D2.toArray
      have hBR := setRow_below (g := w.heap.size + 1) Hb5.out (by omega) D2.toArray
      have hrc6 := (cell_setRow_far (w := w5) (show w.heap.size + 1 ≠ rg by omega) 0 D2.toArray).trans Hrc5.out
      obtain ⟨w6, hw6⟩ : ∃ w6, w5.setRow (w.heap.size + 1) D2.toArray = w6 := ⟨_, rfl⟩
      rw [hw6] at hR hBR hrc6 ⊢
      have HRw := Lib.hid hR
      have HBR := Lib.hid hBR
      have Hrc6 := Lib.hid hrc6
      clear hR hBR hw6 hrc6
      go_loopw [60] (fun i wr => (i = .int .i64 0 ∧ w6 = wr) ∨ (i = .int .i64 1 ∧ Blk wr (w.heap.size + 1) 26 D3.toArray ∧ Below w.heap.size w wr)) (fun i _ => 1 - (intOf i).toNat)
      case atStart => exact .inl ⟨rfl, rfl⟩
      case round =>
        rcases hrel with ⟨rfl, rfl⟩ | ⟨rfl, hf, hbf⟩
        · have hrl6 : rg < w6.heap.size := World.block_lt_of_cell? w6 _ Hrc6.out
          have hsz6 : w.heap.size + 1 < w6.heap.size := HRw.out.lt
          have hB5 := Blk.new w6 26 #[.int .u8 0, .int .u8 0, .int .u8 0, .int .u8 0, .int .u8 0, .int .u8 0, .int .u8 0, .int .u8 0, .int .u8 0, .int .u8 0, .int .u8 0, .int .u8 0, .int .u8 0, .int .u8 0, .int .u8 0, .int .u8 0, .int .u8 0, .int .u8 0, .int .u8 0, .int .u8 0, .int .u8 0, .int .u8 0, .int .u8 0, .int .u8 0, .int .u8 0, .int .u8 0, .int .u8 0, .int .u8 0, .int .u8 0, .int .u8 0, .int .u8 0, .int .u8 0]
          have hB5' := hB5.setRow P.toArray
          have hT8 := (HRw.out.alloc (.cells #[.int .u8 0, .int .u8 0, .int .u8 0, .int .u8 0, .int .u8 0, .int .u8 0, .int .u8 0, .int .u8 0, .int .u8 0, .int .u8 0, .int .u8 0, .int .u8 0, .int .u8 0, .int .u8 0, .int .u8 0, .int .u8 0, .int .u8 0, .int .u8 0, .int .u8 0, .int .u8 0, .int .u8 0, .int .u8 0, .int .u8 0, .int .u8 0, .int .u8 0, .int .u8 0, .int .u8 0, .int .u8 0, .int .u8 0, .int .u8 0, .int .u8 0, .int .u8 0] 26)).farRow (show w.heap.size + 1 ≠ w6.heap.size by omega) P.toArray
          have hrc7 := (cell_setRow_far (w := w6.alloc (.cells #[.int .u8 0, .int .u8 0, .int .u8 0, .int .u8 0, .int .u8 0, .int .u8 0, .int .u8 0, .int .u8 0, .int .u8 0, .int .u8 0, .int .u8 0, .int .u8 0, .int .u8 0, .int .u8 0, .int .u8 0, .int .u8 0, .int .u8 0, .int .u8 0, .int .u8 0, .int .u8 0, .int .u8 0, .int .u8 0, .int .u8 0, .int .u8 0, .int .u8 0, .int .u8 0, .int .u8 0, .int .u8 0, .int .u8 0, .int .u8 0, .int .u8 0, .int .u8 0] 26)) (show w6.heap.size ≠ rg by omega) 0 P.toArray).trans (((below_alloc w6 (.cells #[.int .u8 0, .int .u8 0, .int .u8 0, .int .u8 0, .int .u8 0, .int .u8 0, .int .u8 0, .int .u8 0, .int .u8 0, .int .u8 0, .int .u8 0, .int .u8 0, .int .u8 0, .int .u8 0, .int .u8 0, .int .u8 0, .int .u8 0, .int .u8 0, .int .u8 0, .int .u8 0, .int .u8 0, .int .u8 0, .int .u8 0, .int .u8 0, .int .u8 0, .int .u8 0, .int .u8 0, .int .u8 0, .int .u8 0, .int .u8 0, .int .u8 0, .int .u8 0] 26)).cell (p := ⟨rg, 0, none⟩) hrl6).trans Hrc6.out)
          have hb7 := setRow_below (g := w6.heap.size) (HBR.out.alloc HBR.out.size (.cells #[.int .u8 0, .int .u8 0, .int .u8 0, .int .u8 0, .int .u8 0, .int .u8 0, .int .u8 0, .int .u8 0, .int .u8 0, .int .u8 0, .int .u8 0, .int .u8 0, .int .u8 0, .int .u8 0, .int .u8 0, .int .u8 0, .int .u8 0, .int .u8 0, .int .u8 0, .int .u8 0, .int .u8 0, .int .u8 0, .int .u8 0, .int .u8 0, .int .u8 0, .int .u8 0, .int .u8 0, .int .u8 0, .int .u8 0, .int .u8 0, .int .u8 0, .int .u8 0] 26)) HBR.out.size P.toArray
          obtain ⟨w7, hw7⟩ : ∃ w7, (w6.alloc (.cells #[.int .u8 0, .int .u8 0, .int .u8 0, .int .u8 0, .int .u8 0, .int .u8 0, .int .u8 0, .int .u8 0, .int .u8 0, .int .u8 0, .int .u8 0, .int .u8 0, .int .u8 0, .int .u8 0, .int .u8 0, .int .u8 0, .int .u8 0, .int .u8 0, .int .u8 0, .int .u8 0, .int .u8 0, .int .u8 0, .int .u8 0, .int .u8 0, .int .u8 0, .int .u8 0, .int .u8 0, .int .u8 0, .int .u8 0, .int .u8 0, .int .u8 0, .int .u8 0] 26)).setRow w6.heap.size P.toArray = w7 := ⟨_, rfl⟩
          rw [hw7] at hB5' hT8 hrc7 hb7
          have HW7 := Lib.hid hw7
          have HB5 := Lib.hid hB5
          have HB5' := Lib.hid hB5'
          have HT8 := Lib.hid hT8
          have Hb7 := Lib.hid hb7
          clear hB5 hB5' hT8 hb7 hw7 hrl6
          go_wp2_with (first
            | (refine wpList_load_mid rfl 26 _ rfl pg po rfl P _ (HR.out _ HBR.out) Tryd.underlying26 rfl (by rw [Hlp.out]; exact infoDg) ?_)
            | (refine wpList_store_row rfl 26 _ _ rfl w6.heap.size P.toArray rfl rfl 26 _ HB5.out (by rw [List.size_toArray, Hlp.out]; exact infoDg) (show 32 = P.length from Hlp.out.symm) (all_oneCell_toArray Hop.out) ?_; rw [HW7.out])
            | (refine wpList_load_row rfl 26 _ rfl w6.heap.size rfl 26 P.toArray (0, 0) _ HB5'.out Tryd.underlying26 rfl (by rw [List.size_toArray, Hlp.out]; exact infoDg) ?_)
            | (refine wpList_load_row rfl 26 _ rfl (w.heap.size + 1) rfl 26 D2.toArray (0, 0) _ HT8.out Tryd.underlying26 rfl (by rw [List.size_toArray, Hl2.out]; exact infoDg) ?_)
            | (refine (HN.out _ Hb7.out).mono ?_
               rintro e w8 ⟨rfl, hb8⟩
               have H28 := Lib.hid (HT8.out.below hb8 HT8.out.lt)
               have Hb8 := Lib.hid (Hb7.out.trans (hb8.mono Hb7.out.size))
               clear hb8)
            | (refine wpList_store_row rfl 26 _ _ rfl (w.heap.size + 1) D3.toArray rfl rfl 26 _ H28.out (by rw [List.size_toArray, Hl3.out]; exact infoDg) (show D2.length = D3.length by rw [Hl2.out, Hl3.out]) (all_oneCell_toArray Ho3.out) ?_))
          go_roundw
          case rel => exact .inr ⟨rfl, H28.out.setRow D3.toArray, setRow_below Hb8.out (by omega) _⟩
          case measure => simp [intOf]
        · have HF := Lib.hid hf
          have HBF := Lib.hid hbf
          clear hf hbf
          go_wp2_with (first
            | (refine wpList_load_row rfl 26 _ rfl (w.heap.size + 1) rfl 26 D3.toArray (0, 0) _ HF.out Tryd.underlying26 rfl (by rw [List.size_toArray, Hl3.out]; exact infoDg) ?_)
            | (refine wpList_store_row rfl 26 _ _ rfl (w.heap.size + 1) D3.toArray rfl rfl 26 _ HF.out (by rw [List.size_toArray, Hl3.out]; exact infoDg) (show D3.length = D3.length from rfl) (all_oneCell_toArray Ho3.out) ?_))
          refine bodyPost_ret (v := .tuple #[.agg D3.toArray, .int .i64 0]) (results_row_slot rfl _ _ (w.heap.size + 1) D3 _ _ rfl rfl (HF.out.setRow D3.toArray).range Tryd.underlying26 rfl (by rw [Hl3.out]; exact infoDg)) rfl ?_
          exact ⟨rfl, setRow_below HBF.out (by omega) _⟩
set_option maxRecDepth 100000 in
set_option maxHeartbeats 1000000 in
theorem climb2_1 (d p : List UInt8) (hd : d.length = 32) (hp : p.length = 32) (pg po pcap : Nat) (w : World) (hr : w.rangeAt pg po (bc p)) (hT : Tabs w) :
    Calls Tryd.prog 47 #[arrV d, .int .i64 1, .int .i64 2, .slice (some ⟨pg, po, none⟩) 1 pcap] w fun e w' => e = .returned (.tuple #[arrV (nd p (lf d)), .int .i64 0]) ∧ Below w.heap.size w w' := by
  obtain ⟨iu, hiu, hu0, hu1, hu2⟩ := info_parts infoB
  have hlt : pg < w.heap.size := by
    have := hr 0 _ (by rw [bt_cell (d := p) (k := 0) (by omega)])
    exact World.block_lt_of_cell? w _ this
  have HL := Lib.hid (fun W (hb : Below w.heap.size w W) => leaf_any d hd W (hT.next hb))
  have HN := Lib.hid (fun W (hb : Below w.heap.size w W) => node_any p (lf d) (by first | exact hp | rfl) (by first | exact hp | rfl) W (hT.next hb))
  have HR := Lib.hid (fun W (hb : Below w.heap.size w W) => rangeAt_below hr hb hlt)
  have Hl1 := Lib.hid (show (bc d).length = 32 by rw [bc_len, hd])
  have Hlp := Lib.hid (show (bc p).length = 32 by rw [bc_len, hp])
  have Hop := Lib.hid (bc_one p)
  have Hl2 := Lib.hid (show (bc (lf d)).length = 32 by rw [bc_len, lf_len])
  have Ho2 := Lib.hid (bc_one (lf d))
  have Hl3 := Lib.hid (show (bc (nd p (lf d))).length = 32 by rw [bc_len]; rfl)
  have Ho3 := Lib.hid (bc_one (nd p (lf d)))
  unfold arrV at HL HN ⊢
  obtain ⟨D3, hD3⟩ : ∃ D3, bc (nd p (lf d)) = D3 := ⟨_, rfl⟩
  rw [hD3] at HN Hl3 Ho3 ⊢
  obtain ⟨D2, hD2⟩ : ∃ D2, bc (lf d) = D2 := ⟨_, rfl⟩
  obtain ⟨D, hD⟩ : ∃ D, bc d = D := ⟨_, rfl⟩
  obtain ⟨P, hPd⟩ : ∃ P, bc p = P := ⟨_, rfl⟩
  rw [hD2] at HL HN Hl2 Ho2
  rw [hD] at HL Hl1 ⊢
  rw [hPd] at HN HR Hlp Hop
  have hg1 := (Blk.new w 26 D.toArray).alloc (.cells #[.int .u8 0, .int .u8 0, .int .u8 0, .int .u8 0, .int .u8 0, .int .u8 0, .int .u8 0, .int .u8 0, .int .u8 0, .int .u8 0, .int .u8 0, .int .u8 0, .int .u8 0, .int .u8 0, .int .u8 0, .int .u8 0, .int .u8 0, .int .u8 0, .int .u8 0, .int .u8 0, .int .u8 0, .int .u8 0, .int .u8 0, .int .u8 0, .int .u8 0, .int .u8 0, .int .u8 0, .int .u8 0, .int .u8 0, .int .u8 0, .int .u8 0, .int .u8 0] 26)
  have hg2 := Blk.new (w.alloc (.cells D.toArray 26)) 26 #[.int .u8 0, .int .u8 0, .int .u8 0, .int .u8 0, .int .u8 0, .int .u8 0, .int .u8 0, .int .u8 0, .int .u8 0, .int .u8 0, .int .u8 0, .int .u8 0, .int .u8 0, .int .u8 0, .int .u8 0, .int .u8 0, .int .u8 0, .int .u8 0, .int .u8 0, .int .u8 0, .int .u8 0, .int .u8 0, .int .u8 0, .int .u8 0, .int .u8 0, .int .u8 0, .int .u8 0, .int .u8 0, .int .u8 0, .int .u8 0, .int .u8 0, .int .u8 0]
  rw [World.size_alloc] at hg2
  have hb := (below_alloc w (.cells D.toArray 26)).alloc (by simp) (.cells #[.int .u8 0, .int .u8 0, .int .u8 0, .int .u8 0, .int .u8 0, .int .u8 0, .int .u8 0, .int .u8 0, .int .u8 0, .int .u8 0, .int .u8 0, .int .u8 0, .int .u8 0, .int .u8 0, .int .u8 0, .int .u8 0, .int .u8 0, .int .u8 0, .int .u8 0, .int .u8 0, .int .u8 0, .int .u8 0, .int .u8 0, .int .u8 0, .int .u8 0, .int .u8 0, .int .u8 0, .int .u8 0, .int .u8 0, .int .u8 0, .int .u8 0, .int .u8 0] 26)
  obtain ⟨w0, hw0⟩ : ∃ w0, (w.alloc (.cells D.toArray 26)).alloc (.cells #[.int .u8 0, .int .u8 0, .int .u8 0, .int .u8 0, .int .u8 0, .int .u8 0, .int .u8 0, .int .u8 0, .int .u8 0, .int .u8 0, .int .u8 0, .int .u8 0, .int .u8 0, .int .u8 0, .int .u8 0, .int .u8 0, .int .u8 0, .int .u8 0, .int .u8 0, .int .u8 0, .int .u8 0, .int .u8 0, .int .u8 0, .int .u8 0, .int .u8 0, .int .u8 0, .int .u8 0, .int .u8 0, .int .u8 0, .int .u8 0, .int .u8 0, .int .u8 0] 26) = w0 := ⟨_, rfl⟩
  rw [hw0] at hg1 hg2 hb
  have HW0 := Lib.hid hw0
  have H1 := Lib.hid hg1
  have H2 := Lib.hid hg2
  have Hb := Lib.hid hb
  clear hT hd hp hr hlt hD hD2 hD3 hPd hg1 hg2 hb hw0
  go_enter Tryd.func47, Tryd.ntmps47
  go_wp2_with fail
  rw [HW0.out]
  go_loopw [1, 2, 10] (fun i n r wr => (i = .int .i64 1 ∧ n = .int .i64 2 ∧ r = .slice none 0 0 ∧ w0 = wr) ∨ (i = .int .i64 0 ∧ n = .int .i64 1 ∧ wr.ownsRow w0.heap.size 4 1 r 1 [.bool true] ∧ Below w0.heap.size w0 wr)) (fun _ n _ _ => (intOf n).toNat)
  case atStart => exact .inl ⟨rfl, rfl, rfl, rfl⟩
  case round =>
    rcases hrel with ⟨rfl, rfl, rfl, rfl⟩ | ⟨rfl, rfl, hown, hb1⟩
    · go_wp2_with (first
        | (go_at_call 53; refine (split2 _).mono ?_; rintro _ _ ⟨rfl, rfl⟩)
        | (at_builtin
           refine wpList_append_sl _ rfl (.tmp 34) (.tmp 38) 73 rfl w0.heap.size 4 iu _ 1 Tryd.underlying73 hiu hu0 hu1 hu2 rfl (.slice none 0 0) 0 [] rfl (World.ownsRow_nil _ _ _ _) (.slice (some ⟨w0.heap.size, 0, none⟩) 1 1) 1 [.bool true] rfl ((Blk.new w0 4 #[.bool true]).sl rfl rfl) (by intro u hu; simp at hu; subst hu; rfl) (by unfold maxLen; omega) (by omega) (by rw [World.size_alloc]; omega) ?_
           intro v7 w7 hown7 hg7
           have hb7 : Below w0.heap.size w0 w7 := (below_alloc w0 _).grown hg7 (by rw [World.size_alloc]; omega) (fun k hk => by cases hk)
           have Hown7 := Lib.hid hown7
           have Hb7 := Lib.hid hb7
           clear hown7 hg7 hb7))
      go_roundw
      case rel => exact .inr ⟨rfl, rfl, Hown7.out, Hb7.out⟩
      case measure => simp [intOf]
    · obtain ⟨rg, rcap, rfl, _⟩ := hown.form (by omega)
      have hrc : wr.cell? ⟨rg, 0, none⟩ = some (.bool true) := hown.cellAt 0 (by omega)
      have hrl : rg < wr.heap.size := World.block_lt_of_cell? wr _ hrc
      have H1a := Lib.hid (H1.out.below hb1 H1.out.lt)
      have H2a := Lib.hid (H2.out.below hb1 H2.out.lt)
      have Hba := Lib.hid (Hb.out.trans (hb1.mono Hb.out.size))
      have Hrc := Lib.hid hrc
      have hrg : w0.heap.size ≤ rg := (hown.lt _ rfl).1
      have hz0 : w.heap.size + 1 < w0.heap.size := H2.out.lt
      clear hown hb1 hrc
      go_wp2_with (first
        | (refine wpList_load_row rfl 26 _ rfl w.heap.size rfl 26 D.toArray (0, 0) _ H1a.out Tryd.underlying26 rfl (by rw [List.size_toArray, Hl1.out]; exact infoDg) ?_)
        | (refine (HL.out _ Hba.out).mono ?_
           rintro e w5 ⟨rfl, hb5⟩
           have H25 := Lib.hid (H2a.out.below hb5 H2a.out.lt)
           have Hb5 := Lib.hid (Hba.out.trans (hb5.mono Hba.out.size))
           have Hrc5 := Lib.hid ((hb5.cell (p := ⟨rg, 0, none⟩) hrl).trans Hrc.out)
           have Hrl5 := Lib.hid (show rg < w5.heap.size by have := hb5.size; omega)
           clear hb5)
        | (refine wpList_store_row rfl 26 _ _ rfl (w.heap.size + 1) D2.toArray rfl rfl 26 _ H25.out (by rw [List.size_toArray, Hl2.out]; exact infoDg) (show 32 = D2.length from Hl2.out.symm) (all_oneCell_toArray Ho2.out) ?_))
      have hR := H25.out.setRow D2.toArray
      have hBR := setRow_below (g := w.heap.size + 1) Hb5.out (by omega) D2.toArray
      have hrc6 := (cell_setRow_far (w := w5) (show w.heap.size + 1 ≠ rg by omega) 0 D2.toArray).trans Hrc5.out
      obtain ⟨w6, hw6⟩ : ∃ w6, w5.setRow (w.heap.size + 1) D2.toArray = w6 := ⟨_, rfl⟩
      rw [hw6] at hR hBR hrc6 ⊢
      have HRw := Lib.hid hR
      have HBR := Lib.hid hBR
      have Hrc6 := Lib.hid hrc6
      clear hR hBR hw6 hrc6
      go_loopw [60] (fun i wr => (i = .int .i64 0 ∧ w6 = wr) ∨ (i = .int .i64 1 ∧ Blk wr (w.heap.size + 1) 26 D3.toArray ∧ Below w.heap.size w wr)) (fun i _ => 1 - (intOf i).toNat)
      case atStart => exact .inl ⟨rfl, rfl⟩
      case round =>
        rcases hrel with ⟨rfl, rfl⟩ | ⟨rfl, hf, hbf⟩
        · have hrl6 : rg < w6.heap.size := World.block_lt_of_cell? w6 _ Hrc6.out
          have hsz6 : w.heap.size + 1 < w6.heap.size := HRw.out.lt
          have hB5 := Blk.new w6 26 #[.int .u8 0, .int .u8 0, .int .u8 0, .int .u8 0, .int .u8 0, .int .u8 0, .int .u8 0, .int .u8 0, .int .u8 0, .int .u8 0, .int .u8 0, .int .u8 0, .int .u8 0, .int .u8 0, .int .u8 0, .int .u8 0, .int .u8 0, .int .u8 0, .int .u8 0, .int .u8 0, .int .u8 0, .int .u8 0, .int .u8 0, .int .u8 0, .int .u8 0, .int .u8 0, .int .u8 0, .int .u8 0, .int .u8 0, .int .u8 0, .int .u8 0, .int .u8 0]
          have hB5' := hB5.setRow P.toArray
          have hT8 := (HRw.out.alloc (.cells #[.int .u8 0, .int .u8 0, .int .u8 0, .int .u8 0, .int .u8 0, .int .u8 0, .int .u8 0, .int .u8 0, .int .u8 0, .int .u8 0, .int .u8 0, .int .u8 0, .int .u8 0, .int .u8 0, .int .u8 0, .int .u8 0, .int .u8 0, .int .u8 0, .int .u8 0, .int .u8 0, .int .u8 0, .int .u8 0, .int .u8 0, .int .u8 0, .int .u8 0, .int .u8 0, .int .u8 0, .int .u8 0, .int .u8 0, .int .u8 0, .int .u8 0, .int .u8 0] 26)).farRow (show w.heap.size + 1 ≠ w6.heap.size by omega) P.toArray
          have hrc7 := (cell_setRow_far (w := w6.alloc (.cells #[.int .u8 0, .int .u8 0, .int .u8 0, .int .u8 0, .int .u8 0, .int .u8 0, .int .u8 0, .int .u8 0, .int .u8 0, .int .u8 0, .int .u8 0, .int .u8 0, .int .u8 0, .int .u8 0, .int .u8 0, .int .u8 0, .int .u8 0, .int .u8 0, .int .u8 0, .int .u8 0, .int .u8 0, .int .u8 0, .int .u8 0, .int .u8 0, .int .u8 0, .int .u8 0, .int .u8 0, .int .u8 0, .int .u8 0, .int .u8 0, .int .u8 0, .int .u8 0] 26)) (show w6.heap.size ≠ rg by omega) 0 P.toArray).trans (((below_alloc w6 (.cells #[.int .u8 0, .int .u8 0, .int .u8 0, .int .u8 0, .int .u8 0, .int .u8 0, .int .u8 0, .int .u8 0, .int .u8 0, .int .u8 0, .int .u8 0, .int .u8 0, .int .u8 0, .int .u8 0, .int .u8 0, .int .u8 0, .int .u8 0, .int .u8 0, .int .u8 0, .int .u8 0, .int .u8 0, .int .u8 0, .int .u8 0, .int .u8 0, .int .u8 0, .int .u8 0, .int .u8 0, .int .u8 0, .int .u8 0, .int .u8 0, .int .u8 0, .int .u8 0] 26)).cell (p := ⟨rg, 0, none⟩) hrl6).trans Hrc6.out)
          have hb7 := setRow_below (g := w6.heap.size) (HBR.out.alloc HBR.out.size (.cells #[.int .u8 0, .int .u8 0, .int .u8 0, .int .u8 0, .int .u8 0, .int .u8 0, .int .u8 0, .int .u8 0, .int .u8 0, .int .u8 0, .int .u8 0, .int .u8 0, .int .u8 0, .int .u8 0, .int .u8 0, .int .u8 0, .int .u8 0, .int .u8 0, .int .u8 0, .int .u8 0, .int .u8 0, .int .u8 0, .int .u8 0, .int .u8 0, .int .u8 0, .int .u8 0, .int .u8 0, .int .u8 0, .int .u8 0, .int .u8 0, .int .u8 0, .int .u8 0] 26)) HBR.out.size P.toArray
          obtain ⟨w7, hw7⟩ : ∃ w7, (w6.alloc (.cells #[.int .u8 0, .int .u8 0, .int .u8 0, .int .u8 0, .int .u8 0, .int .u8 0, .int .u8 0, .int .u8 0, .int .u8 0, .int .u8 0, .int .u8 0, .int .u8 0, .int .u8 0, .int .u8 0, .int .u8 0, .int .u8 0, .int .u8 0, .int .u8 0, .int .u8 0, .int .u8 0, .int .u8 0, .int .u8 0, .int .u8 0, .int .u8 0, .int .u8 0, .int .u8 0, .int .u8 0, .int .u8 0, .int .u8 0, .int .u8 0, .int .u8 0, .int .u8 0] 26)).setRow w6.heap.size P.toArray = w7 := ⟨_, rfl⟩
          rw [hw7] at hB5' hT8 hrc7 hb7
          have HW7 := Lib.hid hw7
          have HB5 := Lib.hid hB5
          have HB5' := Lib.hid hB5'
          have HT8 := Lib.hid hT8
          have Hb7 := Lib.hid hb7
          clear hB5 hB5' hT8 hb7 hw7 hrl6
          go_wp2_with (first
            | (refine wpList_load_mid rfl 26 _ rfl pg po rfl P _ (HR.out _ HBR.out) Tryd.underlying26 rfl (by rw [Hlp.out]; exact infoDg) ?_)
            | (refine wpList_store_row rfl 26 _ _ rfl w6.heap.size P.toArray rfl rfl 26 _ HB5.out (by rw [List.size_toArray, Hlp.out]; exact infoDg) (show 32 = P.length from Hlp.out.symm) (all_oneCell_toArray Hop.out) ?_; rw [HW7.out])
            | (refine wpList_load_row rfl 26 _ rfl w6.heap.size rfl 26 P.toArray (0, 0) _ HB5'.out Tryd.underlying26 rfl (by rw [List.size_toArray, Hlp.out]; exact infoDg) ?_)
            | (refine wpList_load_row rfl 26 _ rfl (w.heap.size + 1) rfl 26 D2.toArray (0, 0) _ HT8.out Tryd.underlying26 rfl (by rw [List.size_toArray, Hl2.out]; exact infoDg) ?_)
            | (refine (HN.out _ Hb7.out).mono ?_
               rintro e w8 ⟨rfl, hb8⟩
               have H28 := Lib.hid (HT8.out.below hb8 HT8.out.lt)
               have Hb8 := Lib.hid (Hb7.out.trans (hb8.mono Hb7.out.size))
               clear hb8)
            | (refine wpList_store_row rfl 26 _ _ rfl (w.heap.size + 1) D3.toArray rfl rfl 26 _ H28.out (by rw [List.size_toArray, Hl3.out]; exact infoDg) (show D2.length = D3.length by rw [Hl2.out, Hl3.out]) (all_oneCell_toArray Ho3.out) ?_))
          go_roundw
          case rel => exact .inr ⟨rfl, H28.out.setRow D3.toArray, setRow_below Hb8.out (by omega) _⟩
          case measure => simp [intOf]
        · have HF := Lib.hid hf
          have HBF := Lib.hid hbf
          clear hf hbf
          go_wp2_with (first
            | (refine wpList_load_row rfl 26 _ rfl (w.heap.size + 1) rfl 26 D3.toArray (0, 0) _ HF.out Tryd.underlying26 rfl (by rw [List.size_toArray, Hl3.out]; exact infoDg) ?_)
            | (refine wpList_store_row rfl 26 _ _ rfl (w.heap.size + 1) D3.toArray rfl rfl 26 _ HF.out (by rw [List.size_toArray, Hl3.out]; exact infoDg) (show D3.length = D3.length from rfl) (all_oneCell_toArray Ho3.out) ?_))
          refine bodyPost_ret (v := .tuple #[.agg D3.toArray, .int .i64 0]) (results_row_slot rfl _ _ (w.heap.size + 1) D3 _ _ rfl rfl (HF.out.setRow D3.toArray).range Tryd.underlying26 rfl (by rw [Hl3.out]; exact infoDg)) rfl ?_
          exact ⟨rfl, setRow_below HBF.out (by omega) _⟩
end Go.Proofs.YtiloaheaglcpbaaDoor
