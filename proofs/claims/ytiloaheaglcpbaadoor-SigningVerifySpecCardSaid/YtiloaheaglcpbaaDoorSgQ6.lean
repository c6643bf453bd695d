/- Digests: Climb in general, the right path. -/
import Derived.Test.YtiloaheaglcpbaaDoorSgQ5
namespace Go.Proofs.YtiloaheaglcpbaaDoor
open Go.RowKit

theorem clm_step (P : Nat → List UInt8) (x : List UInt8) (s : List Bool) (i : Nat) (hi : i < s.length) :
    ∃ b, s[s.length - 1 - i]? = some b ∧ clm P x (s.drop (s.length - (i + 1))) = if b then nd (clm P x (s.drop (s.length - i))) (P i) else nd (P i) (clm P x (s.drop (s.length - i))) := by
  have hj : s.length - (i + 1) < s.length := by omega
  refine ⟨s[s.length - (i + 1)], by rw [show s.length - 1 - i = s.length - (i + 1) by omega]; exact List.getElem?_eq_getElem hj, ?_⟩
  rw [List.drop_eq_getElem_cons hj, show s.length - (i + 1) + 1 = s.length - i by omega, clm, List.length_drop, show s.length - (s.length - i) = i by omega]

set_option maxRecDepth 100000 in
set_option maxHeartbeats 1000000 in
theorem climb_ok (d : List UInt8) (hd : d.length = 32) (P : Nat → List UInt8) (at_ n : Nat) (ha : at_ < n) (h2n : 2 ≤ n) (hx : n ≤ 256) (pa : Option Addr) (L cap : Nat) (w : World) (hL : L = (sd at_ n).length) (_hc : L ≤ cap) (hr : Ro w pa L P) (hT : Tabs w) :
    Calls Tryd.prog 47 #[arrV d, .int .i64 (at_ : Int), .int .i64 (n : Int), .slice pa L cap] w fun e w' => e = .returned (.tuple #[arrV (clm P d (sd at_ n)), .int .i64 0]) ∧ Below w.heap.size w w' := by
  obtain ⟨iu, hiu, hu0, hu1, hu2⟩ := info_parts infoB
  have HSa := Lib.hid (fun m (h1 : 2 ≤ m) (h2 : m ≤ 256) W => split_any m h1 h2 W)
  have HRl := Lib.hid (show (rt at_ n).length ≤ 256 by have := sd_len n at_ n (Nat.le_refl _); rw [rt_len]; omega)
  have HRL := Lib.hid (rt_len at_ n)
  have i1 : ¬ (n : Int) < 1 := by omega
  have i2 : ¬ (1099511627776 : Int) < (n : Int) := by omega
  have i3 : ¬ (at_ : Int) < 0 := by omega
  have i4 : ¬ (n : Int) ≤ (at_ : Int) := by omega
  have i5 : (1 : Int) ≤ (n : Int) := by omega
  have i6 : (n : Int) ≤ 1099511627776 := by omega
  have i7 : (at_ : Int) < (n : Int) := by omega
  have HLf := Lib.hid (fun W (hb : Below w.heap.size w W) => leaf_any d hd W (hT.next hb))
  have HTab := Lib.hid (fun W (hb : Below w.heap.size w W) => hT.next hb)
  have HPl := Lib.hid hr.2
  have Hpos := Lib.hid (show 1 ≤ (sd at_ n).length by
    by_cases h : at_ < hf n
    · rw [sd_left _ _ h2n h, List.length_cons]; omega
    · rw [sd_right _ _ h2n h, List.length_cons]; omega)
  obtain ⟨pg, po, rfl, _⟩ := hr.1 0 (by have := Hpos.out; omega)
  have HRd := Lib.hid (fun W (hb : Below w.heap.size w W) k (hk : k < L) => show W.rangeAt pg (po + k * 32) (bc (P k)) from by
    obtain ⟨g', o', e, h⟩ := (hr.next hb).1 k hk
    cases e; exact h)
  have HLs := Lib.hid hL
  have HL3 := Lib.hid (show L ≤ 256 by have := HRl.out; have := HRL.out; omega)
  have Hl1 := Lib.hid (show (bc d).length = 32 by rw [bc_len, hd])
  have Hl0 := Lib.hid (show (bc (lf d)).length = 32 by rw [bc_len, lf_len])
  have Ho0 := Lib.hid (bc_one (lf d))
  have Hlr := Lib.hid (show (bc (clm P d (sd at_ n))).length = 32 by rw [bc_len, clm_len])
  have Hor := Lib.hid (bc_one (clm P d (sd at_ n)))
  unfold arrV at HLf ⊢
  obtain ⟨DR, hDR⟩ : ∃ D, bc (clm P d (sd at_ n)) = D := ⟨_, rfl⟩
  obtain ⟨D0, hD0⟩ : ∃ D, bc (lf d) = D := ⟨_, rfl⟩
  obtain ⟨D, hD⟩ : ∃ D, bc d = D := ⟨_, rfl⟩
  rw [hDR] at Hlr Hor ⊢
  rw [hD0] at HLf Hl0 Ho0
  rw [hD] at HLf Hl1 ⊢
  have HDR := Lib.hid hDR
  have HD0 := Lib.hid hD0
  clear hD hL hr hT _hc hD0 hDR hd h2n
  have hg1 := (Blk.new w 26 D.toArray).alloc (.cells #[.int .u8 0, .int .u8 0, .int .u8 0, .int .u8 0, .int .u8 0, .int .u8 0, .int .u8 0, .int .u8 0, .int .u8 0, .int .u8 0, .int .u8 0, .int .u8 0, .int .u8 0, .int .u8 0, .int .u8 0, .int .u8 0, .int .u8 0, .int .u8 0, .int .u8 0, .int .u8 0, .int .u8 0, .int .u8 0, .int .u8 0, .int .u8 0, .int .u8 0, .int .u8 0, .int .u8 0, .int .u8 0, .int .u8 0, .int .u8 0, .int .u8 0, .int .u8 0] 26)
  have hg2 := Blk.new (w.alloc (.cells D.toArray 26)) 26 #[.int .u8 0, .int .u8 0, .int .u8 0, .int .u8 0, .int .u8 0, .int .u8 0, .int .u8 0, .int .u8 0, .int .u8 0, .int .u8 0, .int .u8 0, .int .u8 0, .int .u8 0, .int .u8 0, .int .u8 0, .int .u8 0, .int .u8 0, .int .u8 0, .int .u8 0, .int .u8 0, .int .u8 0, .int .u8 0, .int .u8 0, .int .u8 0, .int .u8 0, .int .u8 0, .int .u8 0, .int .u8 0, .int .u8 0, .int .u8 0, .int .u8 0, .int .u8 0]
  rw [World.size_alloc] at hg2
  have hb := (below_alloc w (.cells D.toArray 26)).alloc (by simp) (.cells #[.int .u8 0, .int .u8 0, .int .u8 0, .int .u8 0, .int .u8 0, .int .u8 0, .int .u8 0, .int .u8 0, .int .u8 0, .int .u8 0, .int .u8 0, .int .u8 0, .int .u8 0, .int .u8 0, .int .u8 0, .int .u8 0, .int .u8 0, .int .u8 0, .int .u8 0, .int .u8 0, .int .u8 0, .int .u8 0, .int .u8 0, .int .u8 0, .int .u8 0, .int .u8 0, .int .u8 0, .int .u8 0, .int .u8 0, .int .u8 0, .int .u8 0, .int .u8 0] 26)
  obtain ⟨w0, hw0⟩ : ∃ w0, (w.alloc (.cells D.toArray 26)).alloc (.cells #[.int .u8 0, .int .u8 0, .int .u8 0, .int .u8 0, .int .u8 0, .int .u8 0, .int .u8 0, .int .u8 0, .int .u8 0, .int .u8 0, .int .u8 0, .int .u8 0, .int .u8 0, .int .u8 0, .int .u8 0, .int .u8 0, .int .u8 0, .int .u8 0, .int .u8 0, .int .u8 0, .int .u8 0, .int .u8 0, .int .u8 0, .int .u8 0, .int .u8 0, .int .u8 0, .int .u8 0, .int .u8 0, .int .u8 0, .int .u8 0, .int .u8 0, .int .u8 0] 26) = w0 := ⟨_, rfl⟩
  rw [hw0] at hg1 hg2 hb
  have HW0 := Lib.hid hw0
  have H1 := Lib.hid hg1
  have H2 := Lib.hid hg2
  have Hb := Lib.hid hb
  have HS0 := Lib.hid (show ([] : List Bool) ++ rt at_ n = rt at_ n ∧ at_ < n ∧ n ≤ 256 from ⟨rfl, ha, hx⟩)
  clear hg1 hg2 hb hw0 ha hx 
  go_enter Tryd.func47, Tryd.ntmps47
  go_wp2_with fail
  rw [HW0.out]
  clear i1 i2 i3 i4 i5 i6 i7
  go_loopw [1, 2, 10] (fun i k r wr => ∃ (a m lp : Nat) (pre : List Bool), Hid (pre ++ rt a m = rt at_ n ∧ a < m ∧ m ≤ 256) ∧ i = .int .i64 (a : Int) ∧ k = .int .i64 (m : Int) ∧ Hid (pre.length = lp) ∧ wr.ownsRow w0.heap.size 4 1 r lp (pre.map Value.bool) ∧ Below w0.heap.size w0 wr) (fun _ k _ _ => (intOf k).toNat)
  case atStart => exact ⟨at_, n, 0, [], HS0, by go_num, by go_num, Lib.hid rfl, World.ownsRow_nil _ _ _ _, Below.refl _ _⟩
  case round =>
    obtain ⟨a, m, lp, pre, Hs, rfl, rfl, Hl, hown, hbw⟩ := hrel
    have Hown := Lib.hid hown
    have Hbw := Lib.hid hbw
    clear hown hbw HS0
    by_cases hm : 2 ≤ m
    · have hF := hf_facts m hm
      have HSp := Lib.hid (fun W => HSa.out m hm Hs.out.2.2 W)
      have j1 : (1 : Int) < (m : Int) := by omega
      have ham := Hs.out.2.1
      have hm9 := Hs.out.2.2
      have Hlp := Lib.hid (show pre.length = lp ∧ lp + (rt a m).length = (rt at_ n).length ∧ lp + 1 ≤ 300 by
        have h := congrArg List.length Hs.out.1
        rw [List.length_append, Hl.out] at h
        have := HRl.out
        exact ⟨Hl.out, h, by omega⟩)
      by_cases hl : a < hf m
      · have Hs2 := Lib.hid (show (pre ++ [false]) ++ rt a (hf m) = rt at_ n ∧ a < hf m ∧ hf m ≤ 256 by
          refine ⟨?_, hl, by omega⟩
          rw [← Hs.out.1, rt_left a m hm hl, List.append_assoc]; rfl)
        have Hl2 := Lib.hid (show (pre ++ [false]).length = lp + 1 by rw [List.length_append, Hl.out]; rfl)
        obtain ⟨k, hk⟩ : ∃ k, hf m = k := ⟨_, rfl⟩
        rw [hk] at hl HSp Hs2 hF
        have j2 : (a : Int) < (k : Int) := by omega
        have j3 : ¬ (k : Int) ≤ (a : Int) := by omega
        have j5 : decide (k ≤ a) = false := by simp; omega
        have j6 : ¬ k ≤ a := by omega
        have hF2 := hF.2.1
        clear hF hk hl hm9 ham hm
        go_wp2_with (first
          | (refine (HSp.out _).mono ?_
             rintro e wh ⟨rfl, rfl⟩)
          | (at_builtin
             refine wpList_append_sl _ rfl (.tmp 34) (.tmp 38) 73 rfl w0.heap.size 4 iu _ 1 Tryd.underlying73 hiu hu0 hu1 hu2 rfl u10 lp (pre.map Value.bool) rfl (Hown.out.alloc _) (.slice (some ⟨wr.heap.size, 0, none⟩) 1 1) 1 [.bool false] rfl ((Blk.new wr 4 #[.bool false]).sl rfl rfl) (by intro u hu; simp at hu; subst hu; rfl) (by have := Hlp.out.2.2; unfold maxLen; omega) (by have := Hlp.out.2.2; omega) (by have := Hbw.out.size; rw [World.size_alloc]; omega) ?_
             intro v7 w7 hown7 hg7
             have hb7 : Below w0.heap.size w0 w7 := (Hbw.out.alloc Hbw.out.size _).grown hg7 (by have := Hbw.out.size; rw [World.size_alloc]; omega) (fun k hk => (Hown.out.lt k hk).1)
             rw [show pre.map Value.bool ++ [.bool false] = (pre ++ [false]).map Value.bool by rw [List.map_append]; rfl] at hown7
             have Hown7 := Lib.hid hown7
             have Hb7 := Lib.hid hb7
             clear hown7 hg7 hb7))
        go_roundw
        case rel => exact ⟨a, k, lp + 1, pre ++ [false], Hs2, by go_num, by go_num, Hl2, Hown7.out, Hb7.out⟩
        case measure => simp [intOf]; omega
      · have Hs2 := Lib.hid (show (pre ++ [true]) ++ rt (a - hf m) (m - hf m) = rt at_ n ∧ a - hf m < m - hf m ∧ m - hf m ≤ 256 by
          refine ⟨?_, by omega, by omega⟩
          rw [← Hs.out.1, rt_right a m hm hl, List.append_assoc]; rfl)
        have Hl2 := Lib.hid (show (pre ++ [true]).length = lp + 1 by rw [List.length_append, Hl.out]; rfl)
        obtain ⟨k, hk⟩ : ∃ k, hf m = k := ⟨_, rfl⟩
        rw [hk] at hl HSp Hs2 hF
        have j2 : ¬ (a : Int) < (k : Int) := by omega
        have j3 : (k : Int) ≤ (a : Int) := by omega
        have j5 : decide (k ≤ a) = true := by simp; omega
        have s2 : IntKind.i64.wrap ((m : Int) - (k : Int)) = ((m - k : Nat) : Int) := by rw [IntKind.wrap_i64]; omega
        have s3 : IntKind.i64.wrap ((a : Int) - (k : Int)) = ((a - k : Nat) : Int) := by rw [IntKind.wrap_i64]; omega
        have hF1 := hF.1
        obtain ⟨a2, ha2⟩ : ∃ a2, a - k = a2 := ⟨_, rfl⟩
        obtain ⟨m2, hm2⟩ : ∃ m2, m - k = m2 := ⟨_, rfl⟩
        rw [ha2] at s3 Hs2
        rw [hm2] at s2 Hs2
        have hmm : m2 < m := by omega
        clear hF hk hl hm9 ham hm ha2 hm2 hF1
        go_wp2_with (first
          | (refine (HSp.out _).mono ?_
             rintro e wh ⟨rfl, rfl⟩)
          | (at_builtin
             refine wpList_append_sl _ rfl (.tmp 34) (.tmp 38) 73 rfl w0.heap.size 4 iu _ 1 Tryd.underlying73 hiu hu0 hu1 hu2 rfl u10 lp (pre.map Value.bool) rfl (Hown.out.alloc _) (.slice (some ⟨wr.heap.size, 0, none⟩) 1 1) 1 [.bool true] rfl ((Blk.new wr 4 #[.bool true]).sl rfl rfl) (by intro u hu; simp at hu; subst hu; rfl) (by have := Hlp.out.2.2; unfold maxLen; omega) (by have := Hlp.out.2.2; omega) (by have := Hbw.out.size; rw [World.size_alloc]; omega) ?_
             intro v7 w7 hown7 hg7
             have hb7 : Below w0.heap.size w0 w7 := (Hbw.out.alloc Hbw.out.size _).grown hg7 (by have := Hbw.out.size; rw [World.size_alloc]; omega) (fun k hk => (Hown.out.lt k hk).1)
             rw [show pre.map Value.bool ++ [.bool true] = (pre ++ [true]).map Value.bool by rw [List.map_append]; rfl] at hown7
             have Hown7 := Lib.hid hown7
             have Hb7 := Lib.hid hb7
             clear hown7 hg7 hb7))
        go_roundw
        case rel => exact ⟨a2, m2, lp + 1, pre ++ [true], Hs2, by go_num, by go_num, Hl2, Hown7.out, Hb7.out⟩
        case measure => simp [intOf]; omega
    · have j1 : ¬ (1 : Int) < (m : Int) := by omega
      have j9 : (m : Int) ≤ 1 := by omega
      have hpre : pre = rt at_ n := by rw [← Hs.out.1, rt_one a m (by omega), List.append_nil]
      have Hll := Lib.hid (show lp = (sd at_ n).length by rw [← Hl.out, hpre, rt_len])
      rw [hpre] at Hown
      clear hpre hm Hs Hl
      have hlpL : L = lp := by rw [Hll.out, HLs.out]
      subst hlpL
      obtain ⟨rg, rcap, rfl, hrg0, hrgl⟩ := Hown.out.form (by have := Hpos.out; have := HLs.out; omega)
      have hrr : wr.rangeAt rg 0 ((rt at_ n).map Value.bool) := fun j v hv => by
        have hj : j < ((rt at_ n).map Value.bool).length := by
          rcases Nat.lt_or_ge j ((rt at_ n).map Value.bool).length with h | h
          · exact h
          · rw [List.getElem?_eq_none h] at hv; cases hv
        rw [List.length_map, rt_len, ← HLs.out] at hj
        rw [Nat.zero_add, Hown.out.cellAt j (by omega)]; exact hv
      have Hne := Lib.hid (show w.heap.size + 2 ≤ rg by have := H2.out.lt; omega)
      have H1a := Lib.hid (H1.out.below Hbw.out H1.out.lt)
      have H2a := Lib.hid (H2.out.below Hbw.out H2.out.lt)
      have Hba := Lib.hid (Hb.out.trans (Hbw.out.mono Hb.out.size))
      have Hrr := Lib.hid hrr
      clear Hown Hbw hrr hrg0
      go_wp2_with (first
        | (refine wpList_load_row rfl 26 _ rfl w.heap.size rfl 26 D.toArray (0, 0) _ H1a.out Tryd.underlying26 rfl (by rw [List.size_toArray, Hl1.out]; exact infoDg) ?_)
        | (refine (HLf.out _ Hba.out).mono ?_
           rintro e w5 ⟨rfl, hb5⟩
           have H25 := Lib.hid (H2a.out.below hb5 H2a.out.lt)
           have Hb5 := Lib.hid (Hba.out.trans (hb5.mono Hba.out.size))
           have Hr5 := Lib.hid (rangeAt_below Hrr.out hb5 hrgl)
           clear hb5)
        | (refine wpList_store_row rfl 26 _ _ rfl (w.heap.size + 1) D0.toArray rfl rfl 26 _ H25.out (by rw [List.size_toArray, Hl0.out]; exact infoDg) (show 32 = D0.length from Hl0.out.symm) (all_oneCell_toArray Ho0.out) ?_))
      have hR := H25.out.setRow D0.toArray
      have hBR := setRow_below (g := w.heap.size + 1) Hb5.out (by omega) D0.toArray
      have hr6 : (w5.setRow (w.heap.size + 1) D0.toArray).rangeAt rg 0 ((rt at_ n).map Value.bool) := fun j v hv => (cell_setRow_far (show w.heap.size + 1 ≠ rg by have := Hne.out; omega) (0 + j) D0.toArray).trans (Hr5.out j v hv)
      obtain ⟨w6, hw6⟩ : ∃ w6, w5.setRow (w.heap.size + 1) D0.toArray = w6 := ⟨_, rfl⟩
      rw [hw6] at hR hBR hr6 ⊢
      rw [show D0 = bc (clm P d ((sd at_ n).drop (L - 0))) by rw [HLs.out, Nat.sub_zero, List.drop_length, ← HD0.out]; rfl] at hR
      have HRw := Lib.hid hR
      have HBR := Lib.hid hBR
      have Hr6 := Lib.hid hr6
      clear hR hBR hw6 hr6 hrgl H1 H2 H1a H2a Hr5 Hb5 H25 Hba Hb
      go_loopw [60] (fun i wr => ∃ (k : Nat), Hid (k ≤ L) ∧ i = .int .i64 (k : Int) ∧ Blk wr (w.heap.size + 1) 26 (bc (clm P d ((sd at_ n).drop (L - k)))).toArray ∧ wr.rangeAt rg 0 ((rt at_ n).map Value.bool) ∧ Below w.heap.size w wr) (fun i _ => L - (intOf i).toNat)
      case atStart => exact ⟨0, Lib.hid (Nat.zero_le _), by go_num, HRw.out, Hr6.out, HBR.out⟩
      case round =>
        clear HRw Hr6 HBR
        obtain ⟨k, Hk, rfl, hbx, hrr, hbw⟩ := hrel
        rename_i wr0
        have hL3 := HL3.out
        by_cases hk : k < L
        · obtain ⟨b, hsb, hstep⟩ := clm_step P d (sd at_ n) k (by rw [← HLs.out]; exact hk)
          rw [← HLs.out] at hsb hstep
          cases b
          · have HN := Lib.hid (fun W (hb : Below w.heap.size w W) => node_any _ _ (HPl.out k) (clm_len P d ((sd at_ n).drop (L - k))) W (HTab.out W hb))
            rw [if_neg (by decide)] at hstep
            rw [← hstep] at HN
            have Hl3 := Lib.hid (show (bc (clm P d ((sd at_ n).drop (L - (k + 1))))).length = 32 by rw [bc_len, clm_len])
            have Ho3 := Lib.hid (bc_one (clm P d ((sd at_ n).drop (L - (k + 1)))))
            have Hl2 := Lib.hid (show (bc (clm P d ((sd at_ n).drop (L - k)))).length = 32 by rw [bc_len, clm_len])
            have Hlp := Lib.hid (show (bc (P k)).length = 32 by rw [bc_len, HPl.out])
            have Hop := Lib.hid (bc_one (P k))
            have hrp := HRd.out wr hbw k hk
            have hq2 : (L - 1 - k) < L := by omega
            have hcell := hrr (L - 1 - k) (.bool true) (by rw [rt, List.getElem?_map, List.getElem?_map, hsb]; rfl)
            rw [Nat.zero_add] at hcell
            have Hk2 := Lib.hid (show k + 1 ≤ L by omega)
            unfold arrV at HN
            obtain ⟨D3, hD3⟩ : ∃ D, bc (clm P d ((sd at_ n).drop (L - (k + 1)))) = D := ⟨_, rfl⟩
            obtain ⟨D2, hD2⟩ : ∃ D, bc (clm P d ((sd at_ n).drop (L - k))) = D := ⟨_, rfl⟩
            obtain ⟨VP, hVP⟩ : ∃ D, bc (P k) = D := ⟨_, rfl⟩
            rw [hD3, hD2, hVP] at HN
            rw [hD3] at Hl3 Ho3
            rw [hD2] at Hl2 hbx
            rw [hVP] at Hlp Hop hrp
            have HD3 := Lib.hid hD3
            have j1 : (k : Int) < (L : Int) := by omega
            have s4 : IntKind.i64.wrap ((L : Int) - 1) = ((L - 1 : Nat) : Int) := by rw [IntKind.wrap_i64]; omega
            obtain ⟨l1, hl1⟩ : ∃ l1, L - 1 = l1 := ⟨_, rfl⟩
            rw [hl1] at s4 hcell hq2
            have s5 : IntKind.i64.wrap ((l1 : Int) - (k : Int)) = ((l1 - k : Nat) : Int) := by rw [IntKind.wrap_i64]; omega
            obtain ⟨q, hq⟩ : ∃ q, l1 - k = q := ⟨_, rfl⟩
            rw [hq] at s5 hcell hq2
            have j2 : (q : Int) < (L : Int) := by omega
            have s6 : IntKind.i64.wrap ((k : Int) + 1) = ((k + 1 : Nat) : Int) := by rw [IntKind.wrap_i64]; omega
            have hrgw : rg < wr.heap.size := World.block_lt_of_cell? wr _ hcell
            have hzw : w.heap.size + 1 < wr.heap.size := hbx.lt
            have hB5 := Blk.new wr 26 #[.int .u8 0, .int .u8 0, .int .u8 0, .int .u8 0, .int .u8 0, .int .u8 0, .int .u8 0, .int .u8 0, .int .u8 0, .int .u8 0, .int .u8 0, .int .u8 0, .int .u8 0, .int .u8 0, .int .u8 0, .int .u8 0, .int .u8 0, .int .u8 0, .int .u8 0, .int .u8 0, .int .u8 0, .int .u8 0, .int .u8 0, .int .u8 0, .int .u8 0, .int .u8 0, .int .u8 0, .int .u8 0, .int .u8 0, .int .u8 0, .int .u8 0, .int .u8 0]
            have hB5' := hB5.setRow VP.toArray
            have hT8 := (hbx.alloc (.cells #[.int .u8 0, .int .u8 0, .int .u8 0, .int .u8 0, .int .u8 0, .int .u8 0, .int .u8 0, .int .u8 0, .int .u8 0, .int .u8 0, .int .u8 0, .int .u8 0, .int .u8 0, .int .u8 0, .int .u8 0, .int .u8 0, .int .u8 0, .int .u8 0, .int .u8 0, .int .u8 0, .int .u8 0, .int .u8 0, .int .u8 0, .int .u8 0, .int .u8 0, .int .u8 0, .int .u8 0, .int .u8 0, .int .u8 0, .int .u8 0, .int .u8 0, .int .u8 0] 26)).farRow (show w.heap.size + 1 ≠ wr.heap.size by omega) VP.toArray
            have hb7 := setRow_below (g := wr.heap.size) (hbw.alloc hbw.size (.cells #[.int .u8 0, .int .u8 0, .int .u8 0, .int .u8 0, .int .u8 0, .int .u8 0, .int .u8 0, .int .u8 0, .int .u8 0, .int .u8 0, .int .u8 0, .int .u8 0, .int .u8 0, .int .u8 0, .int .u8 0, .int .u8 0, .int .u8 0, .int .u8 0, .int .u8 0, .int .u8 0, .int .u8 0, .int .u8 0, .int .u8 0, .int .u8 0, .int .u8 0, .int .u8 0, .int .u8 0, .int .u8 0, .int .u8 0, .int .u8 0, .int .u8 0, .int .u8 0] 26)) (by have := hbw.size; omega) VP.toArray
            have hra : (wr.alloc (.cells #[.int .u8 0, .int .u8 0, .int .u8 0, .int .u8 0, .int .u8 0, .int .u8 0, .int .u8 0, .int .u8 0, .int .u8 0, .int .u8 0, .int .u8 0, .int .u8 0, .int .u8 0, .int .u8 0, .int .u8 0, .int .u8 0, .int .u8 0, .int .u8 0, .int .u8 0, .int .u8 0, .int .u8 0, .int .u8 0, .int .u8 0, .int .u8 0, .int .u8 0, .int .u8 0, .int .u8 0, .int .u8 0, .int .u8 0, .int .u8 0, .int .u8 0, .int .u8 0] 26)).rangeAt rg 0 ((rt at_ n).map Value.bool) := rangeAt_below hrr (below_alloc wr _) hrgw
            have hr7 : ((wr.alloc (.cells #[.int .u8 0, .int .u8 0, .int .u8 0, .int .u8 0, .int .u8 0, .int .u8 0, .int .u8 0, .int .u8 0, .int .u8 0, .int .u8 0, .int .u8 0, .int .u8 0, .int .u8 0, .int .u8 0, .int .u8 0, .int .u8 0, .int .u8 0, .int .u8 0, .int .u8 0, .int .u8 0, .int .u8 0, .int .u8 0, .int .u8 0, .int .u8 0, .int .u8 0, .int .u8 0, .int .u8 0, .int .u8 0, .int .u8 0, .int .u8 0, .int .u8 0, .int .u8 0] 26)).setRow wr.heap.size VP.toArray).rangeAt rg 0 ((rt at_ n).map Value.bool) := fun j v hv => (cell_setRow_far (show wr.heap.size ≠ rg by omega) (0 + j) VP.toArray).trans (hra j v hv)
            have hc7 : ((wr.alloc (.cells #[.int .u8 0, .int .u8 0, .int .u8 0, .int .u8 0, .int .u8 0, .int .u8 0, .int .u8 0, .int .u8 0, .int .u8 0, .int .u8 0, .int .u8 0, .int .u8 0, .int .u8 0, .int .u8 0, .int .u8 0, .int .u8 0, .int .u8 0, .int .u8 0, .int .u8 0, .int .u8 0, .int .u8 0, .int .u8 0, .int .u8 0, .int .u8 0, .int .u8 0, .int .u8 0, .int .u8 0, .int .u8 0, .int .u8 0, .int .u8 0, .int .u8 0, .int .u8 0] 26)).setRow wr.heap.size VP.toArray).cell? ⟨rg, q, none⟩ = some (.bool true) := (cell_setRow_far (show wr.heap.size ≠ rg by omega) q VP.toArray).trans (((below_alloc wr _).cell (p := ⟨rg, q, none⟩) hrgw).trans hcell)
            obtain ⟨w7, hw7⟩ : ∃ w7, (wr.alloc (.cells #[.int .u8 0, .int .u8 0, .int .u8 0, .int .u8 0, .int .u8 0, .int .u8 0, .int .u8 0, .int .u8 0, .int .u8 0, .int .u8 0, .int .u8 0, .int .u8 0, .int .u8 0, .int .u8 0, .int .u8 0, .int .u8 0, .int .u8 0, .int .u8 0, .int .u8 0, .int .u8 0, .int .u8 0, .int .u8 0, .int .u8 0, .int .u8 0, .int .u8 0, .int .u8 0, .int .u8 0, .int .u8 0, .int .u8 0, .int .u8 0, .int .u8 0, .int .u8 0] 26)).setRow wr.heap.size VP.toArray = w7 := ⟨_, rfl⟩
            rw [hw7] at hB5' hT8 hb7 hr7 hc7
            have hrg7 : rg < w7.heap.size := World.block_lt_of_cell? w7 _ hc7
            have HW7 := Lib.hid hw7
            have HB5 := Lib.hid hB5
            have HB5' := Lib.hid hB5'
            have HT8 := Lib.hid hT8
            have Hb7 := Lib.hid hb7
            have Hr7 := Lib.hid hr7
            have Hrp := Lib.hid hrp
            clear hB5 hB5' hT8 hb7 hw7 hra hr7 hrp hcell hrr hbx hD3 hD2 hVP hsb hstep hl1 hq hq2 hrgw hzw hbw hk
            go_wp2_with (first
              | (refine wpList_load_mid rfl 26 _ rfl pg (po + k * 32) rfl VP _ Hrp.out Tryd.underlying26 rfl (by rw [Hlp.out]; exact infoDg) ?_)
              | (refine wpList_store_row rfl 26 _ _ rfl wr.heap.size VP.toArray rfl rfl 26 _ HB5.out (by rw [List.size_toArray, Hlp.out]; exact infoDg) (show 32 = VP.length from Hlp.out.symm) (all_oneCell_toArray Hop.out) ?_; rw [HW7.out])
              | (refine wpList_load_row rfl 26 _ rfl wr.heap.size rfl 26 VP.toArray (0, 0) _ HB5'.out Tryd.underlying26 rfl (by rw [List.size_toArray, Hlp.out]; exact infoDg) ?_)
              | (refine wpList_load_row rfl 26 _ rfl (w.heap.size + 1) rfl 26 D2.toArray (0, 0) _ HT8.out Tryd.underlying26 rfl (by rw [List.size_toArray, Hl2.out]; exact infoDg) ?_)
              | (refine (HN.out _ Hb7.out).mono ?_
                 rintro e w8 ⟨rfl, hb8⟩
                 have H28 := Lib.hid (HT8.out.below hb8 HT8.out.lt)
                 have Hr8 := Lib.hid (rangeAt_below Hr7.out hb8 hrg7)
                 have Hb8 := Lib.hid (Hb7.out.trans (hb8.mono Hb7.out.size))
                 clear hb8)
              | (refine wpList_store_row rfl 26 _ _ rfl (w.heap.size + 1) D3.toArray rfl rfl 26 _ H28.out (by rw [List.size_toArray, Hl3.out]; exact infoDg) (show D2.length = D3.length by rw [Hl2.out, Hl3.out]) (all_oneCell_toArray Ho3.out) ?_))
            go_roundw
            case rel => exact ⟨k + 1, Hk2, by go_num, by rw [HD3.out]; exact H28.out.setRow D3.toArray, fun j v hv => (cell_setRow_far (show w.heap.size + 1 ≠ rg by have := Hne.out; omega) (0 + j) D3.toArray).trans (Hr8.out j v hv), setRow_below Hb8.out (by omega) _⟩
            case measure => have := Hk2.out; simp [intOf]; omega
          · have HN := Lib.hid (fun W (hb : Below w.heap.size w W) => node_any _ _ (clm_len P d ((sd at_ n).drop (L - k))) (HPl.out k) W (HTab.out W hb))
            rw [if_pos rfl] at hstep
            rw [← hstep] at HN
            have Hl3 := Lib.hid (show (bc (clm P d ((sd at_ n).drop (L - (k + 1))))).length = 32 by rw [bc_len, clm_len])
            have Ho3 := Lib.hid (bc_one (clm P d ((sd at_ n).drop (L - (k + 1)))))
            have Hl2 := Lib.hid (show (bc (clm P d ((sd at_ n).drop (L - k)))).length = 32 by rw [bc_len, clm_len])
            have Hlp := Lib.hid (show (bc (P k)).length = 32 by rw [bc_len, HPl.out])
            have Hop := Lib.hid (bc_one (P k))
            have hrp := HRd.out wr hbw k hk
            have hq2 : (L - 1 - k) < L := by omega
            have hcell := hrr (L - 1 - k) (.bool false) (by rw [rt, List.getElem?_map, List.getElem?_map, hsb]; rfl)
            rw [Nat.zero_add] at hcell
            have Hk2 := Lib.hid (show k + 1 ≤ L by omega)
            unfold arrV at HN
            obtain ⟨D3, hD3⟩ : ∃ D, bc (clm P d ((sd at_ n).drop (L - (k + 1)))) = D := ⟨_, rfl⟩
            obtain ⟨D2, hD2⟩ : ∃ D, bc (clm P d ((sd at_ n).drop (L - k))) = D := ⟨_, rfl⟩
            obtain ⟨VP, hVP⟩ : ∃ D, bc (P k) = D := ⟨_, rfl⟩
            rw [hD3, hD2, hVP] at HN
            rw [hD3] at Hl3 Ho3
            rw [hD2] at Hl2 hbx
            rw [hVP] at Hlp Hop hrp
            have HD3 := Lib.hid hD3
            have j1 : (k : Int) < (L : Int) := by omega
            have s4 : IntKind.i64.wrap ((L : Int) - 1) = ((L - 1 : Nat) : Int) := by rw [IntKind.wrap_i64]; omega
            obtain ⟨l1, hl1⟩ : ∃ l1, L - 1 = l1 := ⟨_, rfl⟩
            rw [hl1] at s4 hcell hq2
            have s5 : IntKind.i64.wrap ((l1 : Int) - (k : Int)) = ((l1 - k : Nat) : Int) := by rw [IntKind.wrap_i64]; omega
            obtain ⟨q, hq⟩ : ∃ q, l1 - k = q := ⟨_, rfl⟩
            rw [hq] at s5 hcell hq2
            have j2 : (q : Int) < (L : Int) := by omega
            have s6 : IntKind.i64.wrap ((k : Int) + 1) = ((k + 1 : Nat) : Int) := by rw [IntKind.wrap_i64]; omega
            have hrgw : rg < wr.heap.size := World.block_lt_of_cell? wr _ hcell
            have hzw : w.heap.size + 1 < wr.heap.size := hbx.lt
            have hB5 := Blk.new wr 26 #[.int .u8 0, .int .u8 0, .int .u8 0, .int .u8 0, .int .u8 0, .int .u8 0, .int .u8 0, .int .u8 0, .int .u8 0, .int .u8 0, .int .u8 0, .int .u8 0, .int .u8 0, .int .u8 0, .int .u8 0, .int .u8 0, .int .u8 0, .int .u8 0, .int .u8 0, .int .u8 0, .int .u8 0, .int .u8 0, .int .u8 0, .int .u8 0, .int .u8 0, .int .u8 0, .int .u8 0, .int .u8 0, .int .u8 0, .int .u8 0, .int .u8 0, .int .u8 0]
            have hB5' := hB5.setRow VP.toArray
            have hT8 := (hbx.alloc (.cells #[.int .u8 0, .int .u8 0, .int .u8 0, .int .u8 0, .int .u8 0, .int .u8 0, .int .u8 0, .int .u8 0, .int .u8 0, .int .u8 0, .int .u8 0, .int .u8 0, .int .u8 0, .int .u8 0, .int .u8 0, .int .u8 0, .int .u8 0, .int .u8 0, .int .u8 0, .int .u8 0, .int .u8 0, .int .u8 0, .int .u8 0, .int .u8 0, .int .u8 0, .int .u8 0, .int .u8 0, .int .u8 0, .int .u8 0, .int .u8 0, .int .u8 0, .int .u8 0] 26)).farRow (show w.heap.size + 1 ≠ wr.heap.size by omega) VP.toArray
            have hb7 := setRow_below (g := wr.heap.size) (hbw.alloc hbw.size (.cells #[.int .u8 0, .int .u8 0, .int .u8 0, .int .u8 0, .int .u8 0, .int .u8 0, .int .u8 0, .int .u8 0, .int .u8 0, .int .u8 0, .int .u8 0, .int .u8 0, .int .u8 0, .int .u8 0, .int .u8 0, .int .u8 0, .int .u8 0, .int .u8 0, .int .u8 0, .int .u8 0, .int .u8 0, .int .u8 0, .int .u8 0, .int .u8 0, .int .u8 0, .int .u8 0, .int .u8 0, .int .u8 0, .int .u8 0, .int .u8 0, .int .u8 0, .int .u8 0] 26)) (by have := hbw.size; omega) VP.toArray
            have hra : (wr.alloc (.cells #[.int .u8 0, .int .u8 0, .int .u8 0, .int .u8 0, .int .u8 0, .int .u8 0, .int .u8 0, .int .u8 0, .int .u8 0, .int .u8 0, .int .u8 0, .int .u8 0, .int .u8 0, .int .u8 0, .int .u8 0, .int .u8 0, .int .u8 0, .int .u8 0, .int .u8 0, .int .u8 0, .int .u8 0, .int .u8 0, .int .u8 0, .int .u8 0, .int .u8 0, .int .u8 0, .int .u8 0, .int .u8 0, .int .u8 0, .int .u8 0, .int .u8 0, .int .u8 0] 26)).rangeAt rg 0 ((rt at_ n).map Value.bool) := rangeAt_below hrr (below_alloc wr _) hrgw
            have hr7 : ((wr.alloc (.cells #[.int .u8 0, .int .u8 0, .int .u8 0, .int .u8 0, .int .u8 0, .int .u8 0, .int .u8 0, .int .u8 0, .int .u8 0, .int .u8 0, .int .u8 0, .int .u8 0, .int .u8 0, .int .u8 0, .int .u8 0, .int .u8 0, .int .u8 0, .int .u8 0, .int .u8 0, .int .u8 0, .int .u8 0, .int .u8 0, .int .u8 0, .int .u8 0, .int .u8 0, .int .u8 0, .int .u8 0, .int .u8 0, .int .u8 0, .int .u8 0, .int .u8 0, .int .u8 0] 26)).setRow wr.heap.size VP.toArray).rangeAt rg 0 ((rt at_ n).map Value.bool) := fun j v hv => (cell_setRow_far (show wr.heap.size ≠ rg by omega) (0 + j) VP.toArray).trans (hra j v hv)
            have hc7 : ((wr.alloc (.cells #[.int .u8 0, .int .u8 0, .int .u8 0, .int .u8 0, .int .u8 0, .int .u8 0, .int .u8 0, .int .u8 0, .int .u8 0, .int .u8 0, .int .u8 0, .int .u8 0, .int .u8 0, .int .u8 0, .int .u8 0, .int .u8 0, .int .u8 0, .int .u8 0, .int .u8 0, .int .u8 0, .int .u8 0, .int .u8 0, .int .u8 0, .int .u8 0, .int .u8 0, .int .u8 0, .int .u8 0, .int .u8 0, .int .u8 0, .int .u8 0, .int .u8 0, .int .u8 0] 26)).setRow wr.heap.size VP.toArray).cell? ⟨rg, q, none⟩ = some (.bool false) := (cell_setRow_far (show wr.heap.size ≠ rg by omega) q VP.toArray).trans (((below_alloc wr _).cell (p := ⟨rg, q, none⟩) hrgw).trans hcell)
            obtain ⟨w7, hw7⟩ : ∃ w7, (wr.alloc (.cells #[.int .u8 0, .int .u8 0, .int .u8 0, .int .u8 0, .int .u8 0, .int .u8 0, .int .u8 0, .int .u8 0, .int .u8 0, .int .u8 0, .int .u8 0, .int .u8 0, .int .u8 0, .int .u8 0, .int .u8 0, .int .u8 0, .int .u8 0, .int .u8 0, .int .u8 0, .int .u8 0, .int .u8 0, .int .u8 0, .int .u8 0, .int .u8 0, .int .u8 0, .int .u8 0, .int .u8 0, .int .u8 0, .int .u8 0, .int .u8 0, .int .u8 0, .int .u8 0] 26)).setRow wr.heap.size VP.toArray = w7 := ⟨_, rfl⟩
            rw [hw7] at hB5' hT8 hb7 hr7 hc7
            have hrg7 : rg < w7.heap.size := World.block_lt_of_cell? w7 _ hc7
            have HW7 := Lib.hid hw7
            have HB5 := Lib.hid hB5
            have HB5' := Lib.hid hB5'
            have HT8 := Lib.hid hT8
            have Hb7 := Lib.hid hb7
            have Hr7 := Lib.hid hr7
            have Hrp := Lib.hid hrp
            clear hB5 hB5' hT8 hb7 hw7 hra hr7 hrp hcell hrr hbx hD3 hD2 hVP hsb hstep hl1 hq hq2 hrgw hzw hbw hk
            go_wp2_with (first
              | (refine wpList_load_mid rfl 26 _ rfl pg (po + k * 32) rfl VP _ Hrp.out Tryd.underlying26 rfl (by rw [Hlp.out]; exact infoDg) ?_)
              | (refine wpList_store_row rfl 26 _ _ rfl wr.heap.size VP.toArray rfl rfl 26 _ HB5.out (by rw [List.size_toArray, Hlp.out]; exact infoDg) (show 32 = VP.length from Hlp.out.symm) (all_oneCell_toArray Hop.out) ?_; rw [HW7.out])
              | (refine wpList_load_row rfl 26 _ rfl wr.heap.size rfl 26 VP.toArray (0, 0) _ HB5'.out Tryd.underlying26 rfl (by rw [List.size_toArray, Hlp.out]; exact infoDg) ?_)
              | (refine wpList_load_row rfl 26 _ rfl (w.heap.size + 1) rfl 26 D2.toArray (0, 0) _ HT8.out Tryd.underlying26 rfl (by rw [List.size_toArray, Hl2.out]; exact infoDg) ?_)
              | (refine (HN.out _ Hb7.out).mono ?_
                 rintro e w8 ⟨rfl, hb8⟩
                 have H28 := Lib.hid (HT8.out.below hb8 HT8.out.lt)
                 have Hr8 := Lib.hid (rangeAt_below Hr7.out hb8 hrg7)
                 have Hb8 := Lib.hid (Hb7.out.trans (hb8.mono Hb7.out.size))
                 clear hb8)
              | (refine wpList_store_row rfl 26 _ _ rfl (w.heap.size + 1) D3.toArray rfl rfl 26 _ H28.out (by rw [List.size_toArray, Hl3.out]; exact infoDg) (show D2.length = D3.length by rw [Hl2.out, Hl3.out]) (all_oneCell_toArray Ho3.out) ?_))
            go_roundw
            case rel => exact ⟨k + 1, Hk2, by go_num, by rw [HD3.out]; exact H28.out.setRow D3.toArray, fun j v hv => (cell_setRow_far (show w.heap.size + 1 ≠ rg by have := Hne.out; omega) (0 + j) D3.toArray).trans (Hr8.out j v hv), setRow_below Hb8.out (by omega) _⟩
            case measure => have := Hk2.out; simp [intOf]; omega
        · have hkL : k = L := by have := Hk.out; omega
          subst hkL
          rw [Nat.sub_self, List.drop_zero, HDR.out] at hbx
          have HF := Lib.hid hbx
          have HBF := Lib.hid hbw
          clear hbx hbw hrr hk
          go_wp2_with (first
            | (refine wpList_load_row rfl 26 _ rfl (w.heap.size + 1) rfl 26 DR.toArray (0, 0) _ HF.out Tryd.underlying26 rfl (by rw [List.size_toArray, Hlr.out]; exact infoDg) ?_)
            | (refine wpList_store_row rfl 26 _ _ rfl (w.heap.size + 1) DR.toArray rfl rfl 26 _ HF.out (by rw [List.size_toArray, Hlr.out]; exact infoDg) (show DR.length = DR.length from rfl) (all_oneCell_toArray Hor.out) ?_))
          refine bodyPost_ret (v := .tuple #[.agg DR.toArray, .int .i64 0]) (results_row_slot rfl _ _ (w.heap.size + 1) DR _ _ rfl rfl (HF.out.setRow DR.toArray).range Tryd.underlying26 rfl (by rw [Hlr.out]; exact infoDg)) rfl ?_
          exact ⟨rfl, setRow_below HBF.out (by omega) _⟩
end Go.Proofs.YtiloaheaglcpbaaDoor
