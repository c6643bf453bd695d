/- Disk: the statement DiskRawSpec, the walk. -/
import Derived.Test.YtekmdaphkgkgaaaDkU
import Derived.Deep.RegionHeld3
import Derived.Deep.DeepCutAuto
namespace Go.Proofs.Ytekmdaphkgkgaaa
open Go.RowKit

set_option maxRecDepth 100000 in
set_option maxHeartbeats 8000000 in
theorem diskRawSpec_any (D : Dk) (d : Value) (at' : Int) (src : List UInt8) (v : Value) (left tear : Int) (w : World) (hd : DkV w d D) (hDl : -9223372036854775808 ≤ D.left ∧ D.left ≤ 9223372036854775807) (hDt : -9223372036854775808 ≤ D.tear ∧ D.tear ≤ 9223372036854775807) (hDm : D.secs.length ≤ maxLen)
    (hv : Sl w 1 v src.length (bc src)) (hm : src.length ≤ maxLen) :
    Calls Try.prog 4 #[d, .int .i64 at', v, .int .i64 left, .int .i64 tear] w fun e w' => e = .returned (.bool true) ∧ Below w.heap.size w w' := by
  obtain ⟨va, rfl, hs⟩ := hd
  obtain ⟨a, cap, rfl⟩ := hs.len
  obtain ⟨S, l, t, st⟩ := D
  simp only [] at hs hDl hDt hDm
  obtain ⟨ab, cb, rfl⟩ := hv.form
  unfold dkAgg
  simp only []
  have HS := Lib.hid hs
  have HV := Lib.hid hv
  obtain ⟨W0, hW0⟩ : ∃ W0, W0 = w.alloc (.cells #[.slice a S.length cap, .int .i64 l, .int .i64 t, .bool st] 26) := ⟨_, rfl⟩
  have hb0 : Below w.heap.size w W0 := by rw [hW0]; exact below_alloc w _
  have hBW : Blk W0 w.heap.size 26 #[.slice a S.length cap, .int .i64 l, .int .i64 t, .bool st] := by rw [hW0]; exact Blk.new w _ _
  have HB := Lib.hid (fun W (hb : Below W0.heap.size W0 W) => dkCells (hBW.below hb hBW.lt))
  have HS0 := Lib.hid (fun W (hb : Below W0.heap.size W0 W) => (hs.next (hb0.trans (hb.mono hb0.size))).dkV (l := l) (t := t) (st := st))
  have HV0 := Lib.hid (fun W (hb : Below W0.heap.size W0 W) => hv.next (hb0.trans (hb.mono hb0.size)))
  have HQl := Lib.hid (show w.heap.size < W0.heap.size by rw [hW0]; simp)
  have HW0 := Lib.hid hW0
  have Hb0 := Lib.hid hb0
  have HM := Lib.hid hDm
  clear hs hv hb0 hBW hW0 hDm
  unfold maxLen at hm
  go_enter Try.func4, Try.ntmps4
  go_wp2_with fail
  rw [← HW0.out]
  refine (sane_any _).mono ?_
  rintro e w1 ⟨rfl, hb1⟩
  obtain ⟨b0, b1, b2, b3, f0, f1, f2, f3⟩ := HB.out _ hb1
  go_wp2_with fail
  refine (few_any ⟨S, l, t, st⟩ _ _ (HS0.out _ hb1) HM.out).mono ?_
  rintro e w2 ⟨r, rfl, hb2', hr⟩
  have hb2 := hb1.trans (hb2'.mono hb1.size)
  clear hb2' b0 b1 b2 b3 f0 f1 f2 f3
  cases r
  · clear hr
    go_wp2_with fail
    go_ret
    exact ⟨rfl, Hb0.out.trans (hb2.mono Hb0.out.size)⟩
  obtain ⟨h12, h256⟩ := hr rfl
  simp only [] at h12 h256
  clear hr
  by_cases h300 : 300 < src.length
  · have h300' : (300 : Int) < (src.length : Int) := by omega
    go_wp2_with fail
    go_ret
    exact ⟨rfl, Hb0.out.trans (hb2.mono Hb0.out.size)⟩
  have h300' : ¬ (300 : Int) < (src.length : Int) := by omega
  have H12 := Lib.hid h12
  have H256 := Lib.hid h256
  obtain ⟨b0, b1, b2, b3, f0, f1, f2, f3⟩ := HB.out _ hb2
  clear h12 h256
  go_wp2_with fail
  refine (refCopy_any ⟨S, l, t, st⟩ _ _ (HS0.out _ hb2) (by have := H12.out; show S.length ≤ 4096; omega) H256.out).mono ?_
  intro e w3 hr
  obtain ⟨a3, cap3, rfl, hs3, hb3'⟩ := hr.lit (S := S) (l := l) (t := t) (st := st) (n := S.length) rfl rfl
  have hb3 := hb2.trans (hb3'.mono hb2.size)
  clear hr hb3' b0 b1 b2 b3 f0 f1 f2 f3
  obtain ⟨iu, hiu, hu0, hu1, hu2⟩ := info_parts infoU8
  have hb4 : Below W0.heap.size W0 (w3.alloc (.cells #[.slice a3 S.length cap3, .int .i64 l, .int .i64 t, .bool st] 26)) := hb3.alloc hb3.size _
  have hWas : Blk (w3.alloc (.cells #[.slice a3 S.length cap3, .int .i64 l, .int .i64 t, .bool st] 26)) w3.heap.size 26 #[.slice a3 S.length cap3, .int .i64 l, .int .i64 t, .bool st] := Blk.new w3 _ _
  have hs4 := hs3.next (below_alloc w3 (.cells #[.slice a3 S.length cap3, .int .i64 l, .int .i64 t, .bool st] 26))
  have hb5 := hb4.alloc hb4.size (.cells #[] 5)
  have hown5 : ((w3.alloc (.cells #[.slice a3 S.length cap3, .int .i64 l, .int .i64 t, .bool st] 26)).alloc (.cells #[] 5)).ownsRow (w3.heap.size + 1) 5 1 (.slice (some ⟨w3.heap.size + 1, 0, none⟩) 0 0) 0 [] := by
    have := own_empty (w3.alloc (.cells #[.slice a3 S.length cap3, .int .i64 l, .int .i64 t, .bool st] 26)) 5 1
    simpa using this
  have hsrc5 := HV0.out _ hb5
  have Hs4 := Lib.hid hs4
  have HWas := Lib.hid hWas
  clear hs3 hs4 hWas
  go_wp2_with (at_builtin; refine wpList_append_sl _ rfl (.tmp 41) (.tmp 42) 32 rfl (w3.heap.size + 1) 5 iu _ 1 Try.underlying32 hiu hu0 hu1 hu2 rfl (.slice (some ⟨w3.heap.size + 1, 0, none⟩) 0 0) 0 [] rfl hown5 (.slice ab src.length cb) src.length (bc src) rfl hsrc5 (bc_one _) (by unfold maxLen; omega) (by omega) (by simp) ?_)
  intro v6 w6 hown6 hg6
  have hb46 : Below (w3.alloc (.cells #[.slice a3 S.length cap3, .int .i64 l, .int .i64 t, .bool st] 26)).heap.size (w3.alloc (.cells #[.slice a3 S.length cap3, .int .i64 l, .int .i64 t, .bool st] 26)) w6 :=
    (below_alloc _ (.cells #[] 5)).grown hg6 (by simp) (fun k hk => by simp [Value.ownBlock] at hk ⊢; omega)
  have hsz6 := hb46.size
  clear hown5 hg6 hsrc5 hb5
  have hwh := whole_lit 9 w6 w6 (Below.refl _ _)
  rw [show (((9 : UInt8).toNat : Nat) : Int) = 9 from rfl] at hwh
  obtain ⟨N9, hN9⟩ : ∃ N9 : List UInt8, List.replicate 128 9 = N9 := ⟨_, rfl⟩
  rw [hN9] at hwh
  have HN9 := Lib.hid (show N9.length = 128 by rw [← hN9]; simp)
  have HWh := Lib.hid hwh
  clear hwh hN9
  go_wp2_with fail
  refine HWh.out.mono ?_
  rintro e w7 ⟨xw, cw, rfl, hsw, hb67, _⟩
  have hown7 := (Upd.of_below (B := w6.heap.size) hb67).own hown6 (fun q hq h => by have := (hown6.lt q hq).2; omega)
  have hb47 := hb46.trans (hb67.mono hb46.size)
  have hsz7 := hb47.size
  have hsz7' : w3.heap.size + 1 ≤ w7.heap.size := by simpa using hsz7
  clear hown6 hb67 hb46
  go_wp2_with (at_builtin; refine wpList_append_sl _ rfl (.tmp 43) (.tmp 44) 32 rfl (w3.heap.size + 1) 5 iu _ 1 Try.underlying32 hiu hu0 hu1 hu2 rfl v6 src.length (bc src) rfl hown7 (.slice xw 128 cw) 128 (bc N9) rfl hsw (bc_one _) (by unfold maxLen; omega) (by omega) hsz7' ?_)
  intro v8 w8 hown8 hg8
  have hb48 : Below (w3.alloc (.cells #[.slice a3 S.length cap3, .int .i64 l, .int .i64 t, .bool st] 26)).heap.size (w3.alloc (.cells #[.slice a3 S.length cap3, .int .i64 l, .int .i64 t, .bool st] 26)) w8 :=
    hb47.grown hg8 hb47.size (fun k hk => by have := (hown7.lt k hk).1; simp; omega)
  have hlong : ∃ x8 c8, v8 = .slice x8 (src.length + 128) c8 ∧ 128 ≤ c8 ∧ Sl w8 1 (.slice x8 128 c8) 128 (bc ((src ++ N9).take 128)) := by
    have h := Sl.of_own hown8
    obtain ⟨x8, c8, rfl⟩ := h.form
    have hle : src.length + 128 ≤ c8 := by obtain ⟨_, a', c', he, hle', _⟩ := h; cases he; exact hle'
    refine ⟨x8, c8, rfl, by omega, Sl.take (l := src ++ N9) ?_ (by have := HN9.out; simp; omega)⟩
    have hl : (src ++ N9).length = src.length + 128 := by rw [List.length_append, HN9.out]
    rw [hl, bc_app]
    exact h
  obtain ⟨x8, c8, rfl, hc8, hlg⟩ := hlong
  have hc8' : (128 : Int) ≤ (c8 : Int) := by omega
  have HLg := Lib.hid hlg
  clear hown7 hown8 hg8 hb47 hsw hlg
  have hb09 : Below W0.heap.size W0 (w8.alloc (.cells #[.int .i64 at', .int .i64 (bits BinOp.and IntKind.i64 at' 3)] 3)) := by
    have h := hb4.trans (hb48.mono hb4.size)
    exact h.alloc h.size _
  have hL : Blk (w8.alloc (.cells #[.int .i64 at', .int .i64 (bits BinOp.and IntKind.i64 at' 3)] 3)) w8.heap.size 3 #[.int .i64 at', .int .i64 (bits BinOp.and IntKind.i64 at' 3)] := Blk.new w8 _ _
  have hlg9 := HLg.out.next (below_alloc w8 (.cells #[.int .i64 at', .int .i64 (bits BinOp.and IntKind.i64 at' 3)] 3))
  obtain ⟨aj, haj⟩ : ∃ aj, bits BinOp.and IntKind.i64 at' 3 = aj := ⟨_, rfl⟩
  rw [haj] at hb09 hL hlg9
  go_wp2_with fail
  obtain ⟨W9, hW9⟩ : ∃ W9, w8.alloc (.cells #[.int .i64 at', .int .i64 aj] 3) = W9 := ⟨_, rfl⟩
  rw [hW9] at hb09 hL hlg9 ⊢
  obtain ⟨L, hLe⟩ : ∃ L, w8.heap.size = L := ⟨_, rfl⟩
  rw [hLe] at hL ⊢
  have HW9 := Lib.hid hW9
  have Hb9 := Lib.hid hb09
  have HL := Lib.hid hL
  have HLg9 := Lib.hid hlg9
  have HLe := Lib.hid hLe
  have HWas9 := Lib.hid ((HWas.out.below hb48 HWas.out.lt).alloc (.cells #[.int .i64 at', .int .i64 aj] 3))
  have Hs9 := Lib.hid ((Hs4.out.next hb48).next (below_alloc w8 (.cells #[.int .i64 at', .int .i64 aj] 3)))
  rw [hW9] at HWas9 Hs9
  obtain ⟨R, hRe⟩ : ∃ R, w3.heap.size = R := ⟨_, rfl⟩
  rw [hRe] at HWas9 ⊢
  obtain ⟨Q, hQe⟩ : ∃ Q, w.heap.size = Q := ⟨_, rfl⟩
  rw [hQe] at HB HQl ⊢
  have Hb0 := Lib.hid Hb0.out
  rw [hQe] at Hb0
  have HQe := Lib.hid hQe
  clear hW9 hb09 hL hlg9 hLe haj hRe hQe hsz6 hsz7 hsz7' hb48 hb4
  go_loopw [52] (fun i wr => ∃ (k : Nat), k ≤ 2 ∧ i = .int .i64 k ∧ Below W9.heap.size W9 wr) (fun i _ => 2 - (intOf i).toNat)
  case atStart => exact ⟨0, by omega, rfl, Below.refl _ _⟩
  case round =>
    obtain ⟨k, hk, rfl, hbr⟩ := hrel
    have hb0r := Hb9.out.trans (hbr.mono Hb9.out.size)
    have Hbr := Lib.hid hbr
    have Hb0r := Lib.hid hb0r
    obtain ⟨q0, q1, q2, q3, f0, f1, f2, f3⟩ := HB.out _ hb0r
    by_cases hlt : k < 2
    · have i1 : (0 : Int) ≤ (k : Int) := by omega
      have i2 : (k : Int) < 2 := by omega
      obtain ⟨iv, hiv⟩ : ∃ iv : Int, wr.cell? ⟨L, k, none⟩ = some (.int .i64 iv) := by
        have h := HL.out.below hbr HL.out.lt
        rw [h.cell]
        match k, hlt with
        | 0, _ => exact ⟨_, rfl⟩
        | 1, _ => exact ⟨_, rfl⟩
      have hlg := HLg9.out.next hbr
      have Hwr := Lib.hid hb0r.size
      obtain ⟨W5, hW5⟩ : ∃ W5, wr.alloc (.cells #[.slice ab src.length cb, .slice x8 128 c8] 32) = W5 := ⟨_, rfl⟩
      have hI : Blk W5 wr.heap.size 32 #[.slice ab src.length cb, .slice x8 128 c8] := by rw [← hW5]; exact Blk.new wr _ _
      have hb5 : Below W9.heap.size W9 W5 := by rw [← hW5]; exact hbr.alloc hbr.size _
      have hlg5 : Sl W5 1 (.slice x8 128 c8) 128 (bc (List.take 128 (src ++ N9))) := HLg9.out.next hb5
      have hsr5 : Sl W5 1 (.slice ab src.length cb) src.length (bc src) := HV0.out _ (Hb9.out.trans (hb5.mono Hb9.out.size))
      have HI := Lib.hid hI
      have HLg5 := Lib.hid hlg5
      have HSr5 := Lib.hid hsr5
      have Hb5 := Lib.hid hb5
      have HLl := Lib.hid (show (List.take 128 (src ++ N9)).length = 128 by have := HN9.out; simp; omega)
      clear hbr hb0r hlg hI hlg5 hsr5 hb5
      go_wp2_with fail
      clear hW5
      obtain ⟨I, hIe⟩ : ∃ I, wr.heap.size = I := ⟨_, rfl⟩
      rw [hIe] at HI ⊢
      clear hIe
      obtain ⟨wo, hwo⟩ : ∃ wo, wo = wr := ⟨wr, rfl⟩
      rw [← hwo] at hiv Hbr Hb0r q0 q1 q2 q3 f0 f1 f2 f3 Hwr
      clear hwo
      go_loopw [60] (fun i wq => ∃ (k : Nat), k ≤ 2 ∧ i = .int .i64 k ∧ Below W5.heap.size W5 wq) (fun i _ => 2 - (intOf i).toNat)
      case atStart => exact ⟨0, by omega, rfl, Below.refl _ _⟩
      case round =>
        obtain ⟨k2, hk2, rfl, hbq⟩ := hrel
        have hb9q := Hb5.out.trans (hbq.mono Hb5.out.size)
        have hb0q := Hb9.out.trans (hb9q.mono Hb9.out.size)
        clear q0 q1 q2 q3 f0 f1 f2 f3 i1 i2
        obtain ⟨q0, q1, q2, q3, f0, f1, f2, f3⟩ := HB.out _ hb0q
        have Hbq := Lib.hid hbq
        have Hb0q := Lib.hid hb0q
        by_cases hlt2 : k2 < 2
        · have i1 : (0 : Int) ≤ (k2 : Int) := by omega
          have i2 : (k2 : Int) < 2 := by omega
          obtain ⟨xc, cs, cc, hicv, hslc⟩ : ∃ (xc : Option Addr) (cs : List UInt8) (cc : Nat), wr.cell? ⟨I, k2, none⟩ = some (.slice xc cs.length cc) ∧ Sl wr 1 (.slice xc cs.length cc) cs.length (bc cs) ∧ cs.length ≤ 300 := by
            have h := HI.out.below hbq HI.out.lt
            rw [h.cell]
            match k2, hlt2 with
            | 0, _ => exact ⟨ab, src, cb, rfl, HSr5.out.next hbq, by omega⟩
            | 1, _ =>
              have h2 := HLg5.out.next hbq
              have hl := HLl.out
              generalize List.take 128 (src ++ N9) = ls at h2 hl
              exact ⟨x8, ls, c8, by rw [hl]; rfl, by rw [hl]; exact h2, by omega⟩
          have HSl := Lib.hid hslc
          have h12 := H12.out
          have hsw := HS0.out _ hb0q
          obtain ⟨S', l', t', st', hD⟩ : ∃ S' l' t' st', wtD ⟨S, l, t, st⟩ iv cs = ⟨S', l', t', st'⟩ := ⟨_, _, _, _, rfl⟩
          obtain ⟨cE, hE⟩ : ∃ cE, wtE ⟨S, l, t, st⟩ iv cs = cE := ⟨_, rfl⟩
          have hwt := callDE (wt_any ⟨S, l, t, st⟩ _ iv cs _ wr hsw hslc.1 hDl.2 (by unfold maxLen; omega)) (Below.refl wr.heap.size wr)
          have hrt := fun W (hb : Below wr.heap.size wr W) => callDE (refWt_any ⟨S, l, t, st⟩ _ iv cs _ W (hsw.next hb) (hslc.1.next hb) hDl.2 (by show S.length ≤ maxLen; unfold maxLen; omega)) hb
          have hpos := wtD_pos ⟨S, l, t, st⟩ iv cs
          rw [hD] at hwt hrt hpos
          rw [hE] at hwt hrt
          simp only [] at hwt hrt hpos
          have HWt := Lib.hid hwt
          have HRt := Lib.hid hrt
          have HPos := Lib.hid hpos
          have HLs := Lib.hid (wtD_len ⟨S, l, t, st⟩ iv cs h12)
          rw [hD] at HLs
          simp only [] at HLs
          clear hbq hb9q hb0q hslc hsw hwt hrt hpos hD hE h12
          go_wp2_with fail
          refine HWt.out.mono ?_
          rintro e w6 ⟨a6, cap6, rfl, hs6, hb6, _⟩
          obtain ⟨m0, m1, m2, m3, n0, n1, n2, n3⟩ := HB.out _ (Hb0q.out.trans (hb6.mono Hb0q.out.size))
          have hZ6 := Blk.new w6 26 #[.slice a6 S'.length cap6, .int .i64 l', .int .i64 t', .bool st']
          have hs6' := hs6.next (below_alloc w6 (.cells #[.slice a6 S'.length cap6, .int .i64 l', .int .i64 t', .bool st'] 26))
          have hb6' := hb6.alloc hb6.size (.cells #[.slice a6 S'.length cap6, .int .i64 l', .int .i64 t', .bool st'] 26)
          have hz06 := (Hb0q.out.trans (hb6.mono Hb0q.out.size)).size
          have hQl6 : Q < w6.heap.size := by have := HQl.out; omega
          have hQn6 : ¬ Q = w6.heap.size := by omega
          have hWr6 := Lib.hid (hb6'.trans (Below.refl _ _) : Below wr.heap.size wr (w6.alloc (.cells #[.slice a6 S'.length cap6, .int .i64 l', .int .i64 t', .bool st'] 26)))
          have HZ6 := Lib.hid hZ6
          have HS6 := Lib.hid hs6'
          clear q0 q1 q2 q3 f0 f1 f2 f3 hZ6 hs6' hb6' hb6 hs6 hz06
          go_wp2_with fail
          obtain ⟨X6, hX6⟩ : ∃ X6, w6.alloc (.cells #[.slice a6 S'.length cap6, .int .i64 l', .int .i64 t', .bool st'] 26) = X6 := ⟨_, rfl⟩
          rw [hX6] at hWr6 HZ6 HS6 ⊢
          clear hX6
          obtain ⟨G6, hG6⟩ : ∃ G6, w6.heap.size = G6 := ⟨_, rfl⟩
          rw [hG6] at HZ6 ⊢
          clear m0 m1 m2 m3 n0 n1 n2 n3 hQl6 hQn6 hG6
          refine (HRt.out _ hWr6.out).mono ?_
          rintro e w7 ⟨a7, cap7, rfl, hs7, hb7, hb7r⟩
          have hZ7 := HZ6.out.below hb7 HZ6.out.lt
          have hzl : G6 < w7.heap.size := hZ7.lt
          have hzn : ¬ G6 = w7.heap.size := by omega
          obtain ⟨z0, z1, z2, z3, _, _, _, _⟩ := dkCells hZ7
          have hs67 := (HS6.out.next hb7).next (below_alloc w7 (.cells #[.slice a7 S'.length cap7, .int .i64 l', .int .i64 t', .bool st'] 26))
          have hs77 := hs7.next (below_alloc w7 (.cells #[.slice a7 S'.length cap7, .int .i64 l', .int .i64 t', .bool st'] 26))
          have hbr7 := hb7r.alloc hb7r.size (.cells #[.slice a7 S'.length cap7, .int .i64 l', .int .i64 t', .bool st'] 26)
          have hl7 := HLs.out
          have HSm := Lib.hid (same_any ⟨S', l', t', st'⟩ _ _ _ hs67.dkV hs77.dkV hl7)
          have Hbr7 := Lib.hid hbr7
          clear hZ7 hs67 hs77 hbr7 hb7 hb7r hs7 hl7
          go_wp2_with fail
          refine HSm.out.mono ?_
          rintro e w8' ⟨rfl, hb8⟩
          have hbr8 := Hbq.out.trans ((Hbr7.out.trans (hb8.mono Hbr7.out.size)).mono Hbq.out.size)
          have Hbr8 := Lib.hid hbr8
          clear hb8 hbr8
          go_wp2_with fail
          go_roundw
          case rel => exact ⟨k2 + 1, by omega, by go_num, Hbr8.out⟩
          case measure => simp [intOf]; omega
        · have hsw := HS0.out _ hb0q
          have h12 := H12.out
          have hrd := read_any ⟨S, l, t, st⟩ _ iv wr hsw (fun s hs => by have := H256.out s hs; omega)
          have hrr := fun W (hb : Below wr.heap.size wr W) => refRead_any ⟨S, l, t, st⟩ _ iv W (hsw.next hb) (by show S.length ≤ maxLen; unfold maxLen; omega)
          unfold RetRd at hrd hrr
          obtain ⟨cE, hE⟩ : ∃ cE, rdE ⟨S, l, t, st⟩ iv = cE := ⟨_, rfl⟩
          obtain ⟨bs, hB⟩ : ∃ bs, rdB ⟨S, l, t, st⟩ iv = bs := ⟨_, rfl⟩
          rw [hE, hB] at hrd hrr
          have HRd := Lib.hid hrd
          have HRr := Lib.hid hrr
          clear hsw h12 hrd hrr hE hB hbq hb9q hb0q
          go_wp2_with fail
          refine HRd.out.mono ?_
          rintro e w6 ⟨v6', rfl, hs6, hb6⟩
          obtain ⟨a6, cap6, rfl⟩ := hs6.form
          obtain ⟨m0, m1, m2, m3, n0, n1, n2, n3⟩ := HB.out _ (Hb0q.out.trans (hb6.mono Hb0q.out.size))
          have HS6 := Lib.hid hs6
          have Hb6 := Lib.hid hb6
          clear q0 q1 q2 q3 f0 f1 f2 f3 hs6 hb6
          go_wp2_with fail
          refine (HRr.out _ Hb6.out).mono ?_
          rintro e w7 ⟨v7, rfl, hs7, hb7⟩
          obtain ⟨a7, cap7, rfl⟩ := hs7.form
          have hs67 := HS6.out.next hb7
          have hb7r := Hb6.out.trans (hb7.mono Hb6.out.size)
          have Hb7r := Lib.hid (Hb5.out.trans ((Hbq.out.trans (hb7r.mono Hbq.out.size)).mono Hb5.out.size))
          have hconv1 := conv_bytes hs67
          have hconv2 := conv_bytes hs7
          clear m0 m1 m2 m3 n0 n1 n2 n3 hs7 hb7 hs67 hb7r
          go_wp2_with fail
          go_roundw
          case rel => exact ⟨k + 1, by omega, by go_num, by first | exact Hb7r.out | exact below_drewN Hb7r.out _⟩
          case measure => simp [intOf]; omega
    · obtain ⟨y0, y1, y2, y3, _, _, _, _⟩ := dkCells (HWas9.out.below hbr HWas9.out.lt)
      have hb0r' := hb0r
      clear hbr hb0r
      have h12 := H12.out
      have hmx : S.length ≤ maxLen := by unfold maxLen; omega
      have hsw := HS0.out _ hb0r'
      have hst := callDE (stop_any ⟨S, l, t, st⟩ _ left tear wr hsw) (Below.refl wr.heap.size wr)
      have hrs := fun W (hb : Below wr.heap.size wr W) => callDE (refStop_any ⟨S, l, t, st⟩ _ left tear W (hsw.next hb) hmx) hb
      obtain ⟨S', l', t', st', hD⟩ : ∃ S' l' t' st', stD ⟨S, l, t, st⟩ left tear = ⟨S', l', t', st'⟩ := ⟨_, _, _, _, rfl⟩
      obtain ⟨cE, hE⟩ : ∃ cE, stE ⟨S, l, t, st⟩ left tear = cE := ⟨_, rfl⟩
      have hls : (stD ⟨S, l, t, st⟩ left tear).secs.length ≤ maxLen := by rw [stD]; split; exact hmx; simp [Dk.zero]
      rw [hD] at hst hrs hls
      rw [hE] at hst hrs
      simp only [] at hst hrs hls
      have HWt := Lib.hid hst
      have HRt := Lib.hid hrs
      have HLs := Lib.hid hls
      have HMx := Lib.hid hmx
      clear h12 hmx hsw hst hrs hD hE hls hb0r'
      go_wp2_with fail
      refine HWt.out.mono ?_
      rintro e w6 ⟨a6, cap6, rfl, hs6, hb6, _⟩
      obtain ⟨m0, m1, m2, m3, n0, n1, n2, n3⟩ := HB.out _ (Hb0r.out.trans (hb6.mono Hb0r.out.size))
      have hZ6 := Blk.new w6 26 #[.slice a6 S'.length cap6, .int .i64 l', .int .i64 t', .bool st']
      have hs6' := hs6.next (below_alloc w6 (.cells #[.slice a6 S'.length cap6, .int .i64 l', .int .i64 t', .bool st'] 26))
      have hb6' := hb6.alloc hb6.size (.cells #[.slice a6 S'.length cap6, .int .i64 l', .int .i64 t', .bool st'] 26)
      have hz06 := (Hb0r.out.trans (hb6.mono Hb0r.out.size)).size
      have hQl6 : Q < w6.heap.size := by have := HQl.out; omega
      have hQn6 : ¬ Q = w6.heap.size := by omega
      have hWr6 := Lib.hid hb6'
      have HZ6 := Lib.hid hZ6
      have HS6 := Lib.hid hs6'
      clear q0 q1 q2 q3 f0 f1 f2 f3 y0 y1 y2 y3 hZ6 hs6' hb6' hb6 hs6 hz06
      go_wp2_with fail
      obtain ⟨X6, hX6⟩ : ∃ X6, w6.alloc (.cells #[.slice a6 S'.length cap6, .int .i64 l', .int .i64 t', .bool st'] 26) = X6 := ⟨_, rfl⟩
      rw [hX6] at hWr6 HZ6 HS6 ⊢
      clear hX6
      obtain ⟨G6, hG6⟩ : ∃ G6, w6.heap.size = G6 := ⟨_, rfl⟩
      rw [hG6] at HZ6 ⊢
      clear m0 m1 m2 m3 n0 n1 n2 n3 hQl6 hQn6 hG6
      refine (HRt.out _ hWr6.out).mono ?_
      rintro e w7 ⟨a7, cap7, rfl, hs7, hb7, hb7r⟩
      have hZ7 := HZ6.out.below hb7 HZ6.out.lt
      obtain ⟨X7, hX7⟩ : ∃ X7, w7.alloc (.cells #[.slice a7 S'.length cap7, .int .i64 l', .int .i64 t', .bool st'] 26) = X7 := ⟨_, rfl⟩
      have hx6 : Blk X7 G6 26 #[.slice a6 S'.length cap6, .int .i64 l', .int .i64 t', .bool st'] := by rw [← hX7]; exact hZ7.alloc _
      have hx7 : Blk X7 w7.heap.size 26 #[.slice a7 S'.length cap7, .int .i64 l', .int .i64 t', .bool st'] := by rw [← hX7]; exact Blk.new w7 _ _
      have hs67 : Secs X7 (.slice a6 S'.length cap6) S' := by rw [← hX7]; exact (HS6.out.next hb7).next (below_alloc w7 _)
      have hs77 : Secs X7 (.slice a7 S'.length cap7) S' := by rw [← hX7]; exact hs7.next (below_alloc w7 _)
      have hb9x : Below W9.heap.size W9 X7 := by rw [← hX7]; exact Hbr.out.trans ((hb7r.alloc hb7r.size _).mono Hbr.out.size)
      have hb0x := Hb9.out.trans (hb9x.mono Hb9.out.size)
      have HSm1 := Lib.hid (fun W (hb : Below X7.heap.size X7 W) => thenB hb (same_any ⟨S', l', t', st'⟩ _ _ W (hs67.next hb).dkV (hs77.next hb).dkV HLs.out))
      have HCk := Lib.hid (fun W (hb : Below X7.heap.size X7 W) => thenB hb (check_any ⟨S, l, t, st⟩ _ W (HS0.out W (hb0x.trans (hb.mono hb0x.size)))))
      have HCr := Lib.hid (fun W (hb : Below X7.heap.size X7 W) => thenB hb (refCheck_any ⟨S, l, t, st⟩ _ W (HS0.out W (hb0x.trans (hb.mono hb0x.size))) HMx.out))
      have HRe := Lib.hid (fun W (hb : Below X7.heap.size X7 W) => restart1 hb (restart_any ⟨S, l, t, st⟩ _ W (HS0.out W (hb0x.trans (hb.mono hb0x.size)))))
      have HRr := Lib.hid (fun W (hb : Below X7.heap.size X7 W) => refRestart_any ⟨S, l, t, st⟩ _ W (HS0.out W (hb0x.trans (hb.mono hb0x.size))))
      have HSm3 := Lib.hid (fun W (hb : Below X7.heap.size X7 W) => thenB hb (same_any ⟨S, l, t, st⟩ _ _ W (HS0.out W (hb0x.trans (hb.mono hb0x.size))) (Hs9.out.next (hb9x.trans (hb.mono hb9x.size))).dkV HMx.out))
      obtain ⟨G7, hG7⟩ : ∃ G7, w7.heap.size = G7 := ⟨_, rfl⟩
      rw [hG7] at hx7
      have hK : ∀ W, Below X7.heap.size X7 W → W.cell? ⟨Q, 0, none⟩ = some (.slice a S.length cap) ∧ W.cell? ⟨Q, 1, none⟩ = some (.int .i64 l) ∧ W.cell? ⟨Q, 2, none⟩ = some (.int .i64 t) ∧ W.cell? ⟨Q, 3, none⟩ = some (.bool st) ∧ W.cell? ⟨R, 0, none⟩ = some (.slice a3 S.length cap3) ∧ W.cell? ⟨R, 1, none⟩ = some (.int .i64 l) ∧ W.cell? ⟨R, 2, none⟩ = some (.int .i64 t) ∧ W.cell? ⟨R, 3, none⟩ = some (.bool st) ∧ W.cell? ⟨G6, 0, none⟩ = some (.slice a6 S'.length cap6) ∧ W.cell? ⟨G6, 1, none⟩ = some (.int .i64 l') ∧ W.cell? ⟨G6, 2, none⟩ = some (.int .i64 t') ∧ W.cell? ⟨G6, 3, none⟩ = some (.bool st') ∧ W.cell? ⟨G7, 0, none⟩ = some (.slice a7 S'.length cap7) ∧ W.cell? ⟨G7, 1, none⟩ = some (.int .i64 l') ∧ W.cell? ⟨G7, 2, none⟩ = some (.int .i64 t') ∧ W.cell? ⟨G7, 3, none⟩ = some (.bool st') := by
        intro W hb
        obtain ⟨q0, q1, q2, q3, _, _, _, _⟩ := HB.out W (hb0x.trans (hb.mono hb0x.size))
        obtain ⟨y0, y1, y2, y3, _, _, _, _⟩ := dkCells (HWas9.out.below (hb9x.trans (hb.mono hb9x.size)) HWas9.out.lt)
        obtain ⟨x0, x1, x2, x3, _, _, _, _⟩ := dkCells (hx6.below hb hx6.lt)
        obtain ⟨z0, z1, z2, z3, _, _, _, _⟩ := dkCells (hx7.below hb hx7.lt)
        exact ⟨q0, q1, q2, q3, y0, y1, y2, y3, x0, x1, x2, x3, z0, z1, z2, z3⟩
      have HK := Lib.hid hK
      have hbx : Below X7.heap.size X7 X7 := Below.refl _ _
      have Hend := Lib.hid (fun W (hb : Below X7.heap.size X7 W) => Hb0.out.trans ((hb0x.trans (hb.mono hb0x.size)).mono (Nat.le_of_lt HQl.out)))
      have hX7' := Lib.hid hX7
      obtain ⟨c0, c1, c2, c3, c4, c5, c6, c7, c8', c9, c10, c11, c12, c13, c14, c15⟩ := hK X7 hbx
      clear hZ7 hx6 hx7 hs67 hs77 hb9x hb0x hK hX7 hb7 hb7r hs7
      go_wp2_with fail
      rw [hX7'.out]
      clear hG7
      go_region_held3 (fun W => W.cell? ⟨Q, 0, none⟩ = some (.slice a S.length cap) ∧ W.cell? ⟨Q, 1, none⟩ = some (.int .i64 l) ∧ W.cell? ⟨Q, 2, none⟩ = some (.int .i64 t) ∧ W.cell? ⟨Q, 3, none⟩ = some (.bool st) ∧ W.cell? ⟨R, 0, none⟩ = some (.slice a3 S.length cap3) ∧ W.cell? ⟨R, 1, none⟩ = some (.int .i64 l) ∧ W.cell? ⟨R, 2, none⟩ = some (.int .i64 t) ∧ W.cell? ⟨R, 3, none⟩ = some (.bool st) ∧ W.cell? ⟨G6, 0, none⟩ = some (.slice a6 S'.length cap6) ∧ W.cell? ⟨G6, 1, none⟩ = some (.int .i64 l') ∧ W.cell? ⟨G6, 2, none⟩ = some (.int .i64 t') ∧ W.cell? ⟨G6, 3, none⟩ = some (.bool st') ∧ W.cell? ⟨G7, 0, none⟩ = some (.slice a7 S'.length cap7) ∧ W.cell? ⟨G7, 1, none⟩ = some (.int .i64 l') ∧ W.cell? ⟨G7, 2, none⟩ = some (.int .i64 t') ∧ W.cell? ⟨G7, 3, none⟩ = some (.bool st'))
        (first
          | (with_reducible exact HK.out _ hbx)
          | (with_reducible exact HK.out _ (by (repeat (refine Below.drew ?_)); exact hbx)))
        (first
          | (go_at_call 22; with_reducible refine Calls.mono (HCk.out _ (by (repeat (refine Below.drew ?_)); exact hbx)) ?_; rintro e w9 ⟨rfl, hbx⟩)
          | (go_at_call 23; with_reducible refine Calls.mono (HCr.out _ (by (repeat (refine Below.drew ?_)); exact hbx)) ?_; rintro e w9 ⟨rfl, hbx⟩)
          | (go_at_call 24; with_reducible refine Calls.mono (HRe.out _ (by (repeat (refine Below.drew ?_)); exact hbx)) ?_; rintro e w9 ⟨a12, cap12, rfl, hs12, hbx⟩; have HRq := Lib.hid (fun W (hb : Below w9.heap.size w9 W) => restart2 hbx hb hs12 HMx.out (HRr.out W (hbx.trans (hb.mono hbx.size)))))
          | (go_at_call 25; with_reducible refine Calls.mono (HRq.out _ (by (repeat (refine Below.drew ?_)); exact Below.refl _ _)) ?_; rintro e w9 ⟨a13, cap13, rfl, hss, hbx⟩; have HSm2 := Lib.hid hss; clear hss)
          | (go_at_call 12; with_reducible refine Calls.mono (HSm1.out _ (by (repeat (refine Below.drew ?_)); exact hbx)) ?_; rintro e w9 ⟨rfl, hbx⟩)
          | (go_at_call 12; with_reducible refine Calls.mono (HSm2.out _ (by (repeat (refine Below.drew ?_)); exact Below.refl _ _)) ?_; rintro e w9 ⟨rfl, hbx⟩)
          | (go_at_call 12; with_reducible refine Calls.mono (HSm3.out _ (by (repeat (refine Below.drew ?_)); exact hbx)) ?_; rintro e w9 ⟨rfl, hbx⟩))
      all_goals
        go_wp2_with fail
        go_ret
        exact ⟨rfl, by rw [HQe.out]; exact Hend.out _ hbx⟩
end Go.Proofs.Ytekmdaphkgkgaaa
