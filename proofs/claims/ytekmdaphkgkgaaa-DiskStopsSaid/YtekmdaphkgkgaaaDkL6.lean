/- Disk: the statement DiskStops, the walk. -/
import Derived.Test.YtekmdaphkgkgaaaDkV
import Derived.Deep.RegionHeld3
import Derived.Deep.DeepCutAuto
import Derived.Deep.CutBlock
namespace Go.Proofs.Ytekmdaphkgkgaaa
open Go.RowKit

theorem conv_len {w : World} {l : List UInt8} {n : Nat} {a : Option Addr} {cap : Nat} (hl : l.length = n) (h : Sl w 1 (.slice a n cap) n (bc l)) :
    (convert 32 9 (.slice a n cap)).run Try.prog w = .ok (.string (mkS l)) w := by
  subst hl
  exact conv_bytes h

set_option maxRecDepth 100000 in
set_option maxHeartbeats 8000000 in
theorem diskStops_any (n0 tear : Int) (src : List UInt8) (v : Value) (w : World) (_ : -9223372036854775808 ≤ n0 ∧ n0 ≤ 9223372036854775807) (_ : -9223372036854775808 ≤ tear ∧ tear ≤ 9223372036854775807) (hv : Sl w 1 v src.length (bc src)) (hm : src.length ≤ maxLen) :
    Calls Try.prog 7 #[.int .i64 n0, .int .i64 tear, v] w fun e w' => e = .returned (.bool true) ∧ Below w.heap.size w w' := by
  unfold maxLen at hm
  obtain ⟨a, cap, rfl⟩ := hv.form
  by_cases hl : 60 < src.length
  · go_enter Try.func7, Try.ntmps7
    go_wp2_with fail
    refine (sane_any w).mono ?_
    rintro e w1 ⟨rfl, hb1⟩
    go_wp2_with fail
    go_ret
    exact ⟨rfl, hb1⟩
  obtain ⟨n, hn7, hn⟩ := and7 n0
  obtain ⟨t, ht128, ht⟩ : ∃ t : Nat, t ≤ 128 ∧ (bits BinOp.and IntKind.i64 tear 1073741823).tmod 129 = (t : Int) := by
    obtain ⟨h1, h2⟩ := trOf_range tear
    unfold trOf at h1 h2
    exact ⟨((bits BinOp.and IntKind.i64 tear 1073741823).tmod 129).toNat, by omega, by omega⟩
  have HN := Lib.hid (fun W => diskOf_any (-1) 0 W)
  have HV := Lib.hid hv
  clear hv
  go_enter Try.func7, Try.ntmps7
  go_wp2_with fail
  refine (sane_any w).mono ?_
  rintro e w1 ⟨rfl, hb1⟩
  go_wp2_with fail
  refine (HN.out _).mono ?_
  intro e w2 hr
  obtain ⟨a2, cap2, rfl, hs2, hb2⟩ := hr.lit (S := fourS 4) (l := -1) (t := 0) (st := false) (n := 4) (by decide +kernel) (fourS_len 4)
  clear hr
  have hB2 : Below w.heap.size w w2 := hb1.trans (hb2.mono hb1.size)
  have HB2 := Lib.hid hB2
  clear hb2 hb1 hB2
  have hst := stop_any ⟨fourS 4, -1, 0, false⟩ _ (n : Int) (t : Int) w2 hs2.dkV
  rw [(sp_stop hn7 ht128).1] at hst
  have HSt := Lib.hid hst
  have HSp := Lib.hid (sp_stop hn7 ht128).2
  clear hst hs2
  go_wp2_with fail
  refine HSt.out.mono ?_
  intro e w3 hr
  obtain ⟨a3, cap3, rfl, hs3, hb3⟩ := hr.lit (S := fourS 4) (l := n) (t := t) (st := false) (n := 4) HSp.out (fourS_len 4)
  have hB3 := HB2.out.trans (hb3.mono HB2.out.size)
  have hs3' := hs3.next (below_alloc w3 (.cells #[.slice a3 4 cap3, .int .i64 n, .int .i64 t, .bool false] 26))
  have hQ3 := Blk.new w3 26 #[.slice a3 4 cap3, .int .i64 n, .int .i64 t, .bool false]
  have HDw := Lib.hid (diskWhole_any (fourS 4) n t false a3 cap3 _ hs3' (fourS_len 4) fourS_all)
  have HB3 := Lib.hid (hB3.alloc hB3.size (.cells #[.slice a3 4 cap3, .int .i64 n, .int .i64 t, .bool false] 26))
  have HS3 := Lib.hid hs3'
  have HQ3 := Lib.hid hQ3
  have HQw := Lib.hid hB3.size
  clear hr hb3 hB3 hs3 hs3' hQ3
  go_wp2_with fail
  refine HDw.out.mono ?_
  rintro e w4 ⟨rfl, hb4⟩
  have HQ4 := Lib.hid (HQ3.out.below hb4 HQ3.out.lt)
  have HS4 := Lib.hid (HS3.out.next hb4)
  have HB4 := Lib.hid (HB3.out.trans (hb4.mono HB3.out.size))
  clear hb4
  go_wp2_with fail
  obtain ⟨Q, hQe⟩ : ∃ Q, w3.heap.size = Q := ⟨_, rfl⟩
  rw [hQe] at HQ4 HQw ⊢
  clear hQe
  obtain ⟨iu, hiu, hu0, hu1, hu2⟩ := info_parts infoU8
  have HTn := Lib.hid hn
  have HTt := Lib.hid ht
  clear hn ht
  go_loopw [49] (fun i wr => ∃ (k : Nat) (S : List (List UInt8)) (x : Option Addr) (cx : Nat), k ≤ src.length ∧ i = .int .i64 k ∧ S.length = 4 ∧ (∀ s ∈ S, s.length = 128) ∧ Blk wr Q 26 #[.slice x 4 cx, .int .i64 (spL n k), .int .i64 t, .bool (spS n k)] ∧ Secs wr (.slice x 4 cx) S ∧ Below w.heap.size w wr) (fun i _ => src.length - (intOf i).toNat)
  case atStart =>
    refine ⟨0, fourS 4, a3, cap3, by omega, rfl, fourS_len 4, fourS_all, ?_, HS4.out, HB4.out⟩
    rw [show spL n 0 = (n : Int) by unfold spL; split <;> omega, show spS n 0 = false from decide_eq_false (by omega)]
    exact HQ4.out
  case round => as_aux_lemma =>
    obtain ⟨k, S, x, cx, hk, rfl, h4, hall, hQ, hs, hb⟩ := hrel
    have HB := Lib.hid hb
    by_cases hlt : k < src.length
    · obtain ⟨g, off, rfl, hcap, hc⟩ := (HV.out.next hb).pos (by omega)
      obtain ⟨c, hck⟩ : ∃ c, src[k]? = some c := ⟨_, List.getElem?_eq_getElem hlt⟩
      have hcell := hc k (.int .u8 (c.toNat : Int)) (by simp [bc, hck])
      have hc256 := c.toNat_lt
      have HWh := Lib.hid (fun w W hb => whole_lit c w W hb)
      obtain ⟨cn, hcn⟩ : ∃ cn : Nat, c.toNat = cn := ⟨_, rfl⟩
      rw [hcn] at hcell hc256 HWh
      obtain ⟨m, hm4⟩ : ∃ m : Nat, cn % 4 = m := ⟨_, rfl⟩
      have hm : m < 4 := by omega
      have i1 : (0 : Int) ≤ (k : Int) := by omega
      have i2 : (k : Int) < (src.length : Int) := by omega
      have i3 : (0 : Int) ≤ (cn : Int) := by omega
      have i4 : (cn : Int) < 256 := by omega
      have i5 : (0 : Int) ≤ (m : Int) := by omega
      have i6 : (m : Int) < 4 := by omega
      have u1 : (cn : Int).tmod 4 = (m : Int) := by rw [Int.tmod_eq_emod_of_nonneg (by omega)]; omega
      have u2 : (cn : Int) % 4 = (m : Int) := by omega
      have u3 : IntKind.i64.wrap (cn : Int) = (cn : Int) := IntWalk.i64_in _ (by omega)
      have u4 : IntKind.i64.wrap (m : Int) = (m : Int) := IntWalk.i64_in _ (by omega)
      have u5 : IntKind.u8.wrap (m : Int) = (m : Int) := IntWalk.u8_in _ (by omega)
      obtain ⟨s, hsm⟩ : ∃ s, S[m]? = some s := ⟨_, List.getElem?_eq_getElem (by omega)⟩
      have hsl := hall s (List.mem_of_getElem? hsm)
      have hsx : Secs wr (.slice x S.length cx) S := by rw [h4]; exact hs
      obtain ⟨gs, os, rfl, hcx, hat⟩ := hsx.at_ (by omega)
      obtain ⟨x1, c1, hsc1, hsc⟩ := hat m s hsm
      rw [hsl] at hsc1 hsc
      have hgs := World.block_lt_of_cell? wr _ hsc1
      have hgl := World.block_lt_of_cell? wr _ hcell
      obtain ⟨hwd, hwe⟩ := sp_wt (n := n) (t := t) (k := k) h4 hall ht128 hm hsm c
      have HSm := Lib.hid hsm
      have HSl := Lib.hid hsl
      have H4 := Lib.hid h4
      have Hall := Lib.hid hall
      have HCn := Lib.hid hcn
      clear hc hck hcn hm4 hat hsx
      have HLl := Lib.hid (sp_lS n k)
      obtain ⟨st, hst⟩ : ∃ st, spS n k = st := ⟨_, rfl⟩
      obtain ⟨st2, hst2⟩ : ∃ st2, spS n (k + 1) = st2 := ⟨_, rfl⟩
      obtain ⟨cE, hcE⟩ : ∃ cE, (if k < n then (0 : Int) else 410) = cE := ⟨_, rfl⟩
      rw [hst, hst2] at hwd
      rw [hst] at hwe
      rw [hcE] at hwe
      obtain ⟨l, hle⟩ : ∃ l, spL n k = l := ⟨_, rfl⟩
      obtain ⟨l', hle'⟩ : ∃ l', spL n (k + 1) = l' := ⟨_, rfl⟩
      obtain ⟨wa, hwa⟩ : ∃ wa, want n t k c s = wa := ⟨_, rfl⟩
      obtain ⟨S', hS'⟩ : ∃ S', S.set m wa = S' := ⟨_, rfl⟩
      rw [hle, hle', hwa, hS'] at hwd
      rw [hle] at hwe
      rw [hst, hle] at hQ
      have hS4 := sp_set (m := m) h4 hall (want_len (n := n) (t := t) (k := k) (c := c) hsl ht128)
      rw [hwa, hS'] at hS4
      have hl5 : l ≤ 9223372036854775807 := by have := HLl.out.2.2; omega
      have hbl : (List.replicate 128 c).length = 128 := List.length_replicate
      have HWt := Lib.hid (fun w W (ab : Option Addr) (cb : Nat) hs hb hv g hZ => wt_litZ S S' l t l' t st st2 (m : Int) (List.replicate 128 c) cE w W (some ⟨gs, os, none⟩) ab 4 cx cb h4 _ rfl hwd hwe hs hb hv hbl hl5 g hZ)
      have HWt2 := Lib.hid (fun w W (ab : Option Addr) (cb : Nat) hs hb hv => wt_lit S S' l t l' t st st2 (m : Int) (List.replicate 128 c) cE w W (some ⟨gs, os, none⟩) ab 4 cx cb h4 _ rfl hwd hwe hs hb hv hbl hl5)
      have HLe := Lib.hid (show spL n k = l ∧ spL n (k + 1) = l' ∧ want n t k c s = wa ∧ S.set m wa = S' ∧ spS n (k + 1) = st2 from ⟨hle, hle', hwa, hS', hst2⟩)
      have HS4 := Lib.hid hS4
      have HL' := Lib.hid (show (S'.length = 0 ∨ 2 ≤ S'.length) ∧ ∀ s ∈ S', 0 < s.length from ⟨by have := hS4.1; omega, fun s hs => by have := hS4.2 s hs; omega⟩)
      have HQ := Lib.hid hQ
      obtain ⟨q0, q1, q2, q3, f0, f1, f2, f3⟩ := dkCells hQ
      have hQl := hQ.lt
      have HCp := Lib.hid (fun W (hb : Below wr.heap.size wr W) => refCopy_any ⟨S, l, t, st⟩ _ W (hs.next hb).dkV (by show S.length ≤ 4096; omega) (fun s hs => by have := hall s hs; omega))
      have HSs := Lib.hid hsc
      have HSe := Lib.hid hs
      have HcE := Lib.hid hcE
      clear hst hst2 hcE hwd hwe hle hle' hwa hS' hS4 hl5 hbl hQ hsc hs
      go_wp2_with (at_builtin; refine wpList_append_sl _ rfl (.tmp 57) (.tmp 62) 32 rfl wr.heap.size 5 iu _ 1 Try.underlying32 hiu hu0 hu1 hu2 rfl (.slice (some ⟨wr.heap.size, 0, none⟩) 0 0) 0 [] rfl (own_empty wr 5 1) (.slice x1 128 c1) 128 (bc s) rfl (HSs.out.next (below_alloc wr _)) (bc_one _) (by unfold maxLen; omega) (by omega) (by simp) ?_)
      clear h4 hall hsm hsl hcx hsc1 hcell
      intro v5 w5 hown5a hg5
      have hb5 : Below wr.heap.size wr w5 := ((Below.refl wr.heap.size wr).alloc (Nat.le_refl _) _).grown hg5 (by simp) (fun k hk => by simp [Value.ownBlock] at hk; omega)
      have hown5 : w5.ownsRow wr.heap.size 5 1 v5 128 (bc s) := (by simpa using hown5a)
      obtain ⟨x5, c5, rfl⟩ := (Sl.of_own hown5).form
      have hc5 : 128 ≤ c5 := by obtain ⟨_, a', c', he, hle', _⟩ := Sl.of_own hown5; cases he; omega
      have HC5 := Lib.hid hc5
      clear hc5
      have HOld := Lib.hid (Sl.of_own hown5)
      have Hb5 := Lib.hid hb5
      clear q0 q1 q2 q3 f0 f1 f2 f3
      obtain ⟨q0, q1, q2, q3, f0, f1, f2, f3⟩ := dkCells (HQ.out.below hb5 hQl)
      clear hown5a hown5 hg5 hb5
      go_wp2_with fail
      refine (HCp.out _ Hb5.out).mono ?_
      intro e w6 hr
      obtain ⟨a6, cap6, rfl, hs6, hb6⟩ := hr.lit (S := S) (l := l) (t := t) (st := st) (n := 4) rfl H4.out
      have hb7 := (Hb5.out.trans (hb6.mono Hb5.out.size)).alloc (Hb5.out.trans (hb6.mono Hb5.out.size)).size (.cells #[.slice a6 4 cap6, .int .i64 l, .int .i64 t, .bool st] 26)
      have hO7 := Blk.new w6 26 #[.slice a6 4 cap6, .int .i64 l, .int .i64 t, .bool st]
      have hs7 := hs6.next (below_alloc w6 (.cells #[.slice a6 4 cap6, .int .i64 l, .int .i64 t, .bool st] 26))
      have ho7 := (HOld.out.next hb6).next (below_alloc w6 (.cells #[.slice a6 4 cap6, .int .i64 l, .int .i64 t, .bool st] 26))
      clear hr hs6 hb6 q0 q1 q2 q3 f0 f1 f2 f3
      go_wp2_with fail
      obtain ⟨w7, hw7⟩ : ∃ w7, w6.alloc (.cells #[.slice a6 4 cap6, .int .i64 l, .int .i64 t, .bool st] 26) = w7 := ⟨_, rfl⟩
      obtain ⟨O, hOe⟩ : ∃ O, w6.heap.size = O := ⟨_, rfl⟩
      rw [hw7] at hb7 hO7 hs7 ho7 ⊢
      rw [hOe] at hO7 ⊢
      have HO7 := Lib.hid hO7
      have HOs7 := Lib.hid hs7
      have HOld7 := Lib.hid ho7
      have Hb7 := Lib.hid hb7
      have hQ7 := HQ.out.below hb7 hQl
      have HQ7 := Lib.hid hQ7
      have HSe7 := Lib.hid (HSe.out.next hb7)
      obtain ⟨q0, q1, q2, q3, f0, f1, f2, f3⟩ := dkCells hQ7
      have hQl := hQ7.lt
      clear hw7 hOe hO7 hs7 ho7 hb7 hQ7 HCp
      obtain ⟨x, hx⟩ : ∃ x : Option Addr, some ⟨gs, os, none⟩ = x := ⟨_, rfl⟩
      rw [hx] at HWt HWt2 HSe7 q0 ⊢
      have Hx := Lib.hid hx
      clear hx
      go_cut [14, 15] (fun s9 s10 wx => s10 = .int .i64 cE ∧ WrReg w7 S' l' (t : Int) st2 s9 wx)
      case first =>
        have hl1 : Q < w7.heap.size + 1 := by omega
        have hneQ : ¬ Q = w7.heap.size := by omega
        go_region_held3 (fun w' => w'.cell? ⟨Q, 0, none⟩ = some (.slice x 4 cx) ∧ w'.cell? ⟨Q, 1, none⟩ = some (.int .i64 l) ∧ w'.cell? ⟨Q, 2, none⟩ = some (.int .i64 (t : Int)) ∧ w'.cell? ⟨Q, 3, none⟩ = some (.bool st))
          (first
            | (with_reducible exact ⟨q0, q1, q2, q3⟩)
            | (simp only [World.cell?_drew]; with_reducible exact ⟨q0, q1, q2, q3⟩)
            | (go_split_ands; refine ⟨?_, ?_, ?_, ?_⟩ <;> (rw [hcc9 _ _ (by first | omega | (simp; omega))]; assumption))
            | (go_split_ands; refine ⟨?_, ?_, ?_, ?_⟩ <;> (rw [hcc5 _ _ (by first | omega | (simp; omega))]; assumption))
            | (go_split_ands; refine ⟨?_, ?_, ?_, ?_⟩ <;> (rw [World.cell?_alloc_past _ _ _ (by first | omega | (simp; omega))]; assumption))
            | (go_split_ands; refine ⟨?_, ?_, ?_, ?_⟩ <;> (rw [World.cell?_drew, World.cell?_alloc_past _ _ _ (by first | omega | (simp; omega))]; assumption))
            | (go_split_ands; refine ⟨?_, ?_, ?_, ?_⟩ <;> ((repeat (rw [World.cell?_setCell_other _ _ _ _ (by intro h; have := congrArg Addr.block h; simp at this; omega)])); assumption)))
          (first
            | (go_at_call 15; refine (HWh.out w7 _ (by (repeat (first | (refine Below.alloc ?_ (by simp) _) | (refine Below.drew ?_))); exact Below.refl _ _)).mono ?_; rintro e w5 ⟨xw, cw, rfl, hsw, hb5, hb5'⟩; obtain ⟨hcc5, hff5⟩ := bcell hb5; have hk5 := fun g T cs (h : Blk _ g T cs) => h.below hb5 h.lt; have hn5 : ¬ Q = w5.heap.size := (by have := hb5'.size; omega); have hl5 : Q < w5.heap.size := (by have := hb5'.size; omega); have hl5' : Q < w5.heap.size + 1 := (by omega))
            | (go_at_call 16; refine (HWt.out w7 _ xw cw HSe7.out (by (repeat (first | (refine Below.alloc ?_ (by have := hb5'.size; simp; omega) _) | (refine Below.drew ?_))); exact hb5') (by first | exact hsw | exact hsw.alloc _) _ (hk5 _ _ _ (Blk.new _ _ _))).mono ?_; rintro e w9 ⟨a', cap', rfl, hs9, hZ, hb9, hb9'⟩; obtain ⟨z0, z1, z2, z3, p0, p1, p2, p3⟩ := dkCells hZ; obtain ⟨hcc9, hff9⟩ := bcell hb9; have hn9 : ¬ Q = w9.heap.size := (by have := hb9'.size; omega); have hl9 : Q < w9.heap.size := (by have := hb9'.size; omega); have d0 := (hb9'.cell (p := ⟨Q, 0, none⟩) hQl).trans q0; have d1 := (hb9'.cell (p := ⟨Q, 1, none⟩) hQl).trans q1; have d2 := (hb9'.cell (p := ⟨Q, 2, none⟩) hQl).trans q2; have d3 := (hb9'.cell (p := ⟨Q, 3, none⟩) hQl).trans q3)
            | (go_at_call 16; refine (HWt.out w7 _ xw cw HSe7.out (by (repeat (first | (refine Below.alloc ?_ (by have := hb5'.size; simp; omega) _) | (refine Below.drew ?_))); exact hb5') (by first | exact hsw | exact hsw.alloc _) _ (Blk.new _ _ _)).mono ?_; rintro e w9 ⟨a', cap', rfl, hs9, hZ, hb9, hb9'⟩; obtain ⟨z0, z1, z2, z3, p0, p1, p2, p3⟩ := dkCells hZ; obtain ⟨hcc9, hff9⟩ := bcell hb9; have hn9 : ¬ Q = w9.heap.size := (by have := hb9'.size; omega); have hl9 : Q < w9.heap.size := (by have := hb9'.size; omega); have d0 := (hb9'.cell (p := ⟨Q, 0, none⟩) hQl).trans q0; have d1 := (hb9'.cell (p := ⟨Q, 1, none⟩) hQl).trans q1; have d2 := (hb9'.cell (p := ⟨Q, 2, none⟩) hQl).trans q2; have d3 := (hb9'.cell (p := ⟨Q, 3, none⟩) hQl).trans q3)
            | (go_at_call 16; refine (HWt2.out w7 _ xw cw HSe7.out (by (repeat (first | (refine Below.alloc ?_ (by have := hb5'.size; simp; omega) _) | (refine Below.drew ?_))); exact hb5') hsw).mono ?_; rintro e w9 ⟨a', cap', rfl, hs9, hb9, hb9'⟩; obtain ⟨hcc9, hff9⟩ := bcell hb9; have hn9 : ¬ Q = w9.heap.size := (by have := hb9'.size; omega); have hl9 : Q < w9.heap.size := (by have := hb9'.size; omega); have d0 := (hb9'.cell (p := ⟨Q, 0, none⟩) hQl).trans q0; have d1 := (hb9'.cell (p := ⟨Q, 1, none⟩) hQl).trans q1; have d2 := (hb9'.cell (p := ⟨Q, 2, none⟩) hQl).trans q2; have d3 := (hb9'.cell (p := ⟨Q, 3, none⟩) hQl).trans q3))
        all_goals
          go_wp2_with fail
          go_meet
          refine ⟨rfl, ?_⟩
          first
            | (with_reducible exact wr_fin2 rfl hs9 hb9')
            | (with_reducible exact wr_fin1 rfl hs9 hb9' (Nat.le_refl _) HL'.out.1 HL'.out.2 hZ)
            | (with_reducible exact wr_fin1 rfl hs9 hb9' hb5'.size HL'.out.1 HL'.out.2 hZ)
      case rest => as_aux_lemma =>
        obtain ⟨wd, rfl⟩ : ∃ wd, wd = wc := ⟨wc, rfl⟩
        obtain ⟨rfl, g9, a', cap', rfl, hg9, hB9, hs9, hb9⟩ := hcut
        rw [HS4.out.1] at hB9 hs9
        obtain ⟨y0, y1, y2, y3, _, _, _, _⟩ := dkCells hB9
        have HDw := Lib.hid (diskWhole_any S' l' (t : Int) st2 a' cap' wd hs9 HS4.out.1 HS4.out.2)
        have HB9 := Lib.hid hB9
        have HS9 := Lib.hid hs9
        have Hb9 := Lib.hid (Hb7.out.trans (hb9.mono Hb7.out.size))
        have Hb97 := Lib.hid hb9
        have hg9' := hg9
        clear hB9 hs9 hb9 q0 q1 q2 q3 f0 f1 f2 f3
        go_wp2_with fail
        refine HDw.out.mono ?_
        rintro e w10 ⟨rfl, hb10⟩
        have Hb10 := Lib.hid hb10
        clear hb10 y0 y1 y2 y3
        go_wp2_with fail
        refine (HWh.out w10 w10 (Below.refl _ _)).mono ?_
        rintro e w11 ⟨xw, cw, rfl, hsw, hb11, _⟩
        have HWa := Lib.hid hsw
        have Hb11 := Lib.hid (Hb10.out.trans (hb11.mono Hb10.out.size))
        clear hsw hb11
        have HWl := Lib.hid (show wa.length = 128 by rw [← HLe.out.2.2.1]; exact want_len HSl.out ht128)
        have Hold := Lib.hid ((HOld7.out.next Hb97.out).next Hb11.out)
        go_upto_block 2 with (fail)
        go_cut [16] (fun s16 wx => ∃ xu cu, s16 = .slice xu 128 cu ∧ Sl wx 1 (.slice xu 128 cu) 128 (bc wa) ∧ Below w11.heap.size w11 wx)
        case first => as_aux_lemma =>
          have hwa := HLe.out.2.2.1
          rcases Nat.lt_trichotomy k n with hkn | hkn | hkn
          · as_aux_lemma =>
            rw [want_lt hkn] at hwa
            have HX := Lib.hid HWa.out
            rw [hwa] at HX
            have hkeq : ((k : Int) == (n : Int)) = false := by simp; omega
            have hkgt : ¬ (n : Int) < (k : Int) := by omega
            clear hwa
            go_wp2_with fail
            go_meet
            exact ⟨xw, cw, rfl, HX.out, Below.refl _ _⟩
          · as_aux_lemma =>
            rw [want_eq hkn] at hwa
            have hwe := fun W (hb : Below w11.heap.size w11 W) (ho : W.ownsRow w11.heap.size 5 1 (.slice (some ⟨w11.heap.size, 0, none⟩) 0 0) 0 []) => whole_e c t ht128 hb ho
            have hwn := fun W (hb : Below w11.heap.size w11 W) => whole_n c t ht128 hb
            rw [HCn.out] at hwe hwn
            have HWE := Lib.hid hwe
            have HWN := Lib.hid hwn
            have hold := Hold.out
            obtain ⟨g5, o5, rfl, _, _⟩ := hold.pos (by omega)
            have i20 : (0 : Int) ≤ (t : Int) := by omega
            have i21 : (t : Int) ≤ 128 := by omega
            have i22 : (t : Int) ≤ (c5 : Int) := by have := HC5.out; omega
            have HWA := Lib.hid hwa
            have hkeq : ((k : Int) == (n : Int)) = true := by simp; omega
            clear hwe hwn hwa hkn
            by_cases hct0 : c5 = t
            · have HT8 := Lib.hid (show t = 128 by have := HC5.out; omega)
              have HCT := Lib.hid (show c5 = 128 by have := HC5.out; omega)
              have HDrC := Lib.hid (show Sl w11 1 (.slice (some ⟨g5, o5, none⟩) 0 0) 0 (bc ([] : List UInt8)) from ⟨rfl, some ⟨g5, o5, none⟩, 0, rfl, by omega, .inl rfl⟩)
              clear hold hct0
              have h1 := HT8.out
              have h2 := HCT.out
              subst h1
              subst h2
              go_wp2_with fail
              go_region_held3 (fun _ => True) (trivial)
                (first
                  | (go_at_call 15; with_reducible refine Calls.mono (HWE.out _ (by (repeat (first | (refine Below.drew ?_) | (refine Below.alloc ?_ (by first | exact Nat.le_refl _ | (simp; done)) _))); exact Below.refl _ _) (by (repeat (refine own_drew ?_)); exact own_empty' w11 w11.heap.size (Nat.le_refl _) 5 1)) ?_; rintro e w13 ⟨xv, cv, rfl, ⟨hcv, hcv8⟩, hsv, hbv, hov⟩)
                  | (go_at_call 15; with_reducible refine Calls.mono (HWN.out _ (by (repeat (refine Below.drew ?_)); exact Below.refl _ _)) ?_; rintro e w13 ⟨xv, cv, rfl, ⟨hcv, hcv8⟩, hsv, hbv⟩)
                  | (rw [if_pos (by simp [Region.wanted])]; refine app_sl0 _ ?_ (.tmp 83) (.tmp 87) 32 ?_ w11 w11.heap.size ?_ ?_ 5 iu (.int .u8 0) 1 ?_ ?_ ?_ ?_ ?_ ?_ (.slice (some ⟨w11.heap.size, 0, none⟩) 0 0) 0 [] ?_ ?_ (.slice xv 128 cv) 128 (bc ((List.replicate 128 c).take 128)) ?_ ?_ ?_ ?_ ?_ ?_ ?_; rfl; rfl; exact Nat.le_refl _; ((repeat (with_reducible refine Below.drew ?_)); exact hbv); exact Try.underlying32; exact hiu; exact hu0; exact hu1; exact hu2; rfl; rfl; ((repeat (with_reducible refine own_drew ?_)); exact hov); rfl; exact hsv.next (by (repeat (with_reducible refine Below.drew ?_)); exact Below.refl _ _); exact bc_one _; (unfold maxLen; omega); omega; exact hbv.size; intro v14 w14 hown14 hb14)
                  | (rw [if_pos (by simp [Region.wanted])]; refine app_sl0 _ ?_ (.tmp 83) (.tmp 87) 32 ?_ w11 w11.heap.size ?_ ?_ 5 iu (.int .u8 0) 1 ?_ ?_ ?_ ?_ ?_ ?_ (.slice (some ⟨w13.heap.size, 0, none⟩) 0 0) 0 [] ?_ ?_ (.slice xv 128 cv) 128 (bc ((List.replicate 128 c).take 128)) ?_ ?_ ?_ ?_ ?_ ?_ ?_; rfl; rfl; exact Nat.le_refl _; ((repeat (first | (with_reducible refine Below.drew ?_) | (with_reducible refine Below.alloc ?_ (by exact hbv.size) _))); exact hbv); exact Try.underlying32; exact hiu; exact hu0; exact hu1; exact hu2; rfl; rfl; ((repeat (with_reducible refine own_drew ?_)); exact own_empty' _ w11.heap.size hbv.size 5 1); rfl; exact hsv.next (by (repeat (first | (with_reducible refine Below.drew ?_) | (with_reducible refine Below.alloc ?_ (by exact Nat.le_refl _) _))); exact Below.refl _ _); exact bc_one _; (unfold maxLen; omega); omega; (have := hbv.size; simp; omega); intro v14 w14 hown14 hb14)
                  | (rw [if_pos (by simp [Region.wanted])]; refine app_sl0 _ ?_ (.tmp 88) (.tmp 91) 32 ?_ w11 w11.heap.size ?_ ?_ 5 iu (.int .u8 0) 1 ?_ ?_ ?_ ?_ ?_ ?_ v14 (0 + 128) ([] ++ bc ((List.replicate 128 c).take 128)) ?_ ?_ (.slice (some ⟨g5, o5, none⟩) 0 0) 0 (bc ([] : List UInt8)) ?_ ?_ ?_ ?_ ?_ ?_ ?_; rfl; rfl; exact Nat.le_refl _; ((repeat (with_reducible refine Below.drew ?_)); exact hb14); exact Try.underlying32; exact hiu; exact hu0; exact hu1; exact hu2; rfl; rfl; ((repeat (with_reducible refine own_drew ?_)); exact hown14); rfl; exact HDrC.out.next (by (repeat (with_reducible refine Below.drew ?_)); exact hb14); exact bc_one _; (unfold maxLen; omega); omega; exact hb14.size; intro v15 w15 hown15 hb15))
              all_goals
                obtain ⟨xu, cu, rfl, hsu⟩ := fin20 (t := 128) (p := (List.replicate 128 c).take 128) (q := []) (wa := wa) (by exact hown15) (Nat.le_refl _) (by have h := HWA.out; rwa [List.drop_eq_nil_of_le (by have := HSl.out; omega)] at h)
                go_wp2_with fail
                go_meet
                first
                  | exact ⟨xu, cu, rfl, hsu, hb15⟩
                  | exact ⟨xu, cu, rfl, hsu.next (Below.refl _ _).drew, hb15.drew⟩
            · have HDr := Lib.hid (Sl.drop (m := t) hold HSl.out ht128)
              clear hold
              go_wp2_with fail
              go_region_held3 (fun _ => True) (trivial)
                (first
                  | (go_at_call 15; with_reducible refine Calls.mono (HWE.out _ (by (repeat (first | (refine Below.drew ?_) | (refine Below.alloc ?_ (by first | exact Nat.le_refl _ | (simp; done)) _))); exact Below.refl _ _) (by (repeat (refine own_drew ?_)); exact own_empty' w11 w11.heap.size (Nat.le_refl _) 5 1)) ?_; rintro e w13 ⟨xv, cv, rfl, ⟨hcv, hcv8⟩, hsv, hbv, hov⟩)
                  | (go_at_call 15; with_reducible refine Calls.mono (HWN.out _ (by (repeat (refine Below.drew ?_)); exact Below.refl _ _)) ?_; rintro e w13 ⟨xv, cv, rfl, ⟨hcv, hcv8⟩, hsv, hbv⟩)
                  | (rw [if_pos (by simp [Region.wanted])]; refine app_sl0 _ ?_ (.tmp 83) (.tmp 87) 32 ?_ w11 w11.heap.size ?_ ?_ 5 iu (.int .u8 0) 1 ?_ ?_ ?_ ?_ ?_ ?_ (.slice (some ⟨w11.heap.size, 0, none⟩) 0 0) 0 [] ?_ ?_ (.slice xv t cv) t (bc ((List.replicate 128 c).take t)) ?_ ?_ ?_ ?_ ?_ ?_ ?_; rfl; rfl; exact Nat.le_refl _; ((repeat (with_reducible refine Below.drew ?_)); exact hbv); exact Try.underlying32; exact hiu; exact hu0; exact hu1; exact hu2; rfl; rfl; ((repeat (with_reducible refine own_drew ?_)); exact hov); rfl; exact hsv.next (by (repeat (with_reducible refine Below.drew ?_)); exact Below.refl _ _); exact bc_one _; (unfold maxLen; omega); omega; exact hbv.size; intro v14 w14 hown14 hb14)
                  | (rw [if_pos (by simp [Region.wanted])]; refine app_sl0 _ ?_ (.tmp 83) (.tmp 87) 32 ?_ w11 w11.heap.size ?_ ?_ 5 iu (.int .u8 0) 1 ?_ ?_ ?_ ?_ ?_ ?_ (.slice (some ⟨w13.heap.size, 0, none⟩) 0 0) 0 [] ?_ ?_ (.slice xv t cv) t (bc ((List.replicate 128 c).take t)) ?_ ?_ ?_ ?_ ?_ ?_ ?_; rfl; rfl; exact Nat.le_refl _; ((repeat (first | (with_reducible refine Below.drew ?_) | (with_reducible refine Below.alloc ?_ (by exact hbv.size) _))); exact hbv); exact Try.underlying32; exact hiu; exact hu0; exact hu1; exact hu2; rfl; rfl; ((repeat (with_reducible refine own_drew ?_)); exact own_empty' _ w11.heap.size hbv.size 5 1); rfl; exact hsv.next (by (repeat (first | (with_reducible refine Below.drew ?_) | (with_reducible refine Below.alloc ?_ (by exact Nat.le_refl _) _))); exact Below.refl _ _); exact bc_one _; (unfold maxLen; omega); omega; (have := hbv.size; simp; omega); intro v14 w14 hown14 hb14)
                  | (rw [if_pos (by simp [Region.wanted])]; refine app_sl0 _ ?_ (.tmp 88) (.tmp 91) 32 ?_ w11 w11.heap.size ?_ ?_ 5 iu (.int .u8 0) 1 ?_ ?_ ?_ ?_ ?_ ?_ v14 (0 + t) ([] ++ bc ((List.replicate 128 c).take t)) ?_ ?_ (.slice (some ⟨g5, o5 + t, none⟩) (128 - t) (c5 - t)) (128 - t) (bc (s.drop t)) ?_ ?_ ?_ ?_ ?_ ?_ ?_; rfl; rfl; exact Nat.le_refl _; ((repeat (with_reducible refine Below.drew ?_)); exact hb14); exact Try.underlying32; exact hiu; exact hu0; exact hu1; exact hu2; rfl; rfl; ((repeat (with_reducible refine own_drew ?_)); exact hown14); rfl; exact HDr.out.next (by (repeat (with_reducible refine Below.drew ?_)); exact hb14); exact bc_one _; (unfold maxLen; omega); omega; exact hb14.size; intro v15 w15 hown15 hb15))
              all_goals
                obtain ⟨xu, cu, rfl, hsu⟩ := fin20 hown15 ht128 HWA.out
                go_wp2_with fail
                go_meet
                first
                  | exact ⟨xu, cu, rfl, hsu, hb15⟩
                  | exact ⟨xu, cu, rfl, hsu.next (Below.refl _ _).drew, hb15.drew⟩
          · as_aux_lemma =>
            rw [want_gt hkn] at hwa
            have HX := Lib.hid Hold.out
            rw [hwa] at HX
            have hkeq : ((k : Int) == (n : Int)) = false := by simp; omega
            have hkgt : (n : Int) < (k : Int) := by omega
            clear hwa
            go_wp2_with fail
            go_meet
            exact ⟨x5, c5, rfl, HX.out, Below.refl _ _⟩
        case rest => as_aux_lemma =>
          obtain ⟨xu, cu, rfl, hwu, hbu⟩ := hcut
          have Hb11 := Lib.hid (Hb11.out.trans (hbu.mono Hb11.out.size))
          have HW := Lib.hid hwu
          clear hwu hbu
          go_wp2_with fail
          have HB9x := Lib.hid (HB9.out.below Hb11.out HB9.out.lt)
          have HS9x := Lib.hid (HS9.out.next Hb11.out)
          have HOx := Lib.hid ((HO7.out.below Hb97.out HO7.out.lt).below Hb11.out (HO7.out.below Hb97.out HO7.out.lt).lt)
          have HOsx := Lib.hid ((HOs7.out.next Hb97.out).next Hb11.out)
          go_loopw [98] (fun i wr => ∃ (j : Nat), j ≤ 4 ∧ i = .int .i64 j ∧ Below wc.heap.size wc wr) (fun i _ => 4 - (intOf i).toNat)
          case atStart => exact ⟨0, by omega, rfl, Below.refl _ _⟩
          case round => as_aux_lemma =>
            obtain ⟨j, hj, rfl, hbj⟩ := hrel
            have HBj := Lib.hid hbj
            by_cases hlj : j < 4
            · obtain ⟨y0, _, _, _, _⟩ := dkCells (HB9x.out.below hbj HB9x.out.lt)
              obtain ⟨z0, _, _, _, _⟩ := dkCells (HOx.out.below hbj HOx.out.lt)
              have hsy := HS9x.out.next hbj
              have hsz := HOsx.out.next hbj
              rw [← HS4.out.1] at hsy
              rw [← H4.out] at hsz
              obtain ⟨g2, off2, rfl, hcap2, hc2⟩ := hsy.at_ (by have := HS4.out.1; omega)
              obtain ⟨g3, off3, rfl, hcap3, hc3⟩ := hsz.at_ (by have := H4.out; omega)
              obtain ⟨sj, hsj⟩ : ∃ sj, S'[j]? = some sj := ⟨_, List.getElem?_eq_getElem (by have := HS4.out.1; omega)⟩
              obtain ⟨sk, hsk⟩ : ∃ sk, S[j]? = some sk := ⟨_, List.getElem?_eq_getElem (by have := H4.out; omega)⟩
              obtain ⟨xj, cj, hcj, hlj2⟩ := hc2 j sj hsj
              obtain ⟨xk, ck, hck, hlk2⟩ := hc3 j sk hsk
              have hl1 := HS4.out.2 sj (List.mem_of_getElem? hsj)
              have hl2 := Hall.out sk (List.mem_of_getElem? hsk)
              rw [hl1] at hcj hlj2
              rw [hl2] at hck hlk2
              have hw1 := HW.out.next hbj
              have i7 : (0 : Int) ≤ (j : Int) := by omega
              have i8 : (j : Int) < 4 := by omega
              have hset := HLe.out.2.2.2.1
              have hm4 := hm
              by_cases hjm : j = m
              · as_aux_lemma =>
                have hsw : sj = wa := by
                  rw [← hset, hjm, List.getElem?_set_self (by have := H4.out; omega)] at hsj
                  exact (Option.some.inj hsj).symm
                subst hsw
                have hconv1 := fun nq => conv_len HWl.out (hlj2.drewN nq)
                have hconv2 := fun nq => conv_len HWl.out (hw1.drewN nq)
                subst hjm
                clear hc2 hc3 hsj hsk hlj2 hlk2 hw1 hset hl1 hl2 hcap2 hcap3 hbj hck hsy hsz z0
                clear HWt HWt2 HWh HDw HB9 HS9 Hb9 Hb97 HB9x HS9x HOx HOsx HW HWl HWa Hb11 Hb10 HO7 HOs7 HOld7 Hb7 HQ7 HSe7 Hx HOld Hb5 HSs HSe HQ HL' HS4 HLe HLl H4 Hall HSm HB HTn HTt HN HV HSt HSp HB2 HB3 HS3 HQ3 HQw
                clear hc256 hgs hgl hk hlt
                go_wp2_with fail
                go_quiet (fail)
                go_wp2_with fail
                go_roundw
                case rel => exact ⟨j + 1, by omega, by go_num, below_drewN HBj.out _⟩
                case measure => simp [intOf]; omega
              · as_aux_lemma =>
                have hsw : sj = sk := by
                  rw [← hset, List.getElem?_set_ne (fun e => hjm e.symm), hsk] at hsj
                  exact (Option.some.inj hsj).symm
                subst hsw
                have hconv1 := fun nq => conv_len hl2 (hlj2.drewN nq)
                have hconv2 := fun nq => conv_len hl2 (hlk2.drewN nq)
                have i9 : ¬ (j : Int) = (m : Int) := by omega
                clear hc2 hc3 hsj hsk hlj2 hlk2 hw1 hset hl1 hl2 hcap2 hcap3 hbj hsy hsz hjm
                clear HWt HWt2 HWh HDw HB9 HS9 Hb9 Hb97 HB9x HS9x HOx HOsx HW HWl HWa Hb11 Hb10 HO7 HOs7 HOld7 Hb7 HQ7 HSe7 Hx HOld Hb5 HSs HSe HQ HL' HS4 HLe HLl H4 Hall HSm HB HTn HTt HN HV HSt HSp HB2 HB3 HS3 HQ3 HQw
                clear hc256 hgs hgl hk hlt
                go_wp2_with fail
                go_quiet (fail)
                go_wp2_with fail
                go_roundw
                case rel => exact ⟨j + 1, by omega, by go_num, below_drewN HBj.out _⟩
                case measure => simp [intOf]; omega
            · as_aux_lemma =>
              obtain ⟨y0, y1, y2, y3, _, _, _, _⟩ := dkCells (HB9x.out.below hbj HB9x.out.lt)
              have hsy := HS9x.out.next hbj
              have hbq := Hb97.out.trans ((Hb11.out.trans (hbj.mono Hb11.out.size)).mono Hb97.out.size)
              have hQq := HQ7.out.below hbq hQl
              have hbw := HB.out.trans ((Hb7.out.trans (hbq.mono Hb7.out.size)).mono HB.out.size)
              have HQq := Lib.hid hQq
              have HSy := Lib.hid hsy
              have Hbw := Lib.hid hbw
              obtain ⟨m0, m1, m2, m3, n0', n1, n2, n3⟩ := dkCells hQq
              have hne1 : ¬ g9 = Q := by omega
              have hne2 : ¬ Q = g9 := by omega
              clear hbj hsy hbq hQq hbw
              by_cases hkn : k < n
              · as_aux_lemma =>
                have hc := HcE.out
                rw [if_pos hkn] at hc
                subst hc
                have hs2 := HLe.out.2.2.2.2
                rw [show spS n (k + 1) = false from decide_eq_false (by omega)] at hs2
                subst hs2
                have hsto := wr_store (l := l') (t := (t : Int)) (st := false) HQq.out HSy.out HL'.out.1 HL'.out.2
                have HQX := Lib.hid hsto.1
                have HSX := Lib.hid hsto.2.1
                have HBX := Lib.hid (Hbw.out.trans (hsto.2.2.below Hbw.out.size (fun q hq e => by have := HQw.out; omega)))
                clear hsto
                go_wp2_with fail
                go_roundw
                case rel => exact ⟨k + 1, S', a', cap', by omega, by go_num, HS4.out.1, HS4.out.2, by rw [HLe.out.2.1, HLe.out.2.2.2.2]; exact HQX.out, HSX.out, HBX.out⟩
                case measure => simp [intOf]; omega
              · as_aux_lemma =>
                have hc := HcE.out
                rw [if_neg hkn] at hc
                subst hc
                have hs2 := HLe.out.2.2.2.2
                rw [show spS n (k + 1) = true from decide_eq_true (by omega)] at hs2
                subst hs2
                have hnk : (n : Int) ≤ (k : Int) := by omega
                have hl0 : l' = 0 := by have h1 := HLe.out.2.1; rw [← h1]; exact if_neg (by omega)
                have hr0 := sp_rd0 HS4.out.1 HS4.out.2 ht128
                obtain ⟨hr1, hr2⟩ := sp_rd1 HS4.out.1 HS4.out.2 hm (show S'[m]? = some wa by rw [← HLe.out.2.2.2.1]; exact List.getElem?_set_self (by rw [H4.out]; exact hm))
                have hrd := read_any ⟨S', l', (t : Int), true⟩ _ 0 wr HSy.out.dkV (fun s hs => by have := HS4.out.2 s hs; omega)
                unfold RetRd at hrd
                rw [show (⟨S', l', (t : Int), true⟩ : Dk) = ⟨S', 0, (t : Int), true⟩ by rw [hl0]] at hrd
                rw [hr0.1, hr0.2] at hrd
                have HRd := Lib.hid hrd
                have HR1 := Lib.hid hr1
                have HR2 := Lib.hid hr2
                have HL0 := Lib.hid hl0
                clear hl0 hr0 hr1 hr2 hrd
                go_wp2_with fail
                refine HRd.out.mono ?_
                rintro e w12 ⟨v12, rfl, hs12, hb12⟩
                have hbj12 := HBj.out.trans (hb12.mono HBj.out.size)
                clear y0 y1 y2 y3 m0 m1 m2 m3 n0' n1 n2 n3
                obtain ⟨y0, y1, y2, y3, _, _, _, _⟩ := dkCells (HB9x.out.below hbj12 HB9x.out.lt)
                have HRs := Lib.hid (restart_any ⟨S', l', (t : Int), true⟩ _ w12 (HS9x.out.next hbj12).dkV)
                have HBj12 := Lib.hid hbj12
                clear hb12 hs12 hbj12
                go_wp2_with fail
                refine HRs.out.mono ?_
                intro e w13 hr
                obtain ⟨a13, cap13, rfl, hs13, hb13⟩ := hr.lit (S := S') (l := -1) (t := 0) (st := false) (n := 4) rfl HS4.out.1
                have hbj13 := HBj12.out.trans (hb13.mono HBj12.out.size)
                have hs14 := hs13.next (below_alloc w13 (.cells #[.slice a13 4 cap13, .int .i64 (-1), .int .i64 0, .bool false] 26))
                have hY14 := Blk.new w13 26 #[.slice a13 4 cap13, .int .i64 (-1), .int .i64 0, .bool false]
                have hbj14 := hbj13.alloc hbj13.size (.cells #[.slice a13 4 cap13, .int .i64 (-1), .int .i64 0, .bool false] 26)
                have hrd := read_any ⟨S', -1, 0, false⟩ _ (m : Int) _ hs14.dkV (fun s hs => by have := HS4.out.2 s hs; omega)
                unfold RetRd at hrd
                rw [HR1.out, HR2.out, HWl.out] at hrd
                have HRd2 := Lib.hid hrd
                clear hr hrd hb13 hs13 y0 y1 y2 y3 hbj13
                go_wp2_with fail
                obtain ⟨w14, hw14⟩ : ∃ w14, w13.alloc (.cells #[.slice a13 4 cap13, .int .i64 (-1), .int .i64 0, .bool false] 26) = w14 := ⟨_, rfl⟩
                obtain ⟨Y, hY⟩ : ∃ Y, w13.heap.size = Y := ⟨_, rfl⟩
                rw [hw14] at HRd2 hs14 hY14 hbj14 ⊢
                rw [hY] at hY14 ⊢
                have HS14 := Lib.hid hs14
                have HY14 := Lib.hid hY14
                have HBj14 := Lib.hid hbj14
                clear hw14 hY hs14 hY14 hbj14
                refine HRd2.out.mono ?_
                rintro e w15 ⟨v15, rfl, hs15, hb15⟩
                obtain ⟨a15, c15, rfl⟩ := hs15.form
                have hbj15 := HBj14.out.trans (hb15.mono HBj14.out.size)
                obtain ⟨z0, z1, z2, z3, _, _, _, _⟩ := dkCells (HY14.out.below hb15 HY14.out.lt)
                have hck := check_any ⟨S', -1, 0, false⟩ _ w15 (HS14.out.next hb15).dkV
                have HBj15 := Lib.hid hbj15
                have hcv1 := conv_len HWl.out hs15
                have hcv2 := conv_len HWl.out (HW.out.next hbj15)
                rw [show chk ⟨S', -1, 0, false⟩ = 0 from sp_chk (t := 0) HS4.out.1 HS4.out.2 (by omega) (by omega) (.inl rfl)] at hck
                have HCk := Lib.hid hck
                clear hb15 hs15 hbj15 hck
                go_wp2_with fail
                refine HCk.out.mono ?_
                rintro e w16 ⟨rfl, hb16⟩
                have hbj16 := HBj15.out.trans (hb16.mono HBj15.out.size)
                have hbq := Hb97.out.trans ((Hb11.out.trans (hbj16.mono Hb11.out.size)).mono Hb97.out.size)
                have hQq := HQ7.out.below hbq hQl
                have HQq := Lib.hid hQq
                have HSy := Lib.hid (HS9x.out.next hbj16)
                have Hbw := Lib.hid (HB.out.trans ((Hb7.out.trans (hbq.mono Hb7.out.size)).mono HB.out.size))
                obtain ⟨y0, y1, y2, y3, _, _, _, _⟩ := dkCells (HB9x.out.below hbj16 HB9x.out.lt)
                obtain ⟨m0, m1, m2, m3, n0', n1, n2, n3⟩ := dkCells hQq
                clear z0 z1 z2 z3 hcv1 hcv2 hb16 hbj16 hbq hQq
                have hsto := wr_store (l := l') (t := (t : Int)) (st := true) HQq.out HSy.out HL'.out.1 HL'.out.2
                have HQX := Lib.hid hsto.1
                have HSX := Lib.hid hsto.2.1
                have HBX := Lib.hid (Hbw.out.trans (hsto.2.2.below Hbw.out.size (fun q hq e => by have := HQw.out; omega)))
                clear hsto
                go_wp2_with fail
                go_roundw
                case rel => exact ⟨k + 1, S', a', cap', by omega, by go_num, HS4.out.1, HS4.out.2, by rw [HLe.out.2.1, HLe.out.2.2.2.2]; exact HQX.out, HSX.out, HBX.out⟩
                case measure => simp [intOf]; omega
    · clear hQ hs
      go_wp2_with fail
      go_ret
      exact ⟨rfl, hb⟩
end Go.Proofs.Ytekmdaphkgkgaaa
