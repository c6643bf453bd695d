/- Disk: the statement DiskScriptSpec, the walk. -/
import Derived.Test.YtocmpbjpoghejaaDkQ
namespace Go.Proofs.Ytocmpbjpoghejaa
open Go.RowKit

set_option maxRecDepth 100000 in
set_option maxHeartbeats 8000000 in
theorem diskScriptSpec_any (left tear : Int) (src : List UInt8) (v : Value) (w : World) (b0 : -9223372036854775808 ≤ left ∧ left ≤ 9223372036854775807) (b1 : -9223372036854775808 ≤ tear ∧ tear ≤ 9223372036854775807) (hv : Sl w 1 v src.length (bc src)) (hm : src.length ≤ maxLen) :
    Calls Try.prog 5 #[.int .i64 left, .int .i64 tear, v] w fun e w' => e = .returned (.bool true) ∧ Below w.heap.size w w' := by
  unfold maxLen at hm
  obtain ⟨a, cap, rfl⟩ := hv.form
  by_cases hl : 60 < src.length
  · go_enter Try.func5, Try.ntmps5
    go_wp2_with fail
    refine (sane_any w).mono ?_
    rintro e w1 ⟨rfl, hb1⟩
    go_wp2_with fail
    go_ret
    exact ⟨rfl, hb1⟩
  · have HN := Lib.hid (fun W => diskOf_any left tear W)
    have hdw0 := dw_of left tear
    obtain ⟨l0, hl0⟩ : ∃ l0, lfOf left = l0 := ⟨_, rfl⟩
    obtain ⟨t0, ht0⟩ : ∃ t0, trOf tear = t0 := ⟨_, rfl⟩
    rw [hl0, ht0] at hdw0 HN
    have HD0 := Lib.hid hdw0
    have HV := Lib.hid hv
    clear hv hdw0 hl0 ht0
    go_enter Try.func5, Try.ntmps5
    go_wp2_with fail
    refine (sane_any w).mono ?_
    rintro e w1 ⟨rfl, hb1⟩
    go_wp2_with fail
    refine (HN.out _).mono ?_
    intro e w2 hr
    obtain ⟨a2, cap2, rfl, hs2, hb2⟩ := hr.lit (S := fourS 4) (l := l0) (t := t0) (st := false) (n := 4) rfl (fourS_len 4)
    clear hr
    have hB2 : Below w.heap.size w w2 := hb1.trans (hb2.mono hb1.size)
    clear hb2 hb1
    go_wp2_with fail
    go_loopw [24] (fun i wr => ∃ (k : Nat) (S : List (List UInt8)) (l t : Int) (st : Bool) (x : Option Addr) (cx : Nat), k ≤ src.length ∧ i = .int .i64 k ∧ DW ⟨S, l, t, st⟩ ∧ Blk wr w2.heap.size 26 #[.slice x 4 cx, .int .i64 l, .int .i64 t, .bool st] ∧ Secs wr (.slice x 4 cx) S ∧ Below w.heap.size w wr) (fun i _ => src.length - (intOf i).toNat)
    case atStart => exact ⟨0, fourS 4, l0, t0, false, a2, cap2, by omega, rfl, HD0.out, Blk.new w2 _ _, hs2.next (below_alloc _ _), hB2.alloc hB2.size _⟩
    case round =>
      obtain ⟨k, S, l, t, st, x, cx, hk, rfl, hdv, hQ, hs, hb⟩ := hrel
      have HQB := Lib.hid hB2.size
      obtain ⟨Q, hQe⟩ : ∃ Q, w2.heap.size = Q := ⟨_, rfl⟩
      rw [hQe] at hQ HQB ⊢
      have HQ := Lib.hid hQ
      have HS := Lib.hid hs
      have HD := Lib.hid hdv
      obtain ⟨q0, q1, q2, q3, f0, f1, f2, f3⟩ := dkCells hQ
      have hQl := hQ.lt
      clear hQ hs hdv hQe
      by_cases hlt : k < src.length
      · obtain ⟨g, off, rfl, hcap, hc⟩ := (HV.out.next hb).pos (by omega)
        obtain ⟨c, hck⟩ : ∃ c, src[k]? = some c := ⟨_, List.getElem?_eq_getElem hlt⟩
        have hcell := hc k (.int .u8 (c.toNat : Int)) (by simp [bc, hck])
        have hc256 := c.toNat_lt
        have HWh := Lib.hid (fun w W hb => whole_lit c w W hb)
        obtain ⟨n, hn⟩ : ∃ n : Nat, c.toNat = n := ⟨_, rfl⟩
        rw [hn] at hcell hc256 HWh
        have hgl := World.block_lt_of_cell? wr _ hcell
        obtain ⟨m, hm4⟩ : ∃ m : Nat, n % 5 = m := ⟨_, rfl⟩
        have i1 : (0 : Int) ≤ (k : Int) := by omega
        have i2 : (k : Int) < (src.length : Int) := by omega
        have i3 : (0 : Int) ≤ (n : Int) := by omega
        have i4 : (n : Int) < 256 := by omega
        have u1 : (n : Int).tmod 5 = (m : Int) := by rw [Int.tmod_eq_emod_of_nonneg (by omega)]; omega
        have u2 : (n : Int) % 5 = (m : Int) := by omega
        have u3 : IntKind.i64.wrap (n : Int) = (n : Int) := IntWalk.i64_in _ (by omega)
        have u4 : IntKind.i64.wrap (m : Int) = (m : Int) := IntWalk.i64_in _ (by omega)
        have u5 : IntKind.u8.wrap (m : Int) = (m : Int) := IntWalk.u8_in _ (by omega)
        have hbl : (List.replicate 128 c).length = 128 := List.length_replicate
        have hdw := dw_wt (k := (m : Int)) HD.out hbl
        obtain ⟨D', hD'⟩ : ∃ D', wtD ⟨S, l, t, st⟩ (m : Int) (List.replicate 128 c) = D' := ⟨_, rfl⟩
        obtain ⟨cE, hcE⟩ : ∃ cE, wtE ⟨S, l, t, st⟩ (m : Int) (List.replicate 128 c) = cE := ⟨_, rfl⟩
        rw [hD', hcE] at hdw
        obtain ⟨S', l', t', st'⟩ := D'
        have hlen' : (S'.length = 0 ∨ 2 ≤ S'.length) ∧ ∀ s ∈ S', 0 < s.length := by
          rcases hdw with ⟨_, h⟩ | ⟨_, h⟩
          · cases h; exact ⟨.inl rfl, by simp⟩
          · exact dw_len h
        have hlm : S'.length ≤ maxLen := by
          unfold maxLen
          rcases hdw with ⟨_, h⟩ | ⟨_, h⟩
          · cases h; simp
          · have := h.2.1; simp only [] at this; omega
        have HLm := Lib.hid hlm
        have HL' := Lib.hid hlen'
        have hl5 : l ≤ 9223372036854775807 := by have := HD.out.2.2; simp only [] at this; omega
        have HWt := Lib.hid (fun w W (ab : Option Addr) (cb : Nat) hs hb hv g hZ => wt_litZ S S' l t l' t' st st' (m : Int) (List.replicate 128 c) cE w W x ab 4 cx cb HD.out.2.1 _ rfl hD' hcE hs hb hv hbl hl5 g hZ)
        have HWt2 := Lib.hid (fun w W (ab : Option Addr) (cb : Nat) hs hb hv => wt_lit S S' l t l' t' st st' (m : Int) (List.replicate 128 c) cE w W x ab 4 cx cb HD.out.2.1 _ rfl hD' hcE hs hb hv hbl hl5)
        have HRt := Lib.hid (fun w W (ab : Option Addr) (cb : Nat) hs hb hv g hZ => rwt_litZ S S' l t l' t' st st' (m : Int) (List.replicate 128 c) cE w W x ab 4 cx cb HD.out.2.1 _ rfl hD' hcE hs hb hv hbl hl5 (by omega) g hZ)
        have HRt2 := Lib.hid (fun w W (ab : Option Addr) (cb : Nat) hs hb hv => rwt_lit S S' l t l' t' st st' (m : Int) (List.replicate 128 c) cE w W x ab 4 cx cb HD.out.2.1 _ rfl hD' hcE hs hb hv hbl hl5 (by omega))
        have HDW := Lib.hid hdw
        clear hdw hlen' hD' hcE hbl hlm hc hck hn hm4
        go_wp2_with fail
        go_cut [10, 11] (fun s9 s10 wx => s10 = .int .i64 cE ∧ WrReg wr S' l' t' st' s9 wx)
        case first =>
          have hl1 : Q < wr.heap.size + 1 := by omega
          have hneQ : ¬ Q = wr.heap.size := by omega
          go_region_held3 (fun w' => w'.cell? ⟨Q, 0, none⟩ = some (.slice x 4 cx) ∧ w'.cell? ⟨Q, 1, none⟩ = some (.int .i64 l) ∧ w'.cell? ⟨Q, 2, none⟩ = some (.int .i64 t) ∧ w'.cell? ⟨Q, 3, none⟩ = some (.bool st))
            (first
              | (with_reducible exact ⟨q0, q1, q2, q3⟩)
              | (simp only [World.cell?_drew]; with_reducible exact ⟨q0, q1, q2, q3⟩)
              | (go_split_ands; refine ⟨?_, ?_, ?_, ?_⟩ <;> (rw [hcc9 _ _ (by first | omega | (simp; omega))]; assumption))
              | (go_split_ands; refine ⟨?_, ?_, ?_, ?_⟩ <;> (rw [hcc5 _ _ (by first | omega | (simp; omega))]; assumption))
              | (go_split_ands; refine ⟨?_, ?_, ?_, ?_⟩ <;> (rw [World.cell?_alloc_past _ _ _ (by first | omega | (simp; omega))]; assumption))
              | (go_split_ands; refine ⟨?_, ?_, ?_, ?_⟩ <;> (rw [World.cell?_drew, World.cell?_alloc_past _ _ _ (by first | omega | (simp; omega))]; assumption))
              | (go_split_ands; refine ⟨?_, ?_, ?_, ?_⟩ <;> ((repeat (rw [World.cell?_setCell_other _ _ _ _ (by intro h; have := congrArg Addr.block h; simp at this; omega)])); assumption)))
            (first
              | (go_at_call 15; refine (HWh.out wr _ (by (repeat (first | (refine Below.alloc ?_ (by simp) _) | (refine Below.drew ?_))); exact Below.refl _ _)).mono ?_; rintro e w5 ⟨xw, cw, rfl, hsw, hb5, hb5'⟩; obtain ⟨hcc5, hff5⟩ := bcell hb5; have hk5 := fun g T cs (h : Blk _ g T cs) => h.below hb5 h.lt; have hn5 : ¬ Q = w5.heap.size := (by have := hb5'.size; omega); have hl5 : Q < w5.heap.size := (by have := hb5'.size; omega); have hl5' : Q < w5.heap.size + 1 := (by omega))
              | (go_at_call 16; refine (HWt.out wr _ xw cw HS.out (by (repeat (first | (refine Below.alloc ?_ (by have := hb5'.size; simp; omega) _) | (refine Below.drew ?_))); exact hb5') (by first | exact hsw | exact hsw.alloc _) _ (hk5 _ _ _ (Blk.new _ _ _))).mono ?_; rintro e w9 ⟨a', cap', rfl, hs9, hZ, hb9, hb9'⟩; obtain ⟨z0, z1, z2, z3, p0, p1, p2, p3⟩ := dkCells hZ; obtain ⟨hcc9, hff9⟩ := bcell hb9; have hn9 : ¬ Q = w9.heap.size := (by have := hb9'.size; omega); have hl9 : Q < w9.heap.size := (by have := hb9'.size; omega); have d0 := (hb9'.cell (p := ⟨Q, 0, none⟩) hQl).trans q0; have d1 := (hb9'.cell (p := ⟨Q, 1, none⟩) hQl).trans q1; have d2 := (hb9'.cell (p := ⟨Q, 2, none⟩) hQl).trans q2; have d3 := (hb9'.cell (p := ⟨Q, 3, none⟩) hQl).trans q3)
              | (go_at_call 16; refine (HWt.out wr _ xw cw HS.out (by (repeat (first | (refine Below.alloc ?_ (by have := hb5'.size; simp; omega) _) | (refine Below.drew ?_))); exact hb5') (by first | exact hsw | exact hsw.alloc _) _ (Blk.new _ _ _)).mono ?_; rintro e w9 ⟨a', cap', rfl, hs9, hZ, hb9, hb9'⟩; obtain ⟨z0, z1, z2, z3, p0, p1, p2, p3⟩ := dkCells hZ; obtain ⟨hcc9, hff9⟩ := bcell hb9; have hn9 : ¬ Q = w9.heap.size := (by have := hb9'.size; omega); have hl9 : Q < w9.heap.size := (by have := hb9'.size; omega); have d0 := (hb9'.cell (p := ⟨Q, 0, none⟩) hQl).trans q0; have d1 := (hb9'.cell (p := ⟨Q, 1, none⟩) hQl).trans q1; have d2 := (hb9'.cell (p := ⟨Q, 2, none⟩) hQl).trans q2; have d3 := (hb9'.cell (p := ⟨Q, 3, none⟩) hQl).trans q3)
              | (go_at_call 16; refine (HWt2.out wr _ xw cw HS.out (by (repeat (first | (refine Below.alloc ?_ (by have := hb5'.size; simp; omega) _) | (refine Below.drew ?_))); exact hb5') hsw).mono ?_; rintro e w9 ⟨a', cap', rfl, hs9, hb9, hb9'⟩; obtain ⟨hcc9, hff9⟩ := bcell hb9; have hn9 : ¬ Q = w9.heap.size := (by have := hb9'.size; omega); have hl9 : Q < w9.heap.size := (by have := hb9'.size; omega); have d0 := (hb9'.cell (p := ⟨Q, 0, none⟩) hQl).trans q0; have d1 := (hb9'.cell (p := ⟨Q, 1, none⟩) hQl).trans q1; have d2 := (hb9'.cell (p := ⟨Q, 2, none⟩) hQl).trans q2; have d3 := (hb9'.cell (p := ⟨Q, 3, none⟩) hQl).trans q3))
          all_goals
            go_wp2_with fail
            go_meet
            refine ⟨rfl, ?_⟩
            first
              | (with_reducible exact wr_fin2 rfl hs9 hb9')
              | (with_reducible exact wr_fin1 rfl hs9 hb9' (Nat.le_refl _) HL'.out.1 HL'.out.2 hZ)
              | (with_reducible exact wr_fin1 rfl hs9 hb9' hb5'.size HL'.out.1 HL'.out.2 hZ)
        case rest =>
          obtain ⟨wd, rfl⟩ : ∃ wd, wd = wc := ⟨wc, rfl⟩
          obtain ⟨rfl, g9, a', cap', rfl, hg9, hB9, hs9, hb9⟩ := hcut
          have HB9 := Lib.hid hB9
          have HS9 := Lib.hid hs9
          have hQ4 := HQ.out.below hb9 hQl
          have HQd := Lib.hid hQ4
          have HSd := Lib.hid (HS.out.next hb9)
          have hbd : Below w.heap.size w wd := hb.trans (hb9.mono hb.size)
          have hg9l := hB9.lt
          have hQl0 := hQl
          have hcelld := (hb9.cell (p := ⟨g, off + k, none⟩) hgl).trans hcell
          have hgl' : g < wd.heap.size := Nat.lt_of_lt_of_le hgl hb9.size
          clear q0 q1 q2 q3 f0 f1 f2 f3 hB9 hs9 hcell
          obtain ⟨q0, q1, q2, q3, _, _, _, _⟩ := dkCells hQ4
          have hQl := hQ4.lt
          clear hQ4 hb9
          go_wp2_with fail
          go_cut [12, 13] (fun s9 s10 wx => s10 = .int .i64 cE ∧ WrReg wd S' l' t' st' s9 wx)
          case first =>
            have hl1 : Q < wd.heap.size + 1 := by omega
            have hneQ : ¬ Q = wd.heap.size := by omega
            go_region_held3 (fun w' => w'.cell? ⟨Q, 0, none⟩ = some (.slice x 4 cx) ∧ w'.cell? ⟨Q, 1, none⟩ = some (.int .i64 l) ∧ w'.cell? ⟨Q, 2, none⟩ = some (.int .i64 t) ∧ w'.cell? ⟨Q, 3, none⟩ = some (.bool st))
              (first
                | (with_reducible exact ⟨q0, q1, q2, q3⟩)
                | (simp only [World.cell?_drew]; with_reducible exact ⟨q0, q1, q2, q3⟩)
                | (go_split_ands; refine ⟨?_, ?_, ?_, ?_⟩ <;> (rw [hcc9 _ _ (by first | omega | (simp; omega))]; assumption))
                | (go_split_ands; refine ⟨?_, ?_, ?_, ?_⟩ <;> (rw [hcc5 _ _ (by first | omega | (simp; omega))]; assumption))
                | (go_split_ands; refine ⟨?_, ?_, ?_, ?_⟩ <;> (rw [World.cell?_alloc_past _ _ _ (by first | omega | (simp; omega))]; assumption))
                | (go_split_ands; refine ⟨?_, ?_, ?_, ?_⟩ <;> (rw [World.cell?_drew, World.cell?_alloc_past _ _ _ (by first | omega | (simp; omega))]; assumption))
                | (go_split_ands; refine ⟨?_, ?_, ?_, ?_⟩ <;> ((repeat (rw [World.cell?_setCell_other _ _ _ _ (by intro h; have := congrArg Addr.block h; simp at this; omega)])); assumption)))
              (first
                | (go_at_call 15; refine (HWh.out wd _ (by (repeat (first | (refine Below.alloc ?_ (by simp) _) | (refine Below.drew ?_))); exact Below.refl _ _)).mono ?_; rintro e w5 ⟨xw, cw, rfl, hsw, hb5, hb5'⟩; obtain ⟨hcc5, hff5⟩ := bcell hb5; have hk5 := fun g T cs (h : Blk _ g T cs) => h.below hb5 h.lt; have hn5 : ¬ Q = w5.heap.size := (by have := hb5'.size; omega); have hl5 : Q < w5.heap.size := (by have := hb5'.size; omega); have hl5' : Q < w5.heap.size + 1 := (by omega))
                | (go_at_call 17; refine (HRt.out wd _ xw cw HSd.out (by (repeat (first | (refine Below.alloc ?_ (by have := hb5'.size; simp; omega) _) | (refine Below.drew ?_))); exact hb5') (by first | exact hsw | exact hsw.alloc _) _ (hk5 _ _ _ (Blk.new _ _ _))).mono ?_; rintro e w9 ⟨a', cap', rfl, hs9, hZ, hb9, hb9'⟩; obtain ⟨z0, z1, z2, z3, p0, p1, p2, p3⟩ := dkCells hZ; obtain ⟨hcc9, hff9⟩ := bcell hb9; have hn9 : ¬ Q = w9.heap.size := (by have := hb9'.size; omega); have hl9 : Q < w9.heap.size := (by have := hb9'.size; omega); have d0 := (hb9'.cell (p := ⟨Q, 0, none⟩) hQl).trans q0; have d1 := (hb9'.cell (p := ⟨Q, 1, none⟩) hQl).trans q1; have d2 := (hb9'.cell (p := ⟨Q, 2, none⟩) hQl).trans q2; have d3 := (hb9'.cell (p := ⟨Q, 3, none⟩) hQl).trans q3)
                | (go_at_call 17; refine (HRt.out wd _ xw cw HSd.out (by (repeat (first | (refine Below.alloc ?_ (by have := hb5'.size; simp; omega) _) | (refine Below.drew ?_))); exact hb5') (by first | exact hsw | exact hsw.alloc _) _ (Blk.new _ _ _)).mono ?_; rintro e w9 ⟨a', cap', rfl, hs9, hZ, hb9, hb9'⟩; obtain ⟨z0, z1, z2, z3, p0, p1, p2, p3⟩ := dkCells hZ; obtain ⟨hcc9, hff9⟩ := bcell hb9; have hn9 : ¬ Q = w9.heap.size := (by have := hb9'.size; omega); have hl9 : Q < w9.heap.size := (by have := hb9'.size; omega); have d0 := (hb9'.cell (p := ⟨Q, 0, none⟩) hQl).trans q0; have d1 := (hb9'.cell (p := ⟨Q, 1, none⟩) hQl).trans q1; have d2 := (hb9'.cell (p := ⟨Q, 2, none⟩) hQl).trans q2; have d3 := (hb9'.cell (p := ⟨Q, 3, none⟩) hQl).trans q3)
                | (go_at_call 17; refine (HRt2.out wd _ xw cw HSd.out (by (repeat (first | (refine Below.alloc ?_ (by have := hb5'.size; simp; omega) _) | (refine Below.drew ?_))); exact hb5') hsw).mono ?_; rintro e w9 ⟨a', cap', rfl, hs9, hb9, hb9'⟩; obtain ⟨hcc9, hff9⟩ := bcell hb9; have hn9 : ¬ Q = w9.heap.size := (by have := hb9'.size; omega); have hl9 : Q < w9.heap.size := (by have := hb9'.size; omega); have d0 := (hb9'.cell (p := ⟨Q, 0, none⟩) hQl).trans q0; have d1 := (hb9'.cell (p := ⟨Q, 1, none⟩) hQl).trans q1; have d2 := (hb9'.cell (p := ⟨Q, 2, none⟩) hQl).trans q2; have d3 := (hb9'.cell (p := ⟨Q, 3, none⟩) hQl).trans q3))
            all_goals
              go_wp2_with fail
              go_meet
              refine ⟨rfl, ?_⟩
              first
                | (with_reducible exact wr_fin2 rfl hs9 hb9')
                | (with_reducible exact wr_fin1 rfl hs9 hb9' (Nat.le_refl _) HL'.out.1 HL'.out.2 hZ)
                | (with_reducible exact wr_fin1 rfl hs9 hb9' hb5'.size HL'.out.1 HL'.out.2 hZ)
          case rest =>
            obtain ⟨rfl, gy, ay, capy, rfl, hgy, hBy, hsy, hby⟩ := hcut
            have hB9 := HB9.out.below hby hg9l
            have hs9 := HS9.out.next hby
            obtain ⟨y0, y1, y2, y3, _, _, _, _⟩ := dkCells hBy
            obtain ⟨x0, x1, x2, x3, _, _, _, _⟩ := dkCells hB9
            have HSm := Lib.hid (same_any ⟨S', l', t', st'⟩ _ _ wc hs9.dkV hsy.dkV HLm.out)
            have HBy := Lib.hid hBy
            have HSy := Lib.hid hsy
            have hQ4 := HQd.out.below hby hQl
            have HQ4 := Lib.hid hQ4
            have HS4 := Lib.hid (HSd.out.next hby)
            have hbX : Below w.heap.size w wc := hbd.trans (hby.mono hbd.size)
            have HBX4 := Lib.hid hbX
            have hcellc := (hby.cell (p := ⟨g, off + k, none⟩) hgl').trans hcelld
            have hyl := hBy.lt
            have hQ4l := hQ4.lt
            have hne1 : ¬ gy = Q := by omega
            have hne2 : ¬ Q = gy := by omega
            clear q0 q1 q2 q3 hB9 hs9 hBy hsy hQ4 hbX hby hcelld
            go_wp2_with fail
            refine HSm.out.mono ?_
            rintro e w6 ⟨rfl, hb6⟩
            have hQ6 := HQ4.out.below hb6 hQ4l
            have hBy6 := HBy.out.below hb6 hyl
            obtain ⟨z0, z1, z2, z3, _, _, _, _⟩ := dkCells hBy6
            obtain ⟨m0, m1, m2, m3, n0, n1, n2, n3⟩ := dkCells hQ6
            have hb66 : Below w.heap.size w w6 := HBX4.out.trans (hb6.mono HBX4.out.size)
            rcases HDW.out with ⟨hc1, hz⟩ | ⟨hc1, hdv'⟩
            · subst hc1
              have HQX := Lib.hid hQ6
              have HSX := Lib.hid (HS4.out.next hb6)
              have HBX := Lib.hid hb66
              clear hQ6 hBy6 hb66 hb6 y0 y1 y2 y3 x0 x1 x2 x3 hz
              by_cases h240 : 240 < n
              · have i5 : (240 : Int) < (n : Int) := by omega
                clear h240
                have HRs := Lib.hid (refRestart_any ⟨S, l, t, st⟩ _ _ HSX.out.dkV)
                have HDr := Lib.hid (dw_restart HD.out)
                go_wp2_with fail
                refine HRs.out.mono ?_
                intro e w8 hr
                obtain ⟨a8, cap8, rfl, hs8, hb8⟩ := hr.lit (S := S) (l := -1) (t := 0) (st := false) (n := 4) rfl HDr.out.2.1
                clear hr
                have hQ8 := HQX.out.below hb8 HQX.out.lt
                obtain ⟨k0, k1, k2, k3, j0, j1, j2, j3⟩ := dkCells hQ8
                have hst8 := Lib.hid (wr_store (l := -1) (t := 0) (st := false) hQ8 hs8 (dw_len HDr.out).1 (dw_len HDr.out).2)
                have hb88 : Below w.heap.size w w8 := HBX.out.trans (hb8.mono HBX.out.size)
                have hbx8 := Lib.hid (hb88.trans (hst8.out.2.2.below hb88.size (fun q hq e => by have := HQB.out; omega)))
                clear hQ8 hs8 hb8 hb88
                go_wp2_with fail
                go_roundw
                case rel => exact ⟨k + 1, S, -1, 0, false, a8, cap8, by omega, by go_num, HDr.out, hst8.out.1, hst8.out.2.1, hbx8.out⟩
                case measure => simp [intOf]; omega
              · have i5 : ¬ (240 : Int) < (n : Int) := by omega
                clear h240
                go_wp2_with fail
                go_roundw
                case rel => exact ⟨k + 1, S, l, t, st, x, cx, by omega, by go_num, HD.out, HQX.out, HSX.out, HBX.out⟩
                case measure => simp [intOf]; omega
            · have HD' := Lib.hid hdv'
              have hl4 : S'.length = 4 := hdv'.2.1
              have hsy6 := HSy.out.next hb6
              rw [hl4] at z0 hsy6
              clear hdv' hl4
              have hsto := wr_store (l := l') (t := t') (st := st') hQ6 hsy6 HL'.out.1 HL'.out.2
              have HQX := Lib.hid hsto.1
              have HSX := Lib.hid hsto.2.1
              have HBX := Lib.hid (hb66.trans (hsto.2.2.below hb66.size (fun q hq e => by have := HQB.out; omega)))
              clear hQ6 hBy6 hb66 hb6 y0 y1 y2 y3 x0 x1 x2 x3 hsto hsy6
              rcases hc1 with rfl | rfl
              · by_cases h240 : 240 < n
                · have i5 : (240 : Int) < (n : Int) := by omega
                  clear h240
                  have HRs := Lib.hid (refRestart_any ⟨S', l', t', st'⟩ _ _ HSX.out.dkV)
                  have HDr := Lib.hid (dw_restart HD'.out)
                  go_wp2_with fail
                  refine HRs.out.mono ?_
                  intro e w8 hr
                  obtain ⟨a8, cap8, rfl, hs8, hb8⟩ := hr.lit (S := S') (l := -1) (t := 0) (st := false) (n := 4) rfl HDr.out.2.1
                  clear hr
                  have hQ8 := HQX.out.below hb8 HQX.out.lt
                  obtain ⟨k0, k1, k2, k3, j0, j1, j2, j3⟩ := dkCells hQ8
                  have hst8 := Lib.hid (wr_store (l := -1) (t := 0) (st := false) hQ8 hs8 (dw_len HDr.out).1 (dw_len HDr.out).2)
                  have hb88 : Below w.heap.size w w8 := HBX.out.trans (hb8.mono HBX.out.size)
                  have hbx8 := Lib.hid (hb88.trans (hst8.out.2.2.below hb88.size (fun q hq e => by have := HQB.out; omega)))
                  clear hQ8 hs8 hb8 hb88
                  go_wp2_with fail
                  go_roundw
                  case rel => exact ⟨k + 1, S', -1, 0, false, a8, cap8, by omega, by go_num, HDr.out, hst8.out.1, hst8.out.2.1, hbx8.out⟩
                  case measure => simp [intOf]; omega
                · have i5 : ¬ (240 : Int) < (n : Int) := by omega
                  clear h240
                  go_wp2_with fail
                  go_roundw
                  case rel => exact ⟨k + 1, S', l', t', st', ay, capy, by omega, by go_num, HD'.out, HQX.out, HSX.out, HBX.out⟩
                  case measure => simp [intOf]; omega
              · by_cases h240 : 240 < n
                · have i5 : (240 : Int) < (n : Int) := by omega
                  clear h240
                  have HRs := Lib.hid (refRestart_any ⟨S', l', t', st'⟩ _ _ HSX.out.dkV)
                  have HDr := Lib.hid (dw_restart HD'.out)
                  go_wp2_with fail
                  refine HRs.out.mono ?_
                  intro e w8 hr
                  obtain ⟨a8, cap8, rfl, hs8, hb8⟩ := hr.lit (S := S') (l := -1) (t := 0) (st := false) (n := 4) rfl HDr.out.2.1
                  clear hr
                  have hQ8 := HQX.out.below hb8 HQX.out.lt
                  obtain ⟨k0, k1, k2, k3, j0, j1, j2, j3⟩ := dkCells hQ8
                  have hst8 := Lib.hid (wr_store (l := -1) (t := 0) (st := false) hQ8 hs8 (dw_len HDr.out).1 (dw_len HDr.out).2)
                  have hb88 : Below w.heap.size w w8 := HBX.out.trans (hb8.mono HBX.out.size)
                  have hbx8 := Lib.hid (hb88.trans (hst8.out.2.2.below hb88.size (fun q hq e => by have := HQB.out; omega)))
                  clear hQ8 hs8 hb8 hb88
                  go_wp2_with fail
                  go_roundw
                  case rel => exact ⟨k + 1, S', -1, 0, false, a8, cap8, by omega, by go_num, HDr.out, hst8.out.1, hst8.out.2.1, hbx8.out⟩
                  case measure => simp [intOf]; omega
                · have i5 : ¬ (240 : Int) < (n : Int) := by omega
                  clear h240
                  go_wp2_with fail
                  go_roundw
                  case rel => exact ⟨k + 1, S', l', t', st', ay, capy, by omega, by go_num, HD'.out, HQX.out, HSX.out, HBX.out⟩
                  case measure => simp [intOf]; omega
      · go_wp2_with fail
        go_ret
        exact ⟨rfl, hb⟩
end Go.Proofs.Ytocmpbjpoghejaa
