/- Wal: checksums are affine: the statement's function returns true. -/
import Derived.Test.YtbinibpkbkhdlaaWlZ
import Derived.BigQuiet
namespace Go.Proofs.Ytbinibpkbkhdlaa
open Go.RowKit

theorem xor_b (x y : UInt8) : bits BinOp.xor IntKind.u8 (x.toNat : Int) (y.toNat : Int) = ((x ^^^ y).toNat : Int) := by
  have ofI : ∀ z : UInt8, BitVec.ofInt IntKind.u8.bits (z.toNat : Int) = z.toBitVec := by
    intro z; apply BitVec.eq_of_toNat_eq
    rw [BitVec.toNat_ofInt]
    have := z.toNat_lt
    show ((z.toNat : Int) % ((2 ^ 8 : Nat) : Int)).toNat = z.toNat
    omega
  unfold bits
  simp only [ofI]
  show IntKind.u8.wrap (((x ^^^ y).toNat : Nat) : Int) = _
  have := (x ^^^ y).toNat_lt
  show (((x ^^^ y).toNat : Nat) : Int) % 256 = _
  omega
theorem mkN (n : Nat) (hn : n ≤ 2000) (w : World) : (Instr.makeSlice 25 (.int .i64 (n : Int)) (.int .i64 (n : Int))).run Try.prog w = .ok (.slice (some ⟨w.heap.size, 0, none⟩) n n) (w.alloc (.cells (zc n) 5)) := by
  obtain ⟨i0, hi, hz0, hz1, hz2⟩ := info_parts infoU8
  have := run_makeSlice (P := Try.prog) w 25 5 i0 (.int .u8 0) Try.underlying25 hi hz0 .i64 .i64 n n (by omega) (Int.le_refl _) (by rw [hz1]; omega) (by rw [hz2]; omega) (by omega)
  rw [this, hz1]
  simp [zc, Value.cells]
theorem xl_len : ∀ (l m n : List UInt8) (k : Nat), l.length = k → m.length = k → n.length = k → (xl l m n).length = k
  | [], _, _, _, h, _, _ => by subst h; rfl
  | _ :: _, [], _, _, h, h2, _ => by simp at h h2; omega
  | _ :: _, _ :: _, [], _, h, _, h3 => by simp at h h3; omega
  | _ :: l, _ :: m, _ :: n, k, h, h2, h3 => by
    have := xl_len l m n (k - 1) (by simp at h; omega) (by simp at h2; omega) (by simp at h3; omega)
    simp only [xl, List.length_cons, this]; simp at h; omega
theorem xl_snoc (a b c : UInt8) : ∀ (l m n : List UInt8), l.length = m.length → m.length = n.length → xl (l ++ [a]) (m ++ [b]) (n ++ [c]) = xl l m n ++ [a ^^^ b ^^^ c]
  | [], [], [], _, _ => rfl
  | p :: l, q :: m, r :: n, h1, h2 => by
    show (p ^^^ q ^^^ r) :: xl (l ++ [a]) (m ++ [b]) (n ++ [c]) = (p ^^^ q ^^^ r) :: (xl l m n ++ [a ^^^ b ^^^ c])
    rw [xl_snoc a b c l m n (by simpa using h1) (by simpa using h2)]
theorem take_snoc (l : List UInt8) (t : Nat) (h : t < l.length) : l.take (t + 1) = l.take t ++ [l.getD t 0] := by
  rw [List.take_succ_eq_append_getElem h]; simp [List.getD, h]
/-- the row after t rounds -/
def xr (x y z : List UInt8) (n t : Nat) : List UInt8 := xl (x.take t) (y.take t) (z.take t) ++ List.replicate (n - t) 0
theorem xr_len {x y z : List UInt8} {n t : Nat} (h : t ≤ n) (h1 : n ≤ x.length) (h2 : n ≤ y.length) (h3 : n ≤ z.length) : (xr x y z n t).length = n := by
  have := xl_len (x.take t) (y.take t) (z.take t) t (by simp; omega) (by simp; omega) (by simp; omega)
  simp only [xr, List.length_append, this, List.length_replicate]; omega
theorem xr_step {x y z : List UInt8} {n t : Nat} (h : t < n) (h1 : n ≤ x.length) (h2 : n ≤ y.length) (h3 : n ≤ z.length) :
    xr x y z n (t + 1) = (xr x y z n t).set t (x.getD t 0 ^^^ y.getD t 0 ^^^ z.getD t 0) := by
  have hl := xl_len (x.take t) (y.take t) (z.take t) t (by simp; omega) (by simp; omega) (by simp; omega)
  unfold xr
  rw [take_snoc x t (by omega), take_snoc y t (by omega), take_snoc z t (by omega), xl_snoc _ _ _ _ _ _ (by simp; omega) (by simp; omega), List.set_append_right _ _ (by omega), hl, Nat.sub_self,
    show n - t = (n - (t + 1)) + 1 by omega, List.replicate_succ, List.set_cons_zero, List.append_assoc]
  rfl
theorem bc_setA (l : List UInt8) (t : Nat) (v : UInt8) : (bc l).toArray.setIfInBounds t (.int .u8 (v.toNat : Int)) = (bc (l.set t v)).toArray := by
  simp [bc, List.map_set]
theorem zc_xr (x y z : List UInt8) (n : Nat) : (zc n) = (bc (xr x y z n 0)).toArray := by
  apply Array.toList_inj.1
  simp [zc, madeCells, xr, xl, bc, Nat.mod_one]
  exact List.eq_replicate_iff.2 ⟨by simp, fun b hb => by simp at hb; exact hb.2.symm⟩
theorem xr_end {x y z : List UInt8} {n : Nat} : xr x y z n n = xl (x.take n) (y.take n) (z.take n) := by
  simp [xr]
set_option maxRecDepth 100000 in
set_option maxHeartbeats 4000000 in
theorem affine_any (x y z : List UInt8) (a b c : Option Addr) (ca cb cc : Nat) (w : World) (h1 : Sl w 1 (.slice a x.length ca) x.length (bc x)) (h2 : Sl w 1 (.slice b y.length cb) y.length (bc y)) (h3 : Sl w 1 (.slice c z.length cc) z.length (bc z)) :
    Calls Try.prog 8 #[.slice a x.length ca, .slice b y.length cb, .slice c z.length cc] w fun e w' => e = .returned (.bool true) ∧ Below w.heap.size w w' := by
  have HA := Lib.hid h1
  have HB := Lib.hid h2
  have HC := Lib.hid h3
  obtain ⟨la, hla⟩ : ∃ k, x.length = k := ⟨_, rfl⟩
  obtain ⟨lb, hlb⟩ : ∃ k, y.length = k := ⟨_, rfl⟩
  obtain ⟨lc, hlc⟩ : ∃ k, z.length = k := ⟨_, rfl⟩
  rw [hla] at HA; rw [hlb] at HB; rw [hlc] at HC
  rw [hla, hlb, hlc]
  have La := Lib.hid hla
  have Lb := Lib.hid hlb
  have Lc := Lib.hid hlc
  clear h1 h2 h3 hla hlb hlc
  go_enter Try.func8, Try.ntmps8
  go_wp2_with fail
  refine (sane_any w).mono ?_
  rintro e w1 ⟨rfl, hb⟩
  have Hb := Lib.hid hb
  clear hb
  go_upto_region 3 with fail
  go_cut [7] (fun s7 wx => ∃ n : Nat, s7 = .int .i64 (n : Int) ∧ Hid (n ≤ la ∧ n ≤ lb ∧ n ≤ lc) ∧ wx = w1)
  case first =>
    by_cases p : (lb : Int) < (la : Int)
    · by_cases q : (lc : Int) < (lb : Int)
      · go_wp2_with fail
        go_meet
        exact ⟨lc, rfl, Lib.hid (by omega), rfl⟩
      · go_wp2_with fail
        go_meet
        exact ⟨lb, rfl, Lib.hid (by omega), rfl⟩
    · by_cases q : (lc : Int) < (la : Int)
      · go_wp2_with fail
        go_meet
        exact ⟨lc, rfl, Lib.hid (by omega), rfl⟩
      · go_wp2_with fail
        go_meet
        exact ⟨la, rfl, Lib.hid (by omega), rfl⟩
  obtain ⟨n, rfl, Hn, rfl⟩ := hcut
  by_cases h2k : (2000 : Int) < (n : Int)
  · go_wp2_with fail
    exact bodyPost_ret (v := .bool true) (by simp [results, Try.results8, go_sem, *]) rfl ⟨rfl, Hb.out⟩
  · have hmk := mkN n (by omega) wc
    have hq := Blk.new wc 5 (zc n)
    have hz := below_alloc wc (.cells (zc n) 5)
    obtain ⟨v, hv⟩ : ∃ u, wc.alloc (.cells (zc n) 5) = u := ⟨_, rfl⟩
    rw [hv] at hq hz hmk
    rw [zc_xr x y z n] at hq
    have Hq := Lib.hid hq
    have Hz := Lib.hid hz
    have HA := Lib.hid (HA.out.next Hb.out)
    have HB := Lib.hid (HB.out.next Hb.out)
    have HC := Lib.hid (HC.out.next Hb.out)
    clear hq hz hv
    have i0 : (0 : Int) ≤ (n : Int) := by omega
    go_wp2_with fail
    clear hmk
    go_loopw [9, 25] (fun _ i wr => ∃ t : Nat, Hid (t ≤ n) ∧ i = .int .i64 (t : Int) ∧ Hid (Blk wr wc.heap.size 5 (bc (xr x y z n t)).toArray) ∧ Hid (Below wc.heap.size wc wr)) (fun _ i _ => n - (intOf i).toNat)
    case atStart => exact ⟨0, Lib.hid (Nat.zero_le _), rfl, Hq, Hz⟩
    case round =>
      obtain ⟨t, Ht, rfl, HR, HW⟩ := hrel
      by_cases ht : t < n
      · have hn := Hn.out
        obtain ⟨ga, oa, rfl, _, hca⟩ := (HA.out.next HW.out).pos (by omega)
        obtain ⟨gb, ob, rfl, _, hcb⟩ := (HB.out.next HW.out).pos (by omega)
        obtain ⟨gc, oc, rfl, _, hcc⟩ := (HC.out.next HW.out).pos (by omega)
        have c1 := hca t _ (bt_cell (by rw [La.out]; omega))
        have c2 := hcb t _ (bt_cell (by rw [Lb.out]; omega))
        have c3 := hcc t _ (bt_cell (by rw [Lc.out]; omega))
        have Hs := Lib.hid (xr_step ht (by rw [La.out]; omega) (by rw [Lb.out]; omega) (by rw [Lc.out]; omega) : xr x y z n (t + 1) = _)
        have hlen := xr_len (Nat.le_of_lt ht) (by rw [La.out]; omega) (by rw [Lb.out]; omega) (by rw [Lc.out]; omega) (x := x) (y := y) (z := z)
        have hcell := HR.out.cell t
        have hfr := HR.out.frozen t
        obtain ⟨xa, ha⟩ : ∃ u, x.getD t 0 = u := ⟨_, rfl⟩
        obtain ⟨xb, hb⟩ : ∃ u, y.getD t 0 = u := ⟨_, rfl⟩
        obtain ⟨xc, hc⟩ : ∃ u, z.getD t 0 = u := ⟨_, rfl⟩
        rw [ha, hb, hc] at Hs
        rw [ha] at c1; rw [hb] at c2; rw [hc] at c3
        have hx1 := xor_b xa xb
        have hx2 := xor_b (xa ^^^ xb) xc
        obtain ⟨L, hL⟩ : ∃ L, xr x y z n t = L := ⟨_, rfl⟩
        rw [hL] at HR Hs hlen hcell
        obtain ⟨old, ho⟩ : ∃ u : UInt8, L.getD t 0 = u := ⟨_, rfl⟩
        have ht2 : t < L.length := by omega
        rw [show ((bc L).toArray)[t]? = some (.int .u8 (old.toNat : Int)) by rw [← ho]; simpa using bt_cell ht2] at hcell
        have j1 : (t : Int) < (n : Int) := by omega
        have j2 : (t : Int) < (la : Int) := by omega
        have j3 : (t : Int) < (lb : Int) := by omega
        have j4 : (t : Int) < (lc : Int) := by omega
        have s1 : IntKind.i64.wrap ((t : Int) + 1) = ((t + 1 : Nat) : Int) := by rw [IntKind.wrap_i64]; omega
        clear ha hb hc hL ho hca hcb hcc hlen ht2 hn
        go_wp2_with fail
        go_region
        go_wp2_with fail
        have hB := HR.out.set_ t (.int .u8 ((xa ^^^ xb ^^^ xc).toNat : Int))
        rw [bc_setA, ← Hs.out] at hB
        rw [show bits BinOp.xor IntKind.u8 ((xa.toNat ^^^ xb.toNat : Nat) : Int) (xc.toNat : Int) = ((xa ^^^ xb ^^^ xc).toNat : Int) by rw [← UInt8.toNat_xor]; exact xor_b _ _]
        exact ⟨⟨t + 1, Lib.hid (by omega), by go_num, Lib.hid (blk_drew hB), Lib.hid (HW.out.setCell (p := ⟨wc.heap.size, t, none⟩) (Nat.le_refl _) _).drew⟩, by simp [intOf]; omega⟩
      · obtain rfl : n = t := by have := Ht.out; omega
        have hn := Hn.out
        have hS0 := HR.out.sl rfl (by rw [bc_len, xr_len (Nat.le_refl _) (by rw [La.out]; omega) (by rw [Lb.out]; omega) (by rw [Lc.out]; omega)])
        rw [xr_end] at hS0
        have hA := HA.out.next HW.out
        have hB := HB.out.next HW.out
        have hC := HC.out.next HW.out
        rw [← La.out] at hA
        rw [← Lb.out] at hB
        rw [← Lc.out] at hC
        have hA := hA.take (m := n) (by rw [La.out]; omega)
        have hB := hB.take (m := n) (by rw [Lb.out]; omega)
        have hC := hC.take (m := n) (by rw [Lc.out]; omega)
        have lA : (x.take n).length = n := by rw [List.length_take, La.out]; omega
        have lB : (y.take n).length = n := by rw [List.length_take, Lb.out]; omega
        have lC : (z.take n).length = n := by rw [List.length_take, Lc.out]; omega
        have hcx := crc_xor (x.take n) (y.take n) (z.take n) (by omega) (by omega)
        have lX := xl_len _ _ _ n lA lB lC
        obtain ⟨A, hAe⟩ : ∃ A, x.take n = A := ⟨_, rfl⟩
        obtain ⟨B, hBe⟩ : ∃ A, y.take n = A := ⟨_, rfl⟩
        obtain ⟨C, hCe⟩ : ∃ A, z.take n = A := ⟨_, rfl⟩
        rw [hAe] at hS0 hA lA hcx lX; rw [hBe] at hS0 hB lB hcx lX; rw [hCe] at hS0 hC lC hcx lX
        have hmax : n ≤ maxLen := by unfold maxLen; omega
        have R0 := Lib.hid (fun m => calls_flip (sum_any (xl A B C) n lX hmax (some ⟨wc.heap.size, 0, none⟩) n (wr.drewN m) (hS0.drewN m)))
        have hx1 := xor_w (crc A) (crc B)
        have hx2 := xor_w (crc A ^^^ crc B) (crc C)
        rw [← hcx] at hx2
        have HWn := Lib.hid HW.out
        by_cases hn0 : n = 0
        · subst hn0
          obtain rfl := List.eq_nil_of_length_eq_zero lA
          obtain rfl := List.eq_nil_of_length_eq_zero lB
          obtain rfl := List.eq_nil_of_length_eq_zero lC
          have R1 := Lib.hid (fun (a' : Option Addr) (c' : Nat) m => calls_flip (sum_any [] 0 rfl hmax a' c' (wr.drewN m) ⟨rfl, a', c', rfl, Nat.zero_le _, .inl rfl⟩))
          obtain ⟨T, hT⟩ : ∃ T, crc (xl [] [] []) = T := ⟨_, rfl⟩
          obtain ⟨U, hU⟩ : ∃ T, crc [] ^^^ crc [] = T := ⟨_, rfl⟩
          obtain ⟨V, hV⟩ : ∃ T, crc [] = T := ⟨_, rfl⟩
          rw [hT] at R0 hx2; rw [hU] at hx1 hx2; rw [hV] at hx1 hx2 R1
          clear hT hU hV hcx hS0 hA hB hC lA lB lC lX hAe hBe hCe hn hmax h2k
          unfold wv at R0 R1
          go_wp2_with fail
          go_quiet ((first | (go_at_call 14; with_reducible exact Calls.quiet_of_same (R0.out _)) | (go_at_call 14; with_reducible exact Calls.quiet_of_same (R1.out _ _ _))))
          go_wp2_with fail
          exact bodyPost_ret (v := .bool true) (by simp [results, Try.results8, go_sem, *]) rfl ⟨rfl, blw_drewN (Hb.out.trans (HWn.out.mono Hb.out.size)) _⟩
        · obtain ⟨ga, oa, rfl, hca, _⟩ := hA.pos (by omega)
          obtain ⟨gb, ob, rfl, hcb, _⟩ := hB.pos (by omega)
          obtain ⟨gc, oc, rfl, hcc, _⟩ := hC.pos (by omega)
          have R1 := Lib.hid (fun m => calls_flip (sum_any A n lA hmax (some ⟨ga, oa, none⟩) ca (wr.drewN m) (hA.drewN m)))
          have R2 := Lib.hid (fun m => calls_flip (sum_any B n lB hmax (some ⟨gb, ob, none⟩) cb (wr.drewN m) (hB.drewN m)))
          have R3 := Lib.hid (fun m => calls_flip (sum_any C n lC hmax (some ⟨gc, oc, none⟩) cc (wr.drewN m) (hC.drewN m)))
          obtain ⟨T, hT⟩ : ∃ T, crc (xl A B C) = T := ⟨_, rfl⟩
          obtain ⟨U, hU⟩ : ∃ T, crc A ^^^ crc B = T := ⟨_, rfl⟩
          obtain ⟨V1, hV1⟩ : ∃ T, crc A = T := ⟨_, rfl⟩
          obtain ⟨V2, hV2⟩ : ∃ T, crc B = T := ⟨_, rfl⟩
          obtain ⟨V3, hV3⟩ : ∃ T, crc C = T := ⟨_, rfl⟩
          rw [hT] at R0 hx2; rw [hU] at hx1 hx2; rw [hV1] at hx1 R1; rw [hV2] at hx1 R2; rw [hV3] at hx2 R3
          have j1 : (n : Int) ≤ (ca : Int) := by omega
          have j2 : (n : Int) ≤ (cb : Int) := by omega
          have j3 : (n : Int) ≤ (cc : Int) := by omega
          have k1 : ¬ ca = 0 := by omega
          have k2 : ¬ cb = 0 := by omega
          have k3 : ¬ cc = 0 := by omega
          clear hT hU hV1 hV2 hV3 hcx hS0 hA hB hC lA lB lC lX hAe hBe hCe hn hmax h2k
          unfold wv at R0 R1 R2 R3
          go_wp2_with fail
          go_quiet ((first | (go_at_call 14; with_reducible exact Calls.quiet_of_same (R0.out _)) | (go_at_call 14; with_reducible exact Calls.quiet_of_same (R1.out _)) | (go_at_call 14; with_reducible exact Calls.quiet_of_same (R2.out _)) | (go_at_call 14; with_reducible exact Calls.quiet_of_same (R3.out _))))
          go_wp2_with fail
          exact bodyPost_ret (v := .bool true) (by simp [results, Try.results8, go_sem, *]) rfl ⟨rfl, blw_drewN (Hb.out.trans (HWn.out.mono Hb.out.size)) _⟩
end Go.Proofs.Ytbinibpkbkhdlaa
