/- Wal: the sector of a record that occupies one. -/
import Derived.Test.YtbinibpkbkhdlaaWlU
import Derived.Laws.CopyOwn
import Derived.Deep.AppendLies
namespace Go.Proofs.Ytbinibpkbkhdlaa
open Go.RowKit

def b8 (x : W32) : UInt8 := UInt8.ofNat (x.toNat % 256)
def putL (L : List UInt8) (i : Nat) (x : W32) : List UInt8 := (((L.set i (b8 (x >>> 24))).set (i + 1) (b8 (x >>> 16))).set (i + 2) (b8 (x >>> 8))).set (i + 3) (b8 x)
theorem putL_len (L : List UInt8) (i : Nat) (x : W32) : (putL L i x).length = L.length := by simp [putL]
theorem bc_set (L : List UInt8) (i : Nat) (b : UInt8) (v : Int) (hv : v = (b.toNat : Int)) : (bc L).toArray.setIfInBounds i (.int .u8 v) = (bc (L.set i b)).toArray := by
  subst hv
  simp [bc, List.map_set]
theorem b8_nat (x : W32) : ((x.toNat % 256 : Nat) : Int) = ((b8 x).toNat : Int) := by
  unfold b8
  rw [UInt8.toNat_ofNat']; omega
theorem put4_bc (L : List UInt8) (i : Nat) (x : W32) : put4 (bc L).toArray i x = (bc (putL L i x)).toArray := by
  unfold put4 putL
  rw [bc_set L i (b8 (x >>> 24)) _ (b8_nat _), bc_set _ (i + 1) (b8 (x >>> 16)) _ (b8_nat _), bc_set _ (i + 2) (b8 (x >>> 8)) _ (b8_nat _), bc_set _ (i + 3) (b8 x) _ (b8_nat _)]
/-- the bytes ahead of the record -/
def lay0 (gen : W32) (k : Nat) : List UInt8 := (((putL zeros 0 gen).set 8 (UInt8.ofNat (k / 256 % 256))).set 9 (UInt8.ofNat (k % 256))).set 10 3
/-- with the record and its length -/
def lay1 (gen : W32) (k : Nat) (r : List UInt8) : List UInt8 := (splice (lay0 gen k) 12 r).set 11 (UInt8.ofNat r.length)
/-- the whole sector -/
def lay2 (gen : W32) (k : Nat) (r : List UInt8) : List UInt8 := putL (putL (lay1 gen k r) 4 (crc (((lay1 gen k r).take 124).drop 8))) 124 gen
theorem splice_len (L : List UInt8) (i : Nat) (r : List UInt8) (h : i + r.length ≤ L.length) : (splice L i r).length = L.length := length_splice L i r h
theorem lay0_len (gen : W32) (k : Nat) : (lay0 gen k).length = 128 := by simp [lay0, putL_len, zeros_len]
theorem lay1_len (gen : W32) (k : Nat) (r : List UInt8) (h : r.length ≤ 112) : (lay1 gen k r).length = 128 := by
  rw [lay1, List.length_set, splice_len _ _ _ (by rw [lay0_len]; omega), lay0_len]
theorem lay2_len (gen : W32) (k : Nat) (r : List UInt8) (h : r.length ≤ 112) : (lay2 gen k r).length = 128 := by
  rw [lay2, putL_len, putL_len, lay1_len gen k r h]
theorem bc_splice (L : List UInt8) (i : Nat) (r : List UInt8) : splice (bc L) i (bc r) = bc (splice L i r) := by simp [splice, bc, List.map_take, List.map_drop]
theorem infoSec : (Try.prog.info? 76).map (fun i => (i.zero, i.size, i.bytes)) = some (some (.agg (bc zeros).toArray), 128, 128) := by kernel_rfl
theorem zeroSec (W : World) : (zeroValue 76).run Try.prog W = .ok (.agg (bc zeros).toArray) W := by
  obtain ⟨i0, hi, hz0, _, _⟩ := info_parts infoSec
  simp [zeroValue, typeInfo, hi, hz0, Result.andThen]
theorem sizeSec : (Try.prog.info? 76).map (·.size) = some 128 := by kernel_rfl
theorem fold_zip (D : List Value) : ∀ (cs : Array Value) (k : Nat), k + D.length ≤ cs.size →
    ((D.zipIdx k).foldl (fun cs x => cs.setIfInBounds x.snd x.fst) cs).size = cs.size ∧ ∀ j, ((D.zipIdx k).foldl (fun cs x => cs.setIfInBounds x.snd x.fst) cs)[j]? = if k ≤ j ∧ j < k + D.length then D[j - k]? else cs[j]? := by
  induction D with
  | nil => intro cs k _; exact ⟨rfl, fun j => by rw [if_neg (by rintro ⟨h1, h2⟩; simp only [List.length_nil] at h2; omega)]; rfl⟩
  | cons d D ih =>
    intro cs k h
    rw [List.length_cons] at h
    rw [List.zipIdx_cons, List.foldl_cons]
    obtain ⟨h1, h2⟩ := ih (cs.setIfInBounds k d) (k + 1) (by simp; omega)
    refine ⟨by rw [h1]; simp, fun j => ?_⟩
    rw [h2 j, List.length_cons]
    by_cases hj : k + 1 ≤ j ∧ j < k + 1 + D.length
    · rw [if_pos hj, if_pos (by omega), show j - k = (j - (k + 1)) + 1 by omega, List.getElem?_cons_succ]
    · rw [if_neg hj]
      by_cases hk : j = k
      · subst hk
        rw [if_pos (by omega), Nat.sub_self, List.getElem?_cons_zero, Array.getElem?_setIfInBounds_self_of_lt (by omega)]
      · rw [if_neg (by omega), Array.getElem?_setIfInBounds_ne (by omega)]
theorem fold_all (D : List Value) (cs : Array Value) (h : D.length = cs.size) : D.zipIdx.foldl (fun cs x => cs.setIfInBounds x.snd x.fst) cs = D.toArray := by
  obtain ⟨h1, h2⟩ := fold_zip D cs 0 (by omega)
  refine Array.ext_getElem? fun j => ?_
  rw [h2 j]
  by_cases hj : j < D.length
  · rw [if_pos (by omega), Nat.sub_zero, List.getElem?_toArray]
  · rw [if_neg (by omega), Array.getElem?_eq_none (by omega), Array.getElem?_eq_none (by rw [List.size_toArray]; omega)]
set_option maxRecDepth 100000 in
set_option maxHeartbeats 4000000 in
theorem layOut1_any (r : List UInt8) (n : Nat) (hn : r.length = n) (hr : n ≤ 112) (a : Option Addr) (cap : Nat) (k : Nat) (hk : k < 65536) (gen : W32) (w : World) (hv : Sl w 1 (.slice a n cap) n (bc r)) :
    Calls Try.prog 44 #[.slice a n cap, .int .i64 (k : Int), wv gen] w fun e w' => ∃ g c, e = .returned (.slice (some ⟨g, 0, none⟩) 1 c) ∧ w'.ownsRow w.heap.size 76 128 (.slice (some ⟨g, 0, none⟩) 1 c) 1 (bc (lay2 gen k r)) ∧ Below w.heap.size w w' := by
  have HV := Lib.hid hv
  have Hn := Lib.hid hn
  have HO := Lib.hid (occupied_any a n cap (by omega) w)
  rw [show occ n = 1 by unfold occ; split <;> omega] at HO
  clear hv hn
  have hzs := zeroSec
  obtain ⟨Z, hZ⟩ : ∃ Z, (bc zeros).toArray = Z := ⟨_, rfl⟩
  rw [hZ] at hzs
  have HZ := Lib.hid hZ
  clear hZ
  unfold wv
  go_enter Try.func44, Try.ntmps44
  go_wp2_with fail
  refine HO.out.mono ?_
  rintro e w' ⟨rfl, rfl⟩
  go_wp2_with fail
  have HR2 : Hid (∀ (v : Value) (W : World), (v = .slice none 0 0 ∧ w = W) ∨ True) := Lib.hid (fun _ _ => .inr trivial)
  clear HR2
  go_loopw [6, 14] (fun l i wr => ∃ t : Nat, i = .int .i64 (t : Int) ∧ ((t = 0 ∧ l = .slice none 0 0 ∧ w = wr) ∨ (t = 1 ∧ Hid (∃ g c, l = .slice (some ⟨g, 0, none⟩) 1 c ∧ wr.ownsRow w.heap.size 76 128 (.slice (some ⟨g, 0, none⟩) 1 c) 1 (bc (lay2 gen k r)) ∧ Below w.heap.size w wr)))) (fun _ i _ => 1 - (intOf i).toNat)
  case atStart => exact ⟨0, rfl, .inl ⟨rfl, rfl, rfl⟩⟩
  case round =>
    obtain ⟨t, rfl, ⟨rfl, rfl, rfl⟩ | ⟨rfl, HF⟩⟩ := hrel
    · have s1 : IntKind.i64.wrap ((k : Int) + 0) = (k : Int) := by rw [IntKind.wrap_i64]; omega
      go_wp2_with fail
      refine (put_any gen w.heap.size 0 (by omega) 76 Z (by rw [← HZ.out]; rfl) _ (Blk.new w _ _)).mono ?_
      rintro e w5 ⟨⟨_, rfl⟩, hB5, hU5⟩
      have hB5 : Blk w5 w.heap.size 76 (bc (putL zeros 0 gen)).toArray := by
        rw [← put4_bc, HZ.out]; exact hB5
      have hb5 : Below w.heap.size w w5 := ((Below.refl _ _).alloc (Nat.le_refl _) _).trans (hU5.below (by simp) (fun k hk h => by omega))
      clear hU5
      have hlen5 : (bc (putL zeros 0 gen)).length = 128 := by rw [bc_len, putL_len, zeros_len]
      obtain ⟨x8, c8⟩ : ∃ u, w5.cell? ⟨w.heap.size, 8, none⟩ = some u := ⟨(bc (putL zeros 0 gen))[8]'(by omega), by rw [hB5.cell]; simp⟩
      obtain ⟨x9, c9⟩ : ∃ u, w5.cell? ⟨w.heap.size, 9, none⟩ = some u := ⟨(bc (putL zeros 0 gen))[9]'(by omega), by rw [hB5.cell]; simp⟩
      have c10 : w5.cell? ⟨w.heap.size, 10, none⟩ = some (.int .u8 0) := by rw [hB5.cell]; simp [bc, putL, zeros]
      have f8 := hB5.frozen 8
      have f9 := hB5.frozen 9
      have f10 := hB5.frozen 10
      have s2 : IntKind.i64.wrap ((k : Int) + 0) = (k : Int) := by rw [IntKind.wrap_i64]; omega
      have HB5 := Lib.hid hB5
      have Hb5 := Lib.hid hb5
      have Hzs := Lib.hid hzs
      clear hB5 hb5 hzs hlen5
      go_wp2_with fail
      have e6 : ((((bc (putL zeros 0 gen)).toArray.setIfInBounds 8 (.int .u8 ((k : Int) / 256))).setIfInBounds 9 (.int .u8 ((k : Int) % 256))).setIfInBounds 10 (.int .u8 (bits BinOp.or IntKind.u8 0 1))).setIfInBounds 10 (.int .u8 (bits BinOp.or IntKind.u8 (bits BinOp.or IntKind.u8 0 1) 2)) = (bc (lay0 gen k)).toArray := by
        rw [bc_set _ 8 (UInt8.ofNat (k / 256 % 256)) _ (by rw [UInt8.toNat_ofNat']; omega), bc_set _ 9 (UInt8.ofNat (k % 256)) _ (by rw [UInt8.toNat_ofNat']; omega), bc_set _ 10 1 _ (by decide +kernel), bc_set _ 10 3 _ (by decide +kernel), List.set_set]
        rfl
      have hB6 := (((HB5.out.set_ 8 (.int .u8 ((k : Int) / 256))).set_ 9 (.int .u8 ((k : Int) % 256))).set_ 10 (.int .u8 (bits BinOp.or IntKind.u8 0 1))).set_ 10 (.int .u8 (bits BinOp.or IntKind.u8 (bits BinOp.or IntKind.u8 0 1) 2))
      rw [e6] at hB6
      have hb6 := (((Hb5.out.setCell (p := ⟨w.heap.size, 8, none⟩) (Nat.le_refl _) (.int .u8 ((k : Int) / 256))).setCell (p := ⟨w.heap.size, 9, none⟩) (Nat.le_refl _) (.int .u8 ((k : Int) % 256))).setCell (p := ⟨w.heap.size, 10, none⟩) (Nat.le_refl _) (.int .u8 (bits BinOp.or IntKind.u8 0 1))).setCell (p := ⟨w.heap.size, 10, none⟩) (Nat.le_refl _) (.int .u8 (bits BinOp.or IntKind.u8 (bits BinOp.or IntKind.u8 0 1) 2))
      obtain ⟨w6, hw6⟩ : ∃ w6, ((((w5.setCell ⟨w.heap.size, 8, none⟩ (.int .u8 ((k : Int) / 256))).setCell ⟨w.heap.size, 9, none⟩ (.int .u8 ((k : Int) % 256))).setCell ⟨w.heap.size, 10, none⟩ (.int .u8 (bits BinOp.or IntKind.u8 0 1))).setCell ⟨w.heap.size, 10, none⟩ (.int .u8 (bits BinOp.or IntKind.u8 (bits BinOp.or IntKind.u8 0 1) 2))) = w6 := ⟨_, rfl⟩
      rw [hw6] at hB6 hb6 ⊢
      clear hw6 e6 c8 c9 c10 f8 f9 f10 s2 s1
      have hsrc := sl_grow (HV.out.next hb6)
      have hsn := (HV.out.next hb6).1
      have HB6 := Lib.hid hB6
      have Hb6 := Lib.hid hb6
      clear hB6 hb6
      have hnc : n ≤ cap := by
        obtain ⟨_, _, _, he, hnc, _⟩ := HV.out
        cases he; exact hnc
      have hncI : (n : Int) ≤ (cap : Int) := by omega
      have s3 : IntKind.i64.wrap 0 = 0 := by decide +kernel
      have hadd : Option.map (fun x : Addr => x.add 0) a = a := by cases a <;> simp [Addr.add]
      have Hpos := Lib.hid (show 0 < (bc r).length → some (⟨w.heap.size, 12, none⟩ : Addr) = some ⟨w.heap.size, 12, none⟩ ∧ ∃ ad, a = some ad ∧ ∀ (j : Nat) (v : Value), (bc r)[j]? = some v → w6.cell? (ad.add j) = some v from fun h => by
        rw [bc_len, Hn.out] at h
        cases a with
        | none => have := (hsrc.1 rfl).1; omega
        | some ad => exact ⟨rfl, ad, rfl, hsrc.2 ad rfl⟩)
      have Hmin := Lib.hid (show (bc r).length = Nat.min n 112 by rw [bc_len, Hn.out]; exact (Nat.min_eq_left hr).symm)
      have Hfit := Lib.hid (show 12 + (bc r).length ≤ (bc (lay0 gen k)).length by rw [bc_len, bc_len, lay0_len, Hn.out]; omega)
      clear hsrc hsn
      go_region_law
        (first
          | (refine step_copy_splice rfl (.tmp 44) (.tmp 48) 25 25 rfl 5 Try.underlying25 sizeU8 (some ⟨w.heap.size, 12, none⟩) a 112 116 n cap rfl rfl w.heap.size 12 (bc (lay0 gen k)) 76 HB6.out (bc r) Hmin.out Hpos.out Hfit.out (bc_one r) w.heap.size w Hb6.out.drew (Nat.le_refl _) ?_
             intro w7 hg7 hb7))
      rw [show (bc r).length = n by rw [bc_len, Hn.out]]
      have hls : (splice (lay0 gen k) 12 r).length = 128 := by rw [splice_len _ _ _ (by rw [lay0_len, Hn.out]; omega), lay0_len]
      have hB7 : Blk w7 w.heap.size 76 (bc (splice (lay0 gen k) 12 r)).toArray := by rw [← bc_splice]; exact hg7.out
      obtain ⟨x11, c11⟩ : ∃ u, w7.cell? ⟨w.heap.size, 11, none⟩ = some u := ⟨(bc (splice (lay0 gen k) 12 r))[11]'(by rw [bc_len]; omega), by rw [hB7.cell]; simp⟩
      have f11 := hB7.frozen 11
      have hB8 := hB7.set_ 11 (.int .u8 (n : Int))
      rw [bc_set _ 11 (UInt8.ofNat r.length) _ (by rw [UInt8.toNat_ofNat', Hn.out]; omega)] at hB8
      have hb8 := hb7.setCell (p := ⟨w.heap.size, 11, none⟩) (Nat.le_refl _) (.int .u8 (n : Int))
      change Blk _ _ _ (bc (lay1 gen k r)).toArray at hB8
      have hl1 := lay1_len gen k r (by rw [Hn.out]; exact hr)
      obtain ⟨w8, hw8⟩ : ∃ w8, w7.setCell ⟨w.heap.size, 11, none⟩ (.int .u8 (n : Int)) = w8 := ⟨_, rfl⟩
      rw [hw8] at hB8 hb8
      have HSm := Lib.hid (sum_any (((lay1 gen k r).take 124).drop 8) 116 (by rw [List.length_drop, List.length_take, hl1]; rfl) (by unfold maxLen; omega) (some ⟨w.heap.size, 8, none⟩) 120 w8 (sl_sub (hB8.sl (n := 128) rfl (by rw [bc_len, hl1])) (A := 8) (B := 124) (by omega) (by omega) 116 120 rfl (by omega)))
      have HP4 := Lib.hid (put_any (crc (((lay1 gen k r).take 124).drop 8)) w.heap.size 4 (by omega) 76 _ (by simp [bc_len, hl1]) w8 hB8)
      rw [put4_bc] at HP4
      have Hl3 := Lib.hid (show (putL (lay1 gen k r) 4 (crc (((lay1 gen k r).take 124).drop 8))).length = 128 by rw [putL_len, hl1])
      have Hl2 := Lib.hid (lay2_len gen k r (by rw [Hn.out]; exact hr))
      have Hd2 := Lib.hid (show putL (putL (lay1 gen k r) 4 (crc (((lay1 gen k r).take 124).drop 8))) 124 gen = lay2 gen k r from rfl)
      obtain ⟨cs, hcs⟩ : ∃ cs, crc (((lay1 gen k r).take 124).drop 8) = cs := ⟨_, rfl⟩
      rw [hcs] at HSm HP4 Hl3 Hd2
      have HW8 := Lib.hid hw8
      have Hb8 := Lib.hid hb8
      clear hls hB7 hB8 hb8 hl1 hcs hg7 hb7 hw8 Hpos Hmin Hfit s3 hadd
      unfold wv at HSm HP4
      go_wp2_with (rw [HW8.out])
      refine HSm.out.mono ?_
      rintro e w9 ⟨rfl, rfl⟩
      go_wp2_with fail
      refine HP4.out.mono ?_
      rintro e w10 ⟨⟨_, rfl⟩, hB10, hU10⟩
      have hb10 := Hb8.out.trans (hU10.below Hb8.out.size (fun k hk h => by omega))
      have HP5 := Lib.hid (put_any gen w.heap.size 124 (by omega) 76 _ (by simp [bc_len, Hl3.out]) w10 hB10)
      rw [put4_bc, Hd2.out] at HP5
      unfold wv at HP5
      have Hb10 := Lib.hid hb10
      clear hB10 hU10 hb10 c11 f11
      go_wp2_with fail
      refine HP5.out.mono ?_
      rintro e w11 ⟨⟨_, rfl⟩, hB11, hU11⟩
      have hb11 := Hb10.out.trans (hU11.below Hb10.out.size (fun k hk h => by omega))
      have HB11 := Lib.hid hB11
      have Hb11 := Lib.hid hb11
      have Ho := Lib.hid (bc_one (lay2 gen k r))
      have Hsz := Lib.hid (show (bc (lay2 gen k r)).length = 128 by rw [bc_len, Hl2.out])
      obtain ⟨E, hE⟩ : ∃ E, bc (lay2 gen k r) = E := ⟨_, rfl⟩
      rw [hE] at HB11 Ho Hsz
      have HE := Lib.hid hE
      have hd128 : E.length = 128 := Hsz.out
      obtain ⟨iu, hiu, hu0, hu1, hu2⟩ := info_parts infoSec
      clear hB11 hU11 hb11 hE
      have hzs := Hzs.out
      have hb12 := Hb11.out.alloc Hb11.out.size (.cells E.toArray 76)
      have hcl := World.news_of_block (Blk.new w11 76 E.toArray)
      obtain ⟨w12, hw12⟩ : ∃ w12, w11.alloc (.cells E.toArray 76) = w12 := ⟨_, rfl⟩
      rw [hw12] at hb12 hcl
      have HW12 := Lib.hid hw12
      have Hb12 := Lib.hid hb12
      have Hcl := Lib.hid hcl
      clear hw12 hb12 hcl
      go_wp2_with (first
        | (refine wpList_load_row rfl 76 _ rfl w.heap.size rfl 76 E.toArray (0, 0) _ HB11.out Try.underlying76 rfl (by rw [show E.toArray.size = 128 from Hsz.out]; exact sizeSec) ?_)
        | (at_builtin
           rw [fold_all E _ (by rw [Hsz.out]; rfl), HW12.out]
           refine wpList_append_lies _ rfl (.tmp 58) (.tmp 60) 73 rfl w.heap.size 76 iu _ 128 128 Try.underlying73 hiu hu0 hu1 hu2 rfl (by omega) (.slice none 0 0) 0 [] rfl (World.ownsRow_nil _ _ _ _) ⟨w11.heap.size, 0, none⟩ 1 1 E rfl (by rw [Hsz.out]) Hcl.out Ho.out (by omega) (by unfold maxLen; omega) (by omega) Hb12.out.size w12.heap.size rfl ?_
           intro g7 cap7 w13 hown13 hg13 hor13 hlt13
           have hb13 : Below w.heap.size w w13 := Hb12.out.grown hg13 Hb12.out.size (fun k hk => by cases hk)
           have Hown13 := Lib.hid hown13
           have Hb13 := Lib.hid hb13
           clear hown13 hg13 hor13 hlt13 hb13 hzs))
      exact ⟨⟨1, rfl, .inr ⟨rfl, Lib.hid ⟨g7, cap7, rfl, by rw [HE.out]; exact Hown13.out, Hb13.out⟩⟩⟩, by simp [intOf]⟩
    · obtain ⟨g, c, rfl, hrow, hb⟩ := HF.out
      have Hrow := Lib.hid hrow
      have Hb := Lib.hid hb
      clear hrow hb HF
      go_wp2_with fail
      go_ret
      exact ⟨g, c, rfl, Hrow.out, Hb.out⟩
end Go.Proofs.Ytbinibpkbkhdlaa
