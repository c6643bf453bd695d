/- Signing: the digits of a digest and of its checksum. -/
import Derived.Test.YtiloaheaglcpbaaDoorSgW
namespace Go.Proofs.YtiloaheaglcpbaaDoor
open Go.RowKit

/-- byte k of a list, as a number -/
def bt (d : List UInt8) (k : Nat) : Nat := (d.getD k 0).toNat
theorem bt_lt (d : List UInt8) (k : Nat) : bt d k < 256 := UInt8.toNat_lt _
theorem bt_cell {d : List UInt8} {k : Nat} (h : k < d.length) : (bc d)[k]? = some (.int .u8 (bt d k : Int)) := by
  simp [bc, bt, List.getD, h]
/-- the digits of the digest -/
def nib (d : List UInt8) (j : Nat) : Nat := if j % 2 = 0 then bt d (j / 2) / 16 else bt d (j / 2) % 16
theorem nib_lt (d : List UInt8) (j : Nat) : nib d j < 16 := by
  have := bt_lt d (j / 2)
  unfold nib; split <;> omega
/-- the sum of the complements of the digits of the first k bytes -/
def cks (d : List UInt8) : Nat → Nat
  | 0 => 0
  | k + 1 => cks d k + (30 - nib d (2 * k) - nib d (2 * k + 1))
theorem cks_le (d : List UInt8) (k : Nat) : cks d k ≤ 30 * k := by
  induction k with
  | zero => simp [cks]
  | succ k ih => rw [cks]; omega
/-- all digits -/
def dig (d : List UInt8) (j : Nat) : Nat := if j < 64 then nib d j else if j = 64 then cks d 32 / 256 else if j = 65 then cks d 32 / 16 % 16 else cks d 32 % 16
theorem nib_0 (d : List UInt8) (k : Nat) : nib d (2 * k) = bt d k / 16 := by
  rw [nib, if_pos (by omega), show 2 * k / 2 = k by omega]
theorem nib_1 (d : List UInt8) (k : Nat) : nib d (2 * k + 1) = bt d k % 16 := by
  rw [nib, if_neg (by omega), show (2 * k + 1) / 2 = k by omega]
theorem dig_set (k : Nat) (cs : Array Value) (d : List UInt8) (b : Nat) (hb : bt d k = b) (hs : cs.size = 67) (hk : 2 * k + 1 < 67) (hall : ∀ j, j < 2 * k → cs[j]? = some (.int .i64 (nib d j : Int))) :
    ∀ j, j < 2 * (k + 1) → ((cs.setIfInBounds (2 * k) (.int .i64 ((b : Int) / 16))).setIfInBounds (2 * k + 1) (.int .i64 ((b : Int) % 16)))[j]? = some (.int .i64 (nib d j : Int)) := by
  intro j hj
  rw [Array.getElem?_setIfInBounds, Array.getElem?_setIfInBounds]
  by_cases h1 : j = 2 * k + 1
  · subst h1
    rw [nib_1, hb, if_pos rfl, if_pos (by simp; omega)]
    simp
  · rw [if_neg (fun e => h1 e.symm)]
    by_cases h2 : j = 2 * k
    · subst h2
      rw [nib_0, hb, if_pos rfl, if_pos (by omega)]
      simp
    · rw [if_neg (fun e => h2 e.symm)]
      exact hall j (by omega)
theorem dig_lt (d : List UInt8) (j : Nat) : dig d j < 16 := by
  have h1 := nib_lt d j
  have h2 := cks_le d 32
  unfold dig; split
  · exact h1
  · split
    · omega
    · split <;> omega
def digC (d : List UInt8) : Array Value := ((List.range 67).map fun j => Value.int .i64 (dig d j : Int)).toArray
theorem digC_size (d : List UInt8) : (digC d).size = 67 := by simp [digC]
theorem digC_at (d : List UInt8) (j : Nat) (h : j < 67) : (digC d)[j]? = some (.int .i64 (dig d j : Int)) := by simp [digC, h]

def sm (c m : Nat) : Nat := c / 16 ^ m
theorem sm_le (c m : Nat) : sm c m ≤ c := Nat.div_le_self _ _
theorem sm_succ (c m : Nat) : sm c (m + 1) = sm c m / 16 := by rw [sm, sm, Nat.pow_succ, Nat.div_div_eq_div_mul]
theorem dig_lo (d : List UInt8) (j : Nat) (h : j < 64) : dig d j = nib d j := by rw [dig, if_pos h]
theorem dig_sm (d : List UInt8) (m : Nat) (h : m < 3) : dig d (66 - m) = sm (cks d 32) m % 16 := by
  have h2 := cks_le d 32
  obtain rfl | rfl | rfl : m = 0 ∨ m = 1 ∨ m = 2 := by omega
  · rw [dig, if_neg (by omega), if_neg (by omega), if_neg (by omega), sm, Nat.pow_zero, Nat.div_one]
  · rw [dig, if_neg (by omega), if_neg (by omega), if_pos (by omega), sm, Nat.pow_one]
  · rw [dig, if_neg (by omega), if_pos (by omega), sm]
    simp only [Nat.reducePow]
    omega
theorem digC_one (d : List UInt8) : (digC d).all (·.oneCell') = true := by
  rw [Array.all_eq_true_iff_forall_mem]
  intro v hv
  simp [digC] at hv
  obtain ⟨j, _, rfl⟩ := hv
  rfl
theorem infoDg : (Tryd.prog.info? 26).map (·.size) = some 32 := by kernel_rfl
theorem infoD67 : (Tryd.prog.info? 55).map (·.size) = some 67 := by kernel_rfl

set_option maxRecDepth 100000 in
theorem digitsOf_any (d : List UInt8) (hd : d.length = 32) (w : World) :
    Calls Tryd.prog 32 #[arrV d] w fun e w' => e = .returned (.agg (digC d)) ∧ Below w.heap.size w w' := by
  unfold arrV
  have hsz : (bc d).toArray.size = 32 := by rw [arrV_size, hd]
  have HC := Lib.hid (fun (k : Nat) (h : k < 32) => show (bc d).toArray[k]? = some (.int .u8 (bt d k : Int)) by simpa using bt_cell (d := d) (k := k) (by omega))
  have HS := Lib.hid hsz
  obtain ⟨D, hD⟩ : ∃ D, (bc d).toArray = D := ⟨_, rfl⟩
  rw [hD] at HC HS ⊢
  clear hsz hd hD
  go_enter Tryd.func32, Tryd.ntmps32
  go_wp2_with (refine wpList_load_row rfl 26 _ rfl _ rfl 26 D (0, 0) _ (heap_alloc2_old w _ _) Tryd.underlying26 rfl (by rw [HS.out]; exact infoDg) ?_)
  have hZ : Tryd.zeroCells55.size = 67 := by kernel_rfl
  have hB0 := Blk.new (w.alloc (.cells D 26)) 55 Tryd.zeroCells55
  rw [World.size_alloc] at hB0
  have HB0 := Lib.hid hB0
  have HZ := Lib.hid hZ
  have Hb0 := Lib.hid ((below_alloc w (.cells D 26)).alloc (by simp) (.cells Tryd.zeroCells55 55))
  clear hB0 hZ
  go_loopw [3, 8] (fun s i wr => ∃ (k : Nat) (cs : Array Value), k ≤ 32 ∧ i = .int .i64 k ∧ s = .int .i64 (cks d k) ∧ cs.size = 67 ∧ (∀ j, j < 2 * k → cs[j]? = some (.int .i64 (nib d j : Int))) ∧ Blk wr (w.heap.size + 1) 55 cs ∧ Below w.heap.size w wr) (fun _ i _ => 32 - (intOf i).toNat)
  case atStart => exact ⟨0, _, by omega, rfl, rfl, HZ.out, fun j h => by omega, HB0.out, Hb0.out⟩
  case round =>
    obtain ⟨k, cs, hk, rfl, rfl, hsz, hall, hB, hb⟩ := hrel
    have Hall := Lib.hid hall
    have Hsz := Lib.hid hsz
    have HB := Lib.hid hB
    have Hb := Lib.hid hb
    clear hall hB hb
    by_cases hlt : k < 32
    · have hx := HC.out k hlt
      have hix := run_index_arr wr 26 5 32 D k _ _ Tryd.underlying26 Tryd.underlying5 rfl (by kernel_rfl) hlt hx
      have hb256 := bt_lt d k
      have hck := cks_le d k
      obtain ⟨u, hc0⟩ : ∃ u, wr.cell? ⟨w.heap.size + 1, 2 * k, none⟩ = some u := ⟨cs[2 * k], by rw [HB.out.cell]; simp⟩
      obtain ⟨u', hc1⟩ : ∃ u, wr.cell? ⟨w.heap.size + 1, 2 * k + 1, none⟩ = some u := ⟨cs[2 * k + 1], by rw [HB.out.cell]; simp⟩
      have hf0 := HB.out.frozen (2 * k)
      have hf1 := HB.out.frozen (2 * k + 1)
      clear hsz
      go_wp2_with fail
      have hB2 := (HB.out.set_ (2 * k) (.int .i64 ((bt d k : Int) / 16))).set_ (2 * k + 1) (.int .i64 ((bt d k : Int) % 16))
      have hb2 := (Hb.out.setCell (p := ⟨w.heap.size + 1, 2 * k, none⟩) (by simp) (.int .i64 ((bt d k : Int) / 16))).setCell (p := ⟨w.heap.size + 1, 2 * k + 1, none⟩) (by simp) (.int .i64 ((bt d k : Int) % 16))
      obtain ⟨w2, hw2⟩ : ∃ w2, (wr.setCell ⟨w.heap.size + 1, 2 * k, none⟩ (.int .i64 ((bt d k : Int) / 16))).setCell ⟨w.heap.size + 1, 2 * k + 1, none⟩ (.int .i64 ((bt d k : Int) % 16)) = w2 := ⟨_, rfl⟩
      rw [hw2] at hB2 hb2 ⊢
      have e0 : w2.cell? ⟨w.heap.size + 1, 2 * k, none⟩ = some (.int .i64 ((bt d k : Int) / 16)) := by rw [hB2.cell]; have := Hsz.out; simp [Array.getElem?_setIfInBounds]; omega
      have e1 : w2.cell? ⟨w.heap.size + 1, 2 * k + 1, none⟩ = some (.int .i64 ((bt d k : Int) % 16)) := by rw [hB2.cell]; have := Hsz.out; simp [Array.getElem?_setIfInBounds]; omega
      have HB2 := Lib.hid hB2
      have Hb2 := Lib.hid hb2
      obtain ⟨b, hb⟩ : ∃ b, bt d k = b := ⟨_, rfl⟩
      have Hbb := Lib.hid hb
      rw [hb] at hb256 e0 e1 ⊢
      clear hc0 hc1 hf0 hf1 hix hx hB2 hb2 hw2 hb
      have s1 : IntKind.i64.wrap (2 * (k : Int)) = 2 * k := IntWalk.i64_in _ (by omega)
      have s2 : IntKind.i64.wrap (2 * (k : Int) + 1) = 2 * k + 1 := IntWalk.i64_in _ (by omega)
      have s3 : IntKind.i64.wrap (30 - (b : Int) / 16) = 30 - (b : Int) / 16 := IntWalk.i64_in _ (by omega)
      have s4 : IntKind.i64.wrap (30 - (b : Int) / 16 - (b : Int) % 16) = 30 - (b : Int) / 16 - (b : Int) % 16 := IntWalk.i64_in _ (by omega)
      have s5 : IntKind.i64.wrap ((cks d k : Int) + (30 - (b : Int) / 16 - (b : Int) % 16)) = (cks d k : Int) + (30 - (b : Int) / 16 - (b : Int) % 16) := IntWalk.i64_in _ (by omega)
      have i1 : (0 : Int) ≤ 2 * (k : Int) := by omega
      have i2 : (2 : Int) * (k : Int) < 67 := by omega
      have i3 : (0 : Int) ≤ 2 * (k : Int) + 1 := by omega
      have i4 : (2 : Int) * (k : Int) + 1 < 67 := by omega
      have t1 : (2 * (k : Int)).toNat = 2 * k := by omega
      have t2 : (2 * (k : Int) + 1).toNat = 2 * k + 1 := by omega
      go_quiet (fail)
      clear s1 s2 s3 s4 s5 t1 t2
      go_wp2_with fail
      go_roundw
      case rel =>
        refine ⟨k + 1, _, by omega, by go_num, ?_, ?_, ?_, HB2.out.drewN _, blw_drewN Hb2.out _⟩
        · rw [cks, nib_0, nib_1, Hbb.out]
          congr 1
          omega
        · simp [Hsz.out]
        · rw [Hbb.out]; exact dig_set k cs d b Hbb.out Hsz.out (by omega) Hall.out
      case measure => simp [intOf]; omega
    · have hk32 : k = 32 := by omega
      subst hk32
      go_wp2_with fail
      have hck := cks_le d 32
      have Hd := Lib.hid (show ∀ j, j < 64 → cs[j]? = some (.int .i64 (dig d j : Int)) from fun j h => by rw [dig_lo d j h]; exact Hall.out j (by omega))
      obtain ⟨c, hc⟩ : ∃ c, cks d 32 = c := ⟨_, rfl⟩
      obtain ⟨g, hg⟩ : ∃ g, w.heap.size + 1 = g := ⟨_, rfl⟩
      rw [hg] at HB ⊢
      rw [hc] at hck ⊢
      have Hc := Lib.hid hc
      have Hg := Lib.hid hg
      obtain ⟨wx, hwx⟩ : ∃ wx, wr = wx := ⟨_, rfl⟩
      rw [hwx] at HB Hb ⊢
      clear hsz hk hwx hc hg HC HS HB0 HZ Hb0 Hall
      go_loopw [3, 39] (fun s i wr => ∃ (m : Nat) (cs : Array Value), m ≤ 3 ∧ i = .int .i64 m ∧ s = .int .i64 (sm c m : Int) ∧ cs.size = 67 ∧ (∀ j, j < 64 ∨ (67 - m ≤ j ∧ j < 67) → cs[j]? = some (.int .i64 (dig d j : Int))) ∧ Blk wr g 55 cs ∧ Below w.heap.size w wr) (fun _ i _ => 3 - (intOf i).toNat)
      case atStart => exact ⟨0, cs, by omega, rfl, by simp [sm], Hsz.out, fun j h => Hd.out j (by omega), HB.out, Hb.out⟩
      case round =>
        clear HB Hb Hsz Hd
        obtain ⟨m, cs, hm, rfl, rfl, hsz, hall, hB, hb⟩ := hrel
        have Hall := Lib.hid hall
        have Hsz := Lib.hid hsz
        have HB := Lib.hid hB
        have Hb := Lib.hid hb
        clear hall hB hb
        have hsm := sm_le c m
        by_cases hlt : m < 3
        · obtain ⟨u, hc0⟩ : ∃ u, wr.cell? ⟨g, 66 - m, none⟩ = some u := ⟨cs[66 - m], by rw [HB.out.cell]; simp⟩
          have hf0 := HB.out.frozen (66 - m)
          clear hsz
          obtain ⟨s, hs⟩ : ∃ s, sm c m = s := ⟨_, rfl⟩
          have Hs := Lib.hid hs
          rw [hs] at hsm ⊢
          clear hs
          go_wp2_with fail
          go_roundw
          case rel =>
            refine ⟨m + 1, cs.setIfInBounds (66 - m) (.int .i64 ((s : Int) % 16)), by omega, by go_num, ?_, by simp [Hsz.out], ?_, HB.out.set_ _ _, Hb.out.setCell (by have := Hg.out; simp; omega) _⟩
            · rw [sm_succ, Hs.out]; simp
            · intro j hj
              rw [Array.getElem?_setIfInBounds]
              by_cases h1 : j = 66 - m
              · subst h1
                rw [if_pos rfl, if_pos (by have := Hsz.out; omega), dig_sm d m hlt, Hc.out, Hs.out]
                simp
              · rw [if_neg (fun e => h1 e.symm)]
                exact Hall.out j (by omega)
          case measure => simp [intOf]; omega
        · have hm3 : m = 3 := by omega
          subst hm3
          have hcs : cs = digC d := by
            apply Array.ext_getElem?
            intro j
            rcases Nat.lt_or_ge j 67 with h | h
            · rw [Hall.out j (by omega), digC_at d j h]
            · rw [Array.getElem?_eq_none (by omega), Array.getElem?_eq_none (by rw [digC_size]; omega)]
          rw [hcs] at HB
          have Hds := Lib.hid (digC_size d)
          have Hd1 := Lib.hid (digC_one d)
          clear Hall Hsz hsz hcs
          obtain ⟨E, hE⟩ : ∃ E, digC d = E := ⟨_, rfl⟩
          rw [hE] at HB Hds Hd1
          have HE := Lib.hid hE
          clear hE
          go_wp2_with (first
            | (refine wpList_load_row rfl 55 _ rfl g rfl 55 E (0, 0) _ HB.out Tryd.underlying55 rfl (by rw [Hds.out]; exact infoD67) ?_)
            | (refine wpList_store_row rfl 55 _ _ rfl g E rfl rfl 55 E HB.out (by rw [Hds.out]; exact infoD67) rfl Hd1.out ?_))
          exact bodyPost_ret (v := .agg E) (results_cell_row rfl _ _ g 55 E (0, 0) _ rfl (HB.out.setRow E) Tryd.underlying55 rfl (by rw [Hds.out]; exact infoD67)) rfl ⟨by rw [HE.out], setRow_below Hb.out (by have := Hg.out; omega) _⟩

/-- the digits come as a slice in memory of the call's own -/
def RetDig (d : List UInt8) (w : World) (e : Ending) (w' : World) : Prop := ∃ g, e = .returned (.slice (some ⟨g, 0, none⟩) 67 67) ∧ Blk w' g 55 (digC d) ∧ w.heap.size ≤ g ∧ Below w.heap.size w w'
theorem digits_any (d : List UInt8) (hd : d.length = 32) (w : World) :
    Calls Tryd.prog 16 #[arrV d] w fun e w' => RetDig d w e w' := by
  have hsz : (bc d).toArray.size = 32 := by rw [arrV_size, hd]
  have HD := Lib.hid (fun W => digitsOf_any d hd W)
  unfold arrV at HD ⊢
  have HS := Lib.hid hsz
  obtain ⟨D, hD⟩ : ∃ D, (bc d).toArray = D := ⟨_, rfl⟩
  rw [hD] at HD HS ⊢
  have Hds := Lib.hid (digC_size d)
  have Hd1 := Lib.hid (digC_one d)
  obtain ⟨E, hE⟩ : ∃ E, digC d = E := ⟨_, rfl⟩
  rw [hE] at HD Hds Hd1
  have HE := Lib.hid hE
  clear hsz hd hD hE
  have hZ : Tryd.zeroCells55.size = 67 := by kernel_rfl
  have HZ := Lib.hid hZ
  clear hZ
  go_enter Tryd.func16, Tryd.ntmps16
  go_wp2_with (refine wpList_load_row rfl 26 _ rfl _ rfl 26 D (0, 0) _ (heap_alloc_new w _) Tryd.underlying26 rfl (by rw [HS.out]; exact infoDg) ?_)
  refine (HD.out _).mono ?_
  rintro e w1 ⟨rfl, hb1⟩
  have hb2 := ((below_alloc w (.cells D 26)).trans (hb1.mono (by simp)))
  have HB := Lib.hid (Blk.new w1 55 Tryd.zeroCells55)
  go_wp2_with (refine wpList_store_row rfl 55 _ _ rfl w1.heap.size E rfl rfl 55 Tryd.zeroCells55 HB.out (by rw [Hds.out]; exact infoD67) (by rw [HZ.out, Hds.out]) Hd1.out ?_)
  go_ret
  exact ⟨w1.heap.size, rfl, by rw [HE.out]; exact HB.out.setRow E, hb2.size, setRow_below (hb2.alloc hb2.size _) hb2.size _⟩
end Go.Proofs.YtiloaheaglcpbaaDoor
