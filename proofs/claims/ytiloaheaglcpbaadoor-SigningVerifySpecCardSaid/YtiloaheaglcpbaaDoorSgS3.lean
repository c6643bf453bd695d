/- SHA-256: the words of a block. -/
import Derived.Test.YtiloaheaglcpbaaDoorSgS2
import Derived.Deep.RegionHeld3
import Derived.Deep.DeepCutAuto
namespace Go.Proofs.YtiloaheaglcpbaaDoor
open Go.RowKit

/-- the bytes from k on -/
theorem Sl.dropB {w : World} {l : List UInt8} {n k : Nat} {g off cap : Nat} (h : Sl w 1 (.slice (some ⟨g, off, none⟩) n cap) n (bc l)) (hk : k ≤ n) :
    Sl w 1 (.slice (some ⟨g, off + k, none⟩) (n - k) (cap - k)) (n - k) (bc (l.drop k)) := by
  obtain ⟨h1, a', cap', he, hn, hr⟩ := h
  cases he
  rw [bc_len] at h1
  refine ⟨by rw [bc_len, List.length_drop]; omega, _, _, rfl, by omega, ?_⟩
  rcases hr with h0 | ⟨g', off', he, hc⟩
  · exact .inl (by omega)
  · cases he
    refine .inr ⟨g, off + k, rfl, fun j u hu => ?_⟩
    rw [Nat.add_assoc]
    exact hc (k + j) u (by simpa [bc, List.getElem?_drop] using hu)
theorem wordAt_drop (l : List UInt8) (k : Nat) : wordAt (l.drop (4 * k)) 0 = wordAt l k := by
  unfold wordAt
  simp only [List.getD_eq_getElem?_getD, List.getElem?_drop, Nat.mul_zero, Nat.zero_add, Nat.add_zero]
def schC (l : List UInt8) : List Value := (List.range 64).map fun i => wv (schW l i)
theorem schC_len (l : List UInt8) : (schC l).length = 64 := by simp [schC]
theorem schC_at (l : List UInt8) (j : Nat) (h : j < 64) : (schC l)[j]? = some (wv (schW l j)) := by simp [schC, h]
theorem schC_one (l : List UInt8) : ∀ v ∈ schC l, v.oneCell' = true := by
  intro v hv
  simp only [schC, List.mem_map] at hv
  obtain ⟨j, _, rfl⟩ := hv
  rfl
theorem sch_val (x16 x15 x7 x2 : W32) : IntKind.u32.wrap (IntKind.u32.wrap (IntKind.u32.wrap ((x16.toNat : Int) + bits BinOp.xor IntKind.u32 (bits BinOp.xor IntKind.u32 ((rot x15 7).toNat : Int) ((rot x15 18).toNat : Int)) ((x15.toNat : Int) / 8)) + (x7.toNat : Int)) + bits BinOp.xor IntKind.u32 (bits BinOp.xor IntKind.u32 ((rot x2 17).toNat : Int) ((rot x2 19).toNat : Int)) ((x2.toNat : Int) / 1024)) = ((x16 + ss0 x15 + x7 + ss1 x2).toNat : Int) := by
  have h1 : (x15.toNat : Int) / (8 : Int) = ((x15 >>> 3).toNat : Int) := shr_w x15 3
  have h2 : (x2.toNat : Int) / (1024 : Int) = ((x2 >>> 10).toNat : Int) := shr_w x2 10
  rw [h1, h2]
  simp only [xor_w, add_w]
  rfl
theorem infoW64 : (Tryd.prog.info? 83).map (·.size) = some 64 := by kernel_rfl

set_option maxRecDepth 100000 in
theorem schedule_any (l : List UInt8) (hl : l.length = 64) (g0 off cap : Nat) (w : World) (hv : Sl w 1 (.slice (some ⟨g0, off, none⟩) 64 cap) 64 (bc l)) :
    Calls Tryd.prog 67 #[.slice (some ⟨g0, off, none⟩) 64 cap] w fun e w' => e = .returned (.agg (schC l).toArray) ∧ Below w.heap.size w w' := by
  have hcap : 64 ≤ cap := by obtain ⟨_, a', c', he, hn, _⟩ := hv; cases he; exact hn
  have HV := Lib.hid hv
  have HL := Lib.hid hl
  clear hv hl
  go_enter Tryd.func67, Tryd.ntmps67
  go_wp2_with fail
  have HB0 := Lib.hid (Blk.new w 83 #[.int .u32 0, .int .u32 0, .int .u32 0, .int .u32 0, .int .u32 0, .int .u32 0, .int .u32 0, .int .u32 0, .int .u32 0, .int .u32 0, .int .u32 0, .int .u32 0, .int .u32 0, .int .u32 0, .int .u32 0, .int .u32 0, .int .u32 0, .int .u32 0, .int .u32 0, .int .u32 0, .int .u32 0, .int .u32 0, .int .u32 0, .int .u32 0, .int .u32 0, .int .u32 0, .int .u32 0, .int .u32 0, .int .u32 0, .int .u32 0, .int .u32 0, .int .u32 0, .int .u32 0, .int .u32 0, .int .u32 0, .int .u32 0, .int .u32 0, .int .u32 0, .int .u32 0, .int .u32 0, .int .u32 0, .int .u32 0, .int .u32 0, .int .u32 0, .int .u32 0, .int .u32 0, .int .u32 0, .int .u32 0, .int .u32 0, .int .u32 0, .int .u32 0, .int .u32 0, .int .u32 0, .int .u32 0, .int .u32 0, .int .u32 0, .int .u32 0, .int .u32 0, .int .u32 0, .int .u32 0, .int .u32 0, .int .u32 0, .int .u32 0, .int .u32 0])
  have Hb0 := Lib.hid (below_alloc w (.cells #[.int .u32 0, .int .u32 0, .int .u32 0, .int .u32 0, .int .u32 0, .int .u32 0, .int .u32 0, .int .u32 0, .int .u32 0, .int .u32 0, .int .u32 0, .int .u32 0, .int .u32 0, .int .u32 0, .int .u32 0, .int .u32 0, .int .u32 0, .int .u32 0, .int .u32 0, .int .u32 0, .int .u32 0, .int .u32 0, .int .u32 0, .int .u32 0, .int .u32 0, .int .u32 0, .int .u32 0, .int .u32 0, .int .u32 0, .int .u32 0, .int .u32 0, .int .u32 0, .int .u32 0, .int .u32 0, .int .u32 0, .int .u32 0, .int .u32 0, .int .u32 0, .int .u32 0, .int .u32 0, .int .u32 0, .int .u32 0, .int .u32 0, .int .u32 0, .int .u32 0, .int .u32 0, .int .u32 0, .int .u32 0, .int .u32 0, .int .u32 0, .int .u32 0, .int .u32 0, .int .u32 0, .int .u32 0, .int .u32 0, .int .u32 0, .int .u32 0, .int .u32 0, .int .u32 0, .int .u32 0, .int .u32 0, .int .u32 0, .int .u32 0, .int .u32 0] 83))
  go_loopw [7] (fun i wr => ∃ (k : Nat) (cs : Array Value), k ≤ 16 ∧ i = .int .i64 k ∧ cs.size = 64 ∧ (∀ j, j < k → cs[j]? = some (wv (schW l j))) ∧ Blk wr w.heap.size 83 cs ∧ Below w.heap.size w wr) (fun i _ => 16 - (intOf i).toNat)
  case atStart => exact ⟨0, _, by omega, rfl, rfl, fun j h => by omega, HB0.out, Hb0.out⟩
  case round =>
    obtain ⟨k, cs, hk, rfl, hsz, hall, hB, hb⟩ := hrel
    have Hall := Lib.hid hall
    have Hsz := Lib.hid hsz
    have HB := Lib.hid hB
    have Hb := Lib.hid hb
    clear hall hB hb
    by_cases hlt : k < 16
    · have hwd := word_any (l.drop (4 * k)) (64 - 4 * k) (by rw [List.length_drop, HL.out]) (by omega) (some ⟨g0, off + 4 * k, none⟩) (cap - 4 * k) wr ((HV.out.next Hb.out).dropB (by omega))
      rw [wordAt_drop] at hwd
      unfold wv at hwd
      have Hwd := Lib.hid hwd
      have hne : ¬ cap = 4 * k := by omega
      obtain ⟨u, hc0⟩ : ∃ u, wr.cell? ⟨w.heap.size, k, none⟩ = some u := ⟨cs[k], by rw [HB.out.cell]; simp⟩
      have hf0 := HB.out.frozen k
      clear hwd hsz
      go_wp2_with fail
      refine Hwd.out.mono ?_
      rintro e w' ⟨rfl, n, rfl⟩
      go_wp2_with fail
      go_roundw
      case rel =>
        refine ⟨k + 1, cs.setIfInBounds k (wv (wordAt l k)), by omega, by go_num, by simp [Hsz.out], fun j hj => ?_, (HB.out.drewN _).set_ _ _, (blw_drewN Hb.out _).setCell (Nat.le_refl _) _⟩
        rw [Array.getElem?_setIfInBounds]
        by_cases h1 : j = k
        · subst h1; rw [if_pos rfl, if_pos (by have := Hsz.out; omega), schW_lo l j hlt]
        · rw [if_neg (fun e => h1 e.symm)]; exact Hall.out j (by omega)
      case measure => simp [intOf]; omega
    · have hk16 : k = 16 := by omega
      subst hk16
      go_wp2_with fail
      obtain ⟨g, hg⟩ : ∃ g, w.heap.size = g := ⟨_, rfl⟩
      rw [hg] at HB ⊢
      have Hg := Lib.hid hg
      obtain ⟨wx, hwx⟩ : ∃ wx, wr = wx := ⟨_, rfl⟩
      rw [hwx] at HB Hb ⊢
      clear hk hlt hwx hg hsz
      go_loopw [4] (fun i wr => ∃ (k : Nat) (cs : Array Value), 16 ≤ k ∧ k ≤ 64 ∧ i = .int .i64 k ∧ cs.size = 64 ∧ (∀ j, j < k → cs[j]? = some (wv (schW l j))) ∧ Blk wr g 83 cs ∧ Below w.heap.size w wr) (fun i _ => 64 - (intOf i).toNat)
      case atStart => exact ⟨16, cs, by omega, by omega, rfl, Hsz.out, Hall.out, HB.out, Hb.out⟩
      case round =>
        clear HB Hb Hall Hsz
        obtain ⟨k, cs, hk1, hk, rfl, hsz, hall, hB, hb⟩ := hrel
        have Hall := Lib.hid hall
        have Hsz := Lib.hid hsz
        have HB := Lib.hid hB
        have Hb := Lib.hid hb
        clear hall hB hb
        by_cases hlt : k < 64
        · have hc : ∀ j, j < k → wr.cell? ⟨g, j, none⟩ = some (.int .u32 ((schW l j).toNat : Int)) := fun j h => by rw [HB.out.cell, Hall.out j h]; rfl
          have c15 := hc (k - 15) (by omega)
          have c2 := hc (k - 2) (by omega)
          have c16 := hc (k - 16) (by omega)
          have c7 := hc (k - 7) (by omega)
          have Hhi := Lib.hid (schW_hi l k (by omega))
          obtain ⟨x15, h15⟩ : ∃ x, schW l (k - 15) = x := ⟨_, rfl⟩
          obtain ⟨x2, h2⟩ : ∃ x, schW l (k - 2) = x := ⟨_, rfl⟩
          obtain ⟨x16, h16⟩ : ∃ x, schW l (k - 16) = x := ⟨_, rfl⟩
          obtain ⟨x7, h7⟩ : ∃ x, schW l (k - 7) = x := ⟨_, rfl⟩
          rw [h15] at c15 Hhi
          rw [h2] at c2 Hhi
          rw [h16] at c16 Hhi
          rw [h7] at c7 Hhi
          obtain ⟨u, hc0⟩ : ∃ u, wr.cell? ⟨g, k, none⟩ = some u := ⟨cs[k], by rw [HB.out.cell]; simp⟩
          have hf0 := HB.out.frozen k
          clear hc h15 h2 h16 h7 hsz
          have s15 : IntKind.i64.wrap ((k : Int) - 15) = (k : Int) - 15 := IntWalk.i64_in _ (by omega)
          have s2 : IntKind.i64.wrap ((k : Int) - 2) = (k : Int) - 2 := IntWalk.i64_in _ (by omega)
          have i1 : (0 : Int) ≤ (k : Int) - 15 := by omega
          have i2 : (k : Int) - 15 < 64 := by omega
          have i3 : (0 : Int) ≤ (k : Int) - 2 := by omega
          have i4 : (k : Int) - 2 < 64 := by omega
          have i5 : (0 : Int) ≤ (k : Int) := by omega
          have i6 : (k : Int) < 64 := by omega
          have n15 : ((k : Int) - 15).toNat = k - 15 := by omega
          have n2 : ((k : Int) - 2).toNat = k - 2 := by omega
          go_wp2_with fail
          go_quiet (fail)
          clear s15 s2 i1 i2 i3 i4 n15 n2 c15 c2
          have ne16 : (⟨g, k, none⟩ : Addr) ≠ ⟨g, k - 16, none⟩ := fun h => by have := congrArg Addr.off h; simp only [] at this; omega
          have ne7 : (⟨g, k, none⟩ : Addr) ≠ ⟨g, k - 7, none⟩ := fun h => by have := congrArg Addr.off h; simp only [] at this; omega
          have s16 : IntKind.i64.wrap ((k : Int) - 16) = (k : Int) - 16 := IntWalk.i64_in _ (by omega)
          have s7 : IntKind.i64.wrap ((k : Int) - 7) = (k : Int) - 7 := IntWalk.i64_in _ (by omega)
          have i1 : (0 : Int) ≤ (k : Int) - 16 := by omega
          have i2 : (k : Int) - 16 < 64 := by omega
          have i3 : (0 : Int) ≤ (k : Int) - 7 := by omega
          have i4 : (k : Int) - 7 < 64 := by omega
          have i7 : (16 : Int) ≤ (k : Int) := by omega
          have i8 : (7 : Int) ≤ (k : Int) := by omega
          have i9 : (k : Int) < 64 + 16 := by omega
          have i10 : (k : Int) < 64 + 7 := by omega
          have i11 : (k : Int) < 80 := by omega
          have i12 : (k : Int) < 71 := by omega
          have n16 : ((k : Int) - 16).toNat = k - 16 := by omega
          have n7 : ((k : Int) - 7).toNat = k - 7 := by omega
          have R7 := Lib.hid (fun W => rotate_any x15 7 (by omega) (by omega) W)
          have R18 := Lib.hid (fun W => rotate_any x15 18 (by omega) (by omega) W)
          have R17 := Lib.hid (fun W => rotate_any x2 17 (by omega) (by omega) W)
          have R19 := Lib.hid (fun W => rotate_any x2 19 (by omega) (by omega) W)
          unfold wv at R7 R18 R17 R19
          go_wp2_with fail
          have HBq := Lib.hid (HB.out.drewN nq)
          have Hbq := Lib.hid (blw_drewN Hb.out nq)
          have d16 : (wr.drewN nq).cell? ⟨g, k - 16, none⟩ = some (.int .u32 (x16.toNat : Int)) := by simpa using c16
          have d7 : (wr.drewN nq).cell? ⟨g, k - 7, none⟩ = some (.int .u32 (x7.toNat : Int)) := by simpa using c7
          have dk : (wr.drewN nq).cell? ⟨g, k, none⟩ = some u := by simpa using hc0
          have df : (wr.drewN nq).frozen? ⟨g, k, none⟩ = false := by simpa using hf0
          obtain ⟨wq, hwq⟩ : ∃ wq, wr.drewN nq = wq := ⟨_, rfl⟩
          rw [hwq] at HBq Hbq d16 d7 dk df ⊢
          clear c16 c7 hc0 hf0 hwq HB Hb
          go_region_held3 (fun w' => w'.cell? ⟨g, k - 16, none⟩ = some (.int .u32 (x16.toNat : Int)) ∧ w'.cell? ⟨g, k - 7, none⟩ = some (.int .u32 (x7.toNat : Int)))
            (first
              | (with_reducible exact ⟨d16, d7⟩)
              | (simp only [World.cell?_drew]; with_reducible exact ⟨d16, d7⟩)
              | (go_split_ands; exact ⟨(World.cell?_setCell_other _ _ _ _ ne16).trans (by assumption), (World.cell?_setCell_other _ _ _ _ ne7).trans (by assumption)⟩))
            (first
              | (go_at_call 68; with_reducible refine Calls.mono (R7.out _) ?_; rintro e w3 ⟨rfl, rfl⟩)
              | (go_at_call 68; with_reducible refine Calls.mono (R18.out _) ?_; rintro e w3 ⟨rfl, rfl⟩)
              | (go_at_call 68; with_reducible refine Calls.mono (R17.out _) ?_; rintro e w3 ⟨rfl, rfl⟩)
              | (go_at_call 68; with_reducible refine Calls.mono (R19.out _) ?_; rintro e w3 ⟨rfl, rfl⟩))
          clear s16 s7 i1 i2 i3 i4 i7 i8 i9 i10 i11 i12 n16 n7 d16 d7 dk df ne16 ne7
          rw [sch_val, ← Hhi.out]
          go_wp2_with fail
          go_roundw
          case rel =>
            refine ⟨k + 1, cs.setIfInBounds k (wv (schW l k)), by omega, by omega, by go_num, by simp [Hsz.out], fun j hj => ?_, (HBq.out.set_ _ _).drew, (Hbq.out.setCell (by have := Hg.out; simp; omega) _).drew⟩
            rw [Array.getElem?_setIfInBounds]
            by_cases h1 : j = k
            · subst h1; rw [if_pos rfl, if_pos (by have := Hsz.out; omega)]
            · rw [if_neg (fun e => h1 e.symm)]; exact Hall.out j (by omega)
          case measure => simp [intOf]; omega
        · have hk64 : k = 64 := by omega
          subst hk64
          have hcs : cs = (schC l).toArray := by
            apply Array.ext_getElem?
            intro j
            rcases Nat.lt_or_ge j 64 with h | h
            · rw [Hall.out j h, List.getElem?_toArray, schC_at l j h]
            · rw [Array.getElem?_eq_none (by omega), Array.getElem?_eq_none (by rw [List.size_toArray, schC_len]; omega)]
          rw [hcs] at HB
          have Hds := Lib.hid (schC_len l)
          have Hd1 := Lib.hid (schC_one l)
          clear Hall Hsz hsz hcs
          obtain ⟨E, hE⟩ : ∃ E, schC l = E := ⟨_, rfl⟩
          rw [hE] at HB Hds Hd1
          have HE := Lib.hid hE
          clear hE
          go_wp2_with (first
            | (refine wpList_load_row rfl 83 _ rfl g rfl 83 E.toArray (0, 0) _ HB.out Tryd.underlying83 rfl (by rw [List.size_toArray, Hds.out]; exact infoW64) ?_)
            | (refine wpList_store_row rfl 83 _ _ rfl g E.toArray rfl rfl 83 E.toArray HB.out (by rw [List.size_toArray, Hds.out]; exact infoW64) rfl (all_oneCell_toArray Hd1.out) ?_))
          exact bodyPost_ret (v := .agg E.toArray) (results_cell_row rfl _ _ g 83 E.toArray (0, 0) _ rfl (HB.out.setRow E.toArray) Tryd.underlying83 rfl (by rw [List.size_toArray, Hds.out]; exact infoW64)) rfl ⟨by rw [HE.out], setRow_below Hb.out (by have := Hg.out; omega) _⟩
end Go.Proofs.YtiloaheaglcpbaaDoor
