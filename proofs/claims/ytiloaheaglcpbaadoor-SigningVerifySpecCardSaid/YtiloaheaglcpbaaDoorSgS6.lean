/- SHA-256: Sum. -/
import Derived.Test.YtiloaheaglcpbaaDoorSgS5
import Derived.Deep.RegionLaw
namespace Go.Proofs.YtiloaheaglcpbaaDoor
open Go.RowKit

/-- the table of initial words lies there -/
def TabI (w : World) : Prop := w.rangeAt 0 0 s8init.cells
theorem TabI.next {w w' : World} (h : TabI w) (hb : Below w.heap.size w w') : TabI w' := fun j v hv => (hb.cell (p := ⟨0, 0 + j, none⟩) (World.block_lt_of_cell? w _ (h j v hv))).trans (h j v hv)
/-- m bytes from k on -/
theorem Sl.subB {w : World} {l : List UInt8} {n k m : Nat} {g off cap : Nat} (h : Sl w 1 (.slice (some ⟨g, off, none⟩) n cap) n (bc l)) (hk : k + m ≤ n) :
    Sl w 1 (.slice (some ⟨g, off + k, none⟩) m (cap - k)) m (bc ((l.drop k).take m)) := by
  obtain ⟨h1, a', cap', he, hn, hr⟩ := h
  cases he
  rw [bc_len] at h1
  refine ⟨by rw [bc_len, List.length_take, List.length_drop]; omega, _, _, rfl, by omega, ?_⟩
  rcases hr with h0 | ⟨g', off', he, hc⟩
  · exact .inl (by omega)
  · cases he
    refine .inr ⟨g, off + k, rfl, fun j u hu => ?_⟩
    have hj : j < m := by
      rcases Nat.lt_or_ge j m with h | h
      · exact h
      · rw [List.getElem?_eq_none (by rw [bc_len, List.length_take]; omega)] at hu; cases hu
    rw [Nat.add_assoc]
    exact hc (k + j) u (by simpa [bc, List.getElem?_drop, List.getElem?_take_of_lt hj] using hu)
theorem sub_len {l : List UInt8} {n k : Nat} (hn : l.length = n) (hk : k + 64 ≤ n) : ((l.drop k).take 64).length = 64 := by
  rw [List.length_take, List.length_drop]; omega

theorem padL_len (r : List UInt8) (n : Nat) : (padL r n).length = r.length + 9 + padN r.length := by
  simp [padL, lenB]; omega
theorem padL_64 (r : List UInt8) (n : Nat) : (padL r n).length % 64 = 0 := by
  rw [padL_len, padN]; omega
theorem s8B_at (r : S8) (j : Nat) (h : j < 8) : ((s8B r).getD (4 * j) 0 = UInt8.ofNat (r.ws.getD j 0 >>> 24).toNat ∧ (s8B r).getD (4 * j + 1) 0 = UInt8.ofNat (r.ws.getD j 0 >>> 16).toNat) ∧ (s8B r).getD (4 * j + 2) 0 = UInt8.ofNat (r.ws.getD j 0 >>> 8).toNat ∧ (s8B r).getD (4 * j + 3) 0 = UInt8.ofNat (r.ws.getD j 0).toNat := by
  match j, h with
  | 0, _ => exact ⟨⟨rfl, rfl⟩, rfl, rfl⟩
  | 1, _ => exact ⟨⟨rfl, rfl⟩, rfl, rfl⟩
  | 2, _ => exact ⟨⟨rfl, rfl⟩, rfl, rfl⟩
  | 3, _ => exact ⟨⟨rfl, rfl⟩, rfl, rfl⟩
  | 4, _ => exact ⟨⟨rfl, rfl⟩, rfl, rfl⟩
  | 5, _ => exact ⟨⟨rfl, rfl⟩, rfl, rfl⟩
  | 6, _ => exact ⟨⟨rfl, rfl⟩, rfl, rfl⟩
  | 7, _ => exact ⟨⟨rfl, rfl⟩, rfl, rfl⟩
theorem put4_at (cs : Array Value) (o : Nat) (x : W32) (l : List UInt8) (hs : o + 4 ≤ cs.size)
    (hl : (l.getD o 0 = UInt8.ofNat (x >>> 24).toNat ∧ l.getD (o + 1) 0 = UInt8.ofNat (x >>> 16).toNat) ∧ l.getD (o + 2) 0 = UInt8.ofNat (x >>> 8).toNat ∧ l.getD (o + 3) 0 = UInt8.ofNat x.toNat)
    (hall : ∀ q, q < o → cs[q]? = some (.int .u8 ((l.getD q 0).toNat : Int))) : ∀ q, q < o + 4 → (put4 cs o x)[q]? = some (.int .u8 ((l.getD q 0).toNat : Int)) := by
  intro q hq
  have e : ∀ m : Nat, (UInt8.ofNat m).toNat = m % 256 := fun m => UInt8.toNat_ofNat'
  unfold put4
  simp only [Array.getElem?_setIfInBounds, Array.size_setIfInBounds]
  by_cases h3 : q = o + 3
  · subst h3; rw [if_pos rfl, if_pos (by omega), hl.2.2, e]
  rw [if_neg (fun h => h3 h.symm)]
  by_cases h2 : q = o + 2
  · subst h2; rw [if_pos rfl, if_pos (by omega), hl.2.1, e]
  rw [if_neg (fun h => h2 h.symm)]
  by_cases h1 : q = o + 1
  · subst h1; rw [if_pos rfl, if_pos (by omega), hl.1.2, e]
  rw [if_neg (fun h => h1 h.symm)]
  by_cases h0 : q = o
  · subst h0; rw [if_pos rfl, if_pos (by omega), hl.1.1, e]
  rw [if_neg (fun h => h0 h.symm)]
  exact hall q (by omega)
theorem alDg : Tryd.prog.arrayLen 26 = 32 := by kernel_rfl
theorem elDg : Tryd.prog.elem 26 = 5 := by kernel_rfl
theorem slice_dg (W : World) (g j : Nat) (hj : j < 8) : (Instr.sliceAt 26 (.pointer (some ⟨g, 0, none⟩)) (some (.int .i64 (4 * (j : Int)))) none none).run Tryd.prog W = .ok (.slice (some ⟨g, 4 * j, none⟩) (32 - 4 * j) (32 - 4 * j)) W := by
  obtain ⟨iu, hiu, hu0, hu1, hu2⟩ := info_parts infoU8
  rw [run_sliceAt_array_l (P := Tryd.prog) W 26 ⟨g, 0, none⟩ (by rw [alDg, elDg]; exact Tryd.underlying26) .i64 (4 * (j : Int)) (by omega) (by rw [alDg]; omega), elDg, alDg]
  have hn : ¬ 32 = (4 * (j : Int)).toNat := by omega
  have ht : (4 * (j : Int)).toNat = 4 * j := by omega
  have hs : (sizeOf 5).run Tryd.prog W = .ok 1 W := by simp [sizeOf, typeInfo, hiu, hu1]
  rw [hs, Result.andThen_ok]
  unfold slicedAt
  rw [if_neg hn, ht, Nat.mul_one, Addr.add_mid, Nat.zero_add]
/-- eight cells stored one by one -/
def put8 (w : World) (g : Nat) (r : S8) : World :=
  (((((((w.setCell ⟨g, 0, none⟩ (.int .u32 (r.a.toNat : Int))).setCell ⟨g, 1, none⟩ (.int .u32 (r.b.toNat : Int))).setCell ⟨g, 2, none⟩ (.int .u32 (r.c.toNat : Int))).setCell ⟨g, 3, none⟩ (.int .u32 (r.d.toNat : Int))).setCell ⟨g, 4, none⟩ (.int .u32 (r.e.toNat : Int))).setCell ⟨g, 5, none⟩ (.int .u32 (r.f.toNat : Int))).setCell ⟨g, 6, none⟩ (.int .u32 (r.g.toNat : Int))).setCell ⟨g, 7, none⟩ (.int .u32 (r.h.toNat : Int))
theorem set8 {w : World} {g : Nat} {t : TypeId} {s : S8} (r : S8) (h : Blk w g t s.cells.toArray) :
    Blk (put8 w g r) g t r.cells.toArray ∧ (∀ g' t' cs, g' ≠ g → Blk w g' t' cs → Blk (put8 w g r) g' t' cs) ∧ (∀ B w0, B ≤ g → Below B w0 w → Below B w0 (put8 w g r)) ∧ (∀ w0, Upd (fun q => q = g) w0 w → Upd (fun q => q = g) w0 (put8 w g r)) := by
  refine ⟨?_, fun g' t' cs hne hb => ?_, fun B w0 hB hb => ?_, fun w0 hb => ?_⟩
  · have := (((((((h.set_ 0 (.int .u32 (r.a.toNat : Int))).set_ 1 (.int .u32 (r.b.toNat : Int))).set_ 2 (.int .u32 (r.c.toNat : Int))).set_ 3 (.int .u32 (r.d.toNat : Int))).set_ 4 (.int .u32 (r.e.toNat : Int))).set_ 5 (.int .u32 (r.f.toNat : Int))).set_ 6 (.int .u32 (r.g.toNat : Int))).set_ 7 (.int .u32 (r.h.toNat : Int))
    simp only [S8.cells, List.setIfInBounds_toArray, List.set_cons_zero, List.set_cons_succ] at this
    exact this
  · exact (((((((hb.far (p := ⟨g, 0, none⟩) hne _).far (p := ⟨g, 1, none⟩) hne _).far (p := ⟨g, 2, none⟩) hne _).far (p := ⟨g, 3, none⟩) hne _).far (p := ⟨g, 4, none⟩) hne _).far (p := ⟨g, 5, none⟩) hne _).far (p := ⟨g, 6, none⟩) hne _).far (p := ⟨g, 7, none⟩) hne _
  · exact (((((((hb.setCell (p := ⟨g, 0, none⟩) hB _).setCell (p := ⟨g, 1, none⟩) hB _).setCell (p := ⟨g, 2, none⟩) hB _).setCell (p := ⟨g, 3, none⟩) hB _).setCell (p := ⟨g, 4, none⟩) hB _).setCell (p := ⟨g, 5, none⟩) hB _).setCell (p := ⟨g, 6, none⟩) hB _).setCell (p := ⟨g, 7, none⟩) hB _
  · exact (((((((hb.setCell (p := ⟨g, 0, none⟩) (.inl rfl) _).setCell (p := ⟨g, 1, none⟩) (.inl rfl) _).setCell (p := ⟨g, 2, none⟩) (.inl rfl) _).setCell (p := ⟨g, 3, none⟩) (.inl rfl) _).setCell (p := ⟨g, 4, none⟩) (.inl rfl) _).setCell (p := ⟨g, 5, none⟩) (.inl rfl) _).setCell (p := ⟨g, 6, none⟩) (.inl rfl) _).setCell (p := ⟨g, 7, none⟩) (.inl rfl) _
set_option maxRecDepth 100000 in
set_option maxHeartbeats 8000000 in
theorem sum_any (l : List UInt8) (n : Nat) (hn : l.length = n) (hn9 : n ≤ 1000000000000) (v : Value) (w : World) (hv : Sl w 1 v n (bc l)) (hT : TabK w) (hI : TabI w) :
    Calls Tryd.prog 50 #[v] w fun e w' => e = .returned (arrV (sha l)) ∧ Below w.heap.size w w' := by
  obtain ⟨a, cap, rfl⟩ := hv.form
  have hcap : n ≤ cap := by obtain ⟨_, a', c', he, hn, _⟩ := hv; cases he; exact hn
  have HV := Lib.hid hv
  have HN := Lib.hid hn
  have HT := Lib.hid hT
  have HI := Lib.hid (hI.next (below_alloc w (.cells #[.int .u8 0, .int .u8 0, .int .u8 0, .int .u8 0, .int .u8 0, .int .u8 0, .int .u8 0, .int .u8 0, .int .u8 0, .int .u8 0, .int .u8 0, .int .u8 0, .int .u8 0, .int .u8 0, .int .u8 0, .int .u8 0, .int .u8 0, .int .u8 0, .int .u8 0, .int .u8 0, .int .u8 0, .int .u8 0, .int .u8 0, .int .u8 0, .int .u8 0, .int .u8 0, .int .u8 0, .int .u8 0, .int .u8 0, .int .u8 0, .int .u8 0, .int .u8 0] 26)))
  clear hv hn hT hI
  have hD := (Blk.new w 26 #[.int .u8 0, .int .u8 0, .int .u8 0, .int .u8 0, .int .u8 0, .int .u8 0, .int .u8 0, .int .u8 0, .int .u8 0, .int .u8 0, .int .u8 0, .int .u8 0, .int .u8 0, .int .u8 0, .int .u8 0, .int .u8 0, .int .u8 0, .int .u8 0, .int .u8 0, .int .u8 0, .int .u8 0, .int .u8 0, .int .u8 0, .int .u8 0, .int .u8 0, .int .u8 0, .int .u8 0, .int .u8 0, .int .u8 0, .int .u8 0, .int .u8 0, .int .u8 0]).alloc (.cells #[.int .u32 0, .int .u32 0, .int .u32 0, .int .u32 0, .int .u32 0, .int .u32 0, .int .u32 0, .int .u32 0] 77)
  have hS := Blk.new (w.alloc (.cells #[.int .u8 0, .int .u8 0, .int .u8 0, .int .u8 0, .int .u8 0, .int .u8 0, .int .u8 0, .int .u8 0, .int .u8 0, .int .u8 0, .int .u8 0, .int .u8 0, .int .u8 0, .int .u8 0, .int .u8 0, .int .u8 0, .int .u8 0, .int .u8 0, .int .u8 0, .int .u8 0, .int .u8 0, .int .u8 0, .int .u8 0, .int .u8 0, .int .u8 0, .int .u8 0, .int .u8 0, .int .u8 0, .int .u8 0, .int .u8 0, .int .u8 0, .int .u8 0] 26)) 77 #[.int .u32 0, .int .u32 0, .int .u32 0, .int .u32 0, .int .u32 0, .int .u32 0, .int .u32 0, .int .u32 0]
  rw [World.size_alloc] at hS
  have hb0 := (below_alloc w (.cells #[.int .u8 0, .int .u8 0, .int .u8 0, .int .u8 0, .int .u8 0, .int .u8 0, .int .u8 0, .int .u8 0, .int .u8 0, .int .u8 0, .int .u8 0, .int .u8 0, .int .u8 0, .int .u8 0, .int .u8 0, .int .u8 0, .int .u8 0, .int .u8 0, .int .u8 0, .int .u8 0, .int .u8 0, .int .u8 0, .int .u8 0, .int .u8 0, .int .u8 0, .int .u8 0, .int .u8 0, .int .u8 0, .int .u8 0, .int .u8 0, .int .u8 0, .int .u8 0] 26)).alloc (by simp) (.cells #[.int .u32 0, .int .u32 0, .int .u32 0, .int .u32 0, .int .u32 0, .int .u32 0, .int .u32 0, .int .u32 0] 77)
  have hS1 := hS.setRow s8init.cells.toArray
  have hD1 := hD.farRow (g' := w.heap.size + 1) (by omega) s8init.cells.toArray
  have hb1 := setRow_below (g := w.heap.size + 1) hb0 (by omega) s8init.cells.toArray
  obtain ⟨w1, hw1⟩ : ∃ w1, ((w.alloc (.cells #[.int .u8 0, .int .u8 0, .int .u8 0, .int .u8 0, .int .u8 0, .int .u8 0, .int .u8 0, .int .u8 0, .int .u8 0, .int .u8 0, .int .u8 0, .int .u8 0, .int .u8 0, .int .u8 0, .int .u8 0, .int .u8 0, .int .u8 0, .int .u8 0, .int .u8 0, .int .u8 0, .int .u8 0, .int .u8 0, .int .u8 0, .int .u8 0, .int .u8 0, .int .u8 0, .int .u8 0, .int .u8 0, .int .u8 0, .int .u8 0, .int .u8 0, .int .u8 0] 26)).alloc (.cells #[.int .u32 0, .int .u32 0, .int .u32 0, .int .u32 0, .int .u32 0, .int .u32 0, .int .u32 0, .int .u32 0] 77)).setRow (w.heap.size + 1) s8init.cells.toArray = w1 := ⟨_, rfl⟩
  rw [hw1] at hS1 hD1 hb1
  obtain ⟨Z, hZ⟩ : ∃ Z : Array Value, #[.int .u8 0, .int .u8 0, .int .u8 0, .int .u8 0, .int .u8 0, .int .u8 0, .int .u8 0, .int .u8 0, .int .u8 0, .int .u8 0, .int .u8 0, .int .u8 0, .int .u8 0, .int .u8 0, .int .u8 0, .int .u8 0, .int .u8 0, .int .u8 0, .int .u8 0, .int .u8 0, .int .u8 0, .int .u8 0, .int .u8 0, .int .u8 0, .int .u8 0, .int .u8 0, .int .u8 0, .int .u8 0, .int .u8 0, .int .u8 0, .int .u8 0, .int .u8 0] = Z := ⟨_, rfl⟩
  have HZ := Lib.hid (show Z.size = 32 by rw [← hZ]; rfl)
  rw [hZ] at hD1
  have HW1 := Lib.hid hw1
  have HS := Lib.hid hS
  have HS1 := Lib.hid hS1
  have HD1 := Lib.hid hD1
  have HB1 := Lib.hid hb1
  clear hD hS hb0 hS1 hD1 hb1 hw1 hZ
  go_enter Tryd.func50, Tryd.ntmps50
  go_wp2_with (first
    | (refine wpList_load_mid rfl 77 _ rfl 0 0 rfl s8init.cells _ HI.out Tryd.underlying77 rfl infoW8 ?_)
    | (refine wpList_store_row rfl 77 _ _ rfl (w.heap.size + 1) s8init.cells.toArray rfl rfl 77 _ HS.out infoW8 rfl (all_oneCell_toArray (cells_one _)) ?_; rw [HW1.out]))
  obtain ⟨wh, hwh⟩ : ∃ wh : Nat, (n : Int) - (n : Int) % 64 = (wh : Int) := ⟨64 * (n / 64), by omega⟩
  rw [hwh]
  have hq : wh = 64 * (n / 64) := by omega
  have HQ := Lib.hid hq
  have hwn : wh ≤ n := by omega
  have hwn2 : n < wh + 64 := by omega
  have Hwh := Lib.hid hwh
  obtain ⟨g2, hg2⟩ : ∃ g2, w.heap.size = g2 := ⟨_, rfl⟩
  rw [hg2] at HS1 HD1 HB1 ⊢
  have Hg2 := Lib.hid hg2
  clear hq hwh hg2 HS HW1 HI
  go_loopw [5] (fun i wr => ∃ (k at' : Nat), at' = 64 * k ∧ at' ≤ wh ∧ i = .int .i64 at' ∧ Blk wr (g2 + 1) 77 (blocks l s8init k).cells.toArray ∧ Blk wr g2 26 Z ∧ Below g2 w wr) (fun i _ => wh - (intOf i).toNat)
  case atStart => exact ⟨0, 0, rfl, by omega, rfl, HS1.out, HD1.out, HB1.out⟩
  case round =>
    clear HS1 HD1 HB1
    obtain ⟨k, at', hat, hle, rfl, hS, hD, hb⟩ := hrel
    have Hat := Lib.hid hat
    have HS := Lib.hid hS
    have HD := Lib.hid hD
    have Hb := Lib.hid hb
    have Hbl := Lib.hid (show blocks l s8init (k + 1) = comp (blocks l s8init k) ((l.drop (64 * k)).take 64) from rfl)
    have hmul : at' < wh → at' + 64 ≤ wh := by have := HQ.out; omega
    clear hS hD hb
    by_cases hlt : at' < wh
    · have h64 := hmul hlt
      clear hmul hat
      obtain ⟨g, off, rfl, _, _⟩ := HV.out.pos (by omega)
      have hnc : ¬ cap = at' := by omega
      have hsl := ((HV.out.next (by rw [Hg2.out]; exact Hb.out)).subB (k := at') (m := 64) (by omega))
      have hck := fun (r : S8) W (hb : Below g2 w W) => compress_any r ((l.drop at').take 64) (sub_len HN.out (by omega)) g (off + at') (cap - at') W ((HV.out.next (by rw [Hg2.out]; exact hb)).subB (by omega)) (HT.out.next (by rw [Hg2.out]; exact hb))
      rw [← Hat.out] at Hbl
      obtain ⟨blk, hblk⟩ : ∃ blk, (l.drop at').take 64 = blk := ⟨_, rfl⟩
      rw [hblk] at hck Hbl
      obtain ⟨r, hr⟩ : ∃ r, blocks l s8init k = r := ⟨_, rfl⟩
      rw [hr] at HS Hbl
      have hck := hck r
      obtain ⟨r', hr'⟩ : ∃ r', comp r blk = r' := ⟨_, rfl⟩
      rw [hr'] at hck Hbl
      obtain ⟨a, b, c, d, e, f, g', h⟩ := r
      obtain ⟨a1, b1, c1, d1, e1, f1, g1, h1⟩ := r'
      obtain ⟨⟨c0, c1', c2, c3⟩, c4, c5, c6, c7⟩ := rds_tail HS.out
      unfold S8.cells at hck
      unfold wv at c0 c1' c2 c3 c4 c5 c6 c7 hck
      simp only [] at c0 c1' c2 c3 c4 c5 c6 c7 hck
      have HCk := Lib.hid hck
      have i1 : (0 : Int) ≤ (at' : Int) := by omega
      have i2 : (at' : Int) + 64 ≤ (n : Int) := by omega
      have i5 : (0 : Int) ≤ (at' : Int) + 64 := by omega
      have i6 : (at' : Int) ≤ (at' : Int) + 64 := by omega
      have i3 : (at' : Int) + 64 ≤ (cap : Int) := by omega
      have i4 : (at' : Int) < (cap : Int) := by omega
      have s1 : IntKind.i64.wrap ((at' : Int) + 64) = (at' : Int) + 64 := IntWalk.i64_in _ (by omega)
      have n1 : ((at' : Int) + 64).toNat = at' + 64 := by omega
      have n2 : at' + 64 - at' = 64 := by omega
      clear hsl hblk hr hr' hck
      go_wp2_with fail
      go_region_law (go_simp; go_at_call 62; refine (HCk.out _ Hb.out.drew).mono ?_; rintro e w5 ⟨rfl, hb5⟩; have hS5 := HS.out.drew.below hb5 HS.out.drew.lt; obtain ⟨⟨y0, y1, y2, y3⟩, y4, y5, y6, y7⟩ := rds_tail hS5; have f0 := hS5.frozen 0; have f1' := hS5.frozen 1; have f2 := hS5.frozen 2; have f3 := hS5.frozen 3; have f4 := hS5.frozen 4; have f5 := hS5.frozen 5; have f6 := hS5.frozen 6; have f7 := hS5.frozen 7)
      have hp8 := set8 ⟨a1, b1, c1, d1, e1, f1, g1, h1⟩ hS5
      unfold put8 at hp8
      clear y0 y1 y2 y3 y4 y5 y6 y7 f0 f1' f2 f3 f4 f5 f6 f7 s1 n1 n2 c0 c1' c2 c3 c4 c5 c6 c7
      go_wp2_with fail
      go_roundw
      case rel => exact ⟨k + 1, at' + 64, by have := Hat.out; omega, by omega, by go_num, by rw [Hbl.out]; exact hp8.1, hp8.2.1 _ _ _ (by omega) (HD.out.drew.below hb5 HD.out.drew.lt), hp8.2.2.1 _ _ (by omega) (Hb.out.drew.trans (hb5.mono (by have := Hb.out.size; have := Hg2.out; simp; omega)))⟩
      case measure => simp [intOf]; omega
    · have hk : at' = wh := by omega
      subst hk
      have hkq : k = n / 64 := by have := HQ.out; have := Hat.out; omega
      have Hkq := Lib.hid hkq
      have Hp := Lib.hid (fun v' m W (hm : m = n - at') (hs : Sl W 1 v' m (bc (l.drop at'))) => padding_any (l.drop at') m (by rw [List.length_drop, HN.out]; omega) (by omega) v' n hn9 W hs)
      obtain ⟨p, hpe⟩ : ∃ p, padL (l.drop at') n = p := ⟨_, rfl⟩
      rw [hpe] at Hp
      have Hpe := Lib.hid hpe
      obtain ⟨np, hnp⟩ : ∃ np, p.length = np := ⟨_, rfl⟩
      rw [hnp] at Hp
      have Hnp := Lib.hid hnp
      obtain ⟨wx, hwx⟩ : ∃ wx, wr = wx := ⟨_, rfl⟩
      rw [hwx] at HS HD Hb ⊢
      clear hmul hkq hpe hnp hwx hlt hle hat Hbl
      go_upto_region 7 with (fail)
      go_cut [6] (fun v6 wy => ∃ gp cp, v6 = .slice (some ⟨gp, 0, none⟩) np cp ∧ Sl wy 1 (.slice (some ⟨gp, 0, none⟩) np cp) np (bc p) ∧ wx.heap.size ≤ gp ∧ Below wx.heap.size wx wy)
      case first =>
        by_cases hrest : n = at'
        · subst hrest
          have hdr : bc (l.drop n) = [] := by rw [List.drop_eq_nil_of_le (by rw [HN.out]; exact Nat.le_refl _)]; rfl
          have Hp2 := Lib.hid (fun X c => Hp.out (.slice X 0 c) 0 wx (by omega) (by rw [hdr]; exact ⟨rfl, X, c, rfl, Nat.zero_le _, .inl rfl⟩))
          clear hdr
          by_cases hcn : cap = n
          · subst hcn
            go_wp2_with fail
            refine (Hp2.out _ _).mono ?_
            rintro e wy ⟨gp, cp, rfl, hs6, hgp, hb6⟩
            go_wp2_with fail
            go_meet
            exact ⟨gp, cp, rfl, hs6, hgp, hb6⟩
          · go_wp2_with fail
            refine (Hp2.out _ _).mono ?_
            rintro e wy ⟨gp, cp, rfl, hs6, hgp, hb6⟩
            go_wp2_with fail
            go_meet
            exact ⟨gp, cp, rfl, hs6, hgp, hb6⟩
        · obtain ⟨g, off, rfl, _, _⟩ := HV.out.pos (by omega)
          have hnc : ¬ cap = at' := by omega
          have hsl := ((HV.out.next (by rw [Hg2.out]; exact Hb.out)).dropB (k := at') (by omega))
          have Hp2 := Lib.hid (Hp.out _ (n - at') wx rfl hsl)
          clear hsl
          go_wp2_with fail
          refine Hp2.out.mono ?_
          rintro e wy ⟨gp, cp, rfl, hs6, hgp, hb6⟩
          go_wp2_with fail
          go_meet
          exact ⟨gp, cp, rfl, hs6, hgp, hb6⟩
      case rest =>
        obtain ⟨gp, cp, rfl, hs6, hgp, hb6⟩ := hcut
        have hgp2 : ¬ gp = g2 + 1 := by have := HS.out.lt; omega
        have HP6 := Lib.hid hs6
        have HS6 := Lib.hid (HS.out.below hb6 HS.out.lt)
        have HD6 := Lib.hid (HD.out.below hb6 HD.out.lt)
        have Hb6 := Lib.hid (Hb.out.trans (hb6.mono (by have := Hb.out.size; have := Hg2.out; omega)))
        obtain ⟨r0, hr0⟩ : ∃ r0, blocks l s8init k = r0 := ⟨_, rfl⟩
        rw [hr0] at HS6
        have Hr0 := Lib.hid hr0
        have hp64 := Hnp.out
        have hpl := padL_len (l.drop at') n
        rw [Hpe.out, hp64] at hpl
        have hcp : np ≤ cp := by obtain ⟨_, a', c', he, hn, _⟩ := HP6.out; cases he; exact hn
        have hpn : padN (l.drop at').length < 64 := Nat.mod_lt _ (by omega)
        have hnp9 : np ≤ 200 := by have := List.length_drop (l := l) (i := at'); have := HN.out; omega
        obtain ⟨n2, hn2⟩ : ∃ n2, at' = n2 := ⟨_, rfl⟩
        rw [hn2] at Hpe
        have Hs1 := Lib.hid (show n2 = 64 * (n / 64) by rw [← hn2]; exact HQ.out)
        have Hs2 := Lib.hid (show blocks l s8init (n / 64) = r0 by rw [← Hkq.out]; exact hr0)
        clear hs6 hb6 HS HD Hb Hp hr0 hp64 hpl hpn
        go_wp2_with fail
        go_loopw [7] (fun i wr => ∃ (k at' : Nat), Hid (at' = 64 * k) ∧ at' ≤ np ∧ i = .int .i64 at' ∧ Blk wr (g2 + 1) 77 (blocks p r0 k).cells.toArray ∧ Blk wr g2 26 Z ∧ Below g2 w wr ∧ Upd (fun q => q = g2 + 1) wc wr) (fun i _ => np - (intOf i).toNat)
        case atStart => exact ⟨0, 0, Lib.hid rfl, by omega, rfl, HS6.out, HD6.out, Hb6.out, Upd.refl _ _⟩
        case round =>
          clear HS6 HD6 Hb6
          obtain ⟨k, at', Hat, hle, rfl, hS, hD, hb, hbc⟩ := hrel
          have hat := Hat.out
          have HS := Lib.hid hS
          have HD := Lib.hid hD
          have Hb := Lib.hid hb
          have Hbc := Lib.hid hbc
          have Hbl := Lib.hid (show blocks p r0 (k + 1) = comp (blocks p r0 k) ((p.drop (64 * k)).take 64) from rfl)
          have hmul : at' < np → at' + 64 ≤ np := by have := padL_64 (l.drop n2) n; rw [Hpe.out, Hnp.out] at this; omega
          clear hS hD hb hbc
          by_cases hlt : at' < np
          · have h64 := hmul hlt
            have hnc : ¬ cp = at' := by omega
            have hck := fun (r : S8) W (hb : Upd (fun q => q = g2 + 1) wc W) (hb2 : Below g2 w W) => compress_any r ((p.drop at').take 64) (sub_len Hnp.out (by omega)) gp at' (cp - at') W (by have := (Sl.upd hb HP6.out (fun k hk hS => by simp [Value.ownBlock] at hk; omega)).subB (k := at') (m := 64) (by omega); rwa [Nat.zero_add] at this) (HT.out.next (by rw [Hg2.out]; exact hb2))
            clear hmul hat
            rw [← Hat.out] at Hbl
            obtain ⟨blk, hblk⟩ : ∃ blk, (p.drop at').take 64 = blk := ⟨_, rfl⟩
            rw [hblk] at hck Hbl
            obtain ⟨r, hr⟩ : ∃ r, blocks p r0 k = r := ⟨_, rfl⟩
            rw [hr] at HS Hbl
            have hck := hck r
            obtain ⟨r', hr'⟩ : ∃ r', comp r blk = r' := ⟨_, rfl⟩
            rw [hr'] at hck Hbl
            obtain ⟨a, b, c, d, e, f, g', h⟩ := r
            obtain ⟨a1, b1, c1, d1, e1, f1, g1, h1⟩ := r'
            obtain ⟨⟨c0, c1', c2, c3⟩, c4, c5, c6, c7⟩ := rds_tail HS.out
            unfold S8.cells at hck
            unfold wv at c0 c1' c2 c3 c4 c5 c6 c7 hck
            simp only [] at c0 c1' c2 c3 c4 c5 c6 c7 hck
            have HCk := Lib.hid hck
            have i1 : (0 : Int) ≤ (at' : Int) := by omega
            have i2 : (at' : Int) + 64 ≤ (np : Int) := by omega
            have i5 : (0 : Int) ≤ (at' : Int) + 64 := by omega
            have i6 : (at' : Int) ≤ (at' : Int) + 64 := by omega
            have i3 : (at' : Int) + 64 ≤ (cp : Int) := by omega
            have i4 : (at' : Int) < (cp : Int) := by omega
            have s1 : IntKind.i64.wrap ((at' : Int) + 64) = (at' : Int) + 64 := IntWalk.i64_in _ (by omega)
            have n1 : ((at' : Int) + 64).toNat = at' + 64 := by omega
            have n3 : at' + 64 - at' = 64 := by omega
            clear hblk hr hr' hck
            go_wp2_with fail
            go_region_law (go_simp; go_at_call 62; refine (HCk.out _ Hbc.out.drew Hb.out.drew).mono ?_; rintro e w5 ⟨rfl, hb5⟩; have hS5 := HS.out.drew.below hb5 HS.out.drew.lt; obtain ⟨⟨y0, y1, y2, y3⟩, y4, y5, y6, y7⟩ := rds_tail hS5; have f0 := hS5.frozen 0; have f1' := hS5.frozen 1; have f2 := hS5.frozen 2; have f3 := hS5.frozen 3; have f4 := hS5.frozen 4; have f5 := hS5.frozen 5; have f6 := hS5.frozen 6; have f7 := hS5.frozen 7)
            have hp8 := set8 ⟨a1, b1, c1, d1, e1, f1, g1, h1⟩ hS5
            unfold put8 at hp8
            clear y0 y1 y2 y3 y4 y5 y6 y7 f0 f1' f2 f3 f4 f5 f6 f7 s1 n1 n3 c0 c1' c2 c3 c4 c5 c6 c7
            go_wp2_with fail
            go_roundw
            case rel => exact ⟨k + 1, at' + 64, Lib.hid (by have := Hat.out; omega), by omega, by go_num, by rw [Hbl.out]; exact hp8.1, hp8.2.1 _ _ _ (by omega) (HD.out.drew.below hb5 HD.out.drew.lt), hp8.2.2.1 _ _ (by omega) (Hb.out.drew.trans (hb5.mono (by have := Hb.out.size; have := Hg2.out; simp; omega))), hp8.2.2.2 _ (Hbc.out.drew.trans ((Upd.of_below hb5).mono (fun k hk h => by omega)))⟩
            case measure => simp [intOf]; omega
          · have hk : at' = np := by omega
            subst hk
            have hkq : k = at' / 64 := by have := Hat.out; omega
            obtain ⟨r, hr⟩ : ∃ r, blocks p r0 k = r := ⟨_, rfl⟩
            rw [hr] at HS
            have Hr := Lib.hid (show blocks p r0 (at' / 64) = r by rw [← hkq]; exact hr)
            have hc8 := r.cells_at
            have HC8 := Lib.hid hc8
            have hix := fun W j (h : j < 8) => run_index_arr (P := Tryd.prog) W 77 76 8 r.cells.toArray j _ _ Tryd.underlying77 Tryd.underlying76 rfl (by kernel_rfl) h (by rw [List.getElem?_toArray]; exact hc8 j h)
            obtain ⟨C, hC⟩ : ∃ C, r.cells = C := ⟨_, rfl⟩
            rw [hC] at HS hix
            have HIx := Lib.hid hix
            have HCl := Lib.hid (show C.length = 8 by rw [← hC]; rfl)
            obtain ⟨wx, hwx⟩ : ∃ wx, wr = wx := ⟨_, rfl⟩
            rw [hwx] at HS HD Hb ⊢
            clear hmul hkq hr hc8 hix hC hwx Hbl hlt hle hat Hbc HC8
            go_wp2_with (refine wpList_load_row rfl 77 _ rfl (g2 + 1) rfl 77 C.toArray (0, 0) _ HS.out Tryd.underlying77 rfl (by rw [List.size_toArray, HCl.out]; exact infoW8) ?_)
            go_loopw [49] (fun i wr => ∃ (j : Nat) (cs : Array Value), j ≤ 8 ∧ i = .int .i64 j ∧ cs.size = 32 ∧ (∀ q, q < 4 * j → cs[q]? = some (.int .u8 (((s8B r).getD q 0).toNat : Int))) ∧ Blk wr g2 26 cs ∧ Below g2 w wr) (fun i _ => 8 - (intOf i).toNat)
            case atStart => exact ⟨0, Z, by omega, rfl, HZ.out, fun q h => by omega, HD.out, Hb.out⟩
            case round =>
              clear HS HD Hb
              obtain ⟨j, cs, hj, rfl, hsz, hall, hD, hb⟩ := hrel
              have Hall := Lib.hid hall
              have Hsz := Lib.hid hsz
              have HD := Lib.hid hD
              have Hb := Lib.hid hb
              clear hall hD hb
              by_cases hlt : j < 8
              · have hix := HIx.out wr j hlt
                have hsa := slice_dg wr g2 j hlt
                have hpw := putWord_any (r.ws.getD j 0) g2 (4 * j) (32 - 4 * j) (32 - 4 * j) 26 cs (by omega) (by omega) wr HD.out
                have Hat := Lib.hid (s8B_at r j hlt)
                unfold wv at hix hpw
                obtain ⟨x, hx⟩ : ∃ x, r.ws.getD j 0 = x := ⟨_, rfl⟩
                rw [hx] at hix hpw Hat
                have HPw := Lib.hid hpw
                clear hpw hx hsz
                go_wp2_with fail
                refine HPw.out.mono ?_
                rintro e w5 ⟨⟨v, rfl⟩, hB5, hU5⟩
                clear hix hsa
                go_wp2_with fail
                go_roundw
                case rel =>
                  refine ⟨j + 1, put4 cs (4 * j) x, by omega, by go_num, by simp [put4, Hsz.out], fun q hq => ?_, hB5, Hb.out.trans (hU5.below (by have := Hb.out.size; have := Hg2.out; omega) (fun k hk e => by omega))⟩
                  exact put4_at cs (4 * j) x (s8B r) (by have := Hsz.out; omega) Hat.out Hall.out q (by omega)
                case measure => simp [intOf]; omega
              · have hj8 : j = 8 := by omega
                subst hj8
                have hcs : cs = (bc (s8B r)).toArray := by
                  apply Array.ext_getElem?
                  intro q
                  rcases Nat.lt_or_ge q 32 with h | h
                  · rw [Hall.out q (by omega), List.getElem?_toArray, bt_cell (d := s8B r) (k := q) (by rw [s8B_len]; exact h)]; rfl
                  · rw [Array.getElem?_eq_none (by omega), Array.getElem?_eq_none (by show (bc (s8B r)).length ≤ q; rw [bc_len, s8B_len]; exact h)]
                have hsha : sha l = s8B r := by
                  show s8B (blocks (padL (l.drop (64 * (l.length / 64))) l.length) (blocks l s8init (l.length / 64)) ((padL (l.drop (64 * (l.length / 64))) l.length).length / 64)) = _
                  rw [HN.out, ← Hs1.out, Hpe.out, Hnp.out, Hs2.out, Hr.out]
                rw [hcs, ← hsha] at HD
                have HDs := Lib.hid (show (bc (sha l)).length = 32 by rw [bc_len, sha_len])
                have HD1 := Lib.hid (bc_one (sha l))
                clear Hall Hsz hsz hcs hsha
                obtain ⟨D, hD⟩ : ∃ D, bc (sha l) = D := ⟨_, rfl⟩
                rw [hD] at HD HDs HD1
                have HDe := Lib.hid hD
                clear hD
                go_wp2_with (first
                  | (refine wpList_load_row rfl 26 _ rfl g2 rfl 26 D.toArray (0, 0) _ HD.out Tryd.underlying26 rfl (by rw [List.size_toArray, HDs.out]; exact infoDg) ?_)
                  | (refine wpList_store_row rfl 26 _ _ rfl g2 D.toArray rfl rfl 26 _ HD.out (by rw [List.size_toArray, HDs.out]; exact infoDg) rfl (all_oneCell_toArray HD1.out) ?_))
                refine bodyPost_ret (v := .agg D.toArray) (results_cell_row rfl _ _ g2 26 D.toArray (0, 0) _ rfl (HD.out.setRow D.toArray) Tryd.underlying26 rfl (by rw [List.size_toArray, HDs.out]; exact infoDg)) rfl ?_
                exact ⟨by unfold arrV; rw [HDe.out], by rw [Hg2.out]; exact setRow_below Hb.out (Nat.le_refl _) _⟩
end Go.Proofs.YtiloaheaglcpbaaDoor
