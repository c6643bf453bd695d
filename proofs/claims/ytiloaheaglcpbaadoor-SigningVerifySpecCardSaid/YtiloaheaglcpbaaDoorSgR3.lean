/- SHA-256 in the reference: the state after a block. -/
import Derived.Test.YtiloaheaglcpbaaDoorSgR2
namespace Go.Proofs.YtiloaheaglcpbaaDoor
open Go.RowKit

def z64 : Array Value := #[.int .u32 0, .int .u32 0, .int .u32 0, .int .u32 0, .int .u32 0, .int .u32 0, .int .u32 0, .int .u32 0, .int .u32 0, .int .u32 0, .int .u32 0, .int .u32 0, .int .u32 0, .int .u32 0, .int .u32 0, .int .u32 0, .int .u32 0, .int .u32 0, .int .u32 0, .int .u32 0, .int .u32 0, .int .u32 0, .int .u32 0, .int .u32 0, .int .u32 0, .int .u32 0, .int .u32 0, .int .u32 0, .int .u32 0, .int .u32 0, .int .u32 0, .int .u32 0, .int .u32 0, .int .u32 0, .int .u32 0, .int .u32 0, .int .u32 0, .int .u32 0, .int .u32 0, .int .u32 0, .int .u32 0, .int .u32 0, .int .u32 0, .int .u32 0, .int .u32 0, .int .u32 0, .int .u32 0, .int .u32 0, .int .u32 0, .int .u32 0, .int .u32 0, .int .u32 0, .int .u32 0, .int .u32 0, .int .u32 0, .int .u32 0, .int .u32 0, .int .u32 0, .int .u32 0, .int .u32 0, .int .u32 0, .int .u32 0, .int .u32 0, .int .u32 0]
theorem z64_size : z64.size = 64 := by kernel_rfl
theorem z64_one : z64.all (·.oneCell') = true := by kernel_rfl
theorem notr_w (x : W32) : bits BinOp.xor IntKind.u32 (x.toNat : Int) 4294967295 = ((~~~x).toNat : Int) := by
  have h : (4294967295 : Int) = ((BitVec.allOnes 32).toNat : Int) := by decide +kernel
  rw [h, xor_w, BitVec.xor_allOnes]
theorem t1r_val (a b c d e f g h k x : W32) : ((((h.toNat : Int) + bits BinOp.xor IntKind.u32 (bits BinOp.xor IntKind.u32 ((rot e 6).toNat : Int) ((rot e 11).toNat : Int)) ((rot e 25).toNat : Int) +
      bits BinOp.xor IntKind.u32 (bits BinOp.and IntKind.u32 (e.toNat : Int) (f.toNat : Int)) (bits BinOp.and IntKind.u32 (bits BinOp.xor IntKind.u32 (e.toNat : Int) 4294967295) (g.toNat : Int)) + (k.toNat : Int)) % 4294967296 + (x.toNat : Int)) % 4294967296) = ((t1 ⟨a, b, c, d, e, f, g, h⟩ k x).toNat : Int) := by
  rw [notr_w]
  simp only [xor_w, and_w, t1, BitVec.toNat_add]
  omega
theorem word_val {x0 x1 x2 x3 : Nat} (b0 : x0 < 256) (b1 : x1 < 256) (b2 : x2 < 256) (b3 : x3 < 256) : bits BinOp.or IntKind.u32 (bits BinOp.or IntKind.u32 (bits BinOp.or IntKind.u32 (IntKind.u32.wrap (IntKind.u32.wrap (x0 : Int) * 16777216)) (IntKind.u32.wrap (IntKind.u32.wrap (x1 : Int) * 65536))) (IntKind.u32.wrap (IntKind.u32.wrap (x2 : Int) * 256))) (IntKind.u32.wrap (x3 : Int)) =
    ((BitVec.ofNat 32 x0 <<< 24 ||| BitVec.ofNat 32 x1 <<< 16 ||| BitVec.ofNat 32 x2 <<< 8 ||| BitVec.ofNat 32 x3).toNat : Int) := by
  have e0 : IntKind.u32.wrap (IntKind.u32.wrap (x0 : Int) * 16777216) = (x0 : Int) * 16777216 := by rw [wrap_u32, wrap_u32]; omega
  have e1 : IntKind.u32.wrap (IntKind.u32.wrap (x1 : Int) * 65536) = (x1 : Int) * 65536 := by rw [wrap_u32, wrap_u32]; omega
  have e2 : IntKind.u32.wrap (IntKind.u32.wrap (x2 : Int) * 256) = (x2 : Int) * 256 := by rw [wrap_u32, wrap_u32]; omega
  have e3 : IntKind.u32.wrap (x3 : Int) = (x3 : Int) := by rw [wrap_u32]; omega
  rw [e0, e1, e2, e3, (byte_w b0).1, (byte_w b1).2.1, (byte_w b2).2.2.1, (byte_w b3).2.2.2, or_w, or_w, or_w]
set_option maxRecDepth 100000 in
set_option maxHeartbeats 4000000 in
theorem block_any (s : S8) (l : List UInt8) (hl : l.length = 64) (g0 off cap : Nat) (w : World) (hv : Sl w 1 (.slice (some ⟨g0, off, none⟩) 64 cap) 64 (bc l)) :
    Calls Tryd.prog 72 #[.agg s.cells.toArray, .slice (some ⟨g0, off, none⟩) 64 cap] w fun e w' => e = .returned (.agg (comp s l).cells.toArray) ∧ Below w.heap.size w w' := by
  have hg0 : g0 < w.heap.size := by
    obtain ⟨gq, oq, he, _, hat⟩ := hv.pos (by omega)
    cases he
    exact World.block_lt_of_cell? w _ (hat 0 _ (bt_cell (d := l) (k := 0) (by omega)))
  have HV := Lib.hid (fun W (hb : Below w.heap.size w W) => hv.next hb)
  have HL := Lib.hid hl
  obtain ⟨C, hC⟩ : ∃ C, s.cells = C := ⟨_, rfl⟩
  have HC := Lib.hid hC
  rw [hC]
  have HCs := Lib.hid (show C.length = 8 by rw [← hC]; rfl)
  have HC1 := Lib.hid (show ∀ v ∈ C, v.oneCell' = true by rw [← hC]; exact cells_one s)
  have h2 := (Blk.new w 77 C.toArray).alloc (.cells #[.int .u32 0, .int .u32 0, .int .u32 0, .int .u32 0, .int .u32 0, .int .u32 0, .int .u32 0, .int .u32 0] 77)
  have h4 := Blk.new (w.alloc (.cells C.toArray 77)) 77 #[.int .u32 0, .int .u32 0, .int .u32 0, .int .u32 0, .int .u32 0, .int .u32 0, .int .u32 0, .int .u32 0]
  rw [World.size_alloc] at h4
  have hb := (below_alloc w (.cells C.toArray 77)).alloc (by simp) (.cells #[.int .u32 0, .int .u32 0, .int .u32 0, .int .u32 0, .int .u32 0, .int .u32 0, .int .u32 0, .int .u32 0] 77)
  obtain ⟨w0, hw0⟩ : ∃ w0, (w.alloc (.cells C.toArray 77)).alloc (.cells #[.int .u32 0, .int .u32 0, .int .u32 0, .int .u32 0, .int .u32 0, .int .u32 0, .int .u32 0, .int .u32 0] 77) = w0 := ⟨_, rfl⟩
  rw [hw0] at h2 h4 hb
  have HW0 := Lib.hid hw0
  have l2 := h2.lt
  have l4 := h4.lt
  have hsz : w0.heap.size = w.heap.size + 1 + 1 := by rw [← hw0]; simp
  have h5 := Blk.new w0 83 #[.int .u32 0, .int .u32 0, .int .u32 0, .int .u32 0, .int .u32 0, .int .u32 0, .int .u32 0, .int .u32 0, .int .u32 0, .int .u32 0, .int .u32 0, .int .u32 0, .int .u32 0, .int .u32 0, .int .u32 0, .int .u32 0, .int .u32 0, .int .u32 0, .int .u32 0, .int .u32 0, .int .u32 0, .int .u32 0, .int .u32 0, .int .u32 0, .int .u32 0, .int .u32 0, .int .u32 0, .int .u32 0, .int .u32 0, .int .u32 0, .int .u32 0, .int .u32 0, .int .u32 0, .int .u32 0, .int .u32 0, .int .u32 0, .int .u32 0, .int .u32 0, .int .u32 0, .int .u32 0, .int .u32 0, .int .u32 0, .int .u32 0, .int .u32 0, .int .u32 0, .int .u32 0, .int .u32 0, .int .u32 0, .int .u32 0, .int .u32 0, .int .u32 0, .int .u32 0, .int .u32 0, .int .u32 0, .int .u32 0, .int .u32 0, .int .u32 0, .int .u32 0, .int .u32 0, .int .u32 0, .int .u32 0, .int .u32 0, .int .u32 0, .int .u32 0]
  rw [hsz] at h5
  have h5r := h5.setRow z64
  have h2a := (h2.alloc (.cells #[.int .u32 0, .int .u32 0, .int .u32 0, .int .u32 0, .int .u32 0, .int .u32 0, .int .u32 0, .int .u32 0, .int .u32 0, .int .u32 0, .int .u32 0, .int .u32 0, .int .u32 0, .int .u32 0, .int .u32 0, .int .u32 0, .int .u32 0, .int .u32 0, .int .u32 0, .int .u32 0, .int .u32 0, .int .u32 0, .int .u32 0, .int .u32 0, .int .u32 0, .int .u32 0, .int .u32 0, .int .u32 0, .int .u32 0, .int .u32 0, .int .u32 0, .int .u32 0, .int .u32 0, .int .u32 0, .int .u32 0, .int .u32 0, .int .u32 0, .int .u32 0, .int .u32 0, .int .u32 0, .int .u32 0, .int .u32 0, .int .u32 0, .int .u32 0, .int .u32 0, .int .u32 0, .int .u32 0, .int .u32 0, .int .u32 0, .int .u32 0, .int .u32 0, .int .u32 0, .int .u32 0, .int .u32 0, .int .u32 0, .int .u32 0, .int .u32 0, .int .u32 0, .int .u32 0, .int .u32 0, .int .u32 0, .int .u32 0, .int .u32 0, .int .u32 0] 83)).farRow (show w.heap.size ≠ w.heap.size + 1 + 1 by omega) z64
  have h4a := (h4.alloc (.cells #[.int .u32 0, .int .u32 0, .int .u32 0, .int .u32 0, .int .u32 0, .int .u32 0, .int .u32 0, .int .u32 0, .int .u32 0, .int .u32 0, .int .u32 0, .int .u32 0, .int .u32 0, .int .u32 0, .int .u32 0, .int .u32 0, .int .u32 0, .int .u32 0, .int .u32 0, .int .u32 0, .int .u32 0, .int .u32 0, .int .u32 0, .int .u32 0, .int .u32 0, .int .u32 0, .int .u32 0, .int .u32 0, .int .u32 0, .int .u32 0, .int .u32 0, .int .u32 0, .int .u32 0, .int .u32 0, .int .u32 0, .int .u32 0, .int .u32 0, .int .u32 0, .int .u32 0, .int .u32 0, .int .u32 0, .int .u32 0, .int .u32 0, .int .u32 0, .int .u32 0, .int .u32 0, .int .u32 0, .int .u32 0, .int .u32 0, .int .u32 0, .int .u32 0, .int .u32 0, .int .u32 0, .int .u32 0, .int .u32 0, .int .u32 0, .int .u32 0, .int .u32 0, .int .u32 0, .int .u32 0, .int .u32 0, .int .u32 0, .int .u32 0, .int .u32 0] 83)).farRow (show w.heap.size + 1 ≠ w.heap.size + 1 + 1 by omega) z64
  have hba := setRow_below (g := w.heap.size + 1 + 1) (hb.alloc hb.size (.cells #[.int .u32 0, .int .u32 0, .int .u32 0, .int .u32 0, .int .u32 0, .int .u32 0, .int .u32 0, .int .u32 0, .int .u32 0, .int .u32 0, .int .u32 0, .int .u32 0, .int .u32 0, .int .u32 0, .int .u32 0, .int .u32 0, .int .u32 0, .int .u32 0, .int .u32 0, .int .u32 0, .int .u32 0, .int .u32 0, .int .u32 0, .int .u32 0, .int .u32 0, .int .u32 0, .int .u32 0, .int .u32 0, .int .u32 0, .int .u32 0, .int .u32 0, .int .u32 0, .int .u32 0, .int .u32 0, .int .u32 0, .int .u32 0, .int .u32 0, .int .u32 0, .int .u32 0, .int .u32 0, .int .u32 0, .int .u32 0, .int .u32 0, .int .u32 0, .int .u32 0, .int .u32 0, .int .u32 0, .int .u32 0, .int .u32 0, .int .u32 0, .int .u32 0, .int .u32 0, .int .u32 0, .int .u32 0, .int .u32 0, .int .u32 0, .int .u32 0, .int .u32 0, .int .u32 0, .int .u32 0, .int .u32 0, .int .u32 0, .int .u32 0, .int .u32 0] 83)) (by omega) z64
  obtain ⟨w1, hw1⟩ : ∃ w1, (w0.alloc (.cells #[.int .u32 0, .int .u32 0, .int .u32 0, .int .u32 0, .int .u32 0, .int .u32 0, .int .u32 0, .int .u32 0, .int .u32 0, .int .u32 0, .int .u32 0, .int .u32 0, .int .u32 0, .int .u32 0, .int .u32 0, .int .u32 0, .int .u32 0, .int .u32 0, .int .u32 0, .int .u32 0, .int .u32 0, .int .u32 0, .int .u32 0, .int .u32 0, .int .u32 0, .int .u32 0, .int .u32 0, .int .u32 0, .int .u32 0, .int .u32 0, .int .u32 0, .int .u32 0, .int .u32 0, .int .u32 0, .int .u32 0, .int .u32 0, .int .u32 0, .int .u32 0, .int .u32 0, .int .u32 0, .int .u32 0, .int .u32 0, .int .u32 0, .int .u32 0, .int .u32 0, .int .u32 0, .int .u32 0, .int .u32 0, .int .u32 0, .int .u32 0, .int .u32 0, .int .u32 0, .int .u32 0, .int .u32 0, .int .u32 0, .int .u32 0, .int .u32 0, .int .u32 0, .int .u32 0, .int .u32 0, .int .u32 0, .int .u32 0, .int .u32 0, .int .u32 0] 83)).setRow (w.heap.size + 1 + 1) z64 = w1 := ⟨_, rfl⟩
  rw [hw1] at h5r h2a h4a hba
  have HW1 := Lib.hid hw1
  rw [← hw0] at h5
  have H5n := Lib.hid h5
  have H5 := Lib.hid h5r
  have H2 := Lib.hid h2a
  have H4 := Lib.hid h4a
  have Hb := Lib.hid hba
  clear hv hl hC h2 h4 hb hw0 h5 h5r h2a h4a hba hw1
  go_enter Tryd.func72, Tryd.ntmps72
  go_wp2_with (first
    | (refine wpList_store_row rfl 83 _ _ rfl (w.heap.size + 1 + 1) z64 rfl rfl 83 _ H5n.out (by rw [z64_size]; exact infoW64) (show 64 = z64.size from z64_size.symm) z64_one ?_
       rw [HW0.out, HW1.out]))
  obtain ⟨g5, hg5⟩ : ∃ g5, w.heap.size + 1 + 1 = g5 := ⟨_, rfl⟩
  obtain ⟨g2, hg2⟩ : ∃ g2, w.heap.size = g2 := ⟨_, rfl⟩
  have hgg : g5 = g2 + 2 := by omega
  obtain ⟨Z, hZ⟩ : ∃ Z : Array Value, #[.int .u32 0, .int .u32 0, .int .u32 0, .int .u32 0, .int .u32 0, .int .u32 0, .int .u32 0, .int .u32 0] = Z := ⟨_, rfl⟩
  have HZ := Lib.hid (show Z.size = 8 by rw [← hZ]; rfl)
  rw [hg5] at H5 ⊢
  rw [hg2] at H2 H4 Hb hg0 ⊢
  rw [hZ] at H4
  have Hg2 := Lib.hid hg2
  have Hgg := Lib.hid hgg
  clear hg5 hg2 hgg H5n HW0 HW1 l2 l4 hsz hZ
  go_loopw [6] (fun i wr => ∃ (k : Nat) (cs : Array Value), k ≤ 16 ∧ i = .int .i64 k ∧ cs.size = 64 ∧ (∀ j, j < k → cs[j]? = some (wv (schW l j))) ∧ Blk wr g5 83 cs ∧ Blk wr g2 77 C.toArray ∧ Blk wr (g2 + 1) 77 Z ∧ Below g2 w wr) (fun i _ => 16 - (intOf i).toNat)
  case atStart => exact ⟨0, z64, by omega, rfl, z64_size, fun j h => by omega, H5.out, H2.out, H4.out, Hb.out⟩
  case round =>
    clear H5 H2 H4 Hb
    obtain ⟨k, cs, hk, rfl, hsz, hall, hB, h2, h4, hb⟩ := hrel
    have Hall := Lib.hid hall
    have Hsz := Lib.hid hsz
    have HB := Lib.hid hB
    have H2 := Lib.hid h2
    have H4 := Lib.hid h4
    have Hb := Lib.hid hb
    clear hall hB h2 h4 hb
    by_cases hlt : k < 16
    · obtain ⟨u, hc0⟩ : ∃ u, wr.cell? ⟨g5, k, none⟩ = some u := ⟨cs[k], by rw [HB.out.cell]; simp⟩
      have hf0 := HB.out.frozen k
      have hsl := HV.out wr (by rw [Hg2.out]; exact Hb.out)
      obtain ⟨gq, oq, he, _, hat⟩ := hsl.pos (by omega)
      cases he
      have a0 := hat (4 * k) _ (bt_cell (d := l) (k := 4 * k) (by rw [HL.out]; omega))
      have a1 := hat (4 * k + 1) _ (bt_cell (d := l) (k := 4 * k + 1) (by rw [HL.out]; omega))
      have a2 := hat (4 * k + 2) _ (bt_cell (d := l) (k := 4 * k + 2) (by rw [HL.out]; omega))
      have a3 := hat (4 * k + 3) _ (bt_cell (d := l) (k := 4 * k + 3) (by rw [HL.out]; omega))
      have b0 := bt_lt l (4 * k)
      have b1 := bt_lt l (4 * k + 1)
      have b2 := bt_lt l (4 * k + 2)
      have b3 := bt_lt l (4 * k + 3)
      have Hlo := Lib.hid (schW_lo l k hlt)
      have Hw := Lib.hid (show wordAt l k = BitVec.ofNat 32 (bt l (4 * k)) <<< 24 ||| BitVec.ofNat 32 (bt l (4 * k + 1)) <<< 16 ||| BitVec.ofNat 32 (bt l (4 * k + 2)) <<< 8 ||| BitVec.ofNat 32 (bt l (4 * k + 3)) from rfl)
      obtain ⟨x0, h0⟩ : ∃ x, bt l (4 * k) = x := ⟨_, rfl⟩
      obtain ⟨x1, h1⟩ : ∃ x, bt l (4 * k + 1) = x := ⟨_, rfl⟩
      obtain ⟨x2, h2⟩ : ∃ x, bt l (4 * k + 2) = x := ⟨_, rfl⟩
      obtain ⟨x3, h3⟩ : ∃ x, bt l (4 * k + 3) = x := ⟨_, rfl⟩
      rw [h0] at a0 b0 Hw
      rw [h1] at a1 b1 Hw
      rw [h2] at a2 b2 Hw
      rw [h3] at a3 b3 Hw
      clear h0 h1 h2 h3 hat hsl hsz
      have s0 : IntKind.i64.wrap (4 * (k : Int)) = 4 * (k : Int) := IntWalk.i64_in _ (by omega)
      have s1 : IntKind.i64.wrap (4 * (k : Int) + 1) = 4 * (k : Int) + 1 := IntWalk.i64_in _ (by omega)
      have s2 : IntKind.i64.wrap (4 * (k : Int) + 2) = 4 * (k : Int) + 2 := IntWalk.i64_in _ (by omega)
      have s3 : IntKind.i64.wrap (4 * (k : Int) + 3) = 4 * (k : Int) + 3 := IntWalk.i64_in _ (by omega)
      have n0 : (4 * (k : Int)).toNat = 4 * k := by omega
      have n1 : (4 * (k : Int) + 1).toNat = 4 * k + 1 := by omega
      have n2 : (4 * (k : Int) + 2).toNat = 4 * k + 2 := by omega
      have n3 : (4 * (k : Int) + 3).toNat = 4 * k + 3 := by omega
      have i0 : (0 : Int) ≤ 4 * (k : Int) := by omega
      have i1 : (0 : Int) ≤ 4 * (k : Int) + 1 := by omega
      have i2 : (0 : Int) ≤ 4 * (k : Int) + 2 := by omega
      have i3 : (0 : Int) ≤ 4 * (k : Int) + 3 := by omega
      have j0 : 4 * (k : Int) < 64 := by omega
      have j1 : 4 * (k : Int) + 1 < 64 := by omega
      have j2 : 4 * (k : Int) + 2 < 64 := by omega
      have j3 : 4 * (k : Int) + 3 < 64 := by omega
      have j4 : (k : Int) < 64 := by omega
      have j5 : (0 : Int) ≤ (k : Int) := by omega
      have ne : ∀ q, (⟨g5, k, none⟩ : Addr) ≠ ⟨g0, q, none⟩ := fun q h => by have := congrArg Addr.block h; simp only [] at this; have := Hgg.out; omega
      go_wp2_with fail
      go_region_held3 (fun w' => w'.cell? ⟨g0, off + 4 * k, none⟩ = some (.int .u8 (x0 : Int)) ∧ w'.cell? ⟨g0, off + (4 * k + 1), none⟩ = some (.int .u8 (x1 : Int)) ∧ w'.cell? ⟨g0, off + (4 * k + 2), none⟩ = some (.int .u8 (x2 : Int)) ∧ w'.cell? ⟨g0, off + (4 * k + 3), none⟩ = some (.int .u8 (x3 : Int)))
        (first
          | (with_reducible exact ⟨a0, a1, a2, a3⟩)
          | (simp only [World.cell?_drew]; with_reducible exact ⟨a0, a1, a2, a3⟩)
          | (go_split_ands; exact ⟨(World.cell?_setCell_other _ _ _ _ (ne _)).trans (by assumption), (World.cell?_setCell_other _ _ _ _ (ne _)).trans (by assumption), (World.cell?_setCell_other _ _ _ _ (ne _)).trans (by assumption), (World.cell?_setCell_other _ _ _ _ (ne _)).trans (by assumption)⟩))
        (fail)
      clear a0 a1 a2 a3 s0 s1 s2 s3 n0 n1 n2 n3 i0 i1 i2 i3 j0 j1 j2 j3 j4 j5 ne hf0 hc0
      rw [word_val b0 b1 b2 b3, ← Hw.out, ← Hlo.out]
      go_wp2_with fail
      go_roundw
      case rel =>
        refine ⟨k + 1, cs.setIfInBounds k (wv (schW l k)), by omega, by go_num, by simp [Hsz.out], fun j hj => ?_, (HB.out.set_ _ _).drew, (H2.out.far (by have := Hgg.out; show g2 ≠ g5; omega) _).drew, (H4.out.far (by have := Hgg.out; show g2 + 1 ≠ g5; omega) _).drew, (Hb.out.setCell (by have := Hgg.out; show g2 ≤ g5; omega) _).drew⟩
        rw [Array.getElem?_setIfInBounds]
        by_cases h1 : j = k
        · subst h1; rw [if_pos rfl, if_pos (by have := Hsz.out; omega)]
        · rw [if_neg (fun e => h1 e.symm)]; exact Hall.out j (by omega)
      case measure => simp [intOf]; omega
    · have hk16 : k = 16 := by omega
      subst hk16
      go_wp2_with fail
      obtain ⟨wx, hwx⟩ : ∃ wx, wr = wx := ⟨_, rfl⟩
      rw [hwx] at HB H2 H4 Hb ⊢
      clear hk hlt hwx hsz
      go_loopw [7] (fun i wr => ∃ (k : Nat) (cs : Array Value), 16 ≤ k ∧ k ≤ 64 ∧ i = .int .i64 k ∧ cs.size = 64 ∧ (∀ j, j < k → cs[j]? = some (wv (schW l j))) ∧ Blk wr g5 83 cs ∧ Blk wr g2 77 C.toArray ∧ Blk wr (g2 + 1) 77 Z ∧ Below g2 w wr) (fun i _ => 64 - (intOf i).toNat)
      case atStart => exact ⟨16, cs, by omega, by omega, rfl, Hsz.out, Hall.out, HB.out, H2.out, H4.out, Hb.out⟩
      case round =>
        clear HB H2 H4 Hb Hall Hsz
        obtain ⟨k, cs, hk1, hk, rfl, hsz, hall, hB, h2, h4, hb⟩ := hrel
        have Hall := Lib.hid hall
        have Hsz := Lib.hid hsz
        have HB := Lib.hid hB
        have H2 := Lib.hid h2
        have H4 := Lib.hid h4
        have Hb := Lib.hid hb
        clear hall hB h2 h4 hb
        by_cases hlt : k < 64
        · have hc : ∀ j, j < k → wr.cell? ⟨g5, j, none⟩ = some (.int .u32 ((schW l j).toNat : Int)) := fun j h => by rw [HB.out.cell, Hall.out j h]; rfl
          have c15 := hc (k - 15) (by omega)
          have c2 := hc (k - 2) (by omega)
          have c16 := hc (k - 16) (by omega)
          have c7 := hc (k - 7) (by omega)
          have Hhi := Lib.hid (schW_hi l k (by omega))
          obtain ⟨x15, h15⟩ : ∃ x, schW l (k - 15) = x := ⟨_, rfl⟩
          obtain ⟨x2, h2⟩ : ∃ x, schW l (k - 2) = x := ⟨_, rfl⟩
          obtain ⟨x16, h16⟩ : ∃ x, schW l (k - 16) = x := ⟨_, rfl⟩
          obtain ⟨x7, h7⟩ : ∃ x, schW l (k - 7) = x := ⟨_, rfl⟩
          rw [h15] at c15 Hhi
          rw [h2] at c2 Hhi
          rw [h16] at c16 Hhi
          rw [h7] at c7 Hhi
          obtain ⟨u, hc0⟩ : ∃ u, wr.cell? ⟨g5, k, none⟩ = some u := ⟨cs[k], by rw [HB.out.cell]; simp⟩
          have hf0 := HB.out.frozen k
          clear hc h15 h2 h16 h7 hsz
          have R7 := Lib.hid (fun W => rotr_any x15 7 (by omega) (by omega) W)
          have R18 := Lib.hid (fun W => rotr_any x15 18 (by omega) (by omega) W)
          have R17 := Lib.hid (fun W => rotr_any x2 17 (by omega) (by omega) W)
          have R19 := Lib.hid (fun W => rotr_any x2 19 (by omega) (by omega) W)
          have s15 : IntKind.i64.wrap ((k : Int) - 15) = (k : Int) - 15 := IntWalk.i64_in _ (by omega)
          have s2 : IntKind.i64.wrap ((k : Int) - 2) = (k : Int) - 2 := IntWalk.i64_in _ (by omega)
          have i1 : (0 : Int) ≤ (k : Int) - 15 := by omega
          have i2 : (k : Int) - 15 < 64 := by omega
          have i3 : (0 : Int) ≤ (k : Int) - 2 := by omega
          have i4 : (k : Int) - 2 < 64 := by omega
          have i5 : (0 : Int) ≤ (k : Int) := by omega
          have i6 : (k : Int) < 64 := by omega
          have n15 : ((k : Int) - 15).toNat = k - 15 := by omega
          have n2 : ((k : Int) - 2).toNat = k - 2 := by omega
          go_wp2_with fail
          go_quiet (first
            | (go_at_call 75; with_reducible exact Calls.quiet_of (R7.out _))
            | (go_at_call 75; with_reducible exact Calls.quiet_of (R18.out _)))
          have d2 : (wr.drewN nq).cell? ⟨g5, k - 2, none⟩ = some (.int .u32 (x2.toNat : Int)) := by simpa using c2
          have HBq := Lib.hid (HB.out.drewN nq)
          have H2q := Lib.hid (H2.out.drewN nq)
          have H4q := Lib.hid (H4.out.drewN nq)
          have Hbq := Lib.hid (blw_drewN Hb.out nq)
          have d16 : (wr.drewN nq).cell? ⟨g5, k - 16, none⟩ = some (.int .u32 (x16.toNat : Int)) := by simpa using c16
          have d7 : (wr.drewN nq).cell? ⟨g5, k - 7, none⟩ = some (.int .u32 (x7.toNat : Int)) := by simpa using c7
          have dk : (wr.drewN nq).cell? ⟨g5, k, none⟩ = some u := by simpa using hc0
          have df : (wr.drewN nq).frozen? ⟨g5, k, none⟩ = false := by simpa using hf0
          obtain ⟨wq, hwq⟩ : ∃ wq, wr.drewN nq = wq := ⟨_, rfl⟩
          rw [hwq] at HBq H2q H4q Hbq d2 d16 d7 dk df ⊢
          clear c15 c2 c16 c7 hc0 hf0 hwq HB H2 H4 Hb
          go_wp2_with fail
          go_quiet (first
            | (go_at_call 75; with_reducible exact Calls.quiet_of (R17.out _))
            | (go_at_call 75; with_reducible exact Calls.quiet_of (R19.out _)))
          have e16 : (wq.drewN nq).cell? ⟨g5, k - 16, none⟩ = some (.int .u32 (x16.toNat : Int)) := by simpa using d16
          have e7 : (wq.drewN nq).cell? ⟨g5, k - 7, none⟩ = some (.int .u32 (x7.toNat : Int)) := by simpa using d7
          have ek : (wq.drewN nq).cell? ⟨g5, k, none⟩ = some u := by simpa using dk
          have ef : (wq.drewN nq).frozen? ⟨g5, k, none⟩ = false := by simpa using df
          have HBr := Lib.hid (HBq.out.drewN nq)
          have H2r := Lib.hid (H2q.out.drewN nq)
          have H4r := Lib.hid (H4q.out.drewN nq)
          have Hbr := Lib.hid (blw_drewN Hbq.out nq)
          obtain ⟨wp, hwp⟩ : ∃ wp, wq.drewN nq = wp := ⟨_, rfl⟩
          rw [hwp] at HBr H2r H4r Hbr e16 e7 ek ef ⊢
          clear hwp HBq H2q H4q Hbq d2 d16 d7 dk df s15 s2 i1 i2 i3 i4 n15 n2 R7 R18 R17 R19
          have ne16 : (⟨g5, k, none⟩ : Addr) ≠ ⟨g5, k - 16, none⟩ := fun h => by have := congrArg Addr.off h; simp only [] at this; omega
          have ne7 : (⟨g5, k, none⟩ : Addr) ≠ ⟨g5, k - 7, none⟩ := fun h => by have := congrArg Addr.off h; simp only [] at this; omega
          have s16 : IntKind.i64.wrap ((k : Int) - 16) = (k : Int) - 16 := IntWalk.i64_in _ (by omega)
          have s7 : IntKind.i64.wrap ((k : Int) - 7) = (k : Int) - 7 := IntWalk.i64_in _ (by omega)
          have i1 : (0 : Int) ≤ (k : Int) - 16 := by omega
          have i2 : (k : Int) - 16 < 64 := by omega
          have i3 : (0 : Int) ≤ (k : Int) - 7 := by omega
          have i4 : (k : Int) - 7 < 64 := by omega
          have i7 : (16 : Int) ≤ (k : Int) := by omega
          have i8 : (7 : Int) ≤ (k : Int) := by omega
          have i9 : (k : Int) < 64 + 16 := by omega
          have i10 : (k : Int) < 64 + 7 := by omega
          have i11 : (k : Int) < 80 := by omega
          have i12 : (k : Int) < 71 := by omega
          have n16 : ((k : Int) - 16).toNat = k - 16 := by omega
          have n7 : ((k : Int) - 7).toNat = k - 7 := by omega
          go_wp2_with fail
          go_region_held3 (fun w' => w'.cell? ⟨g5, k - 16, none⟩ = some (.int .u32 (x16.toNat : Int)) ∧ w'.cell? ⟨g5, k - 7, none⟩ = some (.int .u32 (x7.toNat : Int)))
            (first
              | (with_reducible exact ⟨e16, e7⟩)
              | (simp only [World.cell?_drew]; with_reducible exact ⟨e16, e7⟩)
              | (go_split_ands; exact ⟨(World.cell?_setCell_other _ _ _ _ ne16).trans (by assumption), (World.cell?_setCell_other _ _ _ _ ne7).trans (by assumption)⟩))
            (fail)
          clear s16 s7 i1 i2 i3 i4 i7 i8 i9 i10 i11 i12 n16 n7 e16 e7 ek ef ne16 ne7
          rw [sch_val, ← Hhi.out]
          go_wp2_with fail
          refine ⟨?_, ?measure2⟩
          (repeat apply Exists.intro)
          refine ⟨?rel2, rfl⟩
          case rel2 =>
            refine ⟨k + 1, cs.setIfInBounds k (wv (schW l k)), by omega, by omega, by go_num, by simp [Hsz.out], fun j hj => ?_, (HBr.out.set_ _ _).drew, (H2r.out.far (by have := Hgg.out; show g2 ≠ g5; omega) _).drew, (H4r.out.far (by have := Hgg.out; show g2 + 1 ≠ g5; omega) _).drew, (Hbr.out.setCell (by have := Hgg.out; show g2 ≤ g5; omega) _).drew⟩
            rw [Array.getElem?_setIfInBounds]
            by_cases h1 : j = k
            · subst h1; rw [if_pos rfl, if_pos (by have := Hsz.out; omega)]
            · rw [if_neg (fun e => h1 e.symm)]; exact Hall.out j (by omega)
          case measure2 => simp [intOf]; omega
        · have hk64 : k = 64 := by omega
          subst hk64
          have hcs : cs = (schC l).toArray := by
            apply Array.ext_getElem?
            intro j
            rcases Nat.lt_or_ge j 64 with h | h
            · rw [Hall.out j h, List.getElem?_toArray, schC_at l j h]
            · rw [Array.getElem?_eq_none (by omega), Array.getElem?_eq_none (by rw [List.size_toArray, schC_len]; omega)]
          rw [hcs] at HB
          have Hat := Lib.hid (schC_at l)
          clear Hall Hsz hsz hcs
          obtain ⟨E, hE⟩ : ∃ E, schC l = E := ⟨_, rfl⟩
          rw [hE] at HB Hat
          clear hE hk hlt hk1
          have HK := Lib.hid (fun W => constants_any W)
          have HKl := Lib.hid (And.intro kC_len kC_one)
          have HKat := Lib.hid kC_at
          obtain ⟨KK, hKK⟩ : ∃ K, kC = K := ⟨_, rfl⟩
          rw [hKK] at HK HKl HKat
          clear hKK
          go_wp2_with (first
            | (refine (HK.out _).mono ?_
               rintro e wc ⟨rfl, hbc⟩
               have hlc := hbc.size
               have hB1 := HB.out.below hbc HB.out.lt
               have h21 := H2.out.below hbc H2.out.lt
               have h41 := H4.out.below hbc H4.out.lt
               have hle : g2 ≤ wc.heap.size := by have := Hb.out.size; have := Hg2.out; omega
               have hb1 := Hb.out.trans (hbc.mono (by have := Hb.out.size; have := Hg2.out; omega))
               have lB := hB1.lt
               have l2 := h21.lt
               have l4 := h41.lt
               have hn := Blk.new wc 83 #[.int .u32 0, .int .u32 0, .int .u32 0, .int .u32 0, .int .u32 0, .int .u32 0, .int .u32 0, .int .u32 0, .int .u32 0, .int .u32 0, .int .u32 0, .int .u32 0, .int .u32 0, .int .u32 0, .int .u32 0, .int .u32 0, .int .u32 0, .int .u32 0, .int .u32 0, .int .u32 0, .int .u32 0, .int .u32 0, .int .u32 0, .int .u32 0, .int .u32 0, .int .u32 0, .int .u32 0, .int .u32 0, .int .u32 0, .int .u32 0, .int .u32 0, .int .u32 0, .int .u32 0, .int .u32 0, .int .u32 0, .int .u32 0, .int .u32 0, .int .u32 0, .int .u32 0, .int .u32 0, .int .u32 0, .int .u32 0, .int .u32 0, .int .u32 0, .int .u32 0, .int .u32 0, .int .u32 0, .int .u32 0, .int .u32 0, .int .u32 0, .int .u32 0, .int .u32 0, .int .u32 0, .int .u32 0, .int .u32 0, .int .u32 0, .int .u32 0, .int .u32 0, .int .u32 0, .int .u32 0, .int .u32 0, .int .u32 0, .int .u32 0, .int .u32 0]
               have hK1 := hn.setRow KK.toArray
               have hB2 := (hB1.alloc (.cells #[.int .u32 0, .int .u32 0, .int .u32 0, .int .u32 0, .int .u32 0, .int .u32 0, .int .u32 0, .int .u32 0, .int .u32 0, .int .u32 0, .int .u32 0, .int .u32 0, .int .u32 0, .int .u32 0, .int .u32 0, .int .u32 0, .int .u32 0, .int .u32 0, .int .u32 0, .int .u32 0, .int .u32 0, .int .u32 0, .int .u32 0, .int .u32 0, .int .u32 0, .int .u32 0, .int .u32 0, .int .u32 0, .int .u32 0, .int .u32 0, .int .u32 0, .int .u32 0, .int .u32 0, .int .u32 0, .int .u32 0, .int .u32 0, .int .u32 0, .int .u32 0, .int .u32 0, .int .u32 0, .int .u32 0, .int .u32 0, .int .u32 0, .int .u32 0, .int .u32 0, .int .u32 0, .int .u32 0, .int .u32 0, .int .u32 0, .int .u32 0, .int .u32 0, .int .u32 0, .int .u32 0, .int .u32 0, .int .u32 0, .int .u32 0, .int .u32 0, .int .u32 0, .int .u32 0, .int .u32 0, .int .u32 0, .int .u32 0, .int .u32 0, .int .u32 0] 83)).farRow (show g5 ≠ wc.heap.size by omega) KK.toArray
               have h22 := (h21.alloc (.cells #[.int .u32 0, .int .u32 0, .int .u32 0, .int .u32 0, .int .u32 0, .int .u32 0, .int .u32 0, .int .u32 0, .int .u32 0, .int .u32 0, .int .u32 0, .int .u32 0, .int .u32 0, .int .u32 0, .int .u32 0, .int .u32 0, .int .u32 0, .int .u32 0, .int .u32 0, .int .u32 0, .int .u32 0, .int .u32 0, .int .u32 0, .int .u32 0, .int .u32 0, .int .u32 0, .int .u32 0, .int .u32 0, .int .u32 0, .int .u32 0, .int .u32 0, .int .u32 0, .int .u32 0, .int .u32 0, .int .u32 0, .int .u32 0, .int .u32 0, .int .u32 0, .int .u32 0, .int .u32 0, .int .u32 0, .int .u32 0, .int .u32 0, .int .u32 0, .int .u32 0, .int .u32 0, .int .u32 0, .int .u32 0, .int .u32 0, .int .u32 0, .int .u32 0, .int .u32 0, .int .u32 0, .int .u32 0, .int .u32 0, .int .u32 0, .int .u32 0, .int .u32 0, .int .u32 0, .int .u32 0, .int .u32 0, .int .u32 0, .int .u32 0, .int .u32 0] 83)).farRow (show g2 ≠ wc.heap.size by omega) KK.toArray
               have h42 := (h41.alloc (.cells #[.int .u32 0, .int .u32 0, .int .u32 0, .int .u32 0, .int .u32 0, .int .u32 0, .int .u32 0, .int .u32 0, .int .u32 0, .int .u32 0, .int .u32 0, .int .u32 0, .int .u32 0, .int .u32 0, .int .u32 0, .int .u32 0, .int .u32 0, .int .u32 0, .int .u32 0, .int .u32 0, .int .u32 0, .int .u32 0, .int .u32 0, .int .u32 0, .int .u32 0, .int .u32 0, .int .u32 0, .int .u32 0, .int .u32 0, .int .u32 0, .int .u32 0, .int .u32 0, .int .u32 0, .int .u32 0, .int .u32 0, .int .u32 0, .int .u32 0, .int .u32 0, .int .u32 0, .int .u32 0, .int .u32 0, .int .u32 0, .int .u32 0, .int .u32 0, .int .u32 0, .int .u32 0, .int .u32 0, .int .u32 0, .int .u32 0, .int .u32 0, .int .u32 0, .int .u32 0, .int .u32 0, .int .u32 0, .int .u32 0, .int .u32 0, .int .u32 0, .int .u32 0, .int .u32 0, .int .u32 0, .int .u32 0, .int .u32 0, .int .u32 0, .int .u32 0] 83)).farRow (show g2 + 1 ≠ wc.heap.size by omega) KK.toArray
               have hb2 := setRow_below (g := wc.heap.size) (hb1.alloc (by omega) (.cells #[.int .u32 0, .int .u32 0, .int .u32 0, .int .u32 0, .int .u32 0, .int .u32 0, .int .u32 0, .int .u32 0, .int .u32 0, .int .u32 0, .int .u32 0, .int .u32 0, .int .u32 0, .int .u32 0, .int .u32 0, .int .u32 0, .int .u32 0, .int .u32 0, .int .u32 0, .int .u32 0, .int .u32 0, .int .u32 0, .int .u32 0, .int .u32 0, .int .u32 0, .int .u32 0, .int .u32 0, .int .u32 0, .int .u32 0, .int .u32 0, .int .u32 0, .int .u32 0, .int .u32 0, .int .u32 0, .int .u32 0, .int .u32 0, .int .u32 0, .int .u32 0, .int .u32 0, .int .u32 0, .int .u32 0, .int .u32 0, .int .u32 0, .int .u32 0, .int .u32 0, .int .u32 0, .int .u32 0, .int .u32 0, .int .u32 0, .int .u32 0, .int .u32 0, .int .u32 0, .int .u32 0, .int .u32 0, .int .u32 0, .int .u32 0, .int .u32 0, .int .u32 0, .int .u32 0, .int .u32 0, .int .u32 0, .int .u32 0, .int .u32 0, .int .u32 0] 83)) (by omega) KK.toArray
               obtain ⟨wd, hwd⟩ : ∃ wd, (wc.alloc (.cells #[.int .u32 0, .int .u32 0, .int .u32 0, .int .u32 0, .int .u32 0, .int .u32 0, .int .u32 0, .int .u32 0, .int .u32 0, .int .u32 0, .int .u32 0, .int .u32 0, .int .u32 0, .int .u32 0, .int .u32 0, .int .u32 0, .int .u32 0, .int .u32 0, .int .u32 0, .int .u32 0, .int .u32 0, .int .u32 0, .int .u32 0, .int .u32 0, .int .u32 0, .int .u32 0, .int .u32 0, .int .u32 0, .int .u32 0, .int .u32 0, .int .u32 0, .int .u32 0, .int .u32 0, .int .u32 0, .int .u32 0, .int .u32 0, .int .u32 0, .int .u32 0, .int .u32 0, .int .u32 0, .int .u32 0, .int .u32 0, .int .u32 0, .int .u32 0, .int .u32 0, .int .u32 0, .int .u32 0, .int .u32 0, .int .u32 0, .int .u32 0, .int .u32 0, .int .u32 0, .int .u32 0, .int .u32 0, .int .u32 0, .int .u32 0, .int .u32 0, .int .u32 0, .int .u32 0, .int .u32 0, .int .u32 0, .int .u32 0, .int .u32 0, .int .u32 0] 83)).setRow wc.heap.size KK.toArray = wd := ⟨_, rfl⟩
               rw [hwd] at hK1 hB2 h22 h42 hb2
               have HN := Lib.hid hn
               have HWd := Lib.hid hwd
               have HK1 := Lib.hid hK1
               have HB2 := Lib.hid hB2
               have H22 := Lib.hid h22
               have H42 := Lib.hid h42
               have Hb2 := Lib.hid hb2
               have HN2 := Lib.hid (Blk.new wd 77 #[.int .u32 0, .int .u32 0, .int .u32 0, .int .u32 0, .int .u32 0, .int .u32 0, .int .u32 0, .int .u32 0])
               clear hbc hle hB1 h21 h41 hb1 hn hK1 hB2 h22 h42 hb2 hwd lB l2 l4 hlc)
            | (refine wpList_store_row rfl 83 _ _ rfl wc.heap.size KK.toArray rfl rfl 83 _ HN.out (by rw [List.size_toArray, HKl.out.1]; exact infoW64) (show 64 = KK.length from HKl.out.1.symm) (all_oneCell_toArray HKl.out.2) ?_; rw [HWd.out])
            | (refine wpList_load_row rfl 77 _ rfl g2 rfl 77 C.toArray (0, 0) _ H22.out Tryd.underlying77 rfl (by rw [List.size_toArray, HCs.out]; exact infoW8) ?_)
            | (refine wpList_store_row rfl 77 _ _ rfl wd.heap.size C.toArray rfl rfl 77 _ HN2.out (by rw [List.size_toArray, HCs.out]; exact infoW8) (show 8 = C.length from HCs.out.symm) (all_oneCell_toArray HC1.out) ?_))
          have hgc : g2 + 2 = g5 := Hgg.out.symm
          have hlB := HB2.out.lt
          have hlK := HK1.out.lt
          have hX := HN2.out.setRow C.toArray
          have hKx := (HK1.out.alloc (.cells #[.int .u32 0, .int .u32 0, .int .u32 0, .int .u32 0, .int .u32 0, .int .u32 0, .int .u32 0, .int .u32 0] 77)).farRow (show wc.heap.size ≠ wd.heap.size by omega) C.toArray
          have hBx := (HB2.out.alloc (.cells #[.int .u32 0, .int .u32 0, .int .u32 0, .int .u32 0, .int .u32 0, .int .u32 0, .int .u32 0, .int .u32 0] 77)).farRow (show g5 ≠ wd.heap.size by omega) C.toArray
          have h2x := (H22.out.alloc (.cells #[.int .u32 0, .int .u32 0, .int .u32 0, .int .u32 0, .int .u32 0, .int .u32 0, .int .u32 0, .int .u32 0] 77)).farRow (show g2 ≠ wd.heap.size by omega) C.toArray
          have h4x := (H42.out.alloc (.cells #[.int .u32 0, .int .u32 0, .int .u32 0, .int .u32 0, .int .u32 0, .int .u32 0, .int .u32 0, .int .u32 0] 77)).farRow (show g2 + 1 ≠ wd.heap.size by omega) C.toArray
          have hbx := setRow_below (g := wd.heap.size) (Hb2.out.alloc (by omega) (.cells #[.int .u32 0, .int .u32 0, .int .u32 0, .int .u32 0, .int .u32 0, .int .u32 0, .int .u32 0, .int .u32 0] 77)) (by omega) C.toArray
          obtain ⟨wl, hwl⟩ : ∃ wl, (wd.alloc (.cells #[.int .u32 0, .int .u32 0, .int .u32 0, .int .u32 0, .int .u32 0, .int .u32 0, .int .u32 0, .int .u32 0] 77)).setRow wd.heap.size C.toArray = wl := ⟨_, rfl⟩
          rw [hwl] at hX hKx hBx h2x h4x hbx ⊢
          obtain ⟨gx, hgx⟩ : ∃ gx, wd.heap.size = gx := ⟨_, rfl⟩
          obtain ⟨gk, hgk⟩ : ∃ gk, wc.heap.size = gk := ⟨_, rfl⟩
          rw [hgx] at hX hlB hlK ⊢
          rw [hgk] at hKx hlK ⊢
          have HX := Lib.hid hX
          have HKx := Lib.hid hKx
          have HBx := Lib.hid hBx
          have H2x := Lib.hid h2x
          have H4x := Lib.hid h4x
          have Hbx := Lib.hid hbx
          have Hne := Lib.hid (show g5 < gx ∧ gk < gx ∧ g2 < gx ∧ g2 + 1 < gx by omega)
          clear hX hKx hBx h2x h4x hbx hwl hgx hgk hlB hlK hgc HN HN2 HWd HK1 HB2 H22 H42 Hb2 HB H2 H4 Hb HK
          go_loopw [12] (fun i wr => ∃ (k : Nat), k ≤ 64 ∧ i = .int .i64 k ∧ Blk wr gx 77 (rds l s k).cells.toArray ∧ Blk wr gk 83 KK.toArray ∧ Blk wr g5 83 E.toArray ∧ Blk wr g2 77 C.toArray ∧ Blk wr (g2 + 1) 77 Z ∧ Below g2 w wr) (fun i _ => 64 - (intOf i).toNat)
          case atStart => exact ⟨0, by omega, rfl, by rw [rds, HC.out]; exact HX.out, HKx.out, HBx.out, H2x.out, H4x.out, Hbx.out⟩
          case round =>
            clear HX HKx HBx H2x H4x Hbx
            obtain ⟨k, hk, rfl, hx, hK, hB, h2, h4, hb⟩ := hrel
            have HX := Lib.hid hx
            have HK := Lib.hid hK
            have HB := Lib.hid hB
            have H2 := Lib.hid h2
            have H4 := Lib.hid h4
            have Hb := Lib.hid hb
            clear hx hK hB h2 h4 hb
            by_cases hlt : k < 64
            · have hrd := Lib.hid (show rds l s (k + 1) = rnd (rds l s k) (kW k) (schW l k) from rfl)
              obtain ⟨⟨c0, c1, c2, c3⟩, c4, c5, c6, c7⟩ := rds_tail HX.out
              have cE : wr.cell? ⟨g5, k, none⟩ = some (.int .u32 ((schW l k).toNat : Int)) := by rw [HB.out.cell, List.getElem?_toArray, Hat.out k hlt]; rfl
              have cK : wr.cell? ⟨gk, k, none⟩ = some (.int .u32 ((kW k).toNat : Int)) := by rw [HK.out.cell, List.getElem?_toArray, HKat.out k hlt]; rfl
              obtain ⟨x, hx⟩ : ∃ x, schW l k = x := ⟨_, rfl⟩
              obtain ⟨kk, hkk⟩ : ∃ kk, kW k = kk := ⟨_, rfl⟩
              obtain ⟨r, hr⟩ : ∃ r, rds l s k = r := ⟨_, rfl⟩
              rw [hx] at cE hrd
              rw [hkk] at cK hrd
              rw [hr] at c0 c1 c2 c3 c4 c5 c6 c7 hrd HX
              obtain ⟨a, b, c, d, e, f, g, hh⟩ := r
              unfold wv at c0 c1 c2 c3 c4 c5 c6 c7
              simp only [] at c0 c1 c2 c3 c4 c5 c6 c7
              clear hx hkk hr
              have i1 : (0 : Int) ≤ (k : Int) := by omega
              have i2 : (k : Int) < 64 := by omega
              have R6 := Lib.hid (fun W => rotr_any e 6 (by omega) (by omega) W)
              have R11 := Lib.hid (fun W => rotr_any e 11 (by omega) (by omega) W)
              have R25 := Lib.hid (fun W => rotr_any e 25 (by omega) (by omega) W)
              have R2 := Lib.hid (fun W => rotr_any a 2 (by omega) (by omega) W)
              have R13 := Lib.hid (fun W => rotr_any a 13 (by omega) (by omega) W)
              have R22 := Lib.hid (fun W => rotr_any a 22 (by omega) (by omega) W)
              go_wp2_with fail
              go_quiet (first
                | (go_at_call 75; with_reducible exact Calls.quiet_of (R6.out _))
                | (go_at_call 75; with_reducible exact Calls.quiet_of (R11.out _))
                | (go_at_call 75; with_reducible exact Calls.quiet_of (R25.out _)))
              have HX_ := HX.out.drewN nq
              have HK_ := HK.out.drewN nq
              have HB_ := HB.out.drewN nq
              have H2_ := H2.out.drewN nq
              have H4_ := H4.out.drewN nq
              have Hb_ := blw_drewN Hb.out nq
              have cE_ : (wr.drewN nq).cell? ⟨g5, k, none⟩ = some (.int .u32 (x.toNat : Int)) := by simpa using cE
              have cK_ : (wr.drewN nq).cell? ⟨gk, k, none⟩ = some (.int .u32 (kk.toNat : Int)) := by simpa using cK
              obtain ⟨wq, hwq⟩ : ∃ wq, wr.drewN nq = wq := ⟨_, rfl⟩
              rw [hwq] at HX_ HK_ HB_ H2_ H4_ Hb_ cE_ cK_ ⊢
              clear hwq HX HK HB H2 H4 Hb cE cK c0 c1 c2 c3 c4 c5 c6 c7
              obtain ⟨⟨c0, c1, c2, c3⟩, c4, c5, c6, c7⟩ := rds_tail HX_
              unfold wv at c0 c1 c2 c3 c4 c5 c6 c7
              simp only [] at c0 c1 c2 c3 c4 c5 c6 c7
              have HX := Lib.hid HX_
              have HK := Lib.hid HK_
              have HB := Lib.hid HB_
              have H2 := Lib.hid H2_
              have H4 := Lib.hid H4_
              have Hb := Lib.hid Hb_
              have cE := cE_
              have cK := cK_
              clear HX_ HK_ HB_ H2_ H4_ Hb_ cE_ cK_
              go_wp2_with fail
              go_quiet (first
                | (go_at_call 75; with_reducible exact Calls.quiet_of (R2.out _))
                | (go_at_call 75; with_reducible exact Calls.quiet_of (R13.out _))
                | (go_at_call 75; with_reducible exact Calls.quiet_of (R22.out _)))
              have HX_ := HX.out.drewN nq
              have HK_ := HK.out.drewN nq
              have HB_ := HB.out.drewN nq
              have H2_ := H2.out.drewN nq
              have H4_ := H4.out.drewN nq
              have Hb_ := blw_drewN Hb.out nq
              have cE_ : (wq.drewN nq).cell? ⟨g5, k, none⟩ = some (.int .u32 (x.toNat : Int)) := by simpa using cE
              have cK_ : (wq.drewN nq).cell? ⟨gk, k, none⟩ = some (.int .u32 (kk.toNat : Int)) := by simpa using cK
              obtain ⟨wp, hwq⟩ : ∃ wp, wq.drewN nq = wp := ⟨_, rfl⟩
              rw [hwq] at HX_ HK_ HB_ H2_ H4_ Hb_ cE_ cK_ ⊢
              clear hwq HX HK HB H2 H4 Hb cE cK c0 c1 c2 c3 c4 c5 c6 c7
              obtain ⟨⟨c0, c1, c2, c3⟩, c4, c5, c6, c7⟩ := rds_tail HX_
              unfold wv at c0 c1 c2 c3 c4 c5 c6 c7
              simp only [] at c0 c1 c2 c3 c4 c5 c6 c7
              have HX := Lib.hid HX_
              have HK := Lib.hid HK_
              have HB := Lib.hid HB_
              have H2 := Lib.hid H2_
              have H4 := Lib.hid H4_
              have Hb := Lib.hid Hb_
              have cE := cE_
              have cK := cK_
              clear HX_ HK_ HB_ H2_ H4_ Hb_ cE_ cK_
              go_wp2_with fail
              go_quiet (fail)
              have HX_ := HX.out.drewN nq
              have HK_ := HK.out.drewN nq
              have HB_ := HB.out.drewN nq
              have H2_ := H2.out.drewN nq
              have H4_ := H4.out.drewN nq
              have Hb_ := blw_drewN Hb.out nq
              have cE_ : (wp.drewN nq).cell? ⟨g5, k, none⟩ = some (.int .u32 (x.toNat : Int)) := by simpa using cE
              have cK_ : (wp.drewN nq).cell? ⟨gk, k, none⟩ = some (.int .u32 (kk.toNat : Int)) := by simpa using cK
              obtain ⟨wo, hwq⟩ : ∃ wo, wp.drewN nq = wo := ⟨_, rfl⟩
              rw [hwq] at HX_ HK_ HB_ H2_ H4_ Hb_ cE_ cK_ ⊢
              clear hwq HX HK HB H2 H4 Hb cE cK c0 c1 c2 c3 c4 c5 c6 c7
              obtain ⟨⟨c0, c1, c2, c3⟩, c4, c5, c6, c7⟩ := rds_tail HX_
              unfold wv at c0 c1 c2 c3 c4 c5 c6 c7
              simp only [] at c0 c1 c2 c3 c4 c5 c6 c7
              have HX := Lib.hid HX_
              have HK := Lib.hid HK_
              have HB := Lib.hid HB_
              have H2 := Lib.hid H2_
              have H4 := Lib.hid H4_
              have Hb := Lib.hid Hb_
              have cE := cE_
              have cK := cK_
              clear HX_ HK_ HB_ H2_ H4_ Hb_ cE_ cK_
              rw [t1r_val a b c d e f g hh kk x]
              clear R6 R11 R25 R2 R13 R22 cE cK
              obtain ⟨T, hT⟩ : ∃ T, t1 ⟨a, b, c, d, e, f, g, hh⟩ kk x = T := ⟨_, rfl⟩
              rw [hT]
              have HT := Lib.hid hT
              clear hT
              go_wp2_with (first
                | (refine wpList_store_row rfl 77 _ _ rfl gx _ rfl rfl 77 _ HX.out infoW8 rfl (eight_one _ _ _ _ _ _ _ _) ?_))
              refine ⟨⟨k + 1, by omega, by go_num, ?_, HK.out.farRow (by have := Hne.out; omega) _, HB.out.farRow (by have := Hne.out; omega) _, H2.out.farRow (by have := Hne.out; omega) _, H4.out.farRow (by have := Hne.out; omega) _, setRow_below Hb.out (by have := Hne.out; omega) _⟩, ?_⟩
              · rw [hrd.out, rnd_row a b c d e f g hh kk x, HT.out]
                exact HX.out.setRow _
              · simp [intOf]; omega
            · have hk64 : k = 64 := by omega
              subst hk64
              obtain ⟨r, hr⟩ : ∃ r, rds l s 64 = r := ⟨_, rfl⟩
              rw [hr] at HX
              have Hr := Lib.hid hr
              clear hr hlt hk
              go_wp2_with fail
              obtain ⟨wy, hwy⟩ : ∃ wy, wr = wy := ⟨_, rfl⟩
              rw [hwy] at HX H2 H4 Hb ⊢
              clear hwy HK HB
              go_loopw [19] (fun i wr => ∃ (k : Nat) (cs : Array Value), k ≤ 8 ∧ i = .int .i64 k ∧ cs.size = 8 ∧ (∀ j, j < 8 → cs[j]? = some (wv (if j < k then s.ws.getD j 0 + r.ws.getD j 0 else s.ws.getD j 0))) ∧ Blk wr g2 77 cs ∧ Blk wr gx 77 r.cells.toArray ∧ Blk wr (g2 + 1) 77 Z ∧ Below g2 w wr) (fun i _ => 8 - (intOf i).toNat)
              case atStart => exact ⟨0, C.toArray, by omega, rfl, HCs.out, fun j h => by rw [if_neg (by omega), ← HC.out, List.getElem?_toArray, s.cells_at j h], H2.out, HX.out, H4.out, Hb.out⟩
              case round =>
                clear H2 HX H4 Hb
                obtain ⟨k, cs, hk, rfl, hsz, hall, h2, h6, h4, hb⟩ := hrel
                have Hall := Lib.hid hall
                have Hsz := Lib.hid hsz
                have H6 := Lib.hid h6
                have H2 := Lib.hid h2
                have H4 := Lib.hid h4
                have Hb := Lib.hid hb
                clear h6 h2 h4 hb hall
                by_cases hlt : k < 8
                · have cs0 : wr.cell? ⟨g2, k, none⟩ = some (.int .u32 ((s.ws.getD k 0).toNat : Int)) := by rw [H2.out.cell, Hall.out k hlt, if_neg (by omega)]; rfl
                  have cr0 : wr.cell? ⟨gx, k, none⟩ = some (.int .u32 ((r.ws.getD k 0).toNat : Int)) := by rw [H6.out.cell, List.getElem?_toArray, r.cells_at k hlt]; rfl
                  have hf0 := H2.out.frozen k
                  obtain ⟨x, hx⟩ : ∃ x, s.ws.getD k 0 = x := ⟨_, rfl⟩
                  obtain ⟨y, hy⟩ : ∃ y, r.ws.getD k 0 = y := ⟨_, rfl⟩
                  rw [hx] at cs0
                  rw [hy] at cr0
                  have Hxy := Lib.hid (show s.ws.getD k 0 = x ∧ r.ws.getD k 0 = y from ⟨hx, hy⟩)
                  have i1 : (0 : Int) ≤ (k : Int) := by omega
                  have i2 : (k : Int) < 8 := by omega
                  clear hx hy hsz
                  go_wp2_with fail
                  go_region
                  go_wp2_with fail
                  have hne9 := Hne.out
                  refine ⟨⟨k + 1, cs.setIfInBounds k (.int .u32 (((x.toNat : Int) + y.toNat) % 4294967296)), by omega, by go_num, by simp [Hsz.out], fun j hj => ?_, (H2.out.set_ _ _).drew, (H6.out.far (by show gx ≠ g2; omega) _).drew, (H4.out.far (by show g2 + 1 ≠ g2; omega) _).drew, (Hb.out.setCell (Nat.le_refl _) _).drew⟩, ?_⟩
                  · rw [Array.getElem?_setIfInBounds]
                    by_cases h1 : j = k
                    · subst h1; rw [if_pos rfl, if_pos (by have := Hsz.out; omega), if_pos (by omega), Hxy.out.1, Hxy.out.2, add_m]; rfl
                    · rw [if_neg (fun e => h1 e.symm), Hall.out j hj]
                      by_cases h2 : j < k
                      · rw [if_pos h2, if_pos (by omega)]
                      · rw [if_neg h2, if_neg (by omega)]
                  · simp [intOf]; omega
                · have hk8 : k = 8 := by omega
                  subst hk8
                  have hcs : cs = (comp s l).cells.toArray := by
                    apply Array.ext_getElem?
                    intro j
                    rcases Nat.lt_or_ge j 8 with h | h
                    · rw [Hall.out j h, if_pos h, List.getElem?_toArray, comp, Hr.out, add8_at s r j h]
                    · rw [Array.getElem?_eq_none (by omega), Array.getElem?_eq_none (by show 8 ≤ j; omega)]
                  rw [hcs] at H2
                  have Hd1 := Lib.hid (cells_one (comp s l))
                  have Hds := Lib.hid (show (comp s l).cells.length = 8 from rfl)
                  clear Hall Hsz hsz hcs
                  obtain ⟨D, hD⟩ : ∃ D, (comp s l).cells = D := ⟨_, rfl⟩
                  rw [hD] at H2 Hd1 Hds
                  have HD := Lib.hid hD
                  clear hD
                  go_wp2_with (first
                    | (refine wpList_load_row rfl 77 _ rfl g2 rfl 77 D.toArray (0, 0) _ H2.out Tryd.underlying77 rfl (by rw [List.size_toArray, Hds.out]; exact infoW8) ?_)
                    | (refine wpList_store_row rfl 77 _ _ rfl (g2 + 1) D.toArray rfl rfl 77 _ H4.out (by rw [List.size_toArray, Hds.out]; exact infoW8) (show Z.size = D.length by rw [HZ.out, Hds.out]) (all_oneCell_toArray Hd1.out) ?_))
                  refine bodyPost_ret (v := .agg D.toArray) (results_cell_row rfl _ _ (g2 + 1) 77 D.toArray (0, 0) _ rfl (H4.out.setRow D.toArray) Tryd.underlying77 rfl (by rw [List.size_toArray, Hds.out]; exact infoW8)) rfl ?_
                  exact ⟨by rw [HD.out], by rw [Hg2.out]; exact setRow_below Hb.out (by omega) _⟩
end Go.Proofs.YtiloaheaglcpbaaDoor
