/- SHA-256: the state after a block. -/
import Derived.Test.YtiloaheaglcpbaaDoorSgS3
import Derived.RegionTactic
import Derived.BigRegion
namespace Go.Proofs.YtiloaheaglcpbaaDoor
open Go.RowKit

/-- the table of constants lies there -/
def TabK (w : World) : Prop := ∀ i : Nat, i < 64 → w.cell? ⟨1, i, none⟩ = some (.int .u32 ((kW i).toNat : Int))
theorem TabK.next {w w' : World} (h : TabK w) (hb : Below w.heap.size w w') : TabK w' := fun i hi => (hb.cell (p := ⟨1, i, none⟩) (World.block_lt_of_cell? w _ (h i hi))).trans (h i hi)
theorem rotq_any (x : W32) (n : Nat) (h1 : 1 ≤ n) (h2 : n < 32) (w : World) :
    Calls Tryd.prog 68 #[.int .u32 (x.toNat : Int), .int .i64 (n : Int)] w fun e w' => e = .returned (.int .u32 ((rot x n).toNat : Int)) ∧ w' = w :=
  (rotate_any x n h1 h2 w).mono fun _ _ h => ⟨h.1, h.2.symm⟩
def S8.ws (s : S8) : List W32 := [s.a, s.b, s.c, s.d, s.e, s.f, s.g, s.h]
theorem S8.cells_at (s : S8) (j : Nat) (h : j < 8) : s.cells[j]? = some (wv (s.ws.getD j 0)) := by
  match j, h with
  | 0, _ => rfl
  | 1, _ => rfl
  | 2, _ => rfl
  | 3, _ => rfl
  | 4, _ => rfl
  | 5, _ => rfl
  | 6, _ => rfl
  | 7, _ => rfl
theorem add8_at (s r : S8) (j : Nat) (h : j < 8) : (add8 s r).cells[j]? = some (wv (s.ws.getD j 0 + r.ws.getD j 0)) := by
  match j, h with
  | 0, _ => rfl
  | 1, _ => rfl
  | 2, _ => rfl
  | 3, _ => rfl
  | 4, _ => rfl
  | 5, _ => rfl
  | 6, _ => rfl
  | 7, _ => rfl
theorem infoW8 : (Tryd.prog.info? 77).map (·.size) = some 8 := by kernel_rfl
theorem cells_one (s : S8) : ∀ v ∈ s.cells, v.oneCell' = true := by
  intro v hv
  simp only [S8.cells, List.mem_cons, List.not_mem_nil, or_false] at hv
  rcases hv with rfl | rfl | rfl | rfl | rfl | rfl | rfl | rfl <;> rfl
theorem rds_tail {w : World} {g : Nat} {t : TypeId} {s : S8} (h : Blk w g t s.cells.toArray) :
    (w.cell? ⟨g, 0, none⟩ = some (wv s.a) ∧ w.cell? ⟨g, 1, none⟩ = some (wv s.b) ∧ w.cell? ⟨g, 2, none⟩ = some (wv s.c) ∧ w.cell? ⟨g, 3, none⟩ = some (wv s.d)) ∧
    w.cell? ⟨g, 4, none⟩ = some (wv s.e) ∧ w.cell? ⟨g, 5, none⟩ = some (wv s.f) ∧ w.cell? ⟨g, 6, none⟩ = some (wv s.g) ∧ w.cell? ⟨g, 7, none⟩ = some (wv s.h) :=
  ⟨⟨by rw [h.cell]; rfl, by rw [h.cell]; rfl, by rw [h.cell]; rfl, by rw [h.cell]; rfl⟩, by rw [h.cell]; rfl, by rw [h.cell]; rfl, by rw [h.cell]; rfl, by rw [h.cell]; rfl⟩

theorem not_w (x : W32) : bits BinOp.xor IntKind.u32 (if IntKind.u32.signed = true then -1 else IntKind.u32.max) (x.toNat : Int) = ((~~~x).toNat : Int) := by
  have h : (if IntKind.u32.signed = true then (-1 : Int) else IntKind.u32.max) = ((BitVec.allOnes 32).toNat : Int) := by decide +kernel
  rw [h, xor_w, BitVec.allOnes_xor]
theorem t1_val (a b c d e f g h k x : W32) : ((((h.toNat : Int) + bits BinOp.xor IntKind.u32 (bits BinOp.xor IntKind.u32 ((rot e 6).toNat : Int) ((rot e 11).toNat : Int)) ((rot e 25).toNat : Int) +
      bits BinOp.xor IntKind.u32 (bits BinOp.and IntKind.u32 (e.toNat : Int) (f.toNat : Int)) (bits BinOp.and IntKind.u32 (bits BinOp.xor IntKind.u32 (if IntKind.u32.signed = true then -1 else IntKind.u32.max) (e.toNat : Int)) (g.toNat : Int)) + (k.toNat : Int)) % 4294967296 + (x.toNat : Int)) % 4294967296) = ((t1 ⟨a, b, c, d, e, f, g, h⟩ k x).toNat : Int) := by
  rw [not_w]
  simp only [xor_w, and_w, t1, BitVec.toNat_add]
  omega
theorem eight_one (x0 x1 x2 x3 x4 x5 x6 x7 : Int) : (#[.int .u32 x0, .int .u32 x1, .int .u32 x2, .int .u32 x3, .int .u32 x4, .int .u32 x5, .int .u32 x6, .int .u32 x7] : Array Value).all (·.oneCell') = true :=
  all_oneCell_toArray (by
    intro v hv
    simp only [List.mem_cons, List.not_mem_nil, or_false] at hv
    rcases hv with rfl | rfl | rfl | rfl | rfl | rfl | rfl | rfl <;> rfl)
theorem t2_val (a b c : W32) : (bits BinOp.xor IntKind.u32 (bits BinOp.xor IntKind.u32 ((rot a 2).toNat : Int) ((rot a 13).toNat : Int)) ((rot a 22).toNat : Int) +
      bits BinOp.xor IntKind.u32 (bits BinOp.xor IntKind.u32 (bits BinOp.and IntKind.u32 (a.toNat : Int) (b.toNat : Int)) (bits BinOp.and IntKind.u32 (a.toNat : Int) (c.toNat : Int))) (bits BinOp.and IntKind.u32 (b.toNat : Int) (c.toNat : Int))) % 4294967296 =
    (((rot a 2 ^^^ rot a 13 ^^^ rot a 22) + (a &&& b ^^^ a &&& c ^^^ b &&& c)).toNat : Int) := by
  simp only [xor_w, and_w, BitVec.toNat_add]
  omega
theorem add_m (x y : W32) : ((x.toNat : Int) + y.toNat) % 4294967296 = ((x + y).toNat : Int) := by
  rw [BitVec.toNat_add]; omega
theorem rnd_row (a b c d e f g h k x : W32) : (rnd ⟨a, b, c, d, e, f, g, h⟩ k x).cells.toArray =
    #[.int .u32 ((((t1 ⟨a, b, c, d, e, f, g, h⟩ k x).toNat : Int) + (bits BinOp.xor IntKind.u32 (bits BinOp.xor IntKind.u32 ((rot a 2).toNat : Int) ((rot a 13).toNat : Int)) ((rot a 22).toNat : Int) +
      bits BinOp.xor IntKind.u32 (bits BinOp.xor IntKind.u32 (bits BinOp.and IntKind.u32 (a.toNat : Int) (b.toNat : Int)) (bits BinOp.and IntKind.u32 (a.toNat : Int) (c.toNat : Int))) (bits BinOp.and IntKind.u32 (b.toNat : Int) (c.toNat : Int)))) % 4294967296),
      .int .u32 a.toNat, .int .u32 b.toNat, .int .u32 c.toNat, .int .u32 (((d.toNat : Int) + ((t1 ⟨a, b, c, d, e, f, g, h⟩ k x).toNat : Int)) % 4294967296), .int .u32 e.toNat, .int .u32 f.toNat, .int .u32 g.toNat] := by
  have h := t2_val a b c
  have e : ∀ p q : Int, (p + q) % 4294967296 = (p + q % 4294967296) % 4294967296 := fun p q => by omega
  rw [e _ (_ + _), h, add_m, add_m]
  rfl
set_option maxRecDepth 100000 in
set_option maxHeartbeats 1000000 in
theorem compress_any (s : S8) (l : List UInt8) (hl : l.length = 64) (g0 off cap : Nat) (w : World) (hv : Sl w 1 (.slice (some ⟨g0, off, none⟩) 64 cap) 64 (bc l)) (hT : TabK w) :
    Calls Tryd.prog 62 #[.agg s.cells.toArray, .slice (some ⟨g0, off, none⟩) 64 cap] w fun e w' => e = .returned (.agg (comp s l).cells.toArray) ∧ Below w.heap.size w w' := by
  have HS := Lib.hid (fun W (hb : Below w.heap.size w W) => schedule_any l hl g0 off cap W (hv.next hb))
  have HT := Lib.hid hT
  have Hd := Lib.hid (schC_len l)
  have Hd1 := Lib.hid (schC_one l)
  have Hat := Lib.hid (schC_at l)
  obtain ⟨E, hE⟩ : ∃ E, schC l = E := ⟨_, rfl⟩
  rw [hE] at HS Hd Hd1 Hat
  clear hv hT hl hE
  obtain ⟨C, hC⟩ : ∃ C, s.cells = C := ⟨_, rfl⟩
  have HC := Lib.hid hC
  rw [hC]
  have HCs := Lib.hid (show C.length = 8 by rw [← hC]; rfl)
  have HC1 := Lib.hid (show ∀ v ∈ C, v.oneCell' = true by rw [← hC]; exact cells_one s)
  have H2 := Lib.hid ((Blk.new w 77 C.toArray).alloc (.cells #[.int .u32 0, .int .u32 0, .int .u32 0, .int .u32 0, .int .u32 0, .int .u32 0, .int .u32 0, .int .u32 0] 77))
  have H4 := Lib.hid (Blk.new (w.alloc (.cells C.toArray 77)) 77 #[.int .u32 0, .int .u32 0, .int .u32 0, .int .u32 0, .int .u32 0, .int .u32 0, .int .u32 0, .int .u32 0])
  have Hb := Lib.hid ((below_alloc w (.cells C.toArray 77)).alloc (by simp) (.cells #[.int .u32 0, .int .u32 0, .int .u32 0, .int .u32 0, .int .u32 0, .int .u32 0, .int .u32 0, .int .u32 0] 77))
  clear hC
  go_enter Tryd.func62, Tryd.ntmps62
  go_wp2_with fail
  refine (HS.out _ Hb.out).mono ?_
  rintro e w1 ⟨rfl, hb1⟩
  have Hb1 := Lib.hid (Hb.out.trans (hb1.mono Hb.out.size))
  have H2a := Lib.hid (H2.out.below hb1 H2.out.lt)
  have H4a := Lib.hid (show Blk w1 (w.heap.size + 1) 77 #[.int .u32 0, .int .u32 0, .int .u32 0, .int .u32 0, .int .u32 0, .int .u32 0, .int .u32 0, .int .u32 0] by have := H4.out.below hb1 H4.out.lt; rwa [World.size_alloc] at this)
  have h2lt := H2a.out.lt
  have h4lt := H4a.out.lt
  clear hb1 H2 H4 Hb HS
  have HB5 := Lib.hid (Blk.new w1 83 #[.int .u32 0, .int .u32 0, .int .u32 0, .int .u32 0, .int .u32 0, .int .u32 0, .int .u32 0, .int .u32 0, .int .u32 0, .int .u32 0, .int .u32 0, .int .u32 0, .int .u32 0, .int .u32 0, .int .u32 0, .int .u32 0, .int .u32 0, .int .u32 0, .int .u32 0, .int .u32 0, .int .u32 0, .int .u32 0, .int .u32 0, .int .u32 0, .int .u32 0, .int .u32 0, .int .u32 0, .int .u32 0, .int .u32 0, .int .u32 0, .int .u32 0, .int .u32 0, .int .u32 0, .int .u32 0, .int .u32 0, .int .u32 0, .int .u32 0, .int .u32 0, .int .u32 0, .int .u32 0, .int .u32 0, .int .u32 0, .int .u32 0, .int .u32 0, .int .u32 0, .int .u32 0, .int .u32 0, .int .u32 0, .int .u32 0, .int .u32 0, .int .u32 0, .int .u32 0, .int .u32 0, .int .u32 0, .int .u32 0, .int .u32 0, .int .u32 0, .int .u32 0, .int .u32 0, .int .u32 0, .int .u32 0, .int .u32 0, .int .u32 0, .int .u32 0])
  have hf2 := ((H2a.out.alloc (.cells #[.int .u32 0, .int .u32 0, .int .u32 0, .int .u32 0, .int .u32 0, .int .u32 0, .int .u32 0, .int .u32 0, .int .u32 0, .int .u32 0, .int .u32 0, .int .u32 0, .int .u32 0, .int .u32 0, .int .u32 0, .int .u32 0, .int .u32 0, .int .u32 0, .int .u32 0, .int .u32 0, .int .u32 0, .int .u32 0, .int .u32 0, .int .u32 0, .int .u32 0, .int .u32 0, .int .u32 0, .int .u32 0, .int .u32 0, .int .u32 0, .int .u32 0, .int .u32 0, .int .u32 0, .int .u32 0, .int .u32 0, .int .u32 0, .int .u32 0, .int .u32 0, .int .u32 0, .int .u32 0, .int .u32 0, .int .u32 0, .int .u32 0, .int .u32 0, .int .u32 0, .int .u32 0, .int .u32 0, .int .u32 0, .int .u32 0, .int .u32 0, .int .u32 0, .int .u32 0, .int .u32 0, .int .u32 0, .int .u32 0, .int .u32 0, .int .u32 0, .int .u32 0, .int .u32 0, .int .u32 0, .int .u32 0, .int .u32 0, .int .u32 0, .int .u32 0] 83)).farRow (g' := w1.heap.size) (by omega) E.toArray)
  have hf4 := ((H4a.out.alloc (.cells #[.int .u32 0, .int .u32 0, .int .u32 0, .int .u32 0, .int .u32 0, .int .u32 0, .int .u32 0, .int .u32 0, .int .u32 0, .int .u32 0, .int .u32 0, .int .u32 0, .int .u32 0, .int .u32 0, .int .u32 0, .int .u32 0, .int .u32 0, .int .u32 0, .int .u32 0, .int .u32 0, .int .u32 0, .int .u32 0, .int .u32 0, .int .u32 0, .int .u32 0, .int .u32 0, .int .u32 0, .int .u32 0, .int .u32 0, .int .u32 0, .int .u32 0, .int .u32 0, .int .u32 0, .int .u32 0, .int .u32 0, .int .u32 0, .int .u32 0, .int .u32 0, .int .u32 0, .int .u32 0, .int .u32 0, .int .u32 0, .int .u32 0, .int .u32 0, .int .u32 0, .int .u32 0, .int .u32 0, .int .u32 0, .int .u32 0, .int .u32 0, .int .u32 0, .int .u32 0, .int .u32 0, .int .u32 0, .int .u32 0, .int .u32 0, .int .u32 0, .int .u32 0, .int .u32 0, .int .u32 0, .int .u32 0, .int .u32 0, .int .u32 0, .int .u32 0] 83)).farRow (g' := w1.heap.size) (by omega) E.toArray)
  have hf5 := HB5.out.setRow E.toArray
  have hfb := setRow_below (Hb1.out.alloc Hb1.out.size (.cells #[.int .u32 0, .int .u32 0, .int .u32 0, .int .u32 0, .int .u32 0, .int .u32 0, .int .u32 0, .int .u32 0, .int .u32 0, .int .u32 0, .int .u32 0, .int .u32 0, .int .u32 0, .int .u32 0, .int .u32 0, .int .u32 0, .int .u32 0, .int .u32 0, .int .u32 0, .int .u32 0, .int .u32 0, .int .u32 0, .int .u32 0, .int .u32 0, .int .u32 0, .int .u32 0, .int .u32 0, .int .u32 0, .int .u32 0, .int .u32 0, .int .u32 0, .int .u32 0, .int .u32 0, .int .u32 0, .int .u32 0, .int .u32 0, .int .u32 0, .int .u32 0, .int .u32 0, .int .u32 0, .int .u32 0, .int .u32 0, .int .u32 0, .int .u32 0, .int .u32 0, .int .u32 0, .int .u32 0, .int .u32 0, .int .u32 0, .int .u32 0, .int .u32 0, .int .u32 0, .int .u32 0, .int .u32 0, .int .u32 0, .int .u32 0, .int .u32 0, .int .u32 0, .int .u32 0, .int .u32 0, .int .u32 0, .int .u32 0, .int .u32 0, .int .u32 0] 83)) (Nat.le_trans Hb1.out.size (Nat.le_refl _)) E.toArray
  have HTb := Lib.hid (fun W (hb : Below w.heap.size w W) => HT.out.next hb)
  have hl5 : w1.heap.size < ((w1.alloc (.cells #[.int .u32 0, .int .u32 0, .int .u32 0, .int .u32 0, .int .u32 0, .int .u32 0, .int .u32 0, .int .u32 0, .int .u32 0, .int .u32 0, .int .u32 0, .int .u32 0, .int .u32 0, .int .u32 0, .int .u32 0, .int .u32 0, .int .u32 0, .int .u32 0, .int .u32 0, .int .u32 0, .int .u32 0, .int .u32 0, .int .u32 0, .int .u32 0, .int .u32 0, .int .u32 0, .int .u32 0, .int .u32 0, .int .u32 0, .int .u32 0, .int .u32 0, .int .u32 0, .int .u32 0, .int .u32 0, .int .u32 0, .int .u32 0, .int .u32 0, .int .u32 0, .int .u32 0, .int .u32 0, .int .u32 0, .int .u32 0, .int .u32 0, .int .u32 0, .int .u32 0, .int .u32 0, .int .u32 0, .int .u32 0, .int .u32 0, .int .u32 0, .int .u32 0, .int .u32 0, .int .u32 0, .int .u32 0, .int .u32 0, .int .u32 0, .int .u32 0, .int .u32 0, .int .u32 0, .int .u32 0, .int .u32 0, .int .u32 0, .int .u32 0, .int .u32 0] 83)).setRow w1.heap.size E.toArray).heap.size := by simp [World.setRow]
  obtain ⟨w2, hw2⟩ : ∃ w2, (w1.alloc (.cells #[.int .u32 0, .int .u32 0, .int .u32 0, .int .u32 0, .int .u32 0, .int .u32 0, .int .u32 0, .int .u32 0, .int .u32 0, .int .u32 0, .int .u32 0, .int .u32 0, .int .u32 0, .int .u32 0, .int .u32 0, .int .u32 0, .int .u32 0, .int .u32 0, .int .u32 0, .int .u32 0, .int .u32 0, .int .u32 0, .int .u32 0, .int .u32 0, .int .u32 0, .int .u32 0, .int .u32 0, .int .u32 0, .int .u32 0, .int .u32 0, .int .u32 0, .int .u32 0, .int .u32 0, .int .u32 0, .int .u32 0, .int .u32 0, .int .u32 0, .int .u32 0, .int .u32 0, .int .u32 0, .int .u32 0, .int .u32 0, .int .u32 0, .int .u32 0, .int .u32 0, .int .u32 0, .int .u32 0, .int .u32 0, .int .u32 0, .int .u32 0, .int .u32 0, .int .u32 0, .int .u32 0, .int .u32 0, .int .u32 0, .int .u32 0, .int .u32 0, .int .u32 0, .int .u32 0, .int .u32 0, .int .u32 0, .int .u32 0, .int .u32 0, .int .u32 0] 83)).setRow w1.heap.size E.toArray = w2 := ⟨_, rfl⟩
  rw [hw2] at hf2 hf4 hf5 hfb hl5
  have HW2 := Lib.hid hw2
  have HF2 := Lib.hid hf2
  have HF4 := Lib.hid hf4
  have HF5 := Lib.hid hf5
  have HFB := Lib.hid hfb
  have HB6 := Lib.hid (Blk.new w2 77 #[.int .u32 0, .int .u32 0, .int .u32 0, .int .u32 0, .int .u32 0, .int .u32 0, .int .u32 0, .int .u32 0])
  clear hw2 hf2 hf4 hf5 hfb HT
  go_wp2_with (first
    | (refine wpList_store_row rfl 83 _ _ rfl w1.heap.size E.toArray rfl rfl 83 _ HB5.out (by rw [List.size_toArray, Hd.out]; exact infoW64) (show 64 = E.length from Hd.out.symm) (all_oneCell_toArray Hd1.out) ?_; rw [HW2.out])
    | (refine wpList_load_row rfl 77 _ rfl w.heap.size rfl 77 C.toArray (0, 0) _ HF2.out Tryd.underlying77 rfl (by rw [List.size_toArray, HCs.out]; exact infoW8) ?_)
    | (refine wpList_store_row rfl 77 _ _ rfl w2.heap.size C.toArray rfl rfl 77 _ HB6.out (by rw [List.size_toArray, HCs.out]; exact infoW8) (show 8 = C.length from HCs.out.symm) (all_oneCell_toArray HC1.out) ?_))
  have HF6 := HB6.out.setRow C.toArray
  have HF2x := Lib.hid ((HF2.out.alloc (.cells #[.int .u32 0, .int .u32 0, .int .u32 0, .int .u32 0, .int .u32 0, .int .u32 0, .int .u32 0, .int .u32 0] 77)).farRow (g' := w2.heap.size) (by have := HF2.out.lt; omega) C.toArray)
  have HF4x := Lib.hid ((HF4.out.alloc (.cells #[.int .u32 0, .int .u32 0, .int .u32 0, .int .u32 0, .int .u32 0, .int .u32 0, .int .u32 0, .int .u32 0] 77)).farRow (g' := w2.heap.size) (by have := HF4.out.lt; omega) C.toArray)
  have HF5x := Lib.hid ((HF5.out.alloc (.cells #[.int .u32 0, .int .u32 0, .int .u32 0, .int .u32 0, .int .u32 0, .int .u32 0, .int .u32 0, .int .u32 0] 77)).farRow (g' := w2.heap.size) (by have := HF5.out.lt; omega) C.toArray)
  have HFBx := Lib.hid (setRow_below (HFB.out.alloc HFB.out.size (.cells #[.int .u32 0, .int .u32 0, .int .u32 0, .int .u32 0, .int .u32 0, .int .u32 0, .int .u32 0, .int .u32 0] 77)) HFB.out.size C.toArray)
  have h24 : w.heap.size < w1.heap.size := h2lt
  have h45 : w.heap.size + 1 < w1.heap.size := h4lt
  have h56 : w1.heap.size < w2.heap.size := hl5
  obtain ⟨w3, hw3⟩ : ∃ w3, (w2.alloc (.cells #[.int .u32 0, .int .u32 0, .int .u32 0, .int .u32 0, .int .u32 0, .int .u32 0, .int .u32 0, .int .u32 0] 77)).setRow w2.heap.size C.toArray = w3 := ⟨_, rfl⟩
  obtain ⟨Z, hZ⟩ : ∃ Z : Array Value, #[.int .u32 0, .int .u32 0, .int .u32 0, .int .u32 0, .int .u32 0, .int .u32 0, .int .u32 0, .int .u32 0] = Z := ⟨_, rfl⟩
  have HZ := Lib.hid (show Z.size = 8 by rw [← hZ]; rfl)
  obtain ⟨g6, hg6⟩ : ∃ g6, w2.heap.size = g6 := ⟨_, rfl⟩
  obtain ⟨g5, hg5⟩ : ∃ g5, w1.heap.size = g5 := ⟨_, rfl⟩
  obtain ⟨g2, hg2⟩ : ∃ g2, w.heap.size = g2 := ⟨_, rfl⟩
  rw [hw3] at HF6 HF2x HF4x HF5x HFBx ⊢
  rw [hZ] at HF4x
  rw [hg6] at HF6 h56 ⊢
  rw [hg5] at HF5x h24 h45 h56 ⊢
  rw [hg2] at HF2x HF4x HFBx h24 h45 ⊢
  have HF6x := Lib.hid HF6
  have Hg2 := Lib.hid hg2
  clear HF6 hw3 hZ hg6 hg5 hg2 HB6 HB5 HF2 HF4 HF5 HFB HW2 H2a H4a Hb1 h2lt h4lt hl5
  go_loopw [22] (fun i wr => ∃ (k : Nat), k ≤ 64 ∧ i = .int .i64 k ∧ Blk wr g6 77 (rds l s k).cells.toArray ∧ Blk wr g5 83 E.toArray ∧ Blk wr g2 77 C.toArray ∧ Blk wr (g2 + 1) 77 Z ∧ Below g2 w wr) (fun i _ => 64 - (intOf i).toNat)
  case atStart => exact ⟨0, by omega, rfl, by rw [rds, HC.out]; exact HF6x.out, HF5x.out, HF2x.out, HF4x.out, HFBx.out⟩
  case round =>
    clear HF2x HF4x HF5x HF6x HFBx
    obtain ⟨k, hk, rfl, h6, h5, h2, h4, hb⟩ := hrel
    have H6 := Lib.hid h6
    have H5 := Lib.hid h5
    have H2 := Lib.hid h2
    have H4 := Lib.hid h4
    have Hb := Lib.hid hb
    clear h6 h5 h2 h4 hb
    by_cases hlt : k < 64
    · have hrd := Lib.hid (show rds l s (k + 1) = rnd (rds l s k) (kW k) (schW l k) from rfl)
      obtain ⟨⟨c0, c1, c2, c3⟩, c4, c5, c6, c7⟩ := rds_tail H6.out
      have cE : wr.cell? ⟨g5, k, none⟩ = some (.int .u32 ((schW l k).toNat : Int)) := by rw [H5.out.cell, List.getElem?_toArray, Hat.out k hlt]; rfl
      have cK := HTb.out wr (by rw [Hg2.out]; exact Hb.out) k hlt
      obtain ⟨x, hx⟩ : ∃ x, schW l k = x := ⟨_, rfl⟩
      obtain ⟨kk, hkk⟩ : ∃ kk, kW k = kk := ⟨_, rfl⟩
      obtain ⟨r, hr⟩ : ∃ r, rds l s k = r := ⟨_, rfl⟩
      rw [hx] at cE hrd
      rw [hkk] at cK hrd
      rw [hr] at c0 c1 c2 c3 c4 c5 c6 c7 hrd H6
      obtain ⟨a, b, c, d, e, f, g, hh⟩ := r
      unfold wv at c0 c1 c2 c3 c4 c5 c6 c7
      simp only [] at c0 c1 c2 c3 c4 c5 c6 c7
      clear hx hkk hr
      have i1 : (0 : Int) ≤ (k : Int) := by omega
      have i2 : (k : Int) < 64 := by omega
      go_wp2_with fail
      go_quiet (fail)
      clear c0 c1 c2 c3 c4 c5 c6 c7
      have H6q := Lib.hid (H6.out.drewN nq)
      have H5q := Lib.hid (H5.out.drewN nq)
      have H2q := Lib.hid (H2.out.drewN nq)
      have H4q := Lib.hid (H4.out.drewN nq)
      have Hbq := Lib.hid (blw_drewN Hb.out nq)
      have cEq : (wr.drewN nq).cell? ⟨g5, k, none⟩ = some (.int .u32 (x.toNat : Int)) := by simpa using cE
      have cKq : (wr.drewN nq).cell? ⟨1, k, none⟩ = some (.int .u32 (kk.toNat : Int)) := by simpa using cK
      obtain ⟨wq, hwq⟩ : ∃ wq, wr.drewN nq = wq := ⟨_, rfl⟩
      rw [hwq] at H6q H5q H2q H4q Hbq cEq cKq ⊢
      clear hwq H6 H5 H2 H4 Hb cE cK
      have R6 := Lib.hid (fun W => rotq_any e 6 (by omega) (by omega) W)
      have R11 := Lib.hid (fun W => rotq_any e 11 (by omega) (by omega) W)
      have R25 := Lib.hid (fun W => rotq_any e 25 (by omega) (by omega) W)
      go_wp2_with fail
      go_quiet (first
        | (go_at_call 68; with_reducible exact Calls.quiet_of_same (R6.out _))
        | (go_at_call 68; with_reducible exact Calls.quiet_of_same (R11.out _))
        | (go_at_call 68; with_reducible exact Calls.quiet_of_same (R25.out _)))
      rw [t1_val a b c d e f g hh kk x]
      clear R6 R11 R25 cEq cKq
      have hT1 := Lib.hid (show t1 ⟨a, b, c, d, e, f, g, hh⟩ kk x = t1 ⟨a, b, c, d, e, f, g, hh⟩ kk x from rfl)
      obtain ⟨T, hT⟩ : ∃ T, t1 ⟨a, b, c, d, e, f, g, hh⟩ kk x = T := ⟨_, rfl⟩
      rw [hT]
      have HT := Lib.hid hT
      clear hT hT1
      have H6r := Lib.hid (H6q.out.drewN nq)
      have H5r := Lib.hid (H5q.out.drewN nq)
      have H2r := Lib.hid (H2q.out.drewN nq)
      have H4r := Lib.hid (H4q.out.drewN nq)
      have Hbr := Lib.hid (blw_drewN Hbq.out nq)
      obtain ⟨wp, hwp⟩ : ∃ wp, wq.drewN nq = wp := ⟨_, rfl⟩
      rw [hwp] at H6r H5r H2r H4r Hbr ⊢
      clear hwp H6q H5q H2q H4q Hbq
      have R2 := Lib.hid (fun W => rotate_any a 2 (by omega) (by omega) W)
      have R13 := Lib.hid (fun W => rotate_any a 13 (by omega) (by omega) W)
      have R22 := Lib.hid (fun W => rotate_any a 22 (by omega) (by omega) W)
      unfold wv at R2 R13 R22
      go_wp2_with (first
        | (go_at_call 68; with_reducible refine Calls.mono (R2.out _) ?_; rintro _ _ ⟨rfl, rfl⟩)
        | (go_at_call 68; with_reducible refine Calls.mono (R13.out _) ?_; rintro _ _ ⟨rfl, rfl⟩)
        | (go_at_call 68; with_reducible refine Calls.mono (R22.out _) ?_; rintro _ _ ⟨rfl, rfl⟩)
        | (refine wpList_store_row rfl 77 _ _ rfl g6 _ rfl rfl 77 _ H6r.out infoW8 rfl (eight_one _ _ _ _ _ _ _ _) ?_))
      go_roundw
      case rel =>
        refine ⟨k + 1, by omega, by go_num, ?_, H5r.out.farRow (by omega) _, H2r.out.farRow (by omega) _, H4r.out.farRow (by omega) _, setRow_below Hbr.out (by omega) _⟩
        rw [hrd.out, rnd_row a b c d e f g hh kk x, HT.out]
        exact H6r.out.setRow _
      case measure => simp [intOf]; omega
    · have hk64 : k = 64 := by omega
      subst hk64
      obtain ⟨r, hr⟩ : ∃ r, rds l s 64 = r := ⟨_, rfl⟩
      rw [hr] at H6
      have Hr := Lib.hid hr
      clear hr hlt hk
      go_wp2_with fail
      obtain ⟨wx, hwx⟩ : ∃ wx, wr = wx := ⟨_, rfl⟩
      rw [hwx] at H6 H2 H4 Hb ⊢
      clear hwx H5
      go_loopw [102] (fun i wr => ∃ (k : Nat) (cs : Array Value), k ≤ 8 ∧ i = .int .i64 k ∧ cs.size = 8 ∧ (∀ j, j < 8 → cs[j]? = some (wv (if j < k then s.ws.getD j 0 + r.ws.getD j 0 else s.ws.getD j 0))) ∧ Blk wr g2 77 cs ∧ Blk wr g6 77 r.cells.toArray ∧ Blk wr (g2 + 1) 77 Z ∧ Below g2 w wr) (fun i _ => 8 - (intOf i).toNat)
      case atStart => exact ⟨0, C.toArray, by omega, rfl, HCs.out, fun j h => by rw [if_neg (by omega), ← HC.out, List.getElem?_toArray, s.cells_at j h], H2.out, H6.out, H4.out, Hb.out⟩
      case round =>
        clear H2 H6 H4 Hb
        obtain ⟨k, cs, hk, rfl, hsz, hall, h2, h6, h4, hb⟩ := hrel
        have Hall := Lib.hid hall
        have Hsz := Lib.hid hsz
        have H6 := Lib.hid h6
        have H2 := Lib.hid h2
        have H4 := Lib.hid h4
        have Hb := Lib.hid hb
        clear h6 h2 h4 hb hall
        by_cases hlt : k < 8
        · have cs0 : wr.cell? ⟨g2, k, none⟩ = some (.int .u32 ((s.ws.getD k 0).toNat : Int)) := by rw [H2.out.cell, Hall.out k hlt, if_neg (by omega)]; rfl
          have cr0 : wr.cell? ⟨g6, k, none⟩ = some (.int .u32 ((r.ws.getD k 0).toNat : Int)) := by rw [H6.out.cell, List.getElem?_toArray, r.cells_at k hlt]; rfl
          have hf0 := H2.out.frozen k
          obtain ⟨x, hx⟩ : ∃ x, s.ws.getD k 0 = x := ⟨_, rfl⟩
          obtain ⟨y, hy⟩ : ∃ y, r.ws.getD k 0 = y := ⟨_, rfl⟩
          rw [hx] at cs0
          rw [hy] at cr0
          have Hxy := Lib.hid (show s.ws.getD k 0 = x ∧ r.ws.getD k 0 = y from ⟨hx, hy⟩)
          have i1 : (0 : Int) ≤ (k : Int) := by omega
          have i2 : (k : Int) < 8 := by omega
          clear hx hy hsz
          go_wp2_with fail
          go_region
          go_wp2_with fail
          go_roundw
          case rel =>
            refine ⟨k + 1, cs.setIfInBounds k (.int .u32 (((x.toNat : Int) + y.toNat) % 4294967296)), by omega, by go_num, by simp [Hsz.out], fun j hj => ?_, (H2.out.set_ _ _).drew, (H6.out.far (by show g6 ≠ g2; omega) _).drew, (H4.out.far (by show g2 + 1 ≠ g2; omega) _).drew, (Hb.out.setCell (Nat.le_refl _) _).drew⟩
            rw [Array.getElem?_setIfInBounds]
            by_cases h1 : j = k
            · subst h1; rw [if_pos rfl, if_pos (by have := Hsz.out; omega), if_pos (by omega), Hxy.out.1, Hxy.out.2, add_m]; rfl
            · rw [if_neg (fun e => h1 e.symm), Hall.out j hj]
              by_cases h2 : j < k
              · rw [if_pos h2, if_pos (by omega)]
              · rw [if_neg h2, if_neg (by omega)]
          case measure => simp [intOf]; omega
        · have hk8 : k = 8 := by omega
          subst hk8
          have hcs : cs = (comp s l).cells.toArray := by
            apply Array.ext_getElem?
            intro j
            rcases Nat.lt_or_ge j 8 with h | h
            · rw [Hall.out j h, if_pos h, List.getElem?_toArray, comp, Hr.out, add8_at s r j h]
            · rw [Array.getElem?_eq_none (by omega), Array.getElem?_eq_none (by show 8 ≤ j; omega)]
          rw [hcs] at H2
          have Hd1 := Lib.hid (cells_one (comp s l))
          have Hds := Lib.hid (show (comp s l).cells.length = 8 from rfl)
          clear Hall Hsz hsz hcs Hd
          obtain ⟨D, hD⟩ : ∃ D, (comp s l).cells = D := ⟨_, rfl⟩
          rw [hD] at H2 Hd1 Hds
          have HD := Lib.hid hD
          clear hD
          go_wp2_with (first
            | (refine wpList_load_row rfl 77 _ rfl g2 rfl 77 D.toArray (0, 0) _ H2.out Tryd.underlying77 rfl (by rw [List.size_toArray, Hds.out]; exact infoW8) ?_)
            | (refine wpList_store_row rfl 77 _ _ rfl (g2 + 1) D.toArray rfl rfl 77 _ H4.out (by rw [List.size_toArray, Hds.out]; exact infoW8) (show Z.size = D.length by rw [HZ.out, Hds.out]) (all_oneCell_toArray Hd1.out) ?_))
          refine bodyPost_ret (v := .agg D.toArray) (results_cell_row rfl _ _ (g2 + 1) 77 D.toArray (0, 0) _ rfl (H4.out.setRow D.toArray) Tryd.underlying77 rfl (by rw [List.size_toArray, Hds.out]; exact infoW8)) rfl ?_
          exact ⟨by rw [HD.out], by rw [Hg2.out]; exact setRow_below Hb.out (by omega) _⟩
end Go.Proofs.YtiloaheaglcpbaaDoor
