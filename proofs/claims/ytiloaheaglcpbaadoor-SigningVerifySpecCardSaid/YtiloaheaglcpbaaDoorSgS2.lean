/- SHA-256: the small functions. -/
import Derived.Test.YtiloaheaglcpbaaDoorSgE
import Derived.Test.YtiloaheaglcpbaaDoorSgS1
namespace Go.Proofs.YtiloaheaglcpbaaDoor
open Go.RowKit

theorem rotl_any (x : W32) (n : Nat) (h1 : 1 ≤ n) (h2 : n < 32) (w : World) :
    Calls Tryd.prog 74 #[wv x, .int .i64 (-(n : Int))] w fun e w' => e = .returned (wv (rot x n)) ∧ w = w' := by
  unfold wv
  have hk := neg_and31 n h2 h1
  have hx := x.isLt
  go_enter Tryd.func74, Tryd.ntmps74
  go_wp2_with fail
  go_ret
  refine ⟨ret_int ?_, rfl⟩
  show bits BinOp.or IntKind.u32 ((x.toNat : Int) * 2 ^ (32 - n) % 4294967296) ((x.toNat : Int) / 2 ^ (32 - (32 - n))) = _
  rw [← wrap_u32, shl_w, shr_w, or_w, show 32 - (32 - n) = n by omega]
  rfl
theorem rotate_any (x : W32) (n : Nat) (h1 : 1 ≤ n) (h2 : n < 32) (w : World) :
    Calls Tryd.prog 68 #[wv x, .int .i64 (n : Int)] w fun e w' => e = .returned (wv (rot x n)) ∧ w = w' := by
  have HR := Lib.hid (rotl_any x n h1 h2 w)
  unfold wv at HR ⊢
  go_enter Tryd.func68, Tryd.ntmps68
  go_wp2_with fail
  refine HR.out.mono ?_
  rintro e w' ⟨rfl, rfl⟩
  go_wp2_with fail
  go_ret
  exact ⟨rfl, rfl⟩
theorem byte_w {b : Nat} (h : b < 256) : (b : Int) * (16777216 : Int) = ((BitVec.ofNat 32 b <<< 24).toNat : Int) ∧ (b : Int) * (65536 : Int) = ((BitVec.ofNat 32 b <<< 16).toNat : Int) ∧ (b : Int) * (256 : Int) = ((BitVec.ofNat 32 b <<< 8).toNat : Int) ∧ (b : Int) = ((BitVec.ofNat 32 b).toNat : Int) := by
  simp only [BitVec.toNat_shiftLeft, BitVec.toNat_ofNat, Nat.shiftLeft_eq, Nat.reducePow]
  omega
theorem word_any (l : List UInt8) (n : Nat) (hn : l.length = n) (h4 : 4 ≤ n) (a : Option Addr) (cap : Nat) (w : World) (hv : Sl w 1 (.slice a n cap) n (bc l)) :
    Calls Tryd.prog 73 #[.slice a n cap] w fun e w' => e = .returned (wv (wordAt l 0)) ∧ ∃ n, w' = w.drewN n := by
  unfold wv
  obtain ⟨g, off, rfl, hc, hat⟩ := hv.pos (by omega)
  have c0 := hat 0 _ (bt_cell (d := l) (k := 0) (by omega))
  rw [Nat.add_zero] at c0
  have c1 := hat 1 _ (bt_cell (d := l) (k := 1) (by omega))
  have c2 := hat 2 _ (bt_cell (d := l) (k := 2) (by omega))
  have c3 := hat 3 _ (bt_cell (d := l) (k := 3) (by omega))
  have b0 := bt_lt l 0
  have b1 := bt_lt l 1
  have b2 := bt_lt l 2
  have b3 := bt_lt l 3
  have l0 : (0 : Int) < (n : Int) := by omega
  have l1 : (1 : Int) < (n : Int) := by omega
  have l2 : (2 : Int) < (n : Int) := by omega
  have l3 : (3 : Int) < (n : Int) := by omega
  clear hv hat
  go_enter Tryd.func73, Tryd.ntmps73
  go_wp2_with fail
  go_quiet (fail)
  go_wp2_with fail
  go_ret
  refine ⟨ret_int ?_, _, rfl⟩
  show bits BinOp.or IntKind.u32 (bits BinOp.or IntKind.u32 (bits BinOp.or IntKind.u32 ((bt l 0 : Int) * 16777216) ((bt l 1 : Int) * 65536)) ((bt l 2 : Int) * 256)) (bt l 3 : Int) = _
  rw [(byte_w b0).1, (byte_w b1).2.1, (byte_w b2).2.2.1, (byte_w b3).2.2.2, or_w, or_w, or_w]
  rfl
def put4 (cs : Array Value) (off : Nat) (x : W32) : Array Value :=
  (((cs.setIfInBounds off (.int .u8 ((x >>> 24).toNat % 256 : Nat))).setIfInBounds (off + 1) (.int .u8 ((x >>> 16).toNat % 256 : Nat))).setIfInBounds (off + 2) (.int .u8 ((x >>> 8).toNat % 256 : Nat))).setIfInBounds (off + 3) (.int .u8 (x.toNat % 256 : Nat))
theorem put_w (x : W32) : (((x >>> 24).toNat % 256 : Nat) : Int) = (x.toNat : Int) / 16777216 ∧ (((x >>> 16).toNat % 256 : Nat) : Int) = (x.toNat : Int) / 65536 % 256 ∧ (((x >>> 8).toNat % 256 : Nat) : Int) = (x.toNat : Int) / 256 % 256 ∧ ((x.toNat % 256 : Nat) : Int) = (x.toNat : Int) % 256 := by
  have := x.isLt
  simp only [BitVec.toNat_ushiftRight, Nat.shiftRight_eq_div_pow, Nat.reducePow]
  omega
theorem putWord_any (x : W32) (g off n cap : Nat) (t : TypeId) (cs : Array Value) (h4 : 4 ≤ n) (hcs : off + 4 ≤ cs.size) (w : World) (hB : Blk w g t cs) :
    Calls Tryd.prog 64 #[.slice (some ⟨g, off, none⟩) n cap, wv x] w fun e w' => (∃ v, e = .returned v) ∧ Blk w' g t (put4 cs off x) ∧ Upd (fun k => k = g) w w' := by
  unfold wv
  obtain ⟨u0, c0⟩ : ∃ u, w.cell? ⟨g, off, none⟩ = some u := ⟨cs[off], by rw [hB.cell]; simp⟩
  obtain ⟨u1, c1⟩ : ∃ u, w.cell? ⟨g, off + 1, none⟩ = some u := ⟨cs[off + 1], by rw [hB.cell]; simp⟩
  obtain ⟨u2, c2⟩ : ∃ u, w.cell? ⟨g, off + 2, none⟩ = some u := ⟨cs[off + 2], by rw [hB.cell]; simp⟩
  obtain ⟨u3, c3⟩ : ∃ u, w.cell? ⟨g, off + 3, none⟩ = some u := ⟨cs[off + 3], by rw [hB.cell]; simp⟩
  have f0 := hB.frozen off
  have f1 := hB.frozen (off + 1)
  have f2 := hB.frozen (off + 2)
  have f3 := hB.frozen (off + 3)
  have hx := x.isLt
  have l0 : (0 : Int) < (n : Int) := by omega
  have l1 : (1 : Int) < (n : Int) := by omega
  have l2 : (2 : Int) < (n : Int) := by omega
  have l3 : (3 : Int) < (n : Int) := by omega
  have HB := Lib.hid hB
  clear hB
  go_enter Tryd.func64, Tryd.ntmps64
  go_wp2_with fail
  go_end0
  refine ⟨⟨_, rfl⟩, ?_, ?_⟩
  · have e := put_w x
    rw [put4, e.1, e.2.1, e.2.2.1, e.2.2.2]
    exact (((HB.out.set_ off _).set_ (off + 1) _).set_ (off + 2) _).set_ (off + 3) _
  · exact ((((Upd.refl (fun k => k = g) w).setCell (p := ⟨g, off, none⟩) (.inl rfl) _).setCell (p := ⟨g, off + 1, none⟩) (.inl rfl) _).setCell (p := ⟨g, off + 2, none⟩) (.inl rfl) _).setCell (p := ⟨g, off + 3, none⟩) (.inl rfl) _
end Go.Proofs.YtiloaheaglcpbaaDoor
