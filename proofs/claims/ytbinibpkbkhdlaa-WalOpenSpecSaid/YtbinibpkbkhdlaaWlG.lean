/- Wal: which sectors are good. -/
import Derived.Test.YtbinibpkbkhdlaaWlF
namespace Go.Proofs.Ytbinibpkbkhdlaa
open Go.RowKit

/-- a part of a slice of bytes -/
theorem sl_sub {w : World} {g off n cap A B : Nat} {s : List UInt8} (h : Sl w 1 (.slice (some ⟨g, off, none⟩) n cap) n (bc s)) (hAB : A ≤ B) (_hB : B ≤ n) (m c : Nat) (hm : m = B - A) (hc : m ≤ c) :
    Sl w 1 (.slice (some ⟨g, off + A, none⟩) m c) m (bc ((s.take B).drop A)) := by
  obtain ⟨hl, _, _, he, _, hr⟩ := h
  cases he
  rw [bc_len, Nat.mul_one] at hl
  subst hm
  refine ⟨by rw [bc_len]; simp; omega, _, _, rfl, hc, ?_⟩
  rcases hr with h0 | ⟨g', off', h1, h2⟩
  · left; omega
  · cases h1
    refine .inr ⟨g, off + A, rfl, fun j u hu => ?_⟩
    have hj : j < B - A := by
      rcases Nat.lt_or_ge j (B - A) with h | h
      · exact h
      · rw [List.getElem?_eq_none (by rw [bc_len]; simp; omega)] at hu; cases hu
    rw [Nat.add_assoc]
    refine h2 (A + j) u ?_
    rw [← hu]
    simp only [bc, List.getElem?_map, List.getElem?_drop]
    rw [List.getElem?_take_of_lt (by omega)]
theorem num4_sub (s : List UInt8) (A B : Nat) (h : A + 4 ≤ B) (_hB : B ≤ s.length) : num4 ((s.take B).drop A) 0 = num4 s A := by
  have e : ∀ i, i < 4 → bt ((s.take B).drop A) i = bt s (A + i) := fun i hi => by
    unfold bt
    rw [List.getD_eq_getElem?_getD, List.getD_eq_getElem?_getD, List.getElem?_drop, List.getElem?_take_of_lt (by omega)]
  unfold num4
  rw [e 0 (by omega), e (0 + 1) (by omega), e (0 + 2) (by omega), e (0 + 3) (by omega)]
  rfl
theorem take_all (s : List UInt8) (h : s.length = 128) : s.take 128 = s := List.take_of_length_le (by omega)
/-- a sector that is good for a number -/
def Gd (s : List UInt8) (k : Nat) : Prop :=
  num4 s 0 ≠ 0#32 ∧ num4 s 0 = num4 s 124 ∧ bt s 8 * 256 + bt s 9 = k ∧ bt s 10 ≤ 3 ∧ bt s 11 ≤ 112 ∧ (bt s 10 % 4 < 2 → bt s 11 = 112) ∧ (bt s 10 % 2 = 0 → 1 ≤ bt s 11) ∧ (∀ i, i < 124 → 12 + bt s 11 ≤ i → bt s i = 0) ∧ num4 s 4 = crc ((s.take 124).drop 8)
instance (s : List UInt8) (k : Nat) : Decidable (Gd s k) := by unfold Gd; infer_instance
def gdB (s : List UInt8) (k : Nat) : Bool := decide (Gd s k)
theorem or_place (a b : Nat) (ha : a < 256) (hb : b < 256) : bits BinOp.or IntKind.i64 ((a : Int) * 256) (b : Int) = ((a * 256 + b : Nat) : Int) := by
  have h : (a * 256 ||| b) = a * 256 + b := by
    have := Nat.shiftLeft_add_eq_or_of_lt (i := 8) (b := b) (by omega) a
    rw [Nat.shiftLeft_eq] at this
    exact this.symm
  unfold bits
  have e1 : BitVec.ofInt IntKind.i64.bits ((a : Int) * 256) = BitVec.ofNat 64 (a * 256) := by
    show BitVec.ofInt 64 _ = _
    rw [show ((a : Int) * 256) = ((a * 256 : Nat) : Int) by omega, BitVec.ofInt_natCast]
  have e2 : BitVec.ofInt IntKind.i64.bits (b : Int) = BitVec.ofNat 64 b := by
    show BitVec.ofInt 64 _ = _
    rw [BitVec.ofInt_natCast]
  simp only [e1, e2]
  show IntKind.i64.wrap ((BitVec.ofNat 64 (a * 256) ||| BitVec.ofNat 64 b).toNat : Int) = _
  rw [BitVec.toNat_or, BitVec.toNat_ofNat, BitVec.toNat_ofNat, Nat.mod_eq_of_lt (by omega), Nat.mod_eq_of_lt (by omega), h, IntKind.wrap_i64]
  omega
theorem flag_and (f : Nat) (h : f ≤ 3) : bits BinOp.and IntKind.u8 (f : Int) 2 = (if f % 4 < 2 then 0 else 2) ∧ bits BinOp.and IntKind.u8 (f : Int) 1 = (if f % 2 = 0 then 0 else 1) := by
  rcases (show f = 0 ∨ f = 1 ∨ f = 2 ∨ f = 3 by omega) with rfl | rfl | rfl | rfl <;> decide +kernel
end Go.Proofs.Ytbinibpkbkhdlaa
