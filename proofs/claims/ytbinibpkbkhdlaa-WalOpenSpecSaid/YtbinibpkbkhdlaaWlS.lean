/- Wal: words of 32 bits, the checksum as a plain function. No program. -/
import Derived.WalkKit
import Derived.KernelRfl
import Derived.IntWalk
import Derived.Lib.Hide
namespace Go.Proofs.Ytbinibpkbkhdlaa
open Go.RowKit

abbrev W32 := BitVec 32
def wv (x : W32) : Value := .int .u32 (x.toNat : Int)
theorem wrap_u32 (z : Int) : IntKind.u32.wrap z = z % 4294967296 := by
  exact IntKind.wrap_u32 z
theorem add_w (x y : W32) : IntKind.u32.wrap ((x.toNat : Int) + y.toNat) = ((x + y).toNat : Int) := by
  rw [wrap_u32, BitVec.toNat_add]; omega
theorem shl_w (x : W32) (m : Nat) : IntKind.u32.wrap ((x.toNat : Int) * 2 ^ m) = ((x <<< m).toNat : Int) := by
  rw [wrap_u32, BitVec.toNat_shiftLeft, Nat.shiftLeft_eq, Int.natCast_emod, Int.natCast_mul, Int.natCast_pow]
  rfl
theorem shr_w (x : W32) (m : Nat) : (x.toNat : Int) / 2 ^ m = ((x >>> m).toNat : Int) := by
  rw [BitVec.toNat_ushiftRight, Nat.shiftRight_eq_div_pow, Int.natCast_ediv, Int.natCast_pow]
  rfl
theorem ofInt_w (x : W32) : BitVec.ofInt IntKind.u32.bits (x.toNat : Int) = x := by
  show BitVec.ofInt 32 (x.toNat : Int) = x
  rw [BitVec.ofInt_natCast, BitVec.ofNat_toNat, BitVec.setWidth_eq]
theorem wrap_w (x : W32) : IntKind.u32.wrap (x.toNat : Int) = (x.toNat : Int) := by
  rw [wrap_u32]; have := x.isLt; omega
theorem or_w (x y : W32) : bits BinOp.or IntKind.u32 (x.toNat : Int) (y.toNat : Int) = ((x ||| y).toNat : Int) := by
  unfold bits
  simp only [ofInt_w]
  exact wrap_w _
theorem and_w (x y : W32) : bits BinOp.and IntKind.u32 (x.toNat : Int) (y.toNat : Int) = ((x &&& y).toNat : Int) := by
  unfold bits
  simp only [ofInt_w]
  exact wrap_w _
theorem xor_w (x y : W32) : bits BinOp.xor IntKind.u32 (x.toNat : Int) (y.toNat : Int) = ((x ^^^ y).toNat : Int) := by
  unfold bits
  simp only [ofInt_w]
  exact wrap_w _
def crcStep (n : W32) : W32 := if n.getLsbD 0 then (n >>> 1) ^^^ 3988292384#32 else n >>> 1
def crc8 (n : W32) : Nat → W32
  | 0 => n
  | k + 1 => crcStep (crc8 n k)
def crcByte (n : W32) (b : UInt8) : W32 := crc8 (n ^^^ BitVec.ofNat 32 b.toNat) 8
def crcL (n : W32) (l : List UInt8) : W32 := l.foldl crcByte n
def crc (l : List UInt8) : W32 := crcL 4294967295#32 l ^^^ 4294967295#32
theorem crcStep_xor (x y : W32) : crcStep (x ^^^ y) = crcStep x ^^^ crcStep y := by
  unfold crcStep
  rw [BitVec.getLsbD_xor, BitVec.ushiftRight_xor_distrib]
  cases x.getLsbD 0 <;> cases y.getLsbD 0
  · rfl
  · show x >>> 1 ^^^ y >>> 1 ^^^ _ = x >>> 1 ^^^ (y >>> 1 ^^^ _)
    rw [BitVec.xor_assoc]
  · show x >>> 1 ^^^ y >>> 1 ^^^ _ = x >>> 1 ^^^ _ ^^^ y >>> 1
    rw [BitVec.xor_assoc, BitVec.xor_assoc, BitVec.xor_comm (y >>> 1)]
  · show x >>> 1 ^^^ y >>> 1 = (x >>> 1 ^^^ 3988292384#32) ^^^ (y >>> 1 ^^^ 3988292384#32)
    rw [BitVec.xor_comm (y >>> 1), BitVec.xor_assoc (x >>> 1), ← BitVec.xor_assoc _ _ (y >>> 1), BitVec.xor_self, BitVec.zero_xor]
theorem crc8_xor (x y : W32) : ∀ k, crc8 (x ^^^ y) k = crc8 x k ^^^ crc8 y k
  | 0 => rfl
  | k + 1 => by rw [crc8, crc8_xor x y k, crcStep_xor]; rfl
theorem xor3 (a b c : UInt8) : BitVec.ofNat 32 (a ^^^ b ^^^ c).toNat = BitVec.ofNat 32 a.toNat ^^^ BitVec.ofNat 32 b.toNat ^^^ BitVec.ofNat 32 c.toNat := by
  apply BitVec.eq_of_toNat_eq
  simp only [BitVec.toNat_xor, BitVec.toNat_ofNat, UInt8.toNat_xor]
  have h1 := a.toNat_lt; have h2 := b.toNat_lt; have h3 := c.toNat_lt
  rw [Nat.mod_eq_of_lt (by omega : a.toNat < 2^32), Nat.mod_eq_of_lt (by omega : b.toNat < 2^32), Nat.mod_eq_of_lt (by omega : c.toNat < 2^32)]
  apply Nat.mod_eq_of_lt
  have : a.toNat ^^^ b.toNat ^^^ c.toNat < 2^8 := Nat.xor_lt_two_pow (Nat.xor_lt_two_pow h1 h2) h3
  omega
theorem x6 (a b c x y z : W32) : a ^^^ b ^^^ c ^^^ (x ^^^ y ^^^ z) = (a ^^^ x) ^^^ (b ^^^ y) ^^^ (c ^^^ z) := by
  ac_rfl
theorem crcByte_xor (x y z : W32) (a b c : UInt8) : crcByte (x ^^^ y ^^^ z) (a ^^^ b ^^^ c) = crcByte x a ^^^ crcByte y b ^^^ crcByte z c := by
  unfold crcByte
  rw [xor3, x6, crc8_xor, crc8_xor]
/-- three lists of one length, xored -/
def xl : List UInt8 → List UInt8 → List UInt8 → List UInt8
  | a :: l, b :: m, c :: n => (a ^^^ b ^^^ c) :: xl l m n
  | _, _, _ => []
theorem crcL_xor : ∀ (l m n : List UInt8) (x y z : W32), l.length = m.length → m.length = n.length → crcL (x ^^^ y ^^^ z) (xl l m n) = crcL x l ^^^ crcL y m ^^^ crcL z n
  | [], [], [], x, y, z, _, _ => rfl
  | a :: l, b :: m, c :: n, x, y, z, h1, h2 => by
    show crcL (crcByte (x ^^^ y ^^^ z) (a ^^^ b ^^^ c)) (xl l m n) = crcL (crcByte x a) l ^^^ crcL (crcByte y b) m ^^^ crcL (crcByte z c) n
    rw [crcByte_xor]
    exact crcL_xor l m n _ _ _ (by simpa using h1) (by simpa using h2)
theorem crc_xor (l m n : List UInt8) (h1 : l.length = m.length) (h2 : m.length = n.length) : crc (xl l m n) = crc l ^^^ crc m ^^^ crc n := by
  unfold crc
  have e : (4294967295#32 : W32) = 4294967295#32 ^^^ 4294967295#32 ^^^ 4294967295#32 := by decide
  have := crcL_xor l m n 4294967295#32 4294967295#32 4294967295#32 h1 h2
  rw [← e] at this
  rw [this, ← x6]
  congr 1
theorem crcL_snoc (n : W32) (l : List UInt8) (b : UInt8) : crcL n (l ++ [b]) = crcByte (crcL n l) b := by simp [crcL, List.foldl_append]
theorem low_w (x : W32) : bits BinOp.and IntKind.u32 (x.toNat : Int) 1 = if x.getLsbD 0 then 1 else 0 := by
  have h := and_w x 1#32
  rw [show ((1#32 : W32).toNat : Int) = 1 from rfl] at h
  rw [h]
  have h2 : (x &&& 1#32).toNat = x.toNat % 2 := by
    rw [BitVec.toNat_and, show (1#32 : W32).toNat = 2 ^ 1 - 1 from rfl, Nat.and_two_pow_sub_one_eq_mod]
  rw [h2]
  have h3 : x.getLsbD 0 = decide (x.toNat % 2 = 1) := by
    rw [BitVec.getLsbD, Nat.testBit_zero]
  rw [h3]
  rcases Nat.mod_two_eq_zero_or_one x.toNat with h | h <;> rw [h] <;> rfl
theorem not_w (x : W32) : bits BinOp.xor IntKind.u32 (x.toNat : Int) 4294967295 = ((x ^^^ 4294967295#32).toNat : Int) := by
  rw [← xor_w]; rfl
end Go.Proofs.Ytbinibpkbkhdlaa
