/- SHA-256 as plain functions on words of 32 bits, and what the model's arithmetic gives on such words. No program. -/
import Derived.WalkKit
import Derived.KernelRfl
import Derived.IntWalk
import Derived.Lib.Hide
namespace Go.Proofs.YtiloaheaglcpbaaDoor
open Go.RowKit

abbrev W32 := BitVec 32
def wv (x : W32) : Value := .int .u32 (x.toNat : Int)
def rot (x : W32) (n : Nat) : W32 := x <<< (32 - n) ||| x >>> n

theorem wrap_u32 (z : Int) : IntKind.u32.wrap z = z % 4294967296 := by
  exact IntKind.wrap_u32 z
theorem add_w (x y : W32) : IntKind.u32.wrap ((x.toNat : Int) + y.toNat) = ((x + y).toNat : Int) := by
  rw [wrap_u32, BitVec.toNat_add]; omega
theorem shl_w (x : W32) (m : Nat) : IntKind.u32.wrap ((x.toNat : Int) * 2 ^ m) = ((x <<< m).toNat : Int) := by
  rw [wrap_u32, BitVec.toNat_shiftLeft, Nat.shiftLeft_eq, Int.natCast_emod, Int.natCast_mul, Int.natCast_pow]
  rfl
theorem shr_w (x : W32) (m : Nat) : (x.toNat : Int) / 2 ^ m = ((x >>> m).toNat : Int) := by
  rw [BitVec.toNat_ushiftRight, Nat.shiftRight_eq_div_pow, Int.natCast_ediv, Int.natCast_pow]
  rfl
theorem ofInt_w (x : W32) : BitVec.ofInt IntKind.u32.bits (x.toNat : Int) = x := by
  show BitVec.ofInt 32 (x.toNat : Int) = x
  rw [BitVec.ofInt_natCast, BitVec.ofNat_toNat, BitVec.setWidth_eq]
theorem wrap_w (x : W32) : IntKind.u32.wrap (x.toNat : Int) = (x.toNat : Int) := by
  rw [wrap_u32]; have := x.isLt; omega
theorem or_w (x y : W32) : bits BinOp.or IntKind.u32 (x.toNat : Int) (y.toNat : Int) = ((x ||| y).toNat : Int) := by
  unfold bits
  simp only [ofInt_w]
  exact wrap_w _
theorem and_w (x y : W32) : bits BinOp.and IntKind.u32 (x.toNat : Int) (y.toNat : Int) = ((x &&& y).toNat : Int) := by
  unfold bits
  simp only [ofInt_w]
  exact wrap_w _
theorem xor_w (x y : W32) : bits BinOp.xor IntKind.u32 (x.toNat : Int) (y.toNat : Int) = ((x ^^^ y).toNat : Int) := by
  unfold bits
  simp only [ofInt_w]
  exact wrap_w _
theorem neg_and31 : ∀ n : Nat, n < 32 → 1 ≤ n → bits BinOp.and IntKind.u64 (IntKind.u64.wrap (-(n : Int))) 31 = 32 - (n : Int) := by decide +kernel

/-- four bytes as a word -/
def word4 (a b c d : UInt8) : W32 := BitVec.ofNat 32 a.toNat <<< 24 ||| BitVec.ofNat 32 b.toNat <<< 16 ||| BitVec.ofNat 32 c.toNat <<< 8 ||| BitVec.ofNat 32 d.toNat
def wordAt (l : List UInt8) (i : Nat) : W32 := word4 (l.getD (4 * i) 0) (l.getD (4 * i + 1) 0) (l.getD (4 * i + 2) 0) (l.getD (4 * i + 3) 0)
def ss0 (x : W32) : W32 := rot x 7 ^^^ rot x 18 ^^^ x >>> 3
def ss1 (x : W32) : W32 := rot x 17 ^^^ rot x 19 ^^^ x >>> 10
/-- the words of a block -/
def schW (l : List UInt8) (i : Nat) : W32 :=
  if _h : i < 16 then wordAt l i else schW l (i - 16) + ss0 (schW l (i - 15)) + schW l (i - 7) + ss1 (schW l (i - 2))
termination_by i
decreasing_by all_goals omega
theorem schW_lo (l : List UInt8) (i : Nat) (h : i < 16) : schW l i = wordAt l i := by rw [schW, dif_pos h]
theorem schW_hi (l : List UInt8) (i : Nat) (h : ¬ i < 16) : schW l i = schW l (i - 16) + ss0 (schW l (i - 15)) + schW l (i - 7) + ss1 (schW l (i - 2)) := by rw [schW, dif_neg h]
/-- the state -/
structure S8 where
  a : W32
  b : W32
  c : W32
  d : W32
  e : W32
  f : W32
  g : W32
  h : W32
def S8.cells (s : S8) : List Value := [wv s.a, wv s.b, wv s.c, wv s.d, wv s.e, wv s.f, wv s.g, wv s.h]
def t1 (s : S8) (k w : W32) : W32 := s.h + (rot s.e 6 ^^^ rot s.e 11 ^^^ rot s.e 25) + (s.e &&& s.f ^^^ ~~~s.e &&& s.g) + k + w
def t2 (s : S8) : W32 := (rot s.a 2 ^^^ rot s.a 13 ^^^ rot s.a 22) + (s.a &&& s.b ^^^ s.a &&& s.c ^^^ s.b &&& s.c)
def rnd (s : S8) (k w : W32) : S8 := ⟨t1 s k w + t2 s, s.a, s.b, s.c, s.d + t1 s k w, s.e, s.f, s.g⟩
def kTab : List Int := [1116352408, 1899447441, 3049323471, 3921009573, 961987163, 1508970993, 2453635748, 2870763221, 3624381080, 310598401, 607225278, 1426881987, 1925078388, 2162078206, 2614888103, 3248222580, 3835390401, 4022224774, 264347078, 604807628, 770255983, 1249150122, 1555081692, 1996064986, 2554220882, 2821834349, 2952996808, 3210313671, 3336571891, 3584528711, 113926993, 338241895, 666307205, 773529912, 1294757372, 1396182291, 1695183700, 1986661051, 2177026350, 2456956037, 2730485921, 2820302411, 3259730800, 3345764771, 3516065817, 3600352804, 4094571909, 275423344, 430227734, 506948616, 659060556, 883997877, 958139571, 1322822218, 1537002063, 1747873779, 1955562222, 2024104815, 2227730452, 2361852424, 2428436474, 2756734187, 3204031479, 3329325298]
def iTab : List Int := [1779033703, 3144134277, 1013904242, 2773480762, 1359893119, 2600822924, 528734635, 1541459225]
def kW (i : Nat) : W32 := BitVec.ofInt 32 (kTab.getD i 0)
theorem kW_tab : ∀ i : Nat, i < 64 → kTab.getD i 0 = ((kW i).toNat : Int) := by decide +kernel
def rds (l : List UInt8) (s : S8) : Nat → S8
  | 0 => s
  | i + 1 => rnd (rds l s i) (kW i) (schW l i)
def add8 (s r : S8) : S8 := ⟨s.a + r.a, s.b + r.b, s.c + r.c, s.d + r.d, s.e + r.e, s.f + r.f, s.g + r.g, s.h + r.h⟩
def comp (s : S8) (l : List UInt8) : S8 := add8 s (rds l s 64)
def s8init : S8 := ⟨0x6a09e667, 0xbb67ae85, 0x3c6ef372, 0xa54ff53a, 0x510e527f, 0x9b05688c, 0x1f83d9ab, 0x5be0cd19⟩
theorem init_tab : iTab.map (Value.int .u32) = s8init.cells := by kernel_rfl
/-- the state after the first k blocks of l -/
def blocks (l : List UInt8) (s : S8) : Nat → S8
  | 0 => s
  | k + 1 => comp (blocks l s k) ((l.drop (64 * k)).take 64)
/-- the padding of a message that has n bytes, the last m of them in no whole block -/
def padN (m : Nat) : Nat := (119 - m % 64) % 64
def lenB (n : Nat) : List UInt8 := (List.range 8).map fun i => UInt8.ofNat (n * 8 / 2 ^ (56 - 8 * i))
def padL (r : List UInt8) (n : Nat) : List UInt8 := r ++ [128] ++ List.replicate (padN r.length) 0 ++ lenB n
def wB (x : W32) : List UInt8 := [UInt8.ofNat (x >>> 24).toNat, UInt8.ofNat (x >>> 16).toNat, UInt8.ofNat (x >>> 8).toNat, UInt8.ofNat x.toNat]
def s8B (s : S8) : List UInt8 := wB s.a ++ wB s.b ++ wB s.c ++ wB s.d ++ wB s.e ++ wB s.f ++ wB s.g ++ wB s.h
/-- the hash -/
def sha (l : List UInt8) : List UInt8 :=
  let k := l.length / 64
  let p := padL (l.drop (64 * k)) l.length
  s8B (blocks p (blocks l s8init k) (p.length / 64))
theorem wB_len (x : W32) : (wB x).length = 4 := rfl
theorem s8B_len (s : S8) : (s8B s).length = 32 := rfl
theorem sha_len (l : List UInt8) : (sha l).length = 32 := rfl
end Go.Proofs.YtiloaheaglcpbaaDoor
