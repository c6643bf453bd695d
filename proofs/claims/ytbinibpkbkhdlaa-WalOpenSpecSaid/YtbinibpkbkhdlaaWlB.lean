/- Wal: numbers, sectors that a record occupies, where a log fits. -/
import Derived.Test.YtbinibpkbkhdlaaWlA
import Derived.Test.YtbinibpkbkhdlaaWkC
import Derived.Deep.QuietTactic
import Derived.BigQuiet
namespace Go.Proofs.Ytbinibpkbkhdlaa
open Go.RowKit

theorem blw_drewN {B : Nat} {a w : World} (h : Below B a w) (n : Nat) : Below B a (w.drewN n) := ⟨h.os, h.tape, h.output, h.size, h.block⟩
def occ (n : Nat) : Nat := if n = 0 then 1 else (n + 111) / 112
theorem occ_pos (n : Nat) : 1 ≤ occ n := by unfold occ; split <;> omega
set_option maxRecDepth 100000 in
theorem occupied_any (a : Option Addr) (n cap : Nat) (hn : n ≤ 1000000) (w : World) :
    Calls Try.prog 33 #[.slice a n cap] w fun e w' => e = .returned (.int .i64 (occ n : Nat)) ∧ w = w' := by
  have s1 : IntKind.i64.wrap ((n : Int) + 112) = (n : Int) + 112 := by rw [IntKind.wrap_i64]; omega
  have s2 : IntKind.i64.wrap ((n : Int) + 112 - 1) = (n : Int) + 111 := by rw [IntKind.wrap_i64]; omega
  have Ho := Lib.hid (show (n = 0 → occ n = 1) ∧ (n ≠ 0 → occ n = (n + 111) / 112) from ⟨fun h => if_pos h, fun h => if_neg h⟩)
  go_enter Try.func33, Try.ntmps33
  go_wp2_with fail
  all_goals
    go_ret
    refine ⟨ret_int ?_, rfl⟩
    have h1 := Ho.out.1
    have h2 := Ho.out.2
    by_cases h : n = 0
    · have := h1 h; omega
    · have := h2 h; omega
def fitsB (f m s : Int) : Bool := decide (0 ≤ f) && (decide (1 ≤ m) && (decide (f < s) && decide (m ≤ s - f)))
set_option maxRecDepth 100000 in
theorem fits_any (f m s : Int) (hs : 0 ≤ s ∧ s ≤ 140737488355328) (w : World) :
    Calls Try.prog 29 #[.int .i64 f, .int .i64 m, .int .i64 s] w fun e w' => e = .returned (.bool (fitsB f m s)) ∧ w = w' := by
  by_cases h1 : 0 ≤ f
  · by_cases h2 : 1 ≤ m
    · by_cases h3 : f < s
      · have s1 : IntKind.i64.wrap (s - f) = s - f := by rw [IntKind.wrap_i64]; omega
        by_cases h4 : m ≤ s - f
        · have Hf := Lib.hid (show fitsB f m s = true by simp [fitsB, h1, h2, h3, h4])
          go_enter Try.func29, Try.ntmps29
          go_wp2_with fail
          go_ret
          exact ⟨ret_bool Hf.out.symm, rfl⟩
        · have Hf := Lib.hid (show fitsB f m s = false by simp [fitsB, h1, h2, h3, h4])
          go_enter Try.func29, Try.ntmps29
          go_wp2_with fail
          go_ret
          exact ⟨ret_bool Hf.out.symm, rfl⟩
      · have Hf := Lib.hid (show fitsB f m s = false by simp [fitsB, h1, h2, h3])
        go_enter Try.func29, Try.ntmps29
        go_wp2_with fail
        go_ret
        exact ⟨ret_bool Hf.out.symm, rfl⟩
    · have Hf := Lib.hid (show fitsB f m s = false by simp [fitsB, h1, h2])
      go_enter Try.func29, Try.ntmps29
      go_wp2_with fail
      go_ret
      exact ⟨ret_bool Hf.out.symm, rfl⟩
  · have Hf := Lib.hid (show fitsB f m s = false by simp [fitsB, h1])
    go_enter Try.func29, Try.ntmps29
    go_wp2_with fail
    go_ret
    exact ⟨ret_bool Hf.out.symm, rfl⟩
theorem tooLong_any (a : Option Addr) (n cap : Nat) (w : World) :
    Calls Try.prog 38 #[.slice a n cap] w fun e w' => e = .returned (.bool (decide (65536 < n))) ∧ w = w' := by
  by_cases h : 65536 < n
  · have f1 : (65536 : Int) < (n : Int) := by omega
    have H := Lib.hid h
    clear h
    go_enter Try.func38, Try.ntmps38
    go_wp2_with fail
    go_ret
    exact ⟨ret_bool (by simp [H.out]), rfl⟩
  · have f1 : ¬ (65536 : Int) < (n : Int) := by omega
    have H := Lib.hid h
    clear h
    go_enter Try.func38, Try.ntmps38
    go_wp2_with fail
    go_ret
    exact ⟨ret_bool (by simp [H.out]), rfl⟩
theorem byte_w {b : Nat} (h : b < 256) : (b : Int) * (16777216 : Int) = ((BitVec.ofNat 32 b <<< 24).toNat : Int) ∧ (b : Int) * (65536 : Int) = ((BitVec.ofNat 32 b <<< 16).toNat : Int) ∧ (b : Int) * (256 : Int) = ((BitVec.ofNat 32 b <<< 8).toNat : Int) ∧ (b : Int) = ((BitVec.ofNat 32 b).toNat : Int) := by
  simp only [BitVec.toNat_shiftLeft, BitVec.toNat_ofNat, Nat.shiftLeft_eq, Nat.reducePow]
  omega
def bt (l : List UInt8) (i : Nat) : Nat := (l.getD i 0).toNat
theorem bt_lt (l : List UInt8) (i : Nat) : bt l i < 256 := (l.getD i 0).toNat_lt
def num4 (l : List UInt8) (i : Nat) : W32 := BitVec.ofNat 32 (bt l i) <<< 24 ||| BitVec.ofNat 32 (bt l (i + 1)) <<< 16 ||| BitVec.ofNat 32 (bt l (i + 2)) <<< 8 ||| BitVec.ofNat 32 (bt l (i + 3))
theorem bt_at {d : List UInt8} {k : Nat} (h : k < d.length) : (bc d)[k]? = some (.int .u8 (bt d k : Int)) := bt_cell h
set_option maxRecDepth 100000 in
theorem number_any (l : List UInt8) (n : Nat) (hn : l.length = n) (h4 : 4 ≤ n) (a : Option Addr) (cap : Nat) (w : World) (hv : Sl w 1 (.slice a n cap) n (bc l)) :
    Calls Try.prog 50 #[.slice a n cap] w fun e w' => e = .returned (wv (num4 l 0)) ∧ ∃ n, w' = w.drewN n := by
  unfold wv
  obtain ⟨g, off, rfl, hc, hat⟩ := hv.pos (by omega)
  have c0 := hat 0 _ (bt_at (d := l) (k := 0) (by omega))
  rw [Nat.add_zero] at c0
  have c1 := hat 1 _ (bt_at (d := l) (k := 1) (by omega))
  have c2 := hat 2 _ (bt_at (d := l) (k := 2) (by omega))
  have c3 := hat 3 _ (bt_at (d := l) (k := 3) (by omega))
  have b0 := bt_lt l 0
  have b1 := bt_lt l 1
  have b2 := bt_lt l 2
  have b3 := bt_lt l 3
  have l0 : (0 : Int) < (n : Int) := by omega
  have l1 : (1 : Int) < (n : Int) := by omega
  have l2 : (2 : Int) < (n : Int) := by omega
  have l3 : (3 : Int) < (n : Int) := by omega
  clear hv hat
  go_enter Try.func50, Try.ntmps50
  go_wp2_with fail
  go_quiet (fail)
  go_wp2_with fail
  go_ret
  refine ⟨ret_int ?_, _, rfl⟩
  show bits BinOp.or IntKind.u32 (bits BinOp.or IntKind.u32 (bits BinOp.or IntKind.u32 ((bt l 0 : Int) * 16777216) ((bt l 1 : Int) * 65536)) ((bt l 2 : Int) * 256)) (bt l 3 : Int) = _
  rw [(byte_w b0).1, (byte_w b1).2.1, (byte_w b2).2.2.1, (byte_w b3).2.2.2, or_w, or_w, or_w]
  rfl
end Go.Proofs.Ytbinibpkbkhdlaa
