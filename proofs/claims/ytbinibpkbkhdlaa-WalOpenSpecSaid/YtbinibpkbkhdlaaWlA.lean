/- Wal: the checksum. -/
import Derived.Test.YtbinibpkbkhdlaaDkW
import Derived.Test.YtbinibpkbkhdlaaWlS
namespace Go.Proofs.Ytbinibpkbkhdlaa
open Go.RowKit

theorem bt_cell {d : List UInt8} {k : Nat} (h : k < d.length) : (bc d)[k]? = some (.int .u8 ((d.getD k 0).toNat : Int)) := by
  simp [bc, List.getD, h]
theorem crcL_step (n : W32) (l : List UInt8) (k : Nat) (h : k < l.length) : crcL n (l.take (k + 1)) = crc8 (crcL n (l.take k) ^^^ BitVec.ofNat 32 (l.getD k 0).toNat) 8 := by
  rw [List.take_succ_eq_append_getElem h, crcL_snoc, crcByte]
  congr 3
  simp [List.getD, h]
theorem byte32 (b : UInt8) : (b.toNat : Int) = ((BitVec.ofNat 32 b.toNat).toNat : Int) := by
  rw [BitVec.toNat_ofNat]; have := b.toNat_lt; omega
set_option maxRecDepth 100000 in
theorem sum_any (l : List UInt8) (n : Nat) (hn : l.length = n) (hm : n ≤ maxLen) (a : Option Addr) (cap : Nat) (w : World) (hv : Sl w 1 (.slice a n cap) n (bc l)) :
    Calls Try.prog 14 #[.slice a n cap] w fun e w' => e = .returned (wv (crc l)) ∧ w = w' := by
  have HV := Lib.hid hv
  have Hm := Lib.hid hm
  have Hn := Lib.hid hn
  clear hv hm hn
  go_enter Try.func14, Try.ntmps14
  go_wp2_with fail
  go_loopw [2, 8] (fun c i wr => ∃ k : Nat, Hid (k ≤ n) ∧ c = wv (crcL 4294967295#32 (l.take k)) ∧ i = .int .i64 (k : Int) ∧ w = wr) (fun _ i _ => n - (intOf i).toNat)
  case atStart => exact ⟨0, Lib.hid (Nat.zero_le _), rfl, rfl, rfl⟩
  case round =>
    obtain ⟨k, Hk, rfl, rfl, rfl⟩ := hrel
    by_cases hk : k < n
    · obtain ⟨_, a', cap', he, hnc, h0 | ⟨g, off, rfl, hcs⟩⟩ := HV.out
      · omega
      cases he
      have hc := hcs k _ (bt_cell (by rw [Hn.out]; exact hk))
      have hx := byte32 (l.getD k 0)
      have Hst := Lib.hid (crcL_step 4294967295#32 l k (by rw [Hn.out]; exact hk))
      obtain ⟨b, hb⟩ : ∃ b, BitVec.ofNat 32 (l.getD k 0).toNat = b := ⟨_, rfl⟩
      obtain ⟨c0, hc0⟩ : ∃ c0, crcL 4294967295#32 (l.take k) = c0 := ⟨_, rfl⟩
      rw [hb, hc0] at Hst
      rw [hc0]
      rw [hb] at hx
      rw [hx] at hc
      have j1 : (k : Int) < (n : Int) := by omega
      have s1 : IntKind.i64.wrap ((k : Int) + 1) = ((k + 1 : Nat) : Int) := by rw [IntKind.wrap_i64]; have := Hm.out; unfold maxLen at this; omega
      have hw1 := wrap_w b
      have hx1 := xor_w c0 b
      clear hb hx hc0 hcs
      unfold wv
      go_wp2_with fail
      go_loopw [2, 16] (fun c i wr => ∃ j : Nat, Hid (j ≤ 8) ∧ c = wv (crc8 (c0 ^^^ b) j) ∧ i = .int .i64 (j : Int) ∧ w = wr) (fun _ i _ => 8 - (intOf i).toNat)
      case atStart => exact ⟨0, Lib.hid (Nat.zero_le _), by unfold wv crc8; rfl, rfl, rfl⟩
      case round =>
        obtain ⟨j, Hj, rfl, rfl, rfl⟩ := hrel
        by_cases hj : j < 8
        · have j2 : (j : Int) < 8 := by omega
          have s2 : IntKind.i64.wrap ((j : Int) + 1) = ((j + 1 : Nat) : Int) := by rw [IntKind.wrap_i64]; omega
          have Hn8 := Lib.hid (show crcStep (crc8 (c0 ^^^ b) j) = crc8 (c0 ^^^ b) (j + 1) from rfl)
          obtain ⟨x, hx⟩ : ∃ x, crc8 (c0 ^^^ b) j = x := ⟨_, rfl⟩
          rw [hx] at Hn8 ⊢
          have hl := low_w x
          have Hs := Lib.hid (shr_w x 1)
          unfold crcStep at Hn8
          unfold wv
          cases hb0 : x.getLsbD 0
          · rw [hb0, if_neg (by decide)] at hl Hn8
            go_wp2_with fail
            exact ⟨⟨j + 1, Lib.hid (by omega), by rw [← Hn8.out, ← Hs.out]; rfl, by go_num, trivial⟩, by simp [intOf]; omega⟩
          · rw [hb0, if_pos rfl] at hl Hn8
            go_wp2_with fail
            exact ⟨⟨j + 1, Lib.hid (by omega), by rw [← Hn8.out, ← xor_w, ← Hs.out]; rfl, by go_num, trivial⟩, by simp [intOf]; omega⟩
        · obtain rfl : j = 8 := by have := Hj.out; omega
          go_wp2_with fail
          exact ⟨⟨k + 1, Lib.hid (by omega), by rw [Hst.out]; rfl, by go_num, trivial⟩, by simp [intOf]; omega⟩
    · obtain rfl : k = n := by have := Hk.out; omega
      unfold wv
      go_wp2_with fail
      go_ret
      refine ⟨ret_int ?_, rfl⟩
      rw [List.take_of_length_le (by rw [Hn.out]; exact Nat.le_refl _)]
      show bits BinOp.xor IntKind.u32 ((4294967295#32 : W32).toNat : Int) _ = _
      rw [xor_w, BitVec.xor_comm]
      rfl
end Go.Proofs.Ytbinibpkbkhdlaa
