/- Wal: the reference's Sum and Number. -/
import Derived.Test.YtbinibpkbkhdlaaWlG
namespace Go.Proofs.Ytbinibpkbkhdlaa
open Go.RowKit

set_option maxRecDepth 100000 in
theorem rsum_any (l : List UInt8) (n : Nat) (hn : l.length = n) (hm : n ≤ maxLen) (a : Option Addr) (cap : Nat) (w : World) (hv : Sl w 1 (.slice a n cap) n (bc l)) :
    Calls Try.prog 15 #[.slice a n cap] w fun e w' => e = .returned (wv (crc l)) ∧ w = w' := by
  have HV := Lib.hid hv
  have Hm := Lib.hid hm
  have Hn := Lib.hid hn
  clear hv hm hn
  go_enter Try.func15, Try.ntmps15
  go_wp2_with fail
  go_loopw [3, 4] (fun c i wr => ∃ k : Nat, Hid (k ≤ n) ∧ c = wv (crcL 4294967295#32 (l.take k)) ∧ i = .int .i64 (k : Int) ∧ w = wr) (fun _ i _ => n - (intOf i).toNat)
  case atStart => exact ⟨0, Lib.hid (Nat.zero_le _), rfl, rfl, rfl⟩
  case round =>
    obtain ⟨k, Hk, rfl, rfl, rfl⟩ := hrel
    by_cases hk : k < n
    · obtain ⟨_, a', cap', he, hnc, h0 | ⟨g, off, rfl, hcs⟩⟩ := HV.out
      · omega
      cases he
      have hc := hcs k _ (bt_cell (by rw [Hn.out]; exact hk))
      have hx := byte32 (l.getD k 0)
      have Hst := Lib.hid (crcL_step 4294967295#32 l k (by rw [Hn.out]; exact hk))
      obtain ⟨b, hb⟩ : ∃ b, BitVec.ofNat 32 (l.getD k 0).toNat = b := ⟨_, rfl⟩
      obtain ⟨c0, hc0⟩ : ∃ c0, crcL 4294967295#32 (l.take k) = c0 := ⟨_, rfl⟩
      rw [hb, hc0] at Hst
      rw [hc0]
      rw [hb] at hx
      rw [hx] at hc
      have j0 : (0 : Int) ≤ (k : Int) := by omega
      have j1 : (k : Int) < (n : Int) := by omega
      have s1 : IntKind.i64.wrap ((k : Int) + 1) = ((k + 1 : Nat) : Int) := by rw [IntKind.wrap_i64]; have := Hm.out; unfold maxLen at this; omega
      have hw1 := wrap_w b
      have hx1 := xor_w c0 b
      clear hb hx hc0 hcs
      unfold wv
      go_wp2_with fail
      go_loopw [3, 5] (fun c i wr => ∃ j : Nat, Hid (j ≤ 8) ∧ c = wv (crc8 (c0 ^^^ b) j) ∧ i = .int .i64 (j : Int) ∧ w = wr) (fun _ i _ => 8 - (intOf i).toNat)
      case atStart => exact ⟨0, Lib.hid (Nat.zero_le _), by unfold wv crc8; rfl, rfl, rfl⟩
      case round =>
        obtain ⟨j, Hj, rfl, rfl, rfl⟩ := hrel
        by_cases hj : j < 8
        · have j2 : (j : Int) < 8 := by omega
          have s2 : IntKind.i64.wrap ((j : Int) + 1) = ((j + 1 : Nat) : Int) := by rw [IntKind.wrap_i64]; omega
          have Hn8 := Lib.hid (show crcStep (crc8 (c0 ^^^ b) j) = crc8 (c0 ^^^ b) (j + 1) from rfl)
          obtain ⟨x, hx⟩ : ∃ x, crc8 (c0 ^^^ b) j = x := ⟨_, rfl⟩
          rw [hx] at Hn8 ⊢
          have hl : x.getLsbD 0 = decide (x.toNat % 2 = 1) := by
            rw [BitVec.getLsbD, Nat.testBit_zero]
          have Hs := Lib.hid (shr_w x 1)
          unfold crcStep at Hn8
          unfold wv
          cases hb0 : x.getLsbD 0
          · rw [hb0] at hl Hn8
            have hq : ((x.toNat : Int) % 2 == 1) = false := by
              have := of_decide_eq_false hl.symm
              simp; omega
            rw [if_neg (by decide)] at Hn8
            clear hl
            go_wp2_with fail
            exact ⟨⟨j + 1, Lib.hid (by omega), by rw [← Hn8.out, ← Hs.out]; rfl, by go_num, trivial⟩, by simp [intOf]; omega⟩
          · rw [hb0] at hl Hn8
            have hq : ((x.toNat : Int) % 2 == 1) = true := by
              have := of_decide_eq_true hl.symm
              simp; omega
            rw [if_pos rfl] at Hn8
            clear hl
            go_wp2_with fail
            exact ⟨⟨j + 1, Lib.hid (by omega), by rw [← Hn8.out, ← xor_w, ← Hs.out]; rfl, by go_num, trivial⟩, by simp [intOf]; omega⟩
        · obtain rfl : j = 8 := by have := Hj.out; omega
          go_wp2_with fail
          exact ⟨⟨k + 1, Lib.hid (by omega), by rw [Hst.out]; rfl, by go_num, trivial⟩, by simp [intOf]; omega⟩
    · obtain rfl : k = n := by have := Hk.out; omega
      have Hnw := Lib.hid (not_w (crcL 4294967295#32 (l.take k)))
      unfold wv
      go_wp2_with fail
      go_ret
      refine ⟨ret_int ?_, rfl⟩
      rw [Hnw.out, List.take_of_length_le (by rw [Hn.out]; exact Nat.le_refl _)]
      rfl
/-- the number that bytes represent -/
def nb (l : List UInt8) : Nat := l.foldl (fun n b => 256 * n + b.toNat) 0
theorem nb_snoc (l : List UInt8) (b : UInt8) : nb (l ++ [b]) = 256 * nb l + b.toNat := by simp [nb, List.foldl_append]
theorem nb_take (l : List UInt8) (k : Nat) (h : k < l.length) : nb (l.take (k + 1)) = 256 * nb (l.take k) + bt l k := by
  rw [List.take_succ_eq_append_getElem h, nb_snoc, bt]
  simp [List.getD, h]
theorem nb_lt (l : List UInt8) : ∀ k, nb (l.take k) < 256 ^ k
  | 0 => by simp [nb]
  | k + 1 => by
    have h := nb_lt l k
    rw [Nat.pow_succ]
    rcases Nat.lt_or_ge k l.length with hk | hk
    · rw [nb_take l k hk]
      have := bt_lt l k
      omega
    · rw [List.take_of_length_le (by omega)]
      rw [List.take_of_length_le hk] at h
      omega
theorem or_add (a b i : Nat) (h : b < 2 ^ i) : a * 2 ^ i ||| b = a * 2 ^ i + b := by
  have := Nat.shiftLeft_add_eq_or_of_lt h a
  rw [Nat.shiftLeft_eq] at this
  exact this.symm
theorem num4_nat (l : List UInt8) (i : Nat) : (num4 l i).toNat = 16777216 * bt l i + 65536 * bt l (i + 1) + 256 * bt l (i + 2) + bt l (i + 3) := by
  have h0 := bt_lt l i
  have h1 := bt_lt l (i + 1)
  have h2 := bt_lt l (i + 2)
  have h3 := bt_lt l (i + 3)
  unfold num4
  simp only [BitVec.toNat_or, BitVec.toNat_shiftLeft, BitVec.toNat_ofNat, Nat.shiftLeft_eq]
  rw [Nat.mod_eq_of_lt (a := bt l i) (by omega), Nat.mod_eq_of_lt (a := bt l (i + 1)) (by omega), Nat.mod_eq_of_lt (a := bt l (i + 2)) (by omega), Nat.mod_eq_of_lt (a := bt l (i + 3)) (by omega),
    Nat.mod_eq_of_lt (a := bt l i * 2 ^ 24) (by omega), Nat.mod_eq_of_lt (a := bt l (i + 1) * 2 ^ 16) (by omega), Nat.mod_eq_of_lt (a := bt l (i + 2) * 2 ^ 8) (by omega)]
  rw [or_add (bt l i) (bt l (i + 1) * 2 ^ 16) 24 (by omega), show bt l i * 2 ^ 24 + bt l (i + 1) * 2 ^ 16 = (bt l i * 256 + bt l (i + 1)) * 2 ^ 16 by omega,
    or_add _ (bt l (i + 2) * 2 ^ 8) 16 (by omega), show (bt l i * 256 + bt l (i + 1)) * 2 ^ 16 + bt l (i + 2) * 2 ^ 8 = ((bt l i * 256 + bt l (i + 1)) * 256 + bt l (i + 2)) * 2 ^ 8 by omega,
    or_add _ (bt l (i + 3)) 8 (by omega)]
  omega
theorem nb4 (l : List UInt8) (h : l.length = 4) : nb l = (num4 l 0).toNat := by
  have e : l.take 4 = l := List.take_of_length_le (by omega)
  have e0 : nb (l.take 0) = 0 := rfl
  rw [num4_nat]
  have h1 := nb_take l 0 (by omega)
  have h2 := nb_take l 1 (by omega)
  have h3 := nb_take l 2 (by omega)
  have h4 := nb_take l 3 (by omega)
  simp only [Nat.zero_add, Nat.reduceAdd] at h1 h2 h3 h4 ⊢
  rw [e] at h4
  omega
theorem nb2 (l : List UInt8) (h : l.length = 2) : nb l = bt l 0 * 256 + bt l 1 := by
  have e : l.take 2 = l := List.take_of_length_le (by omega)
  have e0 : nb (l.take 0) = 0 := rfl
  have h1 := nb_take l 0 (by omega)
  have h2 := nb_take l 1 (by omega)
  simp only [Nat.zero_add, Nat.reduceAdd] at h1 h2
  rw [e] at h2
  omega
set_option maxRecDepth 100000 in
theorem rnum_any (l : List UInt8) (n : Nat) (hn : l.length = n) (h7 : n ≤ 7) (a : Option Addr) (cap : Nat) (w : World) (hv : Sl w 1 (.slice a n cap) n (bc l)) :
    Calls Try.prog 52 #[.slice a n cap] w fun e w' => e = .returned (.int .u64 (nb l : Nat)) ∧ w = w' := by
  have HV := Lib.hid hv
  have Hn := Lib.hid hn
  clear hv hn
  go_enter Try.func52, Try.ntmps52
  go_wp2_with fail
  go_loopw [3, 4] (fun c i wr => ∃ k : Nat, Hid (k ≤ n) ∧ c = .int .u64 (nb (l.take k) : Nat) ∧ i = .int .i64 (k : Int) ∧ w = wr) (fun _ i _ => n - (intOf i).toNat)
  case atStart => exact ⟨0, Lib.hid (Nat.zero_le _), rfl, rfl, rfl⟩
  case round =>
    obtain ⟨k, Hk, rfl, rfl, rfl⟩ := hrel
    by_cases hk : k < n
    · obtain ⟨_, a', cap', he, hnc, h0 | ⟨g, off, rfl, hcs⟩⟩ := HV.out
      · omega
      cases he
      have hc := hcs k _ (bt_at (by rw [Hn.out]; exact hk))
      have hlt := nb_lt l k
      have hst := nb_take l k (by rw [Hn.out]; exact hk)
      have hbl := bt_lt l k
      have hp : 256 ^ k ≤ 256 ^ 6 := Nat.pow_le_pow_right (by omega) (by omega)
      have hp6 : 256 ^ 6 = 281474976710656 := by decide
      rw [hp6] at hp
      have hlt2 : nb (l.take k) < 281474976710656 := by omega
      have Hst := Lib.hid hst
      obtain ⟨x, hx⟩ : ∃ x, nb (l.take k) = x := ⟨_, rfl⟩
      obtain ⟨y, hy⟩ : ∃ y, bt l k = y := ⟨_, rfl⟩
      rw [hx, hy] at Hst
      rw [hx] at hlt2 ⊢
      rw [hy] at hc hbl
      have j0 : (0 : Int) ≤ (k : Int) := by omega
      have j1 : (k : Int) < (n : Int) := by omega
      have s1 : IntKind.i64.wrap ((k : Int) + 1) = ((k + 1 : Nat) : Int) := by rw [IntKind.wrap_i64]; omega
      have s2 : IntKind.u64.wrap (256 * (x : Int)) = 256 * (x : Int) := by rw [IntKind.wrap_u64]; omega
      have s3 : IntKind.u64.wrap (y : Int) = (y : Int) := by rw [IntKind.wrap_u64]; omega
      have s4 : IntKind.u64.wrap (256 * (x : Int) + (y : Int)) = ((256 * x + y : Nat) : Int) := by rw [IntKind.wrap_u64]; omega
      clear hx hy hcs hlt hst hp hp6
      go_wp2_with fail
      exact ⟨⟨k + 1, Lib.hid (by omega), by rw [Hst.out]; go_num, by go_num, trivial⟩, by simp [intOf]; omega⟩
    · obtain rfl : k = n := by have := Hk.out; omega
      go_wp2_with fail
      go_ret
      exact ⟨ret_int (by rw [List.take_of_length_le (by rw [Hn.out]; exact Nat.le_refl _)]), rfl⟩
end Go.Proofs.Ytbinibpkbkhdlaa
