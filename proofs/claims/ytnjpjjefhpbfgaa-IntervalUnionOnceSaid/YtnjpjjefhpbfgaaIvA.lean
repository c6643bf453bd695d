/- Intervals: Check, checkAll. -/
import Derived.Test.YtnjpjjefhpbfgaaIvW
namespace Go.Proofs.Ytnjpjjefhpbfgaa
open Go.RowKit

def ivA (i : Iv) : Value := .agg #[.int .i64 i.1, .int .i64 i.2]
theorem ck_lo {lo hi : Int} (h : lo < -1099511627776 ∨ 1099511627776 < lo) : ck (lo, hi) = 1 := by
  have : okR (lo, hi) = false := by
    cases hq : okR (lo, hi)
    · rfl
    · simp [okR] at hq; omega
  rw [ck, this]; rfl
theorem ck_hi {lo hi : Int} (h : hi < -1099511627776 ∨ 1099511627776 < hi) : ck (lo, hi) = 1 := by
  have : okR (lo, hi) = false := by
    cases hq : okR (lo, hi)
    · rfl
    · simp [okR] at hq; omega
  rw [ck, this]; rfl
theorem ck_in {lo hi : Int} (h : -1099511627776 ≤ lo ∧ lo ≤ 1099511627776 ∧ -1099511627776 ≤ hi ∧ hi ≤ 1099511627776) : ck (lo, hi) = if hi < lo then 80 else 0 := by
  have : okR (lo, hi) = true := by simp [okR]; omega
  rw [ck, this]; rfl
set_option maxRecDepth 100000 in
set_option maxHeartbeats 1000000 in
theorem check_any (lo hi : Int) (w : World) : Calls Try.prog 15 #[.agg #[.int .i64 lo, .int .i64 hi]] w fun e w' => e = .returned (.int .i64 (ck (lo, hi))) ∧ Below w.heap.size w w' := by
  have Hb := Lib.hid (below_alloc w (.cells #[.int .i64 lo, .int .i64 hi] 23))
  have HB := Lib.hid (Blk.new w 23 #[.int .i64 lo, .int .i64 hi])
  obtain ⟨W, hW⟩ : ∃ W, w.alloc (.cells #[.int .i64 lo, .int .i64 hi] 23) = W := ⟨_, rfl⟩
  rw [hW] at Hb HB
  have HW := Lib.hid hW
  clear hW
  obtain ⟨c0, c1, _, _⟩ := cells2 HB.out
  have i0 : ∀ w, (Instr.index 54 (.agg #[.int .i64 lo, .int .i64 hi]) (.int .i64 0)).run Try.prog w = .ok (.int .i64 lo) w := fun _ => by kernel_rfl
  have i1 : ∀ w, (Instr.index 54 (.agg #[.int .i64 lo, .int .i64 hi]) (.int .i64 1)).run Try.prog w = .ok (.int .i64 hi) w := fun _ => by kernel_rfl
  go_enter Try.func15, Try.ntmps15
  go_wp2_with (rw [HW.out])
  go_loopw [10] (fun i wr => ∃ k : Nat, Hid (k ≤ 2) ∧ Hid (1 ≤ k → -1099511627776 ≤ lo ∧ lo ≤ 1099511627776) ∧ Hid (2 ≤ k → -1099511627776 ≤ hi ∧ hi ≤ 1099511627776) ∧ i = .int .i64 (k : Int) ∧ W = wr) (fun i _ => 2 - (intOf i).toNat)
  case atStart => exact ⟨0, Lib.hid (Nat.zero_le _), Lib.hid (fun h => by omega), Lib.hid (fun h => by omega), rfl, rfl⟩
  case round =>
    obtain ⟨k, Hk, H1, H2, rfl, rfl⟩ := hrel
    rcases (show k = 0 ∨ k = 1 ∨ k = 2 by have := Hk.out; omega) with rfl | rfl | rfl
    · by_cases h1 : lo < -1099511627776
      · have hr := Lib.hid (ck_lo (hi := hi) (.inl h1))
        go_wp2_with fail
        go_ret
        exact ⟨ret_int hr.out.symm, Hb.out⟩
      · by_cases h2 : 1099511627776 < lo
        · have hr := Lib.hid (ck_lo (hi := hi) (.inr h2))
          go_wp2_with fail
          go_ret
          exact ⟨ret_int hr.out.symm, Hb.out⟩
        · have h3 := Lib.hid (show -1099511627776 ≤ lo ∧ lo ≤ 1099511627776 by omega)
          go_wp2_with fail
          exact ⟨⟨1, Lib.hid (by omega), Lib.hid (fun _ => h3.out), Lib.hid (fun h => by omega), rfl, trivial⟩, by simp [intOf]⟩
    · have h3 := H1.out (by omega)
      have H3 := Lib.hid h3
      clear h3
      by_cases h1 : hi < -1099511627776
      · have hr := Lib.hid (ck_hi (lo := lo) (.inl h1))
        go_wp2_with fail
        go_ret
        exact ⟨ret_int hr.out.symm, Hb.out⟩
      · by_cases h2 : 1099511627776 < hi
        · have hr := Lib.hid (ck_hi (lo := lo) (.inr h2))
          go_wp2_with fail
          go_ret
          exact ⟨ret_int hr.out.symm, Hb.out⟩
        · have h4 := Lib.hid (show -1099511627776 ≤ hi ∧ hi ≤ 1099511627776 by omega)
          go_wp2_with fail
          exact ⟨⟨2, Lib.hid (by omega), Lib.hid (fun _ => H3.out), Lib.hid (fun _ => h4.out), rfl, trivial⟩, by simp [intOf]⟩
    · have h3 := H1.out (by omega)
      have h4 := H2.out (by omega)
      have hr := ck_in (lo := lo) (hi := hi) ⟨h3.1, h3.2, h4.1, h4.2⟩
      clear h3 h4
      by_cases h5 : hi < lo
      · rw [if_pos h5] at hr
        have hr2 := Lib.hid hr
        clear hr
        have hr := hr2
        go_wp2_with fail
        go_ret
        exact ⟨ret_int hr.out.symm, Hb.out⟩
      · rw [if_neg h5] at hr
        have hr2 := Lib.hid hr
        clear hr
        have hr := hr2
        go_wp2_with fail
        go_ret
        exact ⟨ret_int hr.out.symm, Hb.out⟩
set_option maxRecDepth 100000 in
set_option maxHeartbeats 1000000 in
theorem checkAll_any (l : List Iv) (n : Nat) (hn : l.length = n) (hm : n ≤ maxLen) (a : Option Addr) (cap : Nat) (w : World) (hv : Rd w (.slice a n cap) l) :
    Calls Try.prog 30 #[.slice a n cap] w fun e w' => e = .returned (.int .i64 (ckL l)) ∧ Below w.heap.size w w' := by
  have HV := Lib.hid hv
  have Hn := Lib.hid hn
  have Hm := Lib.hid hm
  clear hv hn hm
  go_enter Try.func30, Try.ntmps30
  go_wp2_with fail
  go_loopw [8] (fun i wr => ∃ k : Nat, Hid (k ≤ n) ∧ Hid (ckL l = ckL (l.drop k)) ∧ i = .int .i64 (k : Int) ∧ Hid (Below w.heap.size w wr)) (fun i _ => n - (intOf i).toNat)
  case atStart => exact ⟨0, Lib.hid (Nat.zero_le _), Lib.hid rfl, rfl, Lib.hid (Below.refl _ _)⟩
  case round =>
    obtain ⟨k, Hk, Hc, rfl, Hb⟩ := hrel
    by_cases hk : k < n
    · obtain ⟨g, off, rfl, _, hcap, hat⟩ := (HV.out.next Hb.out).at_ (by omega)
      obtain ⟨x, hx⟩ : ∃ x, l[k]? = some x := ⟨_, List.getElem?_eq_getElem (by rw [Hn.out]; exact hk)⟩
      obtain ⟨c0, c1⟩ := hat k x hx
      have Hd := Lib.hid (ckL_drop hx)
      obtain ⟨lo, hi⟩ := x
      simp only [] at c0 c1
      have hlt := World.block_lt_of_cell? wr _ c0
      have HC := Lib.hid (fun W => check_any lo hi W)
      obtain ⟨ce, hce⟩ : ∃ c, ck (lo, hi) = c := ⟨_, rfl⟩
      rw [hce] at HC Hd
      have Hbx := Lib.hid (Hb.out.alloc Hb.out.size (.cells #[.int .i64 lo, .int .i64 hi] 23))
      have j1 : (k : Int) < (n : Int) := by omega
      have j0 : (0 : Int) ≤ (k : Int) := by omega
      have s1 : IntKind.i64.wrap ((k : Int) + 1) = ((k + 1 : Nat) : Int) := by rw [IntKind.wrap_i64]; have := Hm.out; unfold maxLen at this; omega
      have Hk2 := Lib.hid hk
      clear hat hx hce
      by_cases h0 : ce = 0
      · rw [if_pos h0] at Hd
        subst h0
        go_wp2_with fail
        refine (HC.out _).mono ?_
        rintro e w1 ⟨rfl, hb1⟩
        have Hb1 := Lib.hid (Hbx.out.trans (hb1.mono Hbx.out.size))
        clear hb1
        go_wp2_with fail
        exact ⟨⟨k + 1, Lib.hid Hk2.out, Lib.hid (Hc.out.trans Hd.out), by go_num, Hb1⟩, by have := Hk2.out; simp [intOf]; omega⟩
      · rw [if_neg h0] at Hd
        have f0 : ((ce : Int) != 0) = true := by simpa using h0
        clear h0
        go_wp2_with fail
        refine (HC.out _).mono ?_
        rintro e w1 ⟨rfl, hb1⟩
        have Hb1 := Lib.hid (Hbx.out.trans (hb1.mono Hbx.out.size))
        clear hb1
        go_wp2_with fail
        go_ret
        exact ⟨ret_int (Hc.out.trans Hd.out).symm, Hb1.out⟩
    · have j1 : ¬ (k : Int) < (n : Int) := by have := Hk.out; omega
      have Hz := Lib.hid (show ckL (l.drop k) = 0 by rw [List.drop_eq_nil_of_le (by rw [Hn.out]; omega)]; rfl)
      go_wp2_with fail
      go_ret
      exact ⟨ret_int (Hc.out.trans Hz.out).symm, Hb.out⟩
end Go.Proofs.Ytnjpjjefhpbfgaa
