/- Disk: Check. -/
import Derived.Test.YtbinibpkbkhdlaaWkA
namespace Go.Proofs.Ytbinibpkbkhdlaa
open Go.RowKit

def odd (s : List UInt8) : Bool := decide (s.length ≠ 128)
def anyOdd (S : List (List UInt8)) : Bool := S.any odd
theorem odd_any (a : Option Addr) (n cap : Nat) (w : World) :
    Calls Try.prog 47 #[.slice a n cap] w fun e w' => e = .returned (.bool (decide (n ≠ 128))) ∧ w = w' := by
  by_cases h : n = 128
  · have f1 : ((n : Int) != 128) = false := by simp; omega
    have H := Lib.hid h
    clear h
    go_enter Try.func47, Try.ntmps47
    go_wp2_with fail
    go_ret
    exact ⟨ret_bool (by simp [H.out]), rfl⟩
  · have f1 : ((n : Int) != 128) = true := by simp; omega
    have H := Lib.hid h
    clear h
    go_enter Try.func47, Try.ntmps47
    go_wp2_with fail
    go_ret
    exact ⟨ret_bool (by simp [H.out]), rfl⟩
/-- where the first odd one stands, or -1 -/
def Idx (S : List (List UInt8)) (w : World) (e : Ending) (w' : World) : Prop := ∃ r : Int, e = .returned (.int .i64 r) ∧ -1 ≤ r ∧ decide (0 ≤ r) = anyOdd S ∧ w = w'
theorem Secs.at_ {w : World} {a : Option Addr} {cap : Nat} {S : List (List UInt8)} (h : Secs w (.slice a S.length cap) S) (hp : 0 < S.length) :
    ∃ g off, a = some ⟨g, off, none⟩ ∧ S.length ≤ cap ∧ ∀ k s, S[k]? = some s → ∃ ad c, w.cell? ⟨g, off + k, none⟩ = some (.slice ad s.length c) ∧ Sl w 1 (.slice ad s.length c) s.length (bc s) := by
  obtain ⟨vs, h1, h2⟩ := h
  obtain ⟨g, off, e, hc, h3⟩ := h1.pos hp
  refine ⟨g, off, e, hc, fun k s hs => ?_⟩
  obtain ⟨x, h4, h5⟩ := h2 k s hs
  obtain ⟨ad, c, rfl⟩ := h5.form
  exact ⟨ad, c, h3 k _ h4, h5⟩

set_option maxRecDepth 100000 in
theorem indexFunc_any (S : List (List UInt8)) (v : Value) (w : World) (hv : Secs w v S) (hS : S.length ≤ maxLen) :
    Calls Try.prog 53 #[v, .func (.func 47) #[] #[]] w fun e w' => Idx S w e w' := by
  unfold maxLen at hS
  obtain ⟨a, cap, rfl⟩ := hv.len
  go_enter Try.func53, Try.ntmps53
  go_wp2_with fail
  go_loop [8] (fun i => ∃ k : Nat, k ≤ S.length ∧ (∀ j s, j < k → S[j]? = some s → odd s = false) ∧ i = .int .i64 k) (fun i => S.length - (intOf i).toNat)
  case atStart => exact ⟨0, Nat.zero_le _, fun j s h => by omega, rfl⟩
  case round =>
    obtain ⟨k, hk, hall, rfl⟩ := hrel
    have Hall := Lib.hid hall
    clear hall
    by_cases hlt : k < S.length
    · obtain ⟨g, off, rfl, hcap, hc⟩ := hv.at_ (by omega)
      obtain ⟨s, hs⟩ : ∃ s, S[k]? = some s := ⟨_, List.getElem?_eq_getElem hlt⟩
      obtain ⟨ad, c, hcell, _⟩ := hc k s hs
      have Hs := Lib.hid hs
      have Hlt := Lib.hid hlt
      clear hc hs
      by_cases ho : s.length = 128
      · have hod := odd_any ad s.length c
        have hb : decide (s.length ≠ 128) = false := by simp [ho]
        rw [hb] at hod
        have Hod := Lib.hid hod
        have Ho := Lib.hid ho
        clear hod hb ho
        go_wp2_with (first | (go_at_call 47; refine (Hod.out _).mono ?_; rintro e w' ⟨rfl, rfl⟩))
        go_round
        case rel =>
          refine ⟨k + 1, by omega, fun j t hj ht => ?_, by go_num⟩
          rcases Nat.lt_or_ge j k with h | h
          · exact Hall.out j t h ht
          · have : j = k := by omega
            subst this
            rw [Hs.out] at ht
            cases ht
            simp [odd, Ho.out]
        case measure => simp [intOf]; omega
      · have hod := odd_any ad s.length c
        have hb : decide (s.length ≠ 128) = true := by simp [ho]
        rw [hb] at hod
        have Hod := Lib.hid hod
        have Ho := Lib.hid ho
        clear hod hb ho
        go_wp2_with (first | (go_at_call 47; refine (Hod.out _).mono ?_; rintro e w' ⟨rfl, rfl⟩))
        go_ret
        refine ⟨_, rfl, by omega, ?_, rfl⟩
        have h1 : anyOdd S = true := by
          rw [anyOdd, List.any_eq_true]
          exact ⟨s, List.mem_of_getElem? Hs.out, by simp [odd, Ho.out]⟩
        rw [h1]
        exact decide_eq_true (by omega)
    · go_wp2_with fail
      go_ret
      refine ⟨_, rfl, by omega, ?_, rfl⟩
      have h1 : anyOdd S = false := by
        rw [anyOdd, List.any_eq_false]
        intro s hs
        obtain ⟨j, hj⟩ := List.mem_iff_getElem?.1 hs
        have hjl := (List.getElem?_eq_some_iff.1 hj).1
        simp [Hall.out j s (by omega) hj]
      rw [h1]
      exact decide_eq_false (by omega)
theorem containsFunc_any (S : List (List UInt8)) (v : Value) (w : World) (hv : Secs w v S) (hS : S.length ≤ maxLen) :
    Calls Try.prog 39 #[v, .func (.func 47) #[] #[]] w fun e w' => e = .returned (.bool (anyOdd S)) ∧ w = w' := by
  have hI := indexFunc_any S v w hv hS
  have HI := Lib.hid hI
  clear hI
  go_enter Try.func39, Try.ntmps39
  go_wp2_with fail
  refine HI.out.mono ?_
  rintro e w' ⟨r, rfl, hr, hd, rfl⟩
  obtain ⟨b, hb⟩ : ∃ b, anyOdd S = b := ⟨_, rfl⟩
  rw [hb] at hd
  have Hd := Lib.hid hd
  have HB := Lib.hid hb
  clear hd hb
  go_wp2_with fail
  go_ret
  exact ⟨ret_bool (Hd.out.trans HB.out.symm), rfl⟩
/-- what Check says -/
def chkB (D : Dk) : Bool := decide (D.secs.length < 1) || (decide (4096 < D.secs.length) || (anyOdd D.secs || (decide (D.left < -1) || (decide (D.tear < 0) || (decide (128 < D.tear) || (D.stop && decide (D.left ≠ 0)))))))
def chk (D : Dk) : Int := if chkB D then 1 else 0
theorem chkB_iff (D : Dk) : chkB D = true ↔ (D.secs.length < 1 ∨ 4096 < D.secs.length ∨ anyOdd D.secs = true ∨ D.left < -1 ∨ D.tear < 0 ∨ 128 < D.tear ∨ (D.stop = true ∧ D.left ≠ 0)) := by
  simp only [chkB, Bool.or_eq_true, Bool.and_eq_true, decide_eq_true_eq]
theorem chk_1 {D : Dk} (h : D.secs.length < 1 ∨ 4096 < D.secs.length ∨ anyOdd D.secs = true ∨ D.left < -1 ∨ D.tear < 0 ∨ 128 < D.tear ∨ (D.stop = true ∧ D.left ≠ 0)) : chk D = 1 := by
  rw [chk, if_pos ((chkB_iff D).2 h)]
theorem chk_0 {D : Dk} (h1 : 1 ≤ D.secs.length) (h2 : D.secs.length ≤ 4096) (h3 : anyOdd D.secs = false) (h4 : -1 ≤ D.left) (h5 : 0 ≤ D.tear) (h6 : D.tear ≤ 128) (h7 : D.stop = false ∨ D.left = 0) : chk D = 0 := by
  rw [chk, if_neg]
  rw [chkB_iff]
  rintro (h | h | h | h | h | h | ⟨h, h'⟩)
  · omega
  · omega
  · rw [h3] at h; cases h
  · omega
  · omega
  · omega
  · rcases h7 with h7 | h7
    · rw [h7] at h; cases h
    · exact h' h7
set_option maxRecDepth 100000 in
theorem check_any (D : Dk) (d : Value) (w : World) (hd : DkV w d D) :
    Calls Try.prog 28 #[d] w fun e w' => e = .returned (.int .i64 (chk D)) ∧ Below w.heap.size w w' := by
  obtain ⟨v, rfl, hs⟩ := hd
  obtain ⟨S, left, tear, stop⟩ := D
  obtain ⟨a, cap, rfl⟩ := hs.len
  simp only [] at hs
  unfold dkAgg
  simp only []
  have HC := fun W (hb : Below w.heap.size w W) (h : S.length ≤ maxLen) => containsFunc_any S _ W (hs.next hb) h
  obtain ⟨b, hb⟩ : ∃ b, anyOdd S = b := ⟨_, rfl⟩
  rw [hb] at HC
  have HC2 := Lib.hid HC
  have HB := Lib.hid hb
  clear HC hb hs
  go_enter Try.func28, Try.ntmps28
  go_wp2_with (first | (go_at_call 39; refine (HC2.out _ ((Below.refl _ _).alloc (Nat.le_refl _) _) (by unfold maxLen; omega)).mono ?_; rintro e w' ⟨rfl, rfl⟩))
  all_goals
    go_ret
    refine ⟨ret_int ?_, (Below.refl _ _).alloc (Nat.le_refl _) _⟩
    have hbb := HB.out
    clear HC2
    symm
    first
      | exact chk_1 (.inl (by show S.length < 1; omega))
      | exact chk_1 (.inr (.inl (by show 4096 < S.length; omega)))
      | exact chk_1 (.inr (.inr (.inl (hbb.trans ‹_›))))
      | exact chk_1 (.inr (.inr (.inr (.inl ‹_›))))
      | exact chk_1 (.inr (.inr (.inr (.inr (.inl ‹_›)))))
      | exact chk_1 (.inr (.inr (.inr (.inr (.inr (.inl ‹_›))))))
      | exact chk_1 (.inr (.inr (.inr (.inr (.inr (.inr ⟨‹_›, by simpa using ‹(left != 0) = true›⟩))))))
      | (exfalso; have := (show b = true by assumption).symm.trans (show b = false by assumption); cases this)
      | exact chk_0 (by show 1 ≤ S.length; omega) (by show S.length ≤ 4096; omega) (hbb.trans ‹_›) (by omega) (by omega) (by omega) (by first | (right; simpa using ‹(left != 0) = false›) | (left; simpa using ‹¬ stop = true›))
end Go.Proofs.Ytbinibpkbkhdlaa
