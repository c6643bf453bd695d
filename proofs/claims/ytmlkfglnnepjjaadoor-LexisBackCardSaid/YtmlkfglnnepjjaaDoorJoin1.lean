/- Layer 1: the small functions under Join: isToken, Word, valid, Keyword. -/
import Derived.Test.YtmlkfglnnepjjaaDoorSane
namespace Go.Proofs.YtmlkfglnnepjjaaDoor
open Go.RowKit

/-- is a token other than the last one a token by itself? -/
def tkOk (t : Tk) : Bool := decide ((sc (tx t.2.1) 0).1 ≠ 0) && (decide ((sc (tx t.2.1) 0).1 = t.1) && decide ((sc (tx t.2.1) 0).2 = t.2.1.size))

set_option maxRecDepth 100000 in
set_option maxHeartbeats 2000000 in
theorem isToken_any (k : Int) (s : ByteArray) (p : Int) (w : World) (hs : s.size ≤ 1000000000) (hT : TabW w) :
    Calls Tryd.prog 29 #[.agg #[.int .i64 k, .string s, .int .i64 p]] w fun e w' => e = .returned (.bool (tkOk (k, s, p))) ∧ Below w.heap.size w w' := by
  have hTw := TabW_lt hT
  obtain ⟨K, E, hKE⟩ : ∃ K E, sc (tx s) 0 = (K, E) := ⟨_, _, rfl⟩
  have hR : tkOk (k, s, p) = (decide (K ≠ 0) && (decide (K = k) && decide (E = s.size))) := by simp [tkOk, hKE]
  rw [hR]
  have hC := fun W (h : Below w.heap.size w W) => scan_any s 0 W hs (Nat.zero_le _) (TabW_below h hTw hT)
  rw [hKE] at hC
  have HC := Lib.hid hC
  clear hC hKE hR hT
  by_cases h0 : K = 0
  · have b0 : (K != 0) = false := by simp [h0]
    have H0 := Lib.hid h0
    clear h0
    go_enter Tryd.func29, Tryd.ntmps29
    go_wp2_with fail
    refine (HC.out _ (below_one _ _)).mono ?_
    rintro e w1 ⟨rfl, rfl⟩
    go_wp2_with fail
    go_ret
    exact ⟨ret_bool (by simp [H0.out]), below_one _ _⟩
  · have b0 : (K != 0) = true := by simp [h0]
    have H0 := Lib.hid h0
    clear h0
    by_cases h1 : K = k
    · have b1 : (K == k) = true := by simp [h1]
      have H1 := Lib.hid h1
      clear h1
      by_cases h2 : E = s.size
      · have b2 : ((E : Int) == (s.size : Int)) = true := by simp [h2]
        have H2 := Lib.hid h2
        clear h2
        go_enter Tryd.func29, Tryd.ntmps29
        go_wp2_with fail
        refine (HC.out _ (below_one _ _)).mono ?_
        rintro e w1 ⟨rfl, rfl⟩
        go_wp2_with fail
        go_ret
        exact ⟨ret_bool (by have x0 := H0.out; have x1 := H1.out; have x2 := H2.out; simp_all), below_one _ _⟩
      · have b2 : ((E : Int) == (s.size : Int)) = false := by rw [beq_eq_false_iff_ne]; omega
        have H2 := Lib.hid h2
        clear h2
        go_enter Tryd.func29, Tryd.ntmps29
        go_wp2_with fail
        refine (HC.out _ (below_one _ _)).mono ?_
        rintro e w1 ⟨rfl, rfl⟩
        go_wp2_with fail
        go_ret
        exact ⟨ret_bool (by have x0 := H0.out; have x1 := H1.out; have x2 := H2.out; simp_all), below_one _ _⟩
    · have b1 : (K == k) = false := by simp [h1]
      have H1 := Lib.hid h1
      have H2 := H1
      clear h1
      go_enter Tryd.func29, Tryd.ntmps29
      go_wp2_with fail
      refine (HC.out _ (below_one _ _)).mono ?_
      rintro e w1 ⟨rfl, rfl⟩
      go_wp2_with fail
      go_ret
      exact ⟨ret_bool (by have x0 := H0.out; have x1 := H1.out; have x2 := H2.out; simp_all), below_one _ _⟩

set_option maxRecDepth 100000 in
set_option maxHeartbeats 2000000 in
theorem Word_any (s : ByteArray) (w : World) (hs : s.size ≤ 1000000000) :
    Calls Tryd.prog 41 #[.string s] w fun e w' => e = .returned (.bool (decide (0 < s.size) && decide (wrd (tx s) 0 = s.size))) ∧ Below w.heap.size w w' := by
  by_cases hp : 0 < s.size
  · obtain ⟨l, rfl⟩ : ∃ l, s = mkS l := ⟨tx s, rfl⟩
    rw [size_mkS] at hs hp
    rw [tx_mkS, size_mkS]
    obtain ⟨g, cap, w1, hcv, hsl, hbel, hgl, hgs⟩ := conv_str l w
    have hsz := size_mkS l
    have g0 : decide ((0 : Int) < (l.length : Int)) = true := decide_eq_true (by omega)
    have HW := Lib.hid (word_any l _ 0 w1 hsl hs (Nat.zero_le _))
    obtain ⟨E, hE⟩ : ∃ E, wrd l 0 = E := ⟨_, rfl⟩
    rw [hE] at HW
    rw [hE]
    have HP := Lib.hid hp
    clear hE hsl hgl hgs hp
    by_cases h2 : E = l.length
    · have b2 : ((E : Int) == (l.length : Int)) = true := by simp [h2]
      have H2 := Lib.hid h2
      clear h2
      go_enter Tryd.func41, Tryd.ntmps41
      go_wp2_with fail
      refine HW.out.mono ?_
      rintro e w2 ⟨rfl, rfl⟩
      go_wp2_with fail
      go_ret
      exact ⟨ret_bool (by have x0 := HP.out; have x1 := H2.out; simp_all), hbel⟩
    · have b2 : ((E : Int) == (l.length : Int)) = false := by rw [beq_eq_false_iff_ne]; omega
      have H2 := Lib.hid h2
      clear h2
      go_enter Tryd.func41, Tryd.ntmps41
      go_wp2_with fail
      refine HW.out.mono ?_
      rintro e w2 ⟨rfl, rfl⟩
      go_wp2_with fail
      go_ret
      exact ⟨ret_bool (by have x1 := H2.out; simp [x1]), hbel⟩
  · have g0 : decide ((0 : Int) < (s.size : Int)) = false := decide_eq_false (by omega)
    have HP := Lib.hid hp
    clear hp
    go_enter Tryd.func41, Tryd.ntmps41
    go_wp2_with fail
    go_ret
    exact ⟨ret_bool (by have x0 := HP.out; simp [x0]), Below.refl _ _⟩
end Go.Proofs.YtmlkfglnnepjjaaDoor
