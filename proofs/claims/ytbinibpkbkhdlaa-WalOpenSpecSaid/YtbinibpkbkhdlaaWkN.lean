/- Disk: the reference's Check. -/
import Derived.Test.YtbinibpkbkhdlaaWkG
namespace Go.Proofs.Ytbinibpkbkhdlaa
open Go.RowKit

set_option maxRecDepth 100000 in
set_option maxHeartbeats 4000000 in
theorem refCheck_any (D : Dk) (d : Value) (w : World) (hd : DkV w d D) (hlen : D.secs.length ≤ maxLen) :
    Calls Try.prog 31 #[d] w fun e w' => e = .returned (.int .i64 (chk D)) ∧ Below w.heap.size w w' := by
  unfold maxLen at hlen
  obtain ⟨v, rfl, hs⟩ := hd
  obtain ⟨S, left, tear, stop⟩ := D
  obtain ⟨a, cap, rfl⟩ := hs.len
  simp only [] at hs hlen
  unfold dkAgg
  simp only []
  by_cases h1 : S.length < 1
  · have h1' : (S.length : Int) < 1 := by omega
    have HE := Lib.hid (chk_1 (D := ⟨S, left, tear, stop⟩) (.inl h1))
    clear hs
    go_enter Try.func31, Try.ntmps31
    go_wp2_with fail
    go_ret
    exact ⟨ret_int HE.out.symm, below_alloc w _⟩
  have h1' : 1 ≤ (S.length : Int) := by omega
  have g1 := h1
  clear h1
  by_cases h2 : 4096 < S.length
  · have h2' : 4096 < (S.length : Int) := by omega
    have HE := Lib.hid (chk_1 (D := ⟨S, left, tear, stop⟩) (.inr (.inl h2)))
    clear hs
    go_enter Try.func31, Try.ntmps31
    go_wp2_with fail
    go_ret
    exact ⟨ret_int HE.out.symm, below_alloc w _⟩
  have h2' : (S.length : Int) ≤ 4096 := by omega
  have g2 := h2
  clear h2
  by_cases h3 : left < -1
  · have HE := Lib.hid (chk_1 (D := ⟨S, left, tear, stop⟩) (.inr (.inr (.inr (.inl h3)))))
    clear hs
    go_enter Try.func31, Try.ntmps31
    go_wp2_with fail
    go_ret
    exact ⟨ret_int HE.out.symm, below_alloc w _⟩
  have h3' : -1 ≤ left := by omega
  clear h3
  by_cases h4 : tear < 0
  · have HE := Lib.hid (chk_1 (D := ⟨S, left, tear, stop⟩) (.inr (.inr (.inr (.inr (.inl h4))))))
    clear hs
    go_enter Try.func31, Try.ntmps31
    go_wp2_with fail
    go_ret
    exact ⟨ret_int HE.out.symm, below_alloc w _⟩
  have h4' : 0 ≤ tear := by omega
  clear h4
  by_cases h5 : 128 < tear
  · have HE := Lib.hid (chk_1 (D := ⟨S, left, tear, stop⟩) (.inr (.inr (.inr (.inr (.inr (.inl h5)))))))
    clear hs
    go_enter Try.func31, Try.ntmps31
    go_wp2_with fail
    go_ret
    exact ⟨ret_int HE.out.symm, below_alloc w _⟩
  have h5' : tear ≤ 128 := by omega
  clear h5
  by_cases h6 : stop = true ∧ left ≠ 0
  · obtain ⟨rfl, h6⟩ := h6
    have h6' : (left != 0) = true := by simpa using h6
    have HE := Lib.hid (chk_1 (D := ⟨S, left, tear, true⟩) (.inr (.inr (.inr (.inr (.inr (.inr ⟨rfl, h6⟩)))))))
    clear hs
    go_enter Try.func31, Try.ntmps31
    go_wp2_with fail
    go_ret
    exact ⟨ret_int HE.out.symm, below_alloc w _⟩
  have h6' : (stop && (left != 0)) = false := by
    cases stop
    · rfl
    · simp at h6; simp [h6]
  have H6 : stop = false ∨ left = 0 := by
    cases stop
    · exact .inl rfl
    · simp at h6; exact .inr h6
  have HOK := Lib.hid (fun hA => chk_0 (D := ⟨S, left, tear, stop⟩) (by show 1 ≤ S.length; omega) (by show S.length ≤ 4096; omega) hA h3' h4' h5' H6)
  have HG := Lib.hid (And.intro g1 g2)
  clear h6 H6 g1 g2
  obtain ⟨W, hW⟩ : ∃ W, W = w.alloc (.cells #[.slice a S.length cap, .int .i64 left, .int .i64 tear, .bool stop] 24) := ⟨_, rfl⟩
  have hBW : Blk W w.heap.size 24 #[.slice a S.length cap, .int .i64 left, .int .i64 tear, .bool stop] := by rw [hW]; exact Blk.new w _ _
  have hbW : Below w.heap.size w W := by rw [hW]; exact below_alloc w _
  have hsW := hs.next hbW
  have HBW := Lib.hid hBW
  have HbW := Lib.hid hbW
  have HsW := Lib.hid hsW
  have HW := Lib.hid hW
  clear hBW hbW hsW hW hs
  have hstop : stop = true ∧ (left != 0) = false ∨ stop = false := by
    cases stop
    · exact .inr rfl
    · exact .inl ⟨rfl, by simpa using h6'⟩
  clear h6'
  rcases hstop with ⟨rfl, hz⟩ | rfl
  all_goals
    go_enter Try.func31, Try.ntmps31
    go_wp2_with fail
    rw [← HW.out]
    obtain ⟨b0, _, _, _, _⟩ := dkCells HBW.out
    go_loop [3] (fun i => ∃ k : Nat, k ≤ S.length ∧ (∀ j s, j < k → S[j]? = some s → odd s = false) ∧ i = .int .i64 k) (fun i => S.length - (intOf i).toNat)
    case atStart => exact ⟨0, Nat.zero_le _, fun j s h => by omega, rfl⟩
    case round =>
      obtain ⟨k, hk, hall, rfl⟩ := hrel
      have Hall := Lib.hid hall
      clear hall
      by_cases hlt : k < S.length
      · obtain ⟨g, off, rfl, hcap, hc⟩ := HsW.out.at_ (by omega)
        obtain ⟨s, hjs⟩ : ∃ s, S[k]? = some s := ⟨_, List.getElem?_eq_getElem hlt⟩
        obtain ⟨ad, c, hcell, _⟩ := hc k s hjs
        have Hs := Lib.hid hjs
        have Hlt := Lib.hid hlt
        have i1 : (0 : Int) ≤ (k : Int) := by omega
        have i2 : (k : Int) < (S.length : Int) := by omega
        clear hc hjs
        by_cases ho : s.length = 128
        · have ho' : ((s.length : Int) != 128) = false := by simp; omega
          have Ho := Lib.hid ho
          clear ho
          go_wp2_with fail
          go_round
          case rel =>
            refine ⟨k + 1, by omega, fun j t hj ht => ?_, by go_num⟩
            rcases Nat.lt_or_ge j k with h | h
            · exact Hall.out j t h ht
            · have : j = k := by omega
              subst this
              rw [Hs.out] at ht
              cases ht
              simp [odd, Ho.out]
          case measure => simp [intOf]; omega
        · have ho' : ((s.length : Int) != 128) = true := by simp; omega
          have Ho := Lib.hid ho
          clear ho
          go_wp2_with fail
          go_ret
          have hA : anyOdd S = true := by
            rw [anyOdd, List.any_eq_true]
            exact ⟨s, List.mem_of_getElem? Hs.out, by simp [odd, Ho.out]⟩
          exact ⟨ret_int (chk_1 (.inr (.inr (.inl hA)))).symm, HbW.out⟩
      · go_wp2_with fail
        go_ret
        have hA : anyOdd S = false := by
          rw [anyOdd, List.any_eq_false]
          intro s hs
          obtain ⟨j, hj⟩ := List.mem_iff_getElem?.1 hs
          have hjl := (List.getElem?_eq_some_iff.1 hj).1
          simp [Hall.out j s (by omega) hj]
        exact ⟨ret_int (HOK.out hA).symm, HbW.out⟩
end Go.Proofs.Ytbinibpkbkhdlaa
