/- Disk: few. -/
import Derived.Test.YtekmdaphkgkgaaaDkR
namespace Go.Proofs.Ytekmdaphkgkgaaa
open Go.RowKit

def FewOut (D : Dk) (w : World) (e : Ending) (w' : World) : Prop := ∃ r : Bool, e = .returned (.bool r) ∧ Below w.heap.size w w' ∧ (r = true → D.secs.length ≤ 12 ∧ ∀ s ∈ D.secs, s.length ≤ 256)
set_option maxRecDepth 100000 in
set_option maxHeartbeats 2000000 in
theorem few_any (D : Dk) (d : Value) (w : World) (hd : DkV w d D) (hlen : D.secs.length ≤ maxLen) :
    Calls Try.prog 13 #[d] w fun e w' => FewOut D w e w' := by
  unfold maxLen at hlen
  obtain ⟨v, rfl, hs⟩ := hd
  obtain ⟨S, left, tear, stop⟩ := D
  obtain ⟨a, cap, rfl⟩ := hs.len
  simp only [] at hs hlen
  unfold dkAgg
  simp only []
  obtain ⟨W, hW⟩ : ∃ W, W = w.alloc (.cells #[.slice a S.length cap, .int .i64 left, .int .i64 tear, .bool stop] 26) := ⟨_, rfl⟩
  have hBW : Blk W w.heap.size 26 #[.slice a S.length cap, .int .i64 left, .int .i64 tear, .bool stop] := by rw [hW]; exact Blk.new w _ _
  have hbW : Below w.heap.size w W := by rw [hW]; exact below_alloc w _
  have hsW := hs.next hbW
  have HBW := Lib.hid hBW
  have HbW := Lib.hid hbW
  have HsW := Lib.hid hsW
  have HW := Lib.hid hW
  clear hBW hbW hsW hW hs
  go_enter Try.func13, Try.ntmps13
  go_wp2_with fail
  rw [← HW.out]
  obtain ⟨b0, _, _, _, _⟩ := dkCells HBW.out
  go_loop [8] (fun i => ∃ k : Nat, k ≤ S.length ∧ (∀ j s, j < k → S[j]? = some s → s.length ≤ 256) ∧ i = .int .i64 k) (fun i => S.length - (intOf i).toNat)
  case atStart => exact ⟨0, Nat.zero_le _, fun j s h => by omega, rfl⟩
  case round =>
    obtain ⟨k, hk, hall, rfl⟩ := hrel
    have Hall := Lib.hid hall
    clear hall
    by_cases hlt : k < S.length
    · obtain ⟨g, off, rfl, hcap, hc⟩ := HsW.out.at_ (by omega)
      obtain ⟨s, hjs⟩ : ∃ s, S[k]? = some s := ⟨_, List.getElem?_eq_getElem hlt⟩
      obtain ⟨ad, c, hcell, _⟩ := hc k s hjs
      have Hs := Lib.hid hjs
      have i1 : (0 : Int) ≤ (k : Int) := by omega
      have i2 : (k : Int) < (S.length : Int) := by omega
      clear hc hjs
      by_cases ho : 256 < s.length
      · have ho' : (256 : Int) < (s.length : Int) := by omega
        clear ho
        go_wp2_with fail
        go_ret
        exact ⟨false, rfl, HbW.out, by simp⟩
      · have ho' : ¬ (256 : Int) < (s.length : Int) := by omega
        have ho2 : (s.length : Int) ≤ 256 := by omega
        have Ho := Lib.hid ho
        clear ho
        go_wp2_with fail
        go_round
        case rel =>
          refine ⟨k + 1, by omega, fun j t hj ht => ?_, by go_num⟩
          rcases Nat.lt_or_ge j k with h | h
          · exact Hall.out j t h ht
          · have : j = k := by omega
            subst this
            rw [Hs.out] at ht
            cases ht
            have := Ho.out
            omega
        case measure => simp [intOf]; omega
    · go_wp2_with fail
      go_ret
      refine ⟨_, rfl, HbW.out, fun h => ⟨by show S.length ≤ 12; have := of_decide_eq_true h; omega, fun s hs => ?_⟩⟩
      obtain ⟨j, hj⟩ := List.mem_iff_getElem?.1 hs
      have hjl := (List.getElem?_eq_some_iff.1 hj).1
      exact Hall.out j s (by have : j < S.length := hjl; omega) hj
end Go.Proofs.Ytekmdaphkgkgaaa
