/- Disk: the statement DiskNewSpec, the walk. -/
import Derived.Test.YtekmdaphkgkgaaaDkJ
namespace Go.Proofs.Ytekmdaphkgkgaaa
open Go.RowKit

def nwD (n : Int) : Dk := if 1 ≤ n ∧ n ≤ 4096 then newD n.toNat else Dk.zero
def nwE (n : Int) : Int := if 1 ≤ n ∧ n ≤ 4096 then 0 else 1
theorem newP (n : Int) (w : World) : Calls Try.prog 10 #[.int .i64 n] w fun e w' => RetDE (nwD n) (nwE n) w e w' := by
  unfold nwD nwE
  by_cases h : 1 ≤ n ∧ n ≤ 4096
  · obtain ⟨k, rfl⟩ : ∃ k : Nat, n = k := ⟨n.toNat, by omega⟩
    rw [if_pos h, if_pos h]
    exact new_any k (by omega) (by omega) w
  · rw [if_neg h, if_neg h]
    exact new_bad n (by omega) w
theorem refNewP (n : Int) (w : World) : Calls Try.prog 11 #[.int .i64 n] w fun e w' => RetDE (nwD n) (nwE n) w e w' := by
  unfold nwD nwE
  by_cases h : 1 ≤ n ∧ n ≤ 4096
  · obtain ⟨k, rfl⟩ : ∃ k : Nat, n = k := ⟨n.toNat, by omega⟩
    rw [if_pos h, if_pos h]
    exact refNew_any k (by omega) (by omega) w
  · rw [if_neg h, if_neg h]
    exact refNew_bad n (by omega) w
theorem nwD_len (n : Int) : (nwD n).secs.length ≤ 4096 := by
  unfold nwD
  split
  · simp [newD]; omega
  · simp [Dk.zero]

set_option maxRecDepth 100000 in
set_option maxHeartbeats 4000000 in
theorem diskNewSpec_any (n : Int) (w : World) :
    Calls Try.prog 3 #[.int .i64 n] w fun e w' => e = .returned (.bool true) ∧ Below w.heap.size w w' := by
  go_enter Try.func3, Try.ntmps3
  go_wp2_with fail
  refine (sane_any w).mono ?_
  rintro e w1 ⟨rfl, hb1⟩
  go_wp2_with fail
  go_loopw [16] (fun i wr => ∃ (k : Nat) (x y : Value), k ≤ 2 ∧ i = .int .i64 k ∧ Blk wr w1.heap.size 3 #[x, y] ∧ (∃ p : Int, x = .int .i64 p) ∧ (∃ q : Int, y = .int .i64 q) ∧ Below w.heap.size w wr) (fun i _ => 2 - (intOf i).toNat)
  case atStart => exact ⟨0, _, _, by omega, rfl, Blk.new w1 _ _, ⟨_, rfl⟩, ⟨_, rfl⟩, hb1.alloc hb1.size _⟩
  case round =>
    obtain ⟨k, x, y, hk, rfl, hB, ⟨p, rfl⟩, ⟨q, rfl⟩, hb⟩ := hrel
    by_cases hlt : k < 2
    · obtain ⟨z, hz⟩ : ∃ z : Int, wr.cell? ⟨w1.heap.size, k, none⟩ = some (.int .i64 z) := by
        rw [hB.cell k]
        have : k = 0 ∨ k = 1 := by omega
        rcases this with rfl | rfl
        · exact ⟨p, rfl⟩
        · exact ⟨q, rfl⟩
      have i1 : (0 : Int) ≤ (k : Int) := by omega
      have HB := Lib.hid hB
      have hBl := hB.lt
      have HK := Lib.hid hk
      have hlen := nwD_len z
      obtain ⟨D, hD⟩ : ∃ D, nwD z = D := ⟨_, rfl⟩
      obtain ⟨c, hc⟩ : ∃ c, nwE z = c := ⟨_, rfl⟩
      have hN := fun W => newP z W
      have hR := fun W => refNewP z W
      rw [hD] at hlen
      rw [hD, hc] at hN hR
      obtain ⟨S, l, t, st⟩ := D
      simp only [] at hlen
      have HN := Lib.hid hN
      have HR := Lib.hid hR
      clear hN hR hD hc hB
      go_wp2_with fail
      refine (HN.out _).mono ?_
      intro e w2 hr
      obtain ⟨a2, cap2, rfl, hs2, hb2⟩ := hr.lit rfl rfl
      clear hr
      have hB2 := HB.out.below hb2 hBl
      go_wp2_with fail
      refine (HR.out _).mono ?_
      intro e w3 hr
      obtain ⟨a3, cap3, rfl, hs3, hb3⟩ := hr.lit rfl rfl
      clear hr
      have h5 := (Blk.new w2 26 #[.slice a2 S.length cap2, .int .i64 l, .int .i64 t, .bool st]).below hb3 (by simp)
      obtain ⟨b0, b1, b2, b3, _, _, _, _⟩ := dkCells h5
      have hB3 := (hB2.alloc (.cells #[.slice a2 S.length cap2, .int .i64 l, .int .i64 t, .bool st] 26)).below hb3 (by have := hb2.size; simp; omega)
      have hl2 : w2.heap.size < w3.heap.size := by have := hb3.size; simp at this; omega
      have hb23 : Below w2.heap.size w2 w3 := (below_alloc w2 _).trans (hb3.mono (by simp))
      have hbw3 : Below w.heap.size w w3 := hb.trans ((hb2.trans (hb23.mono hb2.size)).mono hb.size)
      have hs2' := (hs2.next hb23).next (below_alloc w3 (.cells #[.slice a3 S.length cap3, .int .i64 l, .int .i64 t, .bool st] 26))
      have hs3' := hs3.next (below_alloc w3 (.cells #[.slice a3 S.length cap3, .int .i64 l, .int .i64 t, .bool st] 26))
      have hsame := Lib.hid (fun W (h2 : Secs W (.slice a2 S.length cap2) S) (h3 : Secs W (.slice a3 S.length cap3) S) => same_any ⟨S, l, t, st⟩ _ _ W h2.dkV h3.dkV (by simp only [maxLen]; omega))
      have HB3 := Lib.hid hB3
      clear h5 hB2 hB3 hs2 hs3 hb3 hb23 hb2
      go_wp2_with fail
      refine (hsame.out _ hs2' hs3').mono ?_
      rintro e w4 ⟨rfl, hb4⟩
      have hB4 := (HB3.out.alloc (.cells #[.slice a3 S.length cap3, .int .i64 l, .int .i64 t, .bool st] 26)).below hb4 (by have := HB3.out.lt; simp; omega)
      have hbw4 : Below w.heap.size w w4 := (hbw3.alloc hbw3.size _).trans (hb4.mono (by have := hbw3.size; simp; omega))
      have HB4 := Lib.hid hB4
      clear hB4 hb4 hs2' hs3'
      go_wp2_with fail
      go_roundw
      case rel => exact ⟨k + 1, _, _, by omega, by go_num, HB4.out, ⟨_, rfl⟩, ⟨_, rfl⟩, hbw4⟩
      case measure => simp [intOf]; omega
    · go_wp2_with fail
      go_ret
      exact ⟨rfl, hb⟩
end Go.Proofs.Ytekmdaphkgkgaaa
