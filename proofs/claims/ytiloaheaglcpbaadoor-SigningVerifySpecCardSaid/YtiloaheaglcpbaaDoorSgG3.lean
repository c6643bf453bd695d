/- Signing: what Sign gives verifies. -/
import Derived.Test.YtiloaheaglcpbaaDoorSgG2
import Derived.Test.YtiloaheaglcpbaaDoorSgF7
namespace Go.Proofs.YtiloaheaglcpbaaDoor
open Go.RowKit

theorem flw_add (i j : Nat) (d : List UInt8) (a : Nat) : ∀ k, flw i j (flw i j d 0 a) a k = flw i j d 0 (a + k)
  | 0 => rfl
  | k + 1 => by rw [flw, flw_add i j d a k, ← Nat.add_assoc, flw, Nat.zero_add]
theorem ends_at {w : World} {g o : Nat} (E : Nat → List UInt8) (hE : ∀ j, (E j).length = 32) : ∀ n, w.rangeAt g o (bc (ends E n)) → ∀ j, j < n → w.rangeAt g (o + j * 32) (bc (E j))
  | 0, _, j, hj => by omega
  | n + 1, h, j, hj => by
    rw [ends_succ, bc_app] at h
    by_cases e : j = n
    · subst e
      exact range_right h (by rw [bc_len, ends_len E hE])
    · exact ends_at E hE n (range_left h) j (by omega)
theorem opub_signed (seed : List UInt8) (ix : Nat) (dg : List UInt8) : (opub fun j => flw ix j (prt seed ix dg j) (dig dg j) (15 - dig dg j)) = pk1 seed ix := by
  unfold pk1
  congr 1
  funext j
  unfold prt vlu
  rw [flw_add, show dig dg j + (15 - dig dg j) = 15 by have := dig_lt dg j; omega]

/-- Verify at what Sign gave -/
theorem verify_signed (seed : List UInt8) (m : Nat) (hm : m = 1 ∨ m = 2) (ix : Nat) (hix : ix < m) (msg : List UInt8) (q : Nat) (hq : msg.length = q) (hq9 : q ≤ 65536) (am : Option Addr) (capm : Nat) (v p : Value) (B B' : Nat) (w : World)
    (hy : Sl w 1 (.slice am q capm) q (bc msg)) (hv : w.ownsRow B 26 32 v 67 (prC seed ix (mh (pub seed m) ix msg) 67)) (hp : w.ownsRow B' 26 32 p (m - 1) (ptC seed m ix)) (hT : Tabs w) :
    Calls Tryd.prog 25 #[arrV (pub seed m), .int .i64 (m : Int), .slice am q capm, .agg #[.int .i64 (ix : Int), v, p]] w fun e w' => e = .returned (.bool true) ∧ Below w.heap.size w w' := by
  obtain ⟨g, cap, rfl, _, hr⟩ := own_range hv (by omega)
  have hr' := fun j hj => ends_at (o := 0) _ (prt_len seed ix (mh (pub seed m) ix msg)) 67 hr j hj
  have key : ∀ (pa : Option Addr) (pn pcap : Nat), (∀ W, Below w.heap.size w W → Calls Tryd.prog 47 #[arrV (pk1 seed ix), .int .i64 (ix : Int), .int .i64 (m : Int), .slice pa pn pcap] W fun e w' => e = .returned (.tuple #[arrV (pub seed m), .int .i64 0]) ∧ Below W.heap.size W w') →
      Calls Tryd.prog 25 #[arrV (pub seed m), .int .i64 (m : Int), .slice am q capm, .agg #[.int .i64 (ix : Int), .slice (some ⟨g, 0, none⟩) 67 cap, .slice pa pn pcap]] w fun e w' => e = .returned (.bool true) ∧ Below w.heap.size w w' := fun pa pn pcap hC => by
    refine (verify_any (pub seed m) (pub_len seed m) m (by omega) (by omega) ix hix msg q hq hq9 am capm (prt seed ix (mh (pub seed m) ix msg)) (prt_len _ _ _) g 0 cap pa pn pcap w hy hr' hT (pub seed m) (pub_len seed m) ?_).mono ?_
    · rw [opub_signed]; exact hC
    · rintro e w' ⟨rfl, hb⟩
      exact ⟨by rw [decide_eq_true rfl], hb⟩
  obtain ⟨pa, pcap, rfl⟩ := (Sl.of_own hp).form
  rcases hm with rfl | rfl
  · obtain rfl : ix = 0 := by omega
    exact key pa 0 pcap fun W hb => climb1_any (pk1 seed 0) rfl pa pcap W (hT.next hb)
  · obtain ⟨pg, pcap', hpe, _, hpr⟩ := own_range hp (by omega)
    cases hpe
    have hl : pg < w.heap.size := by
      have h1 : ptC seed 2 ix = bc (lf (pk1 seed (1 - ix))) := rfl
      rw [h1] at hpr
      have := hpr 0 _ (by rw [bt_cell (d := lf (pk1 seed (1 - ix))) (k := 0) (by rw [lf_len]; omega)])
      exact World.block_lt_of_cell? w _ this
    rcases (show ix = 0 ∨ ix = 1 by omega) with rfl | rfl
    · exact key _ 1 _ fun W hb => climb2_0 (pk1 seed 0) (lf (pk1 seed 1)) rfl rfl pg 0 pcap W (rangeAt_below hpr hb hl) (hT.next hb)
    · exact key _ 1 _ fun W hb => climb2_1 (pk1 seed 1) (lf (pk1 seed 0)) rfl rfl pg 0 pcap W (rangeAt_below hpr hb hl) (hT.next hb)
end Go.Proofs.YtiloaheaglcpbaaDoor
