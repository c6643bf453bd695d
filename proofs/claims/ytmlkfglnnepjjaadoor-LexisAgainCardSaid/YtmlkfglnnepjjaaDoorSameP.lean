/- Layer 1, the reference: SameProblems. -/
import Derived.Test.YtmlkfglnnepjjaaDoorRefTok
import Derived.Deep.QuietTactic
import Derived.BigQuiet
namespace Go.Proofs.YtmlkfglnnepjjaaDoor
open Go.RowKit

theorem pc_at : ∀ (ts : List Nat) (j : Nat), j < ts.length → (pc ts)[j * 2]? = some (.int .i64 (ts.getD j 0 : Nat)) ∧ (pc ts)[j * 2 + 1]? = some (.int .i64 10)
  | [], j, h => by simp at h
  | t :: r, 0, _ => by simp [pc]
  | t :: r, j + 1, h => by
    have ih := pc_at r j (by simpa using h)
    have e : pc (t :: r) = .int .i64 (t : Int) :: .int .i64 10 :: pc r := rfl
    rw [e, show (j + 1) * 2 = j * 2 + 2 by omega]
    simpa using ih
theorem Sl.probs {w : World} {ts : List Nat} {a : Option Addr} {cap : Nat} (h : Sl w 2 (.slice a ts.length cap) ts.length (pc ts)) (hp : 0 < ts.length) :
    ∃ g off, a = some ⟨g, off, none⟩ ∧ ts.length ≤ cap ∧ ∀ j, j < ts.length → w.cell? ⟨g, off + j * 2, none⟩ = some (.int .i64 (ts.getD j 0 : Nat)) ∧ w.cell? ⟨g, off + j * 2 + 1, none⟩ = some (.int .i64 10) := by
  obtain ⟨_, a', cap', he, hn, hr⟩ := h
  cases he
  rcases hr with h0 | ⟨g, off, rfl, hc⟩
  · omega
  · refine ⟨g, off, rfl, hn, fun j hj => ?_⟩
    obtain ⟨h1, h2⟩ := pc_at ts j hj
    exact ⟨hc _ _ h1, by rw [Nat.add_assoc]; exact hc _ _ h2⟩
def sameP (xs ys : List Nat) : Bool := decide (xs.length = ys.length) && decide (∀ q, q < xs.length → xs.getD q 0 = ys.getD q 0)
theorem sameP_refl (xs : List Nat) : sameP xs xs = true := by simp [sameP]


set_option maxRecDepth 100000 in
set_option maxHeartbeats 1000000 in
theorem sameProblems_any (xs ys : List Nat) (va vb : Value) (w : World) (ha : Sl w 2 va xs.length (pc xs)) (hb : Sl w 2 vb ys.length (pc ys)) (hn : xs.length ≤ 1000000) :
    Calls Tryd.prog 15 #[va, vb] w fun e w' => e = .returned (.bool (sameP xs ys)) ∧ ∃ n, w' = w.drewN n := by
  obtain ⟨aa, ca, rfl⟩ := ha.form
  obtain ⟨ab, cb, rfl⟩ := hb.form
  by_cases hlen : xs.length = ys.length
  · have hl1 : ((xs.length : Int) != (ys.length : Int)) = false := by simp [hlen]
    have Hlen := Lib.hid hlen
    clear hlen
    go_enter Tryd.func15, Tryd.ntmps15
    go_wp2_with fail
    go_loopw [5] (fun i wr => ∃ j n : Nat, j ≤ xs.length ∧ (∀ q, q < j → xs.getD q 0 = ys.getD q 0) ∧ wr = w.drewN n ∧ i = .int .i64 j) (fun i _ => xs.length - (intOf i).toNat)
    case atStart => exact ⟨0, 0, Nat.zero_le _, fun q h => by omega, rfl, rfl⟩
    case round =>
      obtain ⟨j, n, hj, hall, rfl, rfl⟩ := hrel
      have Hall := Lib.hid hall
      clear hall
      by_cases hlt : j < xs.length
      · have hltb : j < ys.length := by have := Hlen.out; omega
        obtain ⟨ga, oa, rfl, hca, hcela⟩ := ha.probs (by omega)
        obtain ⟨gb, ob, rfl, hcb, hcelb⟩ := hb.probs (by omega)
        obtain ⟨a0, a1⟩ := hcela j hlt
        obtain ⟨b0, b1⟩ := hcelb j hltb
        clear hcela hcelb
        obtain ⟨p1, hta⟩ : ∃ t, xs.getD j 0 = t := ⟨_, rfl⟩
        obtain ⟨p2, htb⟩ : ∃ t, ys.getD j 0 = t := ⟨_, rfl⟩
        rw [hta] at a0
        rw [htb] at b0
        have Hta := Lib.hid hta
        have Htb := Lib.hid htb
        clear hta htb
        by_cases hp : p1 = p2
        · subst hp
          go_wp2_with fail
          go_quiet (fail)
          go_wp2_with fail
          go_roundw
          case rel =>
            refine ⟨j + 1, _, by omega, fun q hq => ?_, rfl, by go_num⟩
            rcases Nat.lt_or_ge q j with h | h
            · exact Hall.out q h
            · have he : q = j := by omega
              rw [he, Hta.out, Htb.out]
          case measure => simp [intOf]; omega
        · have hpb : ((p1 : Int) == (p2 : Int)) = false := by simp; omega
          have Hp := Lib.hid hp
          clear hp
          go_wp2_with fail
          go_quiet (fail)
          go_wp2_with fail
          go_ret
          refine ⟨ret_bool ?_, _, World.drewN_drewN _ _ _⟩
          unfold sameP
          rw [Bool.and_eq_false_imp.2 (fun _ => decide_eq_false (fun h => by have := h j hlt; rw [Hta.out, Htb.out] at this; exact Hp.out this))]
      · go_wp2_with fail
        go_ret
        have hjn : j = xs.length := by omega
        refine ⟨ret_bool ?_, n, rfl⟩
        unfold sameP
        rw [decide_eq_true Hlen.out, decide_eq_true (fun q hq => Hall.out q (by omega))]; rfl
  · have hl1 : ((xs.length : Int) != (ys.length : Int)) = true := by simp; omega
    have Hlen := Lib.hid hlen
    clear hlen
    go_enter Tryd.func15, Tryd.ntmps15
    go_wp2_with fail
    go_ret
    exact ⟨ret_bool (by unfold sameP; rw [decide_eq_false Hlen.out]; rfl), 0, rfl⟩
end Go.Proofs.YtmlkfglnnepjjaaDoor
