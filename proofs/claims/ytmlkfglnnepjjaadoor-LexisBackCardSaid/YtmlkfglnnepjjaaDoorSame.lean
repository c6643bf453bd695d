/- Layer 1, the reference: Same and SameProblems. -/
import Derived.Test.YtmlkfglnnepjjaaDoorRefTok
import Derived.Deep.QuietTactic
import Derived.BigQuiet
namespace Go.Proofs.YtmlkfglnnepjjaaDoor
open Go.RowKit

abbrev Tk := Int × ByteArray × Int
def tkc (t : Tk) : List Value := [.int .i64 t.1, .string t.2.1, .int .i64 t.2.2]
def tkcs (ts : List Tk) : List Value := ts.flatMap tkc
def tA (ts : List Tk) (j : Nat) : Tk := ts.getD j (0, ⟨#[]⟩, 0)
theorem tkcs_len (ts : List Tk) : (tkcs ts).length = ts.length * 3 := by
  induction ts with
  | nil => rfl
  | cons a r ih => simp only [tkcs, List.flatMap_cons, List.length_append, List.length_cons, tkc, List.length_nil] at *; omega
theorem tkcs_at : ∀ (ts : List Tk) (j : Nat), j < ts.length → (tkcs ts)[j * 3]? = some (.int .i64 (tA ts j).1) ∧ (tkcs ts)[j * 3 + 1]? = some (.string (tA ts j).2.1) ∧ (tkcs ts)[j * 3 + 2]? = some (.int .i64 (tA ts j).2.2)
  | [], j, h => by simp at h
  | t :: r, 0, _ => by simp [tkcs, tkc, tA]
  | t :: r, j + 1, h => by
    have ih := tkcs_at r j (by simpa using h)
    have e : tkcs (t :: r) = .int .i64 t.1 :: .string t.2.1 :: .int .i64 t.2.2 :: tkcs r := rfl
    have e2 : tA (t :: r) (j + 1) = tA r j := by simp [tA]
    rw [e, e2, show (j + 1) * 3 = j * 3 + 3 by omega]
    exact ih
def tkEq (o : Bool) (a b : Tk) : Bool := a.1 == b.1 && (a.2.1.toList == b.2.1.toList && (!o || a.2.2 == b.2.2))
def sameB (o : Bool) (xs ys : List Tk) : Bool := decide (xs.length = ys.length) && decide (∀ q, q < xs.length → tkEq o (tA xs q) (tA ys q) = true)

/-- where the cells of a list of tokens lie -/
theorem Sl.toks {w : World} {ts : List Tk} {a : Option Addr} {cap : Nat} (h : Sl w 3 (.slice a ts.length cap) ts.length (tkcs ts)) (hp : 0 < ts.length) :
    ∃ g off, a = some ⟨g, off, none⟩ ∧ ts.length ≤ cap ∧ ∀ j, j < ts.length → w.cell? ⟨g, off + j * 3, none⟩ = some (.int .i64 (tA ts j).1) ∧ w.cell? ⟨g, off + j * 3 + 1, none⟩ = some (.string (tA ts j).2.1) ∧ w.cell? ⟨g, off + j * 3 + 2, none⟩ = some (.int .i64 (tA ts j).2.2) := by
  obtain ⟨_, a', cap', he, hn, hr⟩ := h
  cases he
  rcases hr with h0 | ⟨g, off, rfl, hc⟩
  · omega
  · refine ⟨g, off, rfl, hn, fun j hj => ?_⟩
    obtain ⟨h1, h2, h3⟩ := tkcs_at ts j hj
    exact ⟨hc _ _ h1, by rw [Nat.add_assoc]; exact hc _ _ h2, by rw [Nat.add_assoc]; exact hc _ _ h3⟩


set_option maxRecDepth 100000 in
set_option maxHeartbeats 1000000 in
theorem same_any (xs ys : List Tk) (va vb : Value) (o : Bool) (w : World) (ha : Sl w 3 va xs.length (tkcs xs)) (hb : Sl w 3 vb ys.length (tkcs ys)) (hn : xs.length ≤ 1000000) :
    Calls Tryd.prog 14 #[va, vb, .bool o] w fun e w' => e = .returned (.bool (sameB o xs ys)) ∧ ∃ n, w' = w.drewN n := by
  obtain ⟨aa, ca, rfl⟩ := ha.form
  obtain ⟨ab, cb, rfl⟩ := hb.form
  by_cases hlen : xs.length = ys.length
  · have hl1 : ((xs.length : Int) != (ys.length : Int)) = false := by simp [hlen]
    have Hlen := Lib.hid hlen
    clear hlen
    go_enter Tryd.func14, Tryd.ntmps14
    go_wp2_with fail
    go_loopw [7] (fun i wr => ∃ j n : Nat, j ≤ xs.length ∧ (∀ q, q < j → tkEq o (tA xs q) (tA ys q) = true) ∧ wr = w.drewN n ∧ i = .int .i64 j) (fun i _ => xs.length - (intOf i).toNat)
    case atStart => exact ⟨0, 0, Nat.zero_le _, fun q h => by omega, rfl, rfl⟩
    case round =>
      obtain ⟨j, n, hj, hall, rfl, rfl⟩ := hrel
      have Hall := Lib.hid hall
      clear hall
      by_cases hlt : j < xs.length
      · have hltb : j < ys.length := by have := Hlen.out; omega
        obtain ⟨ga, oa, rfl, hca, hcela⟩ := ha.toks (by omega)
        obtain ⟨gb, ob, rfl, hcb, hcelb⟩ := hb.toks (by omega)
        obtain ⟨a0, a1, a2⟩ := hcela j hlt
        obtain ⟨b0, b1, b2⟩ := hcelb j hltb
        clear hcela hcelb
        obtain ⟨ta, hta⟩ : ∃ t, tA xs j = t := ⟨_, rfl⟩
        obtain ⟨tb, htb⟩ : ∃ t, tA ys j = t := ⟨_, rfl⟩
        rw [hta] at a0 a1 a2
        rw [htb] at b0 b1 b2
        obtain ⟨k1, s1, p1⟩ := ta
        obtain ⟨k2, s2, p2⟩ := tb
        have Hta := Lib.hid hta
        have Htb := Lib.hid htb
        clear hta htb
        simp only [] at a0 a1 a2 b0 b1 b2
        by_cases hk : k1 = k2
        · have hkb : (k1 != k2) = false := by simp [hk]
          by_cases ht : s1.toList = s2.toList
          · have htb : (s1.toList == s2.toList) = true := by simp [ht]
            cases o
            · have hE : tkEq false (k1, s1, p1) (k2, s2, p2) = true := by simp [tkEq, hk, ht]
              have HE := Lib.hid hE
              clear hE hk ht
              go_wp2_with fail
              go_quiet (fail)
              go_wp2_with fail
              go_roundw
              case rel =>
                refine ⟨j + 1, _, by omega, fun q hq => ?_, rfl, by go_num⟩
                rcases Nat.lt_or_ge q j with h | h
                · exact Hall.out q h
                · have he : q = j := by omega
                  rw [he, Hta.out, Htb.out]; exact HE.out
              case measure => simp [intOf]; omega
            · by_cases hp : p1 = p2
              · have hpb : (p1 != p2) = false := by simp [hp]
                have hE : tkEq true (k1, s1, p1) (k2, s2, p2) = true := by simp [tkEq, hk, ht, hp]
                have HE := Lib.hid hE
                clear hE hk ht hp
                go_wp2_with fail
                go_quiet (fail)
                go_wp2_with fail
                go_roundw
                case rel =>
                  refine ⟨j + 1, _, by omega, fun q hq => ?_, rfl, by go_num⟩
                  rcases Nat.lt_or_ge q j with h | h
                  · exact Hall.out q h
                  · have he : q = j := by omega
                    rw [he, Hta.out, Htb.out]; exact HE.out
                case measure => simp [intOf]; omega
              · have hpb : (p1 != p2) = true := by simp [hp]
                have hE : tkEq true (k1, s1, p1) (k2, s2, p2) = false := by simp [tkEq, hp]
                have HE := Lib.hid hE
                clear hE hk ht hp
                go_wp2_with fail
                go_quiet (fail)
                go_wp2_with fail
                go_ret
                refine ⟨ret_bool ?_, _, World.drewN_drewN _ _ _⟩
                unfold sameB
                rw [Bool.and_eq_false_imp.2 (fun _ => decide_eq_false (fun h => by have := h j hlt; rw [Hta.out, Htb.out, HE.out] at this; cases this))]
          · have htb : (s1.toList == s2.toList) = false := by simp [ht]
            have hE : tkEq o (k1, s1, p1) (k2, s2, p2) = false := by simp [tkEq, ht]
            have HE := Lib.hid hE
            clear hE hk ht
            go_wp2_with fail
            go_quiet (fail)
            go_wp2_with fail
            go_ret
            refine ⟨ret_bool ?_, _, World.drewN_drewN _ _ _⟩
            unfold sameB
            rw [Bool.and_eq_false_imp.2 (fun _ => decide_eq_false (fun h => by have := h j hlt; rw [Hta.out, Htb.out, HE.out] at this; cases this))]
        · have hkb : (k1 != k2) = true := by simp [hk]
          have hE : tkEq o (k1, s1, p1) (k2, s2, p2) = false := by simp [tkEq, hk]
          have HE := Lib.hid hE
          clear hE hk
          go_wp2_with fail
          go_quiet (fail)
          go_wp2_with fail
          go_ret
          refine ⟨ret_bool ?_, _, World.drewN_drewN _ _ _⟩
          unfold sameB
          rw [Bool.and_eq_false_imp.2 (fun _ => decide_eq_false (fun h => by have := h j hlt; rw [Hta.out, Htb.out, HE.out] at this; cases this))]
      · go_wp2_with fail
        go_ret
        have hjn : j = xs.length := by omega
        refine ⟨ret_bool ?_, n, rfl⟩
        unfold sameB
        rw [decide_eq_true Hlen.out, decide_eq_true (fun q hq => Hall.out q (by omega))]; rfl
  · have hl1 : ((xs.length : Int) != (ys.length : Int)) = true := by simp; omega
    have Hlen := Lib.hid hlen
    clear hlen
    go_enter Tryd.func14, Tryd.ntmps14
    go_wp2_with fail
    go_ret
    exact ⟨ret_bool (by unfold sameB; rw [decide_eq_false Hlen.out]; rfl), 0, rfl⟩
end Go.Proofs.YtmlkfglnnepjjaaDoor
