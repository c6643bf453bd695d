/- Wal: Check. -/
import Derived.Test.YtbinibpkbkhdlaaWlB
namespace Go.Proofs.Ytbinibpkbkhdlaa
open Go.RowKit

def lng (s : List UInt8) : Bool := decide (65536 < s.length)
def anyLong (S : List (List UInt8)) : Bool := S.any lng
/-- where the first odd one stands, or -1 -/
def IdxL (S : List (List UInt8)) (w : World) (e : Ending) (w' : World) : Prop := ∃ r : Int, e = .returned (.int .i64 r) ∧ -1 ≤ r ∧ decide (0 ≤ r) = anyLong S ∧ w = w'
set_option maxRecDepth 100000 in
theorem indexL_any (S : List (List UInt8)) (v : Value) (w : World) (hv : Secs w v S) (hS : S.length ≤ maxLen) :
    Calls Try.prog 53 #[v, .func (.func 38) #[] #[]] w fun e w' => IdxL S w e w' := by
  unfold maxLen at hS
  obtain ⟨a, cap, rfl⟩ := hv.len
  go_enter Try.func53, Try.ntmps53
  go_wp2_with fail
  go_loop [8] (fun i => ∃ k : Nat, k ≤ S.length ∧ (∀ j s, j < k → S[j]? = some s → lng s = false) ∧ i = .int .i64 k) (fun i => S.length - (intOf i).toNat)
  case atStart => exact ⟨0, Nat.zero_le _, fun j s h => by omega, rfl⟩
  case round =>
    obtain ⟨k, hk, hall, rfl⟩ := hrel
    have Hall := Lib.hid hall
    clear hall
    by_cases hlt : k < S.length
    · obtain ⟨g, off, rfl, hcap, hc⟩ := hv.at_ (by omega)
      obtain ⟨s, hs⟩ : ∃ s, S[k]? = some s := ⟨_, List.getElem?_eq_getElem hlt⟩
      obtain ⟨ad, c, hcell, _⟩ := hc k s hs
      have Hs := Lib.hid hs
      have Hlt := Lib.hid hlt
      clear hc hs
      by_cases ho : s.length ≤ 65536
      · have hod := tooLong_any ad s.length c
        have hb : decide (65536 < s.length) = false := decide_eq_false (by omega)
        rw [hb] at hod
        have Hod := Lib.hid hod
        have Ho := Lib.hid ho
        clear hod hb ho
        go_wp2_with (first | (go_at_call 38; refine (Hod.out _).mono ?_; rintro e w' ⟨rfl, rfl⟩))
        go_round
        case rel =>
          refine ⟨k + 1, by omega, fun j t hj ht => ?_, by go_num⟩
          rcases Nat.lt_or_ge j k with h | h
          · exact Hall.out j t h ht
          · have : j = k := by omega
            subst this
            rw [Hs.out] at ht
            cases ht
            exact decide_eq_false (by have := Ho.out; omega)
        case measure => simp [intOf]; omega
      · have hod := tooLong_any ad s.length c
        have hb : decide (65536 < s.length) = true := decide_eq_true (by omega)
        rw [hb] at hod
        have Hod := Lib.hid hod
        have Ho := Lib.hid ho
        clear hod hb ho
        go_wp2_with (first | (go_at_call 38; refine (Hod.out _).mono ?_; rintro e w' ⟨rfl, rfl⟩))
        go_ret
        refine ⟨_, rfl, by omega, ?_, rfl⟩
        have h1 : anyLong S = true := by
          rw [anyLong, List.any_eq_true]
          exact ⟨s, List.mem_of_getElem? Hs.out, decide_eq_true (by have := Ho.out; omega)⟩
        rw [h1]
        exact decide_eq_true (by omega)
    · go_wp2_with fail
      go_ret
      refine ⟨_, rfl, by omega, ?_, rfl⟩
      have h1 : anyLong S = false := by
        rw [anyLong, List.any_eq_false]
        intro s hs
        obtain ⟨j, hj⟩ := List.mem_iff_getElem?.1 hs
        have hjl := (List.getElem?_eq_some_iff.1 hj).1
        simp [Hall.out j s (by omega) hj]
      rw [h1]
      exact decide_eq_false (by omega)
theorem containsL_any (S : List (List UInt8)) (v : Value) (w : World) (hv : Secs w v S) (hS : S.length ≤ maxLen) :
    Calls Try.prog 39 #[v, .func (.func 38) #[] #[]] w fun e w' => e = .returned (.bool (anyLong S)) ∧ w = w' := by
  have hI := indexL_any S v w hv hS
  have HI := Lib.hid hI
  clear hI
  go_enter Try.func39, Try.ntmps39
  go_wp2_with fail
  refine HI.out.mono ?_
  rintro e w' ⟨r, rfl, hr, hd, rfl⟩
  obtain ⟨b, hb⟩ : ∃ b, anyLong S = b := ⟨_, rfl⟩
  rw [hb] at hd
  have Hd := Lib.hid hd
  have HB := Lib.hid hb
  clear hd hb
  go_wp2_with fail
  go_ret
  exact ⟨ret_bool (Hd.out.trans HB.out.symm), rfl⟩

theorem long_le {S : List (List UInt8)} (h : anyLong S = false) : ∀ s ∈ S, s.length ≤ 65536 := by
  intro s hs
  have := (List.any_eq_false.1 h) s hs
  simp [lng] at this
  exact this
def used (S : List (List UInt8)) : Nat := (S.map fun s => occ s.length).sum
theorem used_snoc (S : List (List UInt8)) (s : List UInt8) : used (S ++ [s]) = used S + occ s.length := by simp [used]
theorem used_take {S : List (List UInt8)} {k : Nat} {s : List UInt8} (h : S[k]? = some s) : used (S.take (k + 1)) = used (S.take k) + occ s.length := by
  obtain ⟨hk, rfl⟩ := List.getElem?_eq_some_iff.1 h
  rw [List.take_succ_eq_append_getElem hk, used_snoc]
theorem occ_le {n : Nat} (h : n ≤ 65536) : occ n ≤ 1000 := by unfold occ; split <;> omega
theorem used_le {S : List (List UInt8)} (h : ∀ s ∈ S, s.length ≤ 65536) : ∀ k, used (S.take k) ≤ 1000 * k
  | 0 => by simp [used]
  | k + 1 => by
    rcases Nat.lt_or_ge k S.length with hk | hk
    · rw [used_take (List.getElem?_eq_getElem hk)]
      have := used_le h k
      have := occ_le (h _ (List.getElem_mem hk))
      omega
    · rw [List.take_of_length_le (by omega)]
      have := used_le h k
      rw [List.take_of_length_le hk] at this
      omega
set_option maxRecDepth 100000 in
theorem occAll_any (S : List (List UInt8)) (v : Value) (w : World) (hv : Secs w v S) (hS : S.length ≤ 140737488351232) (hall : ∀ s ∈ S, s.length ≤ 65536) :
    Calls Try.prog 34 #[v] w fun e w' => e = .returned (.int .i64 (used S : Nat)) ∧ w = w' := by
  obtain ⟨a, cap, rfl⟩ := hv.len
  have HV := Lib.hid hv
  have HS := Lib.hid hS
  have HA := Lib.hid hall
  clear hv hS hall
  go_enter Try.func34, Try.ntmps34
  go_wp2_with fail
  go_loopw [2, 7] (fun c i wr => ∃ k : Nat, Hid (k ≤ S.length) ∧ c = .int .i64 (used (S.take k) : Nat) ∧ i = .int .i64 (k : Int) ∧ w = wr) (fun _ i _ => S.length - (intOf i).toNat)
  case atStart => exact ⟨0, Lib.hid (Nat.zero_le _), rfl, rfl, rfl⟩
  case round =>
    obtain ⟨k, Hk, rfl, rfl, rfl⟩ := hrel
    by_cases hk : k < S.length
    · obtain ⟨g, off, rfl, hcap, hcs⟩ := HV.out.at_ (by omega)
      obtain ⟨s, hs⟩ : ∃ s, S[k]? = some s := ⟨_, List.getElem?_eq_getElem hk⟩
      obtain ⟨ad, c, hcell, _⟩ := hcs k s hs
      have hsl := HA.out s (List.mem_of_getElem? hs)
      have HO := Lib.hid (occupied_any ad s.length c (by omega) w)
      have hu := used_le HA.out k
      have ho := occ_le hsl
      have Hu := Lib.hid (used_take hs)
      obtain ⟨o, hoo⟩ : ∃ o, occ s.length = o := ⟨_, rfl⟩
      obtain ⟨u, huu⟩ : ∃ u, used (S.take k) = u := ⟨_, rfl⟩
      rw [hoo] at HO Hu ho
      rw [huu] at Hu hu ⊢
      have j1 : (k : Int) < (S.length : Int) := by omega
      have s1 : IntKind.i64.wrap ((k : Int) + 1) = ((k + 1 : Nat) : Int) := by rw [IntKind.wrap_i64]; have := HS.out; omega
      have s2 : IntKind.i64.wrap ((u : Int) + (o : Int)) = ((u + o : Nat) : Int) := by rw [IntKind.wrap_i64]; have := HS.out; omega
      have Hk2 := Lib.hid hk
      clear hcs hs hsl hu ho hoo huu hcap
      go_wp2_with fail
      refine HO.out.mono ?_
      rintro e w' ⟨rfl, rfl⟩
      go_wp2_with fail
      exact ⟨⟨k + 1, Lib.hid Hk2.out, by rw [Hu.out]; go_num, by go_num, trivial⟩, by have := Hk2.out; simp [intOf]; omega⟩
    · have hkS : k = S.length := by have := Hk.out; omega
      have Ht := Lib.hid (List.take_of_length_le (l := S) (i := k) (by omega))
      have j1 : ¬ (k : Int) < (S.length : Int) := by omega
      clear hkS
      go_wp2_with fail
      go_ret
      exact ⟨ret_int (by rw [Ht.out]), rfl⟩
end Go.Proofs.Ytbinibpkbkhdlaa
