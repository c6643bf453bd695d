/- Wal: the reference's Sectors, Used. -/
import Derived.Test.YtbinibpkbkhdlaaWlFew
import Derived.BigQuiet
namespace Go.Proofs.Ytbinibpkbkhdlaa
open Go.RowKit

set_option maxRecDepth 100000 in
theorem sectors_any (n : Nat) (hn : n ≤ 9223372036854775000) (w : World) :
    Calls Try.prog 36 #[.int .i64 (n : Int)] w fun e w' => e = .returned (.int .i64 (occ n : Nat)) ∧ w = w' := by
  have s1 : IntKind.i64.wrap ((n : Int) + 112) = (n : Int) + 112 := by rw [IntKind.wrap_i64]; omega
  have s2 : IntKind.i64.wrap ((n : Int) + 112 - 1) = (n : Int) + 111 := by rw [IntKind.wrap_i64]; omega
  have Ho := Lib.hid (show (n = 0 → occ n = 1) ∧ (n ≠ 0 → occ n = (n + 111) / 112) from ⟨fun h => if_pos h, fun h => if_neg h⟩)
  go_enter Try.func36, Try.ntmps36
  go_wp2_with fail
  all_goals
    go_ret
    refine ⟨ret_int ?_, rfl⟩
    have h1 := Ho.out.1
    have h2 := Ho.out.2
    by_cases h : n = 0
    · have := h1 h; omega
    · have := h2 h; omega
theorem wrap_wrap (x y : Int) : IntKind.i64.wrap (IntKind.i64.wrap x + y) = IntKind.i64.wrap (x + y) := by
  simp only [IntKind.wrap_i64]; omega
set_option maxRecDepth 100000 in
theorem rused_any (S : List (List UInt8)) (v : Value) (w : World) (hv : Secs w v S) (hS : S.length ≤ 140737488351232) (hall : ∀ s ∈ S, s.length ≤ 140737488351232) :
    Calls Try.prog 37 #[v] w fun e w' => e = .returned (.int .i64 (IntKind.i64.wrap (used S : Nat))) ∧ w = w' := by
  obtain ⟨a, cap, rfl⟩ := hv.len
  have HV := Lib.hid hv
  have HS := Lib.hid hS
  have HA := Lib.hid hall
  clear hv hS hall
  go_enter Try.func37, Try.ntmps37
  go_wp2_with fail
  go_loopw [3, 4] (fun c i wr => ∃ (k : Nat) (x : Int), Hid (k ≤ S.length) ∧ c = .int .i64 x ∧ Hid (x = IntKind.i64.wrap (used (S.take k) : Nat)) ∧ i = .int .i64 (k : Int) ∧ w = wr) (fun _ i _ => S.length - (intOf i).toNat)
  case atStart => exact ⟨0, 0, Lib.hid (Nat.zero_le _), rfl, Lib.hid (by rw [IntKind.wrap_i64]; simp [used]), rfl, rfl⟩
  case round =>
    obtain ⟨k, x, Hk, rfl, Hx, rfl, rfl⟩ := hrel
    by_cases hk : k < S.length
    · obtain ⟨g, off, rfl, hcap, hcs⟩ := HV.out.at_ (by omega)
      obtain ⟨s, hs⟩ : ∃ s, S[k]? = some s := ⟨_, List.getElem?_eq_getElem hk⟩
      obtain ⟨ad, c, hcell, _⟩ := hcs k s hs
      have hsl := HA.out s (List.mem_of_getElem? hs)
      have HO := Lib.hid (sectors_any s.length (by omega) w)
      have Hu := Lib.hid (used_take hs)
      have j0 : (0 : Int) ≤ (k : Int) := by omega
      have j1 : (k : Int) < (S.length : Int) := by omega
      have s1 : IntKind.i64.wrap ((k : Int) + 1) = ((k + 1 : Nat) : Int) := by rw [IntKind.wrap_i64]; have := HS.out; omega
      have Hk2 := Lib.hid hk
      clear hcs hs hsl hcap
      go_wp2_with fail
      refine HO.out.mono ?_
      rintro e w' ⟨rfl, rfl⟩
      go_wp2_with fail
      exact ⟨⟨k + 1, _, Lib.hid Hk2.out, rfl, Lib.hid (by rw [Hx.out, Hu.out]; simp only [wrap64, IntKind.wrap_i64]; omega), by go_num, trivial⟩, by have := Hk2.out; simp [intOf]; omega⟩
    · have hkS : k = S.length := by have := Hk.out; omega
      have Ht := Lib.hid (List.take_of_length_le (l := S) (i := k) (by omega))
      have j1 : ¬ (k : Int) < (S.length : Int) := by omega
      clear hkS
      go_wp2_with fail
      go_ret
      exact ⟨ret_int (by rw [Hx.out, Ht.out]), rfl⟩
end Go.Proofs.Ytbinibpkbkhdlaa
