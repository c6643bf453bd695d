/- Wal: the statements' few gives a Boolean. -/
import Derived.Test.YtbinibpkbkhdlaaWlZ
namespace Go.Proofs.Ytbinibpkbkhdlaa
open Go.RowKit

/-- some Boolean came back -/
def BoolE (e : Ending) : Prop := ∃ b, e = .returned (.bool b)
set_option maxRecDepth 100000 in
theorem few_any (da : Option Addr) (dn dc : Nat) (x1 x2 : Int) (x3 : Bool) (v : Value) (S : List (List UInt8)) (w : World) (hv : Secs w v S) (hS : S.length ≤ 140737488351232) :
    Calls Try.prog 10 #[.agg #[.slice da dn dc, .int .i64 x1, .int .i64 x2, .bool x3], v] w fun e w' => BoolE e ∧ Below w.heap.size w w' := by
  obtain ⟨a, cap, rfl⟩ := hv.len
  obtain ⟨W, hW⟩ : ∃ W, w.alloc (.cells #[.slice da dn dc, .int .i64 x1, .int .i64 x2, .bool x3] 24) = W := ⟨_, rfl⟩
  have hBW : Blk W w.heap.size 24 #[.slice da dn dc, .int .i64 x1, .int .i64 x2, .bool x3] := by rw [← hW]; exact Blk.new w _ _
  have hbW : Below w.heap.size w W := by rw [← hW]; exact below_alloc w _
  have HV := Lib.hid (hv.next hbW)
  have HS := Lib.hid hS
  have HBW := Lib.hid hBW
  have HbW := Lib.hid hbW
  have HW := Lib.hid hW
  clear hBW hbW hW hv hS
  go_enter Try.func10, Try.ntmps10
  go_wp2_with (rw [HW.out])
  obtain ⟨l0, l1, l2, l3, _, _, _, _⟩ := dkCells HBW.out
  go_loopw [5, 7, 10] (fun z _ i wr => ∃ (k : Nat) (x : Int), Hid (k ≤ S.length) ∧ z = .int .i64 x ∧ i = .int .i64 (k : Int) ∧ W = wr) (fun _ _ i _ => S.length - (intOf i).toNat)
  case atStart => exact ⟨0, 0, Lib.hid (Nat.zero_le _), rfl, rfl, rfl⟩
  case round =>
    obtain ⟨k, x, Hk, rfl, rfl, rfl⟩ := hrel
    by_cases hk : k < S.length
    · obtain ⟨g, off, rfl, hcap, hcs⟩ := HV.out.at_ (by omega)
      obtain ⟨s, hs⟩ : ∃ s, S[k]? = some s := ⟨_, List.getElem?_eq_getElem hk⟩
      obtain ⟨ad, c, hcell, _⟩ := hcs k s hs
      have j1 : (k : Int) < (S.length : Int) := by omega
      have s1 : IntKind.i64.wrap ((k : Int) + 1) = ((k + 1 : Nat) : Int) := by rw [IntKind.wrap_i64]; have := HS.out; omega
      have Hk2 := Lib.hid hk
      clear hcs hs hcap
      go_wp2_with fail
      exact ⟨⟨k + 1, _, Lib.hid Hk2.out, rfl, by go_num, trivial⟩, by have := Hk2.out; simp [intOf]; omega⟩
    · have j1 : ¬ (k : Int) < (S.length : Int) := by have := Hk.out; omega
      by_cases h1 : (dn : Int) ≤ 40
      · by_cases h2 : x ≤ 4000
        · go_wp2_with fail
          exact bodyPost_ret (v := .bool true) (by simp [results, Try.results10, go_sem, *]) rfl ⟨⟨true, rfl⟩, HbW.out⟩
        · go_wp2_with fail
          exact bodyPost_ret (v := .bool false) (by simp [results, Try.results10, go_sem, *]) rfl ⟨⟨false, rfl⟩, HbW.out⟩
      · go_wp2_with fail
        exact bodyPost_ret (v := .bool false) (by simp [results, Try.results10, go_sem, *]) rfl ⟨⟨false, rfl⟩, HbW.out⟩
end Go.Proofs.Ytbinibpkbkhdlaa
