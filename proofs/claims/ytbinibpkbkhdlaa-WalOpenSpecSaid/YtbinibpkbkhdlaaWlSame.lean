/- Wal: the reference's SameRecords at two lists that read the same. -/
import Derived.Test.YtbinibpkbkhdlaaWlFew
import Derived.BigQuiet
namespace Go.Proofs.Ytbinibpkbkhdlaa
open Go.RowKit

set_option maxRecDepth 100000 in
theorem sameRec_any (S : List (List UInt8)) (n : Nat) (hn : S.length = n) (xa xb : Option Addr) (ca cb : Nat) (w : World) (ha : Secs w (.slice xa n ca) S) (hb : Secs w (.slice xb n cb) S) (hS : n ≤ 140737488351232) :
    Calls Try.prog 23 #[.slice xa n ca, .slice xb n cb] w fun e w' => e = .returned (.bool true) ∧ ∃ m, w' = w.drewN m := by
  subst hn
  have HA := Lib.hid ha
  have HB := Lib.hid hb
  have HS := Lib.hid hS
  clear ha hb hS
  go_enter Try.func23, Try.ntmps23
  go_wp2_with fail
  go_loopw [5] (fun i wr => ∃ j k : Nat, Hid (j ≤ S.length) ∧ i = .int .i64 (j : Int) ∧ wr = w.drewN k) (fun i _ => S.length - (intOf i).toNat)
  case atStart => exact ⟨0, 0, Lib.hid (Nat.zero_le _), rfl, rfl⟩
  case round =>
    obtain ⟨j, k, Hj, rfl, hwr⟩ := hrel
    have hsa : Secs wr (.slice xa S.length ca) S := by rw [hwr]; exact HA.out.next (below_drewN (Below.refl _ _) _)
    have hsb : Secs wr (.slice xb S.length cb) S := by rw [hwr]; exact HB.out.next (below_drewN (Below.refl _ _) _)
    have HW := Lib.hid hwr
    clear hwr
    by_cases hlt : j < S.length
    · obtain ⟨g, off, rfl, hcap, hc⟩ := hsa.at_ (by omega)
      obtain ⟨g', off', rfl, hcap', hc'⟩ := hsb.at_ (by omega)
      obtain ⟨s, hjs⟩ : ∃ s, S[j]? = some s := ⟨_, List.getElem?_eq_getElem hlt⟩
      obtain ⟨x1, c1, e1, l1⟩ := hc j s hjs
      obtain ⟨x2, c2, e2, l2⟩ := hc' j s hjs
      have hconv1 := fun nq => conv_bytes (l1.drewN nq)
      have hconv2 := fun nq => conv_bytes (l2.drewN nq)
      have i1 : (0 : Int) ≤ (j : Int) := by omega
      have i2 : (j : Int) < (S.length : Int) := by omega
      have s1 : IntKind.i64.wrap ((j : Int) + 1) = ((j + 1 : Nat) : Int) := by rw [IntKind.wrap_i64]; have := HS.out; omega
      have Hlt := Lib.hid hlt
      clear hc hc' l1 l2 hjs hsa hsb hlt
      go_wp2_with fail
      go_quiet (fail)
      go_wp2_with fail
      go_roundw
      case rel => exact ⟨j + 1, _, Lib.hid Hlt.out, by go_num, (congrArg (fun x => World.drewN x nq) HW.out).trans (World.drewN_drewN _ _ _)⟩
      case measure => have := Hlt.out; simp [intOf]; omega
    · clear hsa hsb
      have j1 : ¬ (j : Int) < (S.length : Int) := by have := Hj.out; omega
      go_wp2_with fail
      go_ret
      exact ⟨rfl, _, HW.out⟩
end Go.Proofs.Ytbinibpkbkhdlaa
