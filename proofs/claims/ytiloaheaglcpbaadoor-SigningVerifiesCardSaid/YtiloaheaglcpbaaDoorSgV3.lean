/- Signing: the statement SigningVerifies, all cases. -/
import Derived.Test.YtiloaheaglcpbaaDoorSgV2
namespace Go.Proofs.YtiloaheaglcpbaaDoor
open Go.RowKit

theorem vf_any (seed : List UInt8) (n : Nat) (hn : seed.length = n) (sa : Option Addr) (scap : Nat) (many used : Int) (msg : List UInt8) (q : Nat) (hq : msg.length = q) (am : Option Addr) (capm : Nat)
    (w : World) (hs : Sl w 1 (.slice sa n scap) n (bc seed)) (hy : Sl w 1 (.slice am q capm) q (bc msg)) (hT : Tabs w) :
    Calls Tryd.prog 6 #[.agg #[.slice sa n scap, .int .i64 many, .int .i64 used], .slice am q capm] w fun e w' => e = .returned (.bool true) ∧ Below w.heap.size w w' := by
  cases hf : decide (many ≤ 2 ∧ n ≤ 100 ∧ q ≤ 300)
  · exact vf_few sa n scap many used am q capm hf w
  · have hf' := of_decide_eq_true hf
    cases hk : isKeyB n many used
    · exact vf_bad sa n scap many used am q capm hf hk w
    · have hk9 := isKeyB_t hk
      obtain ⟨m, rfl⟩ : ∃ m : Nat, many = (m : Int) := ⟨many.toNat, by omega⟩
      obtain ⟨ix, rfl⟩ : ∃ ix : Nat, used = (ix : Int) := ⟨used.toNat, by omega⟩
      have hm : m = 1 ∨ m = 2 := by omega
      by_cases hu : (ix : Int) = (m : Int)
      · exact vf_used seed n hn sa scap _ _ m hm rfl hu hk am q capm hf'.2.2 w hs hT
      · exact vf_main seed n hn sa scap m hm ix (by omega) hk msg q hq hf'.2.2 am capm w hs hy hT
end Go.Proofs.YtiloaheaglcpbaaDoor
