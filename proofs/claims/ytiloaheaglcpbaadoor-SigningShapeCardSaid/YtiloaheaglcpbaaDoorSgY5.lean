/- Signing: the statement SigningShape, all cases. -/
import Derived.Test.YtiloaheaglcpbaaDoorSgY3
import Derived.Test.YtiloaheaglcpbaaDoorSgY4
namespace Go.Proofs.YtiloaheaglcpbaaDoor
open Go.RowKit

theorem sh_any (seed : List UInt8) (n : Nat) (hn : seed.length = n) (sa : Option Addr) (scap : Nat) (many used : Int) (msg : List UInt8) (q : Nat) (hq : msg.length = q) (am : Option Addr) (capm : Nat) (how z : Int)
    (w : World) (hs : Sl w 1 (.slice sa n scap) n (bc seed)) (hy : Sl w 1 (.slice am q capm) q (bc msg)) (hT : Tabs w) :
    Calls Tryd.prog 10 #[.agg #[.slice sa n scap, .int .i64 many, .int .i64 used], .slice am q capm, .int .i64 how, .int .i64 z] w fun e w' => e = .returned (.bool true) ∧ Below w.heap.size w w' := by
  cases hf : decide (many ≤ 2 ∧ n ≤ 100 ∧ q ≤ 300)
  · exact sh_few sa n scap many used am q capm how z hf w
  · have hf' := of_decide_eq_true hf
    cases hk : isKeyB n many used
    · exact sh_bad sa n scap many used am q capm how z hf hk w
    · have hk9 := isKeyB_t hk
      obtain ⟨m, rfl⟩ : ∃ m : Nat, many = (m : Int) := ⟨many.toNat, by omega⟩
      obtain ⟨ix, rfl⟩ : ∃ ix : Nat, used = (ix : Int) := ⟨used.toNat, by omega⟩
      have hm : m = 1 ∨ m = 2 := by omega
      by_cases hu : (ix : Int) = (m : Int)
      · exact sh_used seed n hn sa scap _ _ m hm rfl hu hk am q capm how z hf'.2.2 w hs hT
      · have hix : ix < m := by omega
        by_cases e0 : how = 0
        · subst e0; exact sh_0 seed n hn sa scap m hm ix hix hk msg q hq hf'.2.2 am capm z w hs hy hT
        by_cases e1 : how = 1
        · subst e1; exact sh_1 seed n hn sa scap m hm ix hix hk msg q hq hf'.2.2 am capm z w hs hy hT
        by_cases e2 : how = 2
        · subst e2
          by_cases y1 : z < 0
          · exact sh_2a seed n hn sa scap m hm ix hix hk msg q hq hf'.2.2 am capm z y1 w hs hy hT
          · by_cases y2 : 1000 < z
            · exact sh_2c seed n hn sa scap m hm ix hix hk msg q hq hf'.2.2 am capm z y2 w hs hy hT
            · exact sh_2b seed n hn sa scap m hm ix hix hk msg q hq hf'.2.2 am capm z y1 y2 w hs hy hT
        by_cases e3 : how = 3
        · subst e3
          by_cases y1 : z < 0
          · exact sh_3a seed n hn sa scap m hm ix hix hk msg q hq hf'.2.2 am capm z y1 w hs hy hT
          · by_cases y2 : 1000 < z
            · exact sh_3c seed n hn sa scap m hm ix hix hk msg q hq hf'.2.2 am capm z y2 w hs hy hT
            · exact sh_3b seed n hn sa scap m hm ix hix hk msg q hq hf'.2.2 am capm z y1 y2 w hs hy hT
        by_cases e4 : how = 4
        · subst e4; exact sh_4 seed n hn sa scap m hm ix hix hk msg q hq hf'.2.2 am capm z w hs hy hT
        exact sh_d seed n hn sa scap m hm ix hix hk msg q hq hf'.2.2 am capm how z e0 e1 e2 e3 e4 w hs hy hT
end Go.Proofs.YtiloaheaglcpbaaDoor
