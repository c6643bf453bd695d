/- Signing: the statement SigningChains, all cases. -/
import Derived.Test.YtiloaheaglcpbaaDoorSgX4
namespace Go.Proofs.YtiloaheaglcpbaaDoor
open Go.RowKit

theorem ch_any (seed : List UInt8) (n : Nat) (hn : seed.length = n) (sa : Option Addr) (scap : Nat) (many used : Int) (a : List UInt8) (qa : Nat) (ha : a.length = qa) (aa : Option Addr) (acap : Nat) (b : List UInt8) (qb : Nat) (hb' : b.length = qb) (ba : Option Addr) (bcap : Nat)
    (w : World) (hs : Sl w 1 (.slice sa n scap) n (bc seed)) (hya : Sl w 1 (.slice aa qa acap) qa (bc a)) (hyb : Sl w 1 (.slice ba qb bcap) qb (bc b)) (hT : Tabs w) :
    Calls Tryd.prog 9 #[.agg #[.slice sa n scap, .int .i64 many, .int .i64 used], .slice aa qa acap, .slice ba qb bcap] w fun e w' => e = .returned (.bool true) ∧ Below w.heap.size w w' := by
  cases hf : decide (many ≤ 2 ∧ n ≤ 100 ∧ qa ≤ 300)
  · exact ch_few sa n scap many used aa qa acap ba qb bcap hf w
  · cases hg : decide (many ≤ 2 ∧ n ≤ 100 ∧ qb ≤ 300)
    · exact ch_fewb sa n scap many used aa qa acap ba qb bcap hf hg w
    · have hf' := of_decide_eq_true hf
      have hg' := of_decide_eq_true hg
      cases hk : isKeyB n many used
      · exact ch_bad sa n scap many used aa qa acap ba qb bcap hf hg hk w
      · have hk9 := isKeyB_t hk
        obtain ⟨m, rfl⟩ : ∃ m : Nat, many = (m : Int) := ⟨many.toNat, by omega⟩
        obtain ⟨ix, rfl⟩ : ∃ ix : Nat, used = (ix : Int) := ⟨used.toNat, by omega⟩
        have hm : m = 1 ∨ m = 2 := by omega
        by_cases hu : (ix : Int) = (m : Int)
        · exact ch_used seed sa n scap hn _ _ aa qa acap ba qb bcap m hm rfl hu hk hf'.2.2 hg'.2.2 w hs hT
        · exact ch_main seed n hn sa scap m hm ix (by omega) hk a qa ha hf'.2.2 aa acap b qb hb' hg'.2.2 ba bcap w hs hya hyb hT
end Go.Proofs.YtiloaheaglcpbaaDoor
