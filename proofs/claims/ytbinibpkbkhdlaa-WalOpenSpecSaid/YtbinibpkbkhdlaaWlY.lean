/- Wal: the chapter's examples hold. -/
import Derived.Test.YtbinibpkbkhdlaaWlX
namespace Go.Proofs.Ytbinibpkbkhdlaa
open Go.RowKit

theorem var4 (W : World) (T : TypeId) (z0 z1 z2 z3 a b c d : Value) :
    Blk (((((W.alloc (.cells #[z0, z1, z2, z3] T)).setCell ⟨W.heap.size, 0, none⟩ a).setCell ⟨W.heap.size, 1, none⟩ b).setCell ⟨W.heap.size, 2, none⟩ c).setCell ⟨W.heap.size, 3, none⟩ d) W.heap.size T #[a, b, c, d] ∧
    Below W.heap.size W (((((W.alloc (.cells #[z0, z1, z2, z3] T)).setCell ⟨W.heap.size, 0, none⟩ a).setCell ⟨W.heap.size, 1, none⟩ b).setCell ⟨W.heap.size, 2, none⟩ c).setCell ⟨W.heap.size, 3, none⟩ d) :=
  ⟨((((Blk.new W T #[z0, z1, z2, z3]).set_ 0 a).set_ 1 b).set_ 2 c).set_ 3 d, (((((Below.refl _ W).alloc (Nat.le_refl _) _).setCell (p := ⟨W.heap.size, 0, none⟩) (Nat.le_refl _) a).setCell (p := ⟨W.heap.size, 1, none⟩) (Nat.le_refl _) b).setCell (p := ⟨W.heap.size, 2, none⟩) (Nat.le_refl _) c).setCell (p := ⟨W.heap.size, 3, none⟩) (Nat.le_refl _) d⟩
deriving instance DecidableEq for Lg
def abL : List UInt8 := [97, 98]
theorem op_a : opE (newD 2) 0 1 = 0 ∧ opL (newD 2) 0 1 = ⟨0, 1, [], 0⟩ := by decide +kernel
theorem op_b : opE (newD 2) 0 0 = 1 ∧ opL (newD 2) 0 0 = ⟨0, 0, [], 0⟩ := by decide +kernel
theorem crcL_app (n : W32) (a b : List UInt8) : crcL n (a ++ b) = crcL (crcL n a) b := by simp [crcL, List.foldl_append]
theorem ck0 : crcL 4294967295#32 [0, 0, 3, 2, 97, 98] = 2153152334#32 := by decide +kernel
theorem ck1 : crcL 2153152334#32 [0, 0, 0, 0, 0, 0, 0, 0, 0, 0] = 3023448996#32 := by decide +kernel
theorem ck2 : crcL 3023448996#32 [0, 0, 0, 0, 0, 0, 0, 0, 0, 0] = 932153244#32 := by decide +kernel
theorem ck3 : crcL 932153244#32 [0, 0, 0, 0, 0, 0, 0, 0, 0, 0] = 1048316235#32 := by decide +kernel
theorem ck4 : crcL 1048316235#32 [0, 0, 0, 0, 0, 0, 0, 0, 0, 0] = 3378122972#32 := by decide +kernel
theorem ck5 : crcL 3378122972#32 [0, 0, 0, 0, 0, 0, 0, 0, 0, 0] = 1955469536#32 := by decide +kernel
theorem ck6 : crcL 1955469536#32 [0, 0, 0, 0, 0, 0, 0, 0, 0, 0] = 2121043656#32 := by decide +kernel
theorem ck7 : crcL 2121043656#32 [0, 0, 0, 0, 0, 0, 0, 0, 0, 0] = 4276914954#32 := by decide +kernel
theorem ck8 : crcL 4276914954#32 [0, 0, 0, 0, 0, 0, 0, 0, 0, 0] = 320634865#32 := by decide +kernel
theorem ck9 : crcL 320634865#32 [0, 0, 0, 0, 0, 0, 0, 0, 0, 0] = 2914404756#32 := by decide +kernel
theorem ck10 : crcL 2914404756#32 [0, 0, 0, 0, 0, 0, 0, 0, 0, 0] = 2358571073#32 := by decide +kernel
theorem ck11 : crcL 2358571073#32 [0, 0, 0, 0, 0, 0, 0, 0, 0, 0] = 66229641#32 := by decide +kernel
def bodyA : List UInt8 := [0, 0, 3, 2, 97, 98, 0, 0, 0, 0, 0, 0, 0, 0, 0, 0, 0, 0, 0, 0, 0, 0, 0, 0, 0, 0, 0, 0, 0, 0, 0, 0, 0, 0, 0, 0, 0, 0, 0, 0, 0, 0, 0, 0, 0, 0, 0, 0, 0, 0, 0, 0, 0, 0, 0, 0, 0, 0, 0, 0, 0, 0, 0, 0, 0, 0, 0, 0, 0, 0, 0, 0, 0, 0, 0, 0, 0, 0, 0, 0, 0, 0, 0, 0, 0, 0, 0, 0, 0, 0, 0, 0, 0, 0, 0, 0, 0, 0, 0, 0, 0, 0, 0, 0, 0, 0, 0, 0, 0, 0, 0, 0, 0, 0, 0, 0]
theorem body_cat : bodyA = [0, 0, 3, 2, 97, 98] ++ ([0, 0, 0, 0, 0, 0, 0, 0, 0, 0] ++ ([0, 0, 0, 0, 0, 0, 0, 0, 0, 0] ++ ([0, 0, 0, 0, 0, 0, 0, 0, 0, 0] ++ ([0, 0, 0, 0, 0, 0, 0, 0, 0, 0] ++ ([0, 0, 0, 0, 0, 0, 0, 0, 0, 0] ++ ([0, 0, 0, 0, 0, 0, 0, 0, 0, 0] ++ ([0, 0, 0, 0, 0, 0, 0, 0, 0, 0] ++ ([0, 0, 0, 0, 0, 0, 0, 0, 0, 0] ++ ([0, 0, 0, 0, 0, 0, 0, 0, 0, 0] ++ ([0, 0, 0, 0, 0, 0, 0, 0, 0, 0] ++ ([0, 0, 0, 0, 0, 0, 0, 0, 0, 0]))))))))))) := by decide +kernel
theorem crc_body : crc bodyA = 4228737654#32 := by
  rw [crc, body_cat, crcL_app, ck0, crcL_app, ck1, crcL_app, ck2, crcL_app, ck3, crcL_app, ck4, crcL_app, ck5, crcL_app, ck6, crcL_app, ck7, crcL_app, ck8, crcL_app, ck9, crcL_app, ck10, ck11]
  decide +kernel
def secA : List UInt8 := [0, 0, 0, 1, 252, 13, 106, 118, 0, 0, 3, 2, 97, 98, 0, 0, 0, 0, 0, 0, 0, 0, 0, 0, 0, 0, 0, 0, 0, 0, 0, 0, 0, 0, 0, 0, 0, 0, 0, 0, 0, 0, 0, 0, 0, 0, 0, 0, 0, 0, 0, 0, 0, 0, 0, 0, 0, 0, 0, 0, 0, 0, 0, 0, 0, 0, 0, 0, 0, 0, 0, 0, 0, 0, 0, 0, 0, 0, 0, 0, 0, 0, 0, 0, 0, 0, 0, 0, 0, 0, 0, 0, 0, 0, 0, 0, 0, 0, 0, 0, 0, 0, 0, 0, 0, 0, 0, 0, 0, 0, 0, 0, 0, 0, 0, 0, 0, 0, 0, 0, 0, 0, 0, 0, 0, 0, 0, 1]
theorem lay1_body : ((lay1 1#32 0 abL).take 124).drop 8 = bodyA := by decide +kernel
theorem lay2_sec : lay2 1#32 0 abL = secA := by
  rw [lay2, lay1_body, crc_body]
  decide +kernel
theorem secA_body : (secA.take 124).drop 8 = bodyA := by decide +kernel
theorem gd_sec : Gd secA 0 := by
  refine ⟨by decide +kernel, by decide +kernel, by decide +kernel, by decide +kernel, by decide +kernel, by decide +kernel, by decide +kernel, by decide +kernel, ?_⟩
  rw [secA_body, crc_body]
  decide +kernel
theorem recs_sec : recs [secA] = [abL] := by
  have h1 : begsB [secA] 0#32 0 = true := by
    rw [begsB, show ([secA] : List (List UInt8)).getD 0 [] = secA from rfl, show gdB secA 0 = true from decide_eq_true gd_sec]
    decide +kernel
  have h2 : inn [secA] (num4 (([secA] : List (List UInt8)).getD 0 []) 0) 1 0 [] = some (abL, 1) := by
    rw [inn_end [secA] _ 1 0 [] secA rfl (by omega) (by decide +kernel)]
    decide +kernel
  rw [recs, show ([secA] : List (List UInt8)).length = 1 from rfl, outr_on [secA] 1 0 0#32 (by decide) h1 abL 1 h2, outr_end _ _ _ _ (by decide)]
theorem op_c : opE ⟨[lay2 1#32 0 abL, zeros], -1, 0, false⟩ 0 1 = 0 ∧ opL ⟨[lay2 1#32 0 abL, zeros], -1, 0, false⟩ 0 1 = ⟨0, 1, [abL], 1⟩ := by
  rw [lay2_sec]
  have h : opE ⟨[secA, zeros], -1, 0, false⟩ 0 1 = 0 := by decide +kernel
  refine ⟨h, ?_⟩
  rw [opL, if_pos h, show part ⟨[secA, zeros], -1, 0, false⟩ (0 : Int).toNat (1 : Int).toNat = [secA] from rfl, recs_sec]
  rfl
theorem ap_a (b : List UInt8) (hb : b.length = 113) : apE ⟨0, 1, [], 0⟩ 113 = 2 ∧ apL ⟨0, 1, [], 0⟩ b = Lg.zero := by
  have h : apE ⟨0, 1, [], 0⟩ 113 = 2 := by decide +kernel
  exact ⟨h, by rw [apL, hb, if_neg (by rw [h]; decide)]⟩
theorem ap_b : apE ⟨0, 1, [], 0⟩ 2 = 0 ∧ apL ⟨0, 1, [], 0⟩ abL = ⟨0, 1, [abL], 0⟩ := by decide +kernel
theorem rm_a : rm ⟨0, 1, [], 0⟩ = 112 := by decide +kernel
theorem crc_a : crc [49, 50, 51, 52, 53, 54, 55, 56, 57] = 3421780262#32 := by decide +kernel
theorem crc_0 : crc [] = 0#32 := by decide +kernel
end Go.Proofs.Ytbinibpkbkhdlaa
