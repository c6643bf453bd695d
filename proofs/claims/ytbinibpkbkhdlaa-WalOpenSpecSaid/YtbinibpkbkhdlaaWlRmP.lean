/- Wal: Room and Append as numbers. -/
import Derived.Test.YtbinibpkbkhdlaaWlF
namespace Go.Proofs.Ytbinibpkbkhdlaa
open Go.RowKit

theorem room_iff {L : Lg} (h : lgB L = true) (n : Nat) : apE L n = 0 ↔ (0 < rm L ∧ (n : Int) ≤ rm L) := by
  obtain ⟨_, h1, _, _, _, _, _, h7⟩ := lgB_ok h
  have hr : rm L = min (112 * (L.many - (used L.recs : Int))) 65536 := by rw [rm, if_pos h]
  rw [hr]
  by_cases hb : 65536 < n ∨ L.many - (used L.recs : Int) < (occ n : Int)
  · rw [apE_2 h hb]
    refine ⟨fun e => by omega, fun ⟨a, b⟩ => ?_⟩
    rcases hb with hb | hb
    · omega
    · unfold occ at hb; split at hb <;> omega
  · rw [apE_0 h hb]
    refine ⟨fun _ => ?_, fun _ => rfl⟩
    unfold occ at hb
    split at hb <;> omega
theorem ap_or {L : Lg} (h : lgB L = true) (n : Nat) : apE L n = 0 ∨ apE L n = 2 := by
  by_cases hb : 65536 < n ∨ L.many - (used L.recs : Int) < (occ n : Int)
  · exact .inr (apE_2 h hb)
  · exact .inl (apE_0 h hb)
theorem anyLong_snoc (S : List (List UInt8)) (b : List UInt8) (h : anyLong S = false) (hb : b.length ≤ 65536) : anyLong (S ++ [b]) = false := by
  unfold anyLong at h ⊢
  simp_all [lng]
theorem ap_ok {L : Lg} (h : lgB L = true) {b : List UInt8} (h0 : apE L b.length = 0) :
    apL L b = ⟨L.first, L.many, L.recs ++ [b], L.synced⟩ ∧ lgB (apL L b) = true ∧ rm (apL L b) ≤ rm L := by
  have hb : ¬ (65536 < b.length ∨ L.many - (used L.recs : Int) < (occ b.length : Int)) := fun hb => by rw [apE_2 h hb] at h0; omega
  have e : apL L b = ⟨L.first, L.many, L.recs ++ [b], L.synced⟩ := by rw [apL, if_pos h0]
  obtain ⟨g0, g1, g2, g3, g4, g5, g6, g7⟩ := lgB_ok h
  have hl := anyLong_snoc L.recs b g6 (by omega)
  have hu := used_snoc L.recs b
  have ho := occ_pos b.length
  have hB : lgB ⟨L.first, L.many, L.recs ++ [b], L.synced⟩ = true := by
    simp [lgB, fitsB, and_assoc, hl, hu]
    omega
  refine ⟨e, by rw [e]; exact hB, ?_⟩
  rw [e, rm, if_pos hB, rm, if_pos h]
  simp only []
  rw [hu]
  omega
end Go.Proofs.Ytbinibpkbkhdlaa
