/- SHA-256: the hash by blocks of the whole padded message. No program. -/
import Derived.Test.YtiloaheaglcpbaaDoorSgS6
namespace Go.Proofs.YtiloaheaglcpbaaDoor
open Go.RowKit

theorem blocks_add (P : List UInt8) (s : S8) (k : Nat) : ∀ j, blocks P s (k + j) = blocks (P.drop (64 * k)) (blocks P s k) j
  | 0 => rfl
  | j + 1 => by rw [← Nat.add_assoc, blocks, blocks, blocks_add P s k j, List.drop_drop, show 64 * k + 64 * j = 64 * (k + j) by omega]
theorem blocks_pre (l Y : List UInt8) (s : S8) : ∀ k, 64 * k ≤ l.length → blocks (l ++ Y) s k = blocks l s k
  | 0, _ => rfl
  | k + 1, h => by rw [blocks, blocks, blocks_pre l Y s k (by omega), List.drop_append_of_le_length (by omega), List.take_append_of_le_length (by rw [List.length_drop]; omega)]
theorem sha_whole (l : List UInt8) : sha l = s8B (blocks (padL l l.length) s8init ((padL l l.length).length / 64)) := by
  have hN : padN (l.drop (64 * (l.length / 64))).length = padN l.length := by
    rw [List.length_drop]; unfold padN; congr 2; omega
  have e : padL l l.length = l ++ ([128] ++ List.replicate (padN l.length) 0 ++ lenB l.length) := by simp [padL]
  have e2 : padL (l.drop (64 * (l.length / 64))) l.length = l.drop (64 * (l.length / 64)) ++ ([128] ++ List.replicate (padN l.length) 0 ++ lenB l.length) := by
    rw [padL, hN]; simp
  have hk : 64 * (l.length / 64) ≤ l.length := by omega
  have e3 : (padL l l.length).drop (64 * (l.length / 64)) = padL (l.drop (64 * (l.length / 64))) l.length := by
    rw [e, e2, List.drop_append_of_le_length hk]
  have hL : (padL l l.length).length / 64 = l.length / 64 + (padL (l.drop (64 * (l.length / 64))) l.length).length / 64 := by
    rw [← e3, List.length_drop]
    have : 64 * (l.length / 64) ≤ (padL l l.length).length := by rw [padL_len]; omega
    omega
  rw [hL, blocks_add, e3, e, blocks_pre _ _ _ _ hk]
  rfl
end Go.Proofs.YtiloaheaglcpbaaDoor
