/- Disk: the reference's Same, at equal disks. -/
import Derived.Test.YtekmdaphkgkgaaaDkI
import Derived.Deep.QuietTactic
import Derived.BigQuiet
namespace Go.Proofs.Ytekmdaphkgkgaaa
open Go.RowKit

theorem Secs.drewN {w : World} {v : Value} {S : List (List UInt8)} (h : Secs w v S) (k : Nat) : Secs (w.drewN k) v S := h.next (below_drewN (Below.refl _ _) k)
theorem Blk.drewN {w : World} {g : Nat} {t : TypeId} {cs : Array Value} (h : Blk w g t cs) (n : Nat) : Blk (w.drewN n) g t cs := h
set_option maxRecDepth 100000 in
set_option maxHeartbeats 2000000 in
theorem same_any (D : Dk) (a b : Value) (w : World) (ha : DkV w a D) (hb : DkV w b D) (hn : D.secs.length ≤ maxLen) :
    Calls Try.prog 12 #[a, b] w fun e w' => e = .returned (.bool true) ∧ Below w.heap.size w w' := by
  unfold maxLen at hn
  obtain ⟨va, rfl, hsa⟩ := ha
  obtain ⟨vb, rfl, hsb⟩ := hb
  obtain ⟨xa, ca, rfl⟩ := hsa.len
  obtain ⟨xb, cb, rfl⟩ := hsb.len
  obtain ⟨S, left, tear, stop⟩ := D
  unfold dkAgg
  simp only [] at hsa hsb hn ⊢
  have HA := Lib.hid hsa
  have HB := Lib.hid hsb
  clear hsa hsb
  go_enter Try.func12, Try.ntmps12
  go_wp2_with fail
  obtain ⟨W, hW⟩ : ∃ W, W = (w.alloc (.cells #[.slice xa S.length ca, .int .i64 left, .int .i64 tear, .bool stop] 26)).alloc (.cells #[.slice xb S.length cb, .int .i64 left, .int .i64 tear, .bool stop] 26) := ⟨_, rfl⟩
  have hbW : Below w.heap.size w W := by rw [hW]; exact (below_alloc w _).alloc (by simp) _
  have hA0 : Blk W w.heap.size 26 #[.slice xa S.length ca, .int .i64 left, .int .i64 tear, .bool stop] := by rw [hW]; exact (Blk.new w _ _).alloc _
  have hB0 : Blk W (w.heap.size + 1) 26 #[.slice xb S.length cb, .int .i64 left, .int .i64 tear, .bool stop] := by rw [hW]; exact blk_new2 w _ _ _
  rw [← hW]
  have HbW := Lib.hid hbW
  have HA0 := Lib.hid hA0
  have HB0 := Lib.hid hB0
  clear hW hbW hA0 hB0
  go_loopw [5] (fun i wr => ∃ j k : Nat, j ≤ S.length ∧ i = .int .i64 j ∧ wr = W.drewN k) (fun i _ => S.length - (intOf i).toNat)
  case atStart => exact ⟨0, 0, by omega, rfl, rfl⟩
  case round =>
    obtain ⟨j, k, hj, rfl, hwr⟩ := hrel
    have hbr : Below w.heap.size w wr := by rw [hwr]; exact below_drewN HbW.out _
    have hA1 : Blk wr w.heap.size 26 #[.slice xa S.length ca, .int .i64 left, .int .i64 tear, .bool stop] := by rw [hwr]; exact HA0.out
    have hB1 : Blk wr (w.heap.size + 1) 26 #[.slice xb S.length cb, .int .i64 left, .int .i64 tear, .bool stop] := by rw [hwr]; exact HB0.out
    have HW := Lib.hid hwr
    clear hwr
    obtain ⟨b0, _, _, _, _⟩ := dkCells hA1
    obtain ⟨d0, _, _, _, _⟩ := dkCells hB1
    have hsa := HA.out.next hbr
    have hsb := HB.out.next hbr
    clear hA1 hB1
    by_cases hlt : j < S.length
    · obtain ⟨g, off, rfl, hcap, hc⟩ := hsa.at_ (by omega)
      obtain ⟨g', off', rfl, hcap', hc'⟩ := hsb.at_ (by omega)
      obtain ⟨s, hjs⟩ : ∃ s, S[j]? = some s := ⟨_, List.getElem?_eq_getElem hlt⟩
      obtain ⟨x1, c1, e1, l1⟩ := hc j s hjs
      obtain ⟨x2, c2, e2, l2⟩ := hc' j s hjs
      have hconv1 := fun nq => conv_bytes (l1.drewN nq)
      have hconv2 := fun nq => conv_bytes (l2.drewN nq)
      have i1 : (0 : Int) ≤ (j : Int) := by omega
      have i2 : (j : Int) < (S.length : Int) := by omega
      clear hc hc' l1 l2 hjs hsa hsb
      go_wp2_with fail
      go_quiet (fail)
      go_wp2_with fail
      go_roundw
      case rel => exact ⟨j + 1, _, by omega, by go_num, (congrArg (fun x => World.drewN x nq) HW.out).trans (World.drewN_drewN _ _ _)⟩
      case measure => simp [intOf]; omega
    · clear hsa hsb
      go_wp2_with fail
      go_ret
      exact ⟨rfl, hbr⟩
end Go.Proofs.Ytekmdaphkgkgaaa
