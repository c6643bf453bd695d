/- Wal: numbers written into a sector. -/
import Derived.Test.YtbinibpkbkhdlaaWlN
import Derived.Deep.RegionLaw
namespace Go.Proofs.Ytbinibpkbkhdlaa
open Go.RowKit

def put4 (cs : Array Value) (off : Nat) (x : W32) : Array Value :=
  (((cs.setIfInBounds off (.int .u8 ((x >>> 24).toNat % 256 : Nat))).setIfInBounds (off + 1) (.int .u8 ((x >>> 16).toNat % 256 : Nat))).setIfInBounds (off + 2) (.int .u8 ((x >>> 8).toNat % 256 : Nat))).setIfInBounds (off + 3) (.int .u8 (x.toNat % 256 : Nat))
theorem put_w (x : W32) : (((x >>> 24).toNat % 256 : Nat) : Int) = (x.toNat : Int) / 16777216 ∧ (((x >>> 16).toNat % 256 : Nat) : Int) = (x.toNat : Int) / 65536 % 256 ∧ (((x >>> 8).toNat % 256 : Nat) : Int) = (x.toNat : Int) / 256 % 256 ∧ ((x.toNat % 256 : Nat) : Int) = (x.toNat : Int) % 256 := by
  have := x.isLt
  simp only [BitVec.toNat_ushiftRight, Nat.shiftRight_eq_div_pow, Nat.reducePow]
  omega
set_option maxRecDepth 100000 in
set_option maxHeartbeats 2000000 in
theorem put_any (x : W32) (g at_ : Nat) (h4 : at_ ≤ 124) (t : TypeId) (cs : Array Value) (hcs : cs.size = 128) (w : World) (hB : Blk w g t cs) :
    Calls Try.prog 55 #[.pointer (some ⟨g, 0, none⟩), .int .i64 (at_ : Int), wv x] w fun e w' => (∃ v, e = .returned v) ∧ Blk w' g t (put4 cs at_ x) ∧ Upd (fun k => k = g) w w' := by
  unfold wv
  obtain ⟨u0, c0⟩ : ∃ u, w.cell? ⟨g, at_, none⟩ = some u := ⟨cs[at_], by rw [hB.cell]; simp⟩
  obtain ⟨u1, c1⟩ : ∃ u, w.cell? ⟨g, at_ + 1, none⟩ = some u := ⟨cs[at_ + 1], by rw [hB.cell]; simp⟩
  obtain ⟨u2, c2⟩ : ∃ u, w.cell? ⟨g, at_ + 2, none⟩ = some u := ⟨cs[at_ + 2], by rw [hB.cell]; simp⟩
  obtain ⟨u3, c3⟩ : ∃ u, w.cell? ⟨g, at_ + 3, none⟩ = some u := ⟨cs[at_ + 3], by rw [hB.cell]; simp⟩
  have f0 := hB.frozen at_
  have f1 := hB.frozen (at_ + 1)
  have f2 := hB.frozen (at_ + 2)
  have f3 := hB.frozen (at_ + 3)
  have hx := x.isLt
  have l0 : (at_ : Int) < 128 := by omega
  have l1 : (at_ : Int) + 1 < 128 := by omega
  have l2 : (at_ : Int) + 2 < 128 := by omega
  have l3 : (at_ : Int) + 3 < 128 := by omega
  have HB := Lib.hid hB
  clear hB hcs
  go_enter Try.func55, Try.ntmps55
  go_wp2_with fail
  go_region
  all_goals
    go_wp2_with fail
    go_end0
    refine ⟨⟨_, rfl⟩, ?_, ?_⟩
    · have e := put_w x
      rw [put4, e.1, e.2.1, e.2.2.1, e.2.2.2]
      exact (((HB.out.set_ at_ _).set_ (at_ + 1) _).set_ (at_ + 2) _).set_ (at_ + 3) _
    · exact (((((Upd.refl (fun k => k = g) w).setCell (p := ⟨g, at_, none⟩) (.inl rfl) _).setCell (p := ⟨g, at_ + 1, none⟩) (.inl rfl) _).setCell (p := ⟨g, at_ + 2, none⟩) (.inl rfl) _).setCell (p := ⟨g, at_ + 3, none⟩) (.inl rfl) _).drew
end Go.Proofs.Ytbinibpkbkhdlaa
