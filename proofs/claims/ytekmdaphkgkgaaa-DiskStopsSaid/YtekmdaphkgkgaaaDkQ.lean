/- Disk: the reference's Write of a whole sector, as the statements call it; disks of four sectors. -/
import Derived.Test.YtekmdaphkgkgaaaDkP
import Derived.Test.YtekmdaphkgkgaaaDkM
import Derived.Test.YtekmdaphkgkgaaaDkL2
namespace Go.Proofs.Ytekmdaphkgkgaaa
open Go.RowKit

/-- the reference's Write, as a disk with its slice -/
theorem rwt_lit (S S' : List (List UInt8)) (l t l' t' : Int) (st st' : Bool) (k : Int) (b : List UInt8) (c : Int) (w W : World) (a ab : Option Addr) (n cap cb : Nat) (hn : S.length = n) (n' : Nat) (hn' : S'.length = n') (hD : wtD ⟨S, l, t, st⟩ k b = ⟨S', l', t', st'⟩) (hE : wtE ⟨S, l, t, st⟩ k b = c)
    (hs : Secs w (.slice a n cap) S) (hb : Below w.heap.size w W) (hv : Sl W 1 (.slice ab 128 cb) 128 (bc b)) (hbl : b.length = 128) (hle : l ≤ 9223372036854775807) (hm : n ≤ 4096) :
    Calls Try.prog 17 #[.agg #[.slice a n cap, .int .i64 l, .int .i64 t, .bool st], .int .i64 k, .slice ab 128 cb] W fun e w' =>
      ∃ a' cap', e = .returned (.tuple #[.agg #[.slice a' n' cap', .int .i64 l', .int .i64 t', .bool st'], .int .i64 c]) ∧ Secs w' (.slice a' n' cap') S' ∧ Below W.heap.size W w' ∧ Below w.heap.size w w' := by
  subst hn
  subst hn'
  subst hE
  have hv' : Sl W 1 (.slice ab 128 cb) b.length (bc b) := by rw [hbl]; exact hv
  have := refWt_any ⟨S, l, t, st⟩ _ k b _ W (hs.next hb).dkV hv' hle (by show S.length ≤ maxLen; unfold maxLen; omega)
  refine this.mono ?_
  intro e w' hr
  obtain ⟨a', cap', h1, h2, h3⟩ := hr.lit hD rfl
  exact ⟨a', cap', h1, h2, h3, hb.trans (h3.mono hb.size)⟩
/-- ... where a variable lies already in block g -/
theorem rwt_litZ (S S' : List (List UInt8)) (l t l' t' : Int) (st st' : Bool) (k : Int) (b : List UInt8) (c : Int) (w W : World) (a ab : Option Addr) (n cap cb : Nat) (hn : S.length = n) (n' : Nat) (hn' : S'.length = n') (hD : wtD ⟨S, l, t, st⟩ k b = ⟨S', l', t', st'⟩) (hE : wtE ⟨S, l, t, st⟩ k b = c)
    (hs : Secs w (.slice a n cap) S) (hb : Below w.heap.size w W) (hv : Sl W 1 (.slice ab 128 cb) 128 (bc b)) (hbl : b.length = 128) (hle : l ≤ 9223372036854775807) (hm : n ≤ 4096) (g : Nat) (hZ : Blk W g 26 #[.slice none 0 0, .int .i64 0, .int .i64 0, .bool false]) :
    Calls Try.prog 17 #[.agg #[.slice a n cap, .int .i64 l, .int .i64 t, .bool st], .int .i64 k, .slice ab 128 cb] W fun e w' =>
      ∃ a' cap', e = .returned (.tuple #[.agg #[.slice a' n' cap', .int .i64 l', .int .i64 t', .bool st'], .int .i64 c]) ∧ Secs w' (.slice a' n' cap') S' ∧ Blk w' g 26 #[.slice none 0 0, .int .i64 0, .int .i64 0, .bool false] ∧ Below W.heap.size W w' ∧ Below w.heap.size w w' := by
  refine (rwt_lit S S' l t l' t' st st' k b c w W a ab n cap cb hn n' hn' hD hE hs hb hv hbl hle hm).mono ?_
  rintro e w' ⟨a', cap', h1, h2, h3, h4⟩
  exact ⟨a', cap', h1, h2, hZ.below h3 hZ.lt, h3, h4⟩

/-- a valid disk of four sectors -/
def DW (D : Dk) : Prop := chk D = 0 ∧ D.secs.length = 4 ∧ D.left ≤ 7
theorem dw_ok {D : Dk} (h : DW D) : anyOdd D.secs = false ∧ -1 ≤ D.left ∧ 0 ≤ D.tear ∧ D.tear ≤ 128 ∧ (D.stop = false ∨ D.left = 0) := by
  obtain ⟨_, _, h3, h4, h5, h6, h7⟩ := chk_ok h.1
  exact ⟨h3, h4, h5, h6, h7⟩
theorem dw_mk {D : Dk} (h1 : D.secs.length = 4) (h2 : anyOdd D.secs = false) (h3 : -1 ≤ D.left) (h4 : D.left ≤ 7) (h5 : 0 ≤ D.tear) (h6 : D.tear ≤ 128) (h7 : D.stop = false ∨ D.left = 0) : DW D :=
  ⟨chk_0 (by omega) (by omega) h2 h3 h5 h6 h7, h1, h4⟩
theorem dw_restart {D : Dk} (h : DW D) : DW (restart D) := by
  have := dw_ok h
  exact dw_mk h.2.1 this.1 (by show (-1 : Int) ≤ -1; decide) (by show (-1 : Int) ≤ 7; decide) (by show (0 : Int) ≤ 0; decide) (by show (0 : Int) ≤ 128; decide) (.inl rfl)
/-- what a whole write makes of it -/
theorem dw_wt {D : Dk} {k : Int} {b : List UInt8} (h : DW D) (hb : b.length = 128) : (wtE D k b = 1 ∧ wtD D k b = Dk.zero) ∨ ((wtE D k b = 0 ∨ wtE D k b = 410) ∧ DW (wtD D k b)) := by
  obtain ⟨h1, h2, h3, h4, h5⟩ := dw_ok h
  rcases chkS01 D k with h0 | h0
  · right
    obtain ⟨_, hk0, hk1⟩ := chkS_ok h0
    have hE : wtE D k b = if D.stop then 410 else if D.left = 0 then 410 else 0 := by rw [wtE, if_neg (by rw [h0]; decide), if_neg (by simp [hb])]
    have hD : wtD D k b = if D.stop then D else ⟨D.secs.set k.toNat (wrSec D.left D.tear.toNat (D.secs.getD k.toNat []) b), wrLeft D.left, D.tear, decide (D.left = 0)⟩ := by rw [wtD, if_neg (by rw [h0]; simp [hb])]
    rw [hE, hD]
    cases hst : D.stop
    · simp only [Bool.false_eq_true, if_false]
      refine ⟨by split <;> simp, ?_⟩
      have hs := any_len h1 (D.secs.getD k.toNat []) (by rw [List.getD, List.getElem?_eq_getElem (by omega)]; exact List.getElem_mem _)
      refine dw_mk (by simp [h.2.1]) (anyOdd_set h1 (wrSec_len hs hb (by omega))) ?_ ?_ h3 h4 ?_
      · show -1 ≤ wrLeft D.left
        unfold wrLeft; split <;> omega
      · show wrLeft D.left ≤ 7
        have := h.2.2
        unfold wrLeft; split <;> omega
      · by_cases hz : D.left = 0
        · right; show wrLeft D.left = 0; rw [hz]; rfl
        · left; exact decide_eq_false hz
    · simp only [if_true]
      exact ⟨.inr trivial, h⟩
  · left
    exact ⟨by rw [wtE, if_pos h0], by rw [wtD, if_pos (.inl h0)]⟩
theorem dw_len {D : Dk} (h : DW D) : (D.secs.length = 0 ∨ 2 ≤ D.secs.length) ∧ ∀ s ∈ D.secs, 0 < s.length := by
  refine ⟨.inr (by have := h.2.1; omega), fun s hs => ?_⟩
  have := any_len (dw_ok h).1 s hs
  omega
theorem trOf_range (tear : Int) : 0 ≤ trOf tear ∧ trOf tear ≤ 128 := by
  have h : 0 ≤ bits BinOp.and IntKind.i64 tear 1073741823 := by
    have h2 : (BitVec.ofInt 64 tear &&& BitVec.ofInt 64 1073741823).toNat ≤ 1073741823 := by
      rw [BitVec.toNat_and]
      exact Nat.and_le_right
    show 0 ≤ IntKind.i64.wrap ((BitVec.ofInt 64 tear &&& BitVec.ofInt 64 1073741823).toNat : Int)
    rw [IntKind.wrap_i64]
    omega
  unfold trOf
  have h1 := Int.tmod_nonneg 129 h
  have h2 := Int.tmod_lt_of_pos (bits BinOp.and IntKind.i64 tear 1073741823) (show (0 : Int) < 129 by decide)
  omega
theorem lfOf_range (left : Int) : -1 ≤ lfOf left ∧ lfOf left ≤ 7 := by
  have h2 := Int.tmod_lt_of_pos left (show (0 : Int) < 8 by decide)
  unfold lfOf
  split <;> omega
theorem dw_of (left tear : Int) : DW ⟨fourS 4, lfOf left, trOf tear, false⟩ := by
  obtain ⟨h1, h2⟩ := lfOf_range left
  obtain ⟨h3, h4⟩ := trOf_range tear
  exact dw_mk (fourS_len 4) (show anyOdd (fourS 4) = false by decide +kernel) h1 h2 h3 h4 (.inl rfl)
end Go.Proofs.Ytekmdaphkgkgaaa
