/- Disk: writes of any slice, as a statement calls them; a new variable and the sectors lie apart. -/
import Derived.Test.YtekmdaphkgkgaaaDkT
import Derived.Test.YtekmdaphkgkgaaaDkQ
namespace Go.Proofs.Ytekmdaphkgkgaaa
open Go.RowKit

/-- no sector that Write gives is empty -/
theorem wtD_pos (D : Dk) (k : Int) (b : List UInt8) : ∀ s ∈ (wtD D k b).secs, 0 < s.length := by
  rw [wtD]
  split
  · intro s hs; simp [Dk.zero] at hs
  · next h1 =>
    have h2 : chkS D k = 0 := by rcases chkS01 D k with h | h; exact h; exact absurd (Or.inl h) h1
    have hb : b.length = 128 := by by_cases h : b.length = 128; exact h; exact absurd (Or.inr h) h1
    obtain ⟨hc, hk0, hk1⟩ := chkS_ok h2
    obtain ⟨_, _, hany, _, ht0, ht1, _⟩ := chk_ok hc
    have hall := any_len hany
    split
    · intro s hs; have := hall s hs; omega
    · intro s hs
      rcases List.mem_or_eq_of_mem_set hs with h | h
      · have := hall s h; omega
      · subst h
        have hg : (D.secs.getD k.toNat []).length = 128 := by
          rw [List.getD_eq_getElem?_getD, List.getElem?_eq_getElem (show k.toNat < D.secs.length by omega)]
          exact hall _ (List.getElem_mem _)
        rw [wrSec, List.length_append, List.length_take, List.length_drop, hg, hb, wrM]
        split <;> omega
/-- ... and there are not more of them -/
theorem wtD_len (D : Dk) (k : Int) (b : List UInt8) (h : D.secs.length ≤ 12) : (wtD D k b).secs.length ≤ maxLen := by
  unfold maxLen
  rw [wtD]
  split
  · simp [Dk.zero]
  · split
    · omega
    · simp; omega
/-- no sector that Stop gives is empty -/
theorem stD_pos (D : Dk) (l t : Int) : ∀ s ∈ (stD D l t).secs, 0 < s.length := by
  rw [stD]
  split
  · next h1 =>
    have hc : chk D = 0 := by
      rcases chk01 D with h | h
      · exact h
      · rw [stE_1 (.inl h)] at h1; cases h1
    intro s hs
    have := any_len (chk_ok hc).2.2.1 s hs
    omega
  · intro s hs; simp [Dk.zero] at hs

/-- a variable of a disk that holds nothing yet -/
theorem secs_farZ {w W : World} {Q : Nat} {T : TypeId} {v : Value} {l t : Int} {st : Bool} {S : List (List UInt8)} (h : Secs w v S) (hne : ∀ s ∈ S, 0 < s.length)
    (hQ : Blk w Q T #[.slice none 0 0, .int .i64 l, .int .i64 t, .bool st]) (hU : Upd (fun q => q = Q) w W) : Secs W v S := by
  by_cases hS : S.length = 0 ∨ 2 ≤ S.length
  · exact secs_far h hS hne hQ hU
  have hS1 : S.length = 1 := by omega
  obtain ⟨vs, h1, h2⟩ := h
  have hinner : ∀ (i : Nat) (s : List UInt8), S[i]? = some s → ∃ x, vs[i]? = some x ∧ Sl W 1 x s.length (bc s) := by
    intro i s hs
    obtain ⟨x, h3, h4⟩ := h2 i s hs
    refine ⟨x, h3, ?_⟩
    have hp := hne s (List.mem_of_getElem? hs)
    obtain ⟨ad, cc, rfl⟩ := h4.form
    obtain ⟨g, off, rfl, _, hc⟩ := h4.pos hp
    refine h4.upd hU (fun k hk => ?_)
    have hkg : k = g := by simpa [Value.ownBlock] using hk.symm
    subst hkg
    have h5 := hc 0 (.int .u8 (s[0].toNat : Int)) (by simp [bc, hp])
    exact blk_ne hQ h5 (by simp) (by simp) (by simp) (by simp)
  refine ⟨vs, ?_, hinner⟩
  obtain ⟨ad, cc, rfl⟩ := h1.form
  obtain ⟨g, off, rfl, _, hc⟩ := h1.pos (by omega)
  refine h1.upd hU (fun k hk => ?_)
  have hkg : k = g := by simpa [Value.ownBlock] using hk.symm
  subst hkg
  intro hkQ
  subst hkQ
  have h0 := List.getElem?_eq_getElem (show 0 < S.length by omega)
  obtain ⟨x0, e0, s0⟩ := h2 0 _ h0
  have hp := hne _ (List.mem_of_getElem? h0)
  obtain ⟨a0, c0, rfl⟩ := s0.form
  have h5 := hc 0 _ e0
  rw [hQ.cell] at h5
  match off, h5 with
  | 0, h5 => simp at h5; omega
  | 1, h5 => simp at h5
  | 2, h5 => simp at h5
  | 3, h5 => simp at h5
  | o + 4, h5 => rw [Array.getElem?_eq_none (by simp)] at h5; cases h5
/-- the end of such a region, where the variable was made ahead of the call -/
theorem wr_finZ {w7 w9 : World} {S' : List (List UInt8)} {l' t' : Int} {st' : Bool} {a' : Option Addr} {cap' g9 n' : Nat} (hn : n' = S'.length) (hs : Secs w9 (.slice a' n' cap') S') (hb : Below w7.heap.size w7 w9) (hg : w7.heap.size ≤ g9)
    (hne : ∀ s ∈ S', 0 < s.length)
    (hZ : Blk w9 g9 26 #[.slice none 0 0, .int .i64 0, .int .i64 0, .bool false]) :
    WrReg w7 S' l' t' st' (.pointer (some ⟨g9, 0, none⟩)) ((((w9.setCell ⟨g9, 0, none⟩ (.slice a' n' cap')).setCell ⟨g9, 1, none⟩ (.int .i64 l')).setCell ⟨g9, 2, none⟩ (.int .i64 t')).setCell ⟨g9, 3, none⟩ (.bool st')) := by
  subst hn
  have hU : Upd (fun q => q = g9) w9 ((((w9.setCell ⟨g9, 0, none⟩ (.slice a' S'.length cap')).setCell ⟨g9, 1, none⟩ (.int .i64 l')).setCell ⟨g9, 2, none⟩ (.int .i64 t')).setCell ⟨g9, 3, none⟩ (.bool st')) := by
    refine Upd.setCell (S := fun q => q = g9) ?_ (Or.inl rfl) _
    refine Upd.setCell (S := fun q => q = g9) ?_ (Or.inl rfl) _
    refine Upd.setCell (S := fun q => q = g9) ?_ (Or.inl rfl) _
    refine Upd.setCell (S := fun q => q = g9) ?_ (Or.inl rfl) _
    exact Upd.refl _ _
  exact ⟨g9, a', cap', rfl, hg, (((hZ.set_ 0 _).set_ 1 _).set_ 2 _).set_ 3 _, secs_farZ hs hne hZ hU, hb.trans (hU.below hb.size (fun q hq e => by omega))⟩

/-- a call that returns a disk and a number, as a region meets it: a variable may lie already in a block -/
def CallDE (f : FuncId) (args : Array Value) (S' : List (List UInt8)) (l' t' : Int) (st' : Bool) (c : Int) (w W : World) : Prop :=
  Calls Try.prog f args W fun e w' => ∃ a' cap', e = .returned (.tuple #[.agg #[.slice a' S'.length cap', .int .i64 l', .int .i64 t', .bool st'], .int .i64 c]) ∧ Secs w' (.slice a' S'.length cap') S' ∧ Below W.heap.size W w' ∧ Below w.heap.size w w'
def CallDEZ (f : FuncId) (args : Array Value) (S' : List (List UInt8)) (l' t' : Int) (st' : Bool) (c : Int) (w W : World) (g : Nat) : Prop :=
  Calls Try.prog f args W fun e w' => ∃ a' cap', e = .returned (.tuple #[.agg #[.slice a' S'.length cap', .int .i64 l', .int .i64 t', .bool st'], .int .i64 c]) ∧ Secs w' (.slice a' S'.length cap') S' ∧ Blk w' g 26 #[.slice none 0 0, .int .i64 0, .int .i64 0, .bool false] ∧ Below W.heap.size W w' ∧ Below w.heap.size w w'
theorem callDE {f : FuncId} {args : Array Value} {D : Dk} {c : Int} {w W : World} (h : Calls Try.prog f args W fun e w' => RetDE D c W e w') (hb : Below w.heap.size w W) : CallDE f args D.secs D.left D.tear D.stop c w W := by
  refine h.mono ?_
  intro e w' hr
  obtain ⟨a', cap', h1, h2, h3⟩ := hr.lit (S := D.secs) (l := D.left) (t := D.tear) (st := D.stop) (n := D.secs.length) rfl rfl
  exact ⟨a', cap', h1, h2, h3, hb.trans (h3.mono hb.size)⟩
theorem callDEZ {f : FuncId} {args : Array Value} {D : Dk} {c : Int} {w W : World} (h : Calls Try.prog f args W fun e w' => RetDE D c W e w') (hb : Below w.heap.size w W) {g : Nat} (hZ : Blk W g 26 #[.slice none 0 0, .int .i64 0, .int .i64 0, .bool false]) : CallDEZ f args D.secs D.left D.tear D.stop c w W g := by
  refine (callDE h hb).mono ?_
  rintro e w' ⟨a', cap', h1, h2, h3, h4⟩
  exact ⟨a', cap', h1, h2, hZ.below h3 hZ.lt, h3, h4⟩
theorem thenB {f : FuncId} {args : Array Value} {a W : World} {x : Ending} (hb : Below a.heap.size a W) (h : Calls Try.prog f args W fun e w' => e = x ∧ Below W.heap.size W w') : Calls Try.prog f args W fun e w' => e = x ∧ Below a.heap.size a w' :=
  h.mono fun _ _ ⟨he, hb'⟩ => ⟨he, hb.trans (hb'.mono hb.size)⟩
theorem restart1 {S : List (List UInt8)} {l t : Int} {st : Bool} {d : Value} {f : FuncId} {a W : World} (hb : Below a.heap.size a W) (h : Calls Try.prog f #[d] W fun e w' => RetD (restart ⟨S, l, t, st⟩) W e w') :
    Calls Try.prog f #[d] W fun e w' => ∃ a12 cap12, e = .returned (.agg #[.slice a12 S.length cap12, .int .i64 (-1), .int .i64 0, .bool false]) ∧ Secs w' (.slice a12 S.length cap12) S ∧ Below a.heap.size a w' := by
  refine h.mono ?_
  intro e w' hr
  obtain ⟨a13, cap13, rfl, hs13, hb'⟩ := hr.lit (S := S) (l := -1) (t := 0) (st := false) (n := S.length) rfl rfl
  exact ⟨a13, cap13, rfl, hs13, hb.trans (hb'.mono hb.size)⟩
/-- the reference's Restart behind the program's: the two disks are the same -/
theorem restart2 {S : List (List UInt8)} {l t : Int} {st : Bool} {d : Value} {a12 : Option Addr} {cap12 : Nat} {f : FuncId} {a w9 W : World} (ha : Below a.heap.size a w9) (h9 : Below w9.heap.size w9 W) (hs : Secs w9 (.slice a12 S.length cap12) S) (hm : S.length ≤ maxLen) (h : Calls Try.prog f #[d] W fun e w' => RetD (restart ⟨S, l, t, st⟩) W e w') :
    Calls Try.prog f #[d] W fun e w' => ∃ a13 cap13, e = .returned (.agg #[.slice a13 S.length cap13, .int .i64 (-1), .int .i64 0, .bool false]) ∧
      (∀ W2, Below w'.heap.size w' W2 → Calls Try.prog 12 #[.agg #[.slice a12 S.length cap12, .int .i64 (-1), .int .i64 0, .bool false], .agg #[.slice a13 S.length cap13, .int .i64 (-1), .int .i64 0, .bool false]] W2 fun e w' => e = .returned (.bool true) ∧ Below a.heap.size a w') ∧ Below a.heap.size a w' := by
  refine h.mono ?_
  intro e w' hr
  obtain ⟨a13, cap13, rfl, hs13, hb⟩ := hr.lit (S := S) (l := -1) (t := 0) (st := false) (n := S.length) rfl rfl
  have h1 := ha.trans (h9.mono ha.size)
  have h2 := h1.trans (hb.mono h1.size)
  exact ⟨a13, cap13, rfl, fun W2 hb2 => thenB (h2.trans (hb2.mono h2.size)) (same_any ⟨S, -1, 0, false⟩ _ _ W2 (((hs.next h9).next hb).next hb2).dkV (hs13.next hb2).dkV hm), h2⟩
end Go.Proofs.Ytekmdaphkgkgaaa
