/- Disk: a write of a whole sector, as the statements call it; sectors and variables lie apart. -/
import Derived.Test.YtekmdaphkgkgaaaDkJ
namespace Go.Proofs.Ytekmdaphkgkgaaa
open Go.RowKit

/-- a variable of four cells, none of them a byte, at most one of them a slice -/
theorem secs_far {w W : World} {Q : Nat} {T : TypeId} {v : Value} {a : Option Addr} {n c : Nat} {l t : Int} {st : Bool} {S : List (List UInt8)} (h : Secs w v S) (hS : S.length = 0 ∨ 2 ≤ S.length) (hne : ∀ s ∈ S, 0 < s.length)
    (hQ : Blk w Q T #[.slice a n c, .int .i64 l, .int .i64 t, .bool st]) (hU : Upd (fun q => q = Q) w W) : Secs W v S := by
  obtain ⟨vs, h1, h2⟩ := h
  have hl := h1.1
  have hinner : ∀ (i : Nat) (s : List UInt8), S[i]? = some s → ∃ x, vs[i]? = some x ∧ Sl W 1 x s.length (bc s) := by
    intro i s hs
    obtain ⟨x, h3, h4⟩ := h2 i s hs
    refine ⟨x, h3, ?_⟩
    have hp := hne s (List.mem_of_getElem? hs)
    obtain ⟨ad, cc, rfl⟩ := h4.form
    obtain ⟨g, off, rfl, _, hc⟩ := h4.pos hp
    refine h4.upd hU (fun k hk => ?_)
    have hkg : k = g := by simpa [Value.ownBlock] using hk.symm
    subst hkg
    have h5 := hc 0 (.int .u8 (s[0].toNat : Int)) (by simp [bc, hp])
    exact blk_ne hQ h5 (by simp) (by simp) (by simp) (by simp)
  rcases hS with hS | hS
  · have hS0 : S = [] := List.eq_nil_of_length_eq_zero hS
    subst hS0
    obtain ⟨ad, cc, rfl⟩ := h1.form
    have hv0 : vs = [] := List.eq_nil_of_length_eq_zero (by simpa using hl)
    subst hv0
    exact ⟨[], ⟨by simp, _, _, rfl, Nat.zero_le _, .inl rfl⟩, hinner⟩
  · refine ⟨vs, ?_, hinner⟩
    obtain ⟨ad, cc, rfl⟩ := h1.form
    obtain ⟨g, off, rfl, _, hc⟩ := h1.pos (by omega)
    refine h1.upd hU (fun k hk => ?_)
    have hkg : k = g := by simpa [Value.ownBlock] using hk.symm
    subst hkg
    intro hkQ
    subst hkQ
    obtain ⟨x1, e1, s1⟩ := h2 1 _ (List.getElem?_eq_getElem (show 1 < S.length by omega))
    obtain ⟨x0, e0, s0⟩ := h2 0 _ (List.getElem?_eq_getElem (show 0 < S.length by omega))
    obtain ⟨a1, c1, rfl⟩ := s1.form
    have h5 := hc 1 _ e1
    rw [hQ.cell] at h5
    match off, h5 with
    | 0, h5 => simp at h5
    | 1, h5 => simp at h5
    | 2, h5 => simp at h5
    | o + 3, h5 => rw [Array.getElem?_eq_none (by simp)] at h5; cases h5
/-- whole, as a slice with its capacity -/
theorem whole_lit (c : UInt8) (w W : World) (hb : Below w.heap.size w W) : Calls Try.prog 15 #[.int .u8 (c.toNat : Int)] W fun e w' =>
    ∃ x cc, e = .returned (.slice x 128 cc) ∧ Sl w' 1 (.slice x 128 cc) 128 (bc (List.replicate 128 c)) ∧ Below W.heap.size W w' ∧ Below w.heap.size w w' := by
  refine (whole_any c W).mono ?_
  rintro e w' ⟨v, rfl, hs, h2⟩
  rw [List.length_replicate] at hs
  obtain ⟨x, cc, rfl⟩ := hs.form
  exact ⟨x, cc, rfl, hs, h2, hb.trans (h2.mono hb.size)⟩
/-- Write, as a disk with its slice -/
theorem wt_lit (S S' : List (List UInt8)) (l t l' t' : Int) (st st' : Bool) (k : Int) (b : List UInt8) (c : Int) (w W : World) (a ab : Option Addr) (n cap cb : Nat) (hn : S.length = n) (n' : Nat) (hn' : S'.length = n') (hD : wtD ⟨S, l, t, st⟩ k b = ⟨S', l', t', st'⟩) (hE : wtE ⟨S, l, t, st⟩ k b = c)
    (hs : Secs w (.slice a n cap) S) (hb : Below w.heap.size w W) (hv : Sl W 1 (.slice ab 128 cb) 128 (bc b)) (hbl : b.length = 128) (hle : l ≤ 9223372036854775807) :
    Calls Try.prog 16 #[.agg #[.slice a n cap, .int .i64 l, .int .i64 t, .bool st], .int .i64 k, .slice ab 128 cb] W fun e w' =>
      ∃ a' cap', e = .returned (.tuple #[.agg #[.slice a' n' cap', .int .i64 l', .int .i64 t', .bool st'], .int .i64 c]) ∧ Secs w' (.slice a' n' cap') S' ∧ Below W.heap.size W w' ∧ Below w.heap.size w w' := by
  subst hn
  subst hn'
  subst hE
  have hv' : Sl W 1 (.slice ab 128 cb) b.length (bc b) := by rw [hbl]; exact hv
  have := wt_any ⟨S, l, t, st⟩ _ k b _ W (hs.next hb).dkV hv' hle (by rw [hbl]; simp [maxLen])
  refine this.mono ?_
  intro e w' hr
  obtain ⟨a', cap', h1, h2, h3⟩ := hr.lit hD rfl
  exact ⟨a', cap', h1, h2, h3, hb.trans (h3.mono hb.size)⟩
/-- ... where a variable lies already in block g -/
theorem wt_litZ (S S' : List (List UInt8)) (l t l' t' : Int) (st st' : Bool) (k : Int) (b : List UInt8) (c : Int) (w W : World) (a ab : Option Addr) (n cap cb : Nat) (hn : S.length = n) (n' : Nat) (hn' : S'.length = n') (hD : wtD ⟨S, l, t, st⟩ k b = ⟨S', l', t', st'⟩) (hE : wtE ⟨S, l, t, st⟩ k b = c)
    (hs : Secs w (.slice a n cap) S) (hb : Below w.heap.size w W) (hv : Sl W 1 (.slice ab 128 cb) 128 (bc b)) (hbl : b.length = 128) (hle : l ≤ 9223372036854775807) (g : Nat) (hZ : Blk W g 26 #[.slice none 0 0, .int .i64 0, .int .i64 0, .bool false]) :
    Calls Try.prog 16 #[.agg #[.slice a n cap, .int .i64 l, .int .i64 t, .bool st], .int .i64 k, .slice ab 128 cb] W fun e w' =>
      ∃ a' cap', e = .returned (.tuple #[.agg #[.slice a' n' cap', .int .i64 l', .int .i64 t', .bool st'], .int .i64 c]) ∧ Secs w' (.slice a' n' cap') S' ∧ Blk w' g 26 #[.slice none 0 0, .int .i64 0, .int .i64 0, .bool false] ∧ Below W.heap.size W w' ∧ Below w.heap.size w w' := by
  refine (wt_lit S S' l t l' t' st st' k b c w W a ab n cap cb hn n' hn' hD hE hs hb hv hbl hle).mono ?_
  rintro e w' ⟨a', cap', h1, h2, h3, h4⟩
  exact ⟨a', cap', h1, h2, hZ.below h3 hZ.lt, h3, h4⟩
/-- what a region 'x, e := disk.Write(d, .., whole(..))' leaves: w7 is the world ahead of it -/
def WrReg (w7 : World) (S' : List (List UInt8)) (l' t' : Int) (st' : Bool) (s9 : Value) (W : World) : Prop :=
  ∃ g9 a' cap', s9 = .pointer (some ⟨g9, 0, none⟩) ∧ w7.heap.size ≤ g9 ∧ Blk W g9 26 #[.slice a' S'.length cap', .int .i64 l', .int .i64 t', .bool st'] ∧ Secs W (.slice a' S'.length cap') S' ∧ Below w7.heap.size w7 W
theorem wr_fin2 {w7 w9 : World} {S' : List (List UInt8)} {l' t' : Int} {st' : Bool} {a' : Option Addr} {cap' n' : Nat} (hn : n' = S'.length) (hs : Secs w9 (.slice a' n' cap') S') (hb : Below w7.heap.size w7 w9) :
    WrReg w7 S' l' t' st' (.pointer (some ⟨w9.heap.size, 0, none⟩)) (w9.alloc (.cells #[.slice a' n' cap', .int .i64 l', .int .i64 t', .bool st'] 26)) := by
  subst hn
  exact ⟨_, a', cap', rfl, hb.size, Blk.new _ _ _, hs.next (below_alloc _ _), hb.alloc hb.size _⟩
theorem wr_fin1 {w7 w9 : World} {S' : List (List UInt8)} {l' t' : Int} {st' : Bool} {a' : Option Addr} {cap' g9 n' : Nat} (hn : n' = S'.length) (hs : Secs w9 (.slice a' n' cap') S') (hb : Below w7.heap.size w7 w9) (hg : w7.heap.size ≤ g9)
    (hS : S'.length = 0 ∨ 2 ≤ S'.length) (hne : ∀ s ∈ S', 0 < s.length)
    (hZ : Blk w9 g9 26 #[.slice none 0 0, .int .i64 0, .int .i64 0, .bool false]) :
    WrReg w7 S' l' t' st' (.pointer (some ⟨g9, 0, none⟩)) ((((w9.setCell ⟨g9, 0, none⟩ (.slice a' n' cap')).setCell ⟨g9, 1, none⟩ (.int .i64 l')).setCell ⟨g9, 2, none⟩ (.int .i64 t')).setCell ⟨g9, 3, none⟩ (.bool st')) := by
  subst hn
  have hU : Upd (fun q => q = g9) w9 ((((w9.setCell ⟨g9, 0, none⟩ (.slice a' S'.length cap')).setCell ⟨g9, 1, none⟩ (.int .i64 l')).setCell ⟨g9, 2, none⟩ (.int .i64 t')).setCell ⟨g9, 3, none⟩ (.bool st')) := by
    refine Upd.setCell (S := fun q => q = g9) ?_ (Or.inl rfl) _
    refine Upd.setCell (S := fun q => q = g9) ?_ (Or.inl rfl) _
    refine Upd.setCell (S := fun q => q = g9) ?_ (Or.inl rfl) _
    refine Upd.setCell (S := fun q => q = g9) ?_ (Or.inl rfl) _
    exact Upd.refl _ _
  exact ⟨g9, a', cap', rfl, hg, (((hZ.set_ 0 _).set_ 1 _).set_ 2 _).set_ 3 _, secs_far hs hS hne hZ hU, hb.trans (hU.below hb.size (fun q hq e => by omega))⟩
theorem wr_store {w : World} {Q : Nat} {l t : Int} {st : Bool} {a a' : Option Addr} {n c n' c' : Nat} {l0 t0 : Int} {st0 : Bool} {S : List (List UInt8)} (hQ : Blk w Q 26 #[.slice a n c, .int .i64 l0, .int .i64 t0, .bool st0])
    (hs : Secs w (.slice a' n' c') S) (hS : S.length = 0 ∨ 2 ≤ S.length) (hne : ∀ s ∈ S, 0 < s.length) :
    Blk ((((w.setCell ⟨Q, 0, none⟩ (.slice a' n' c')).setCell ⟨Q, 1, none⟩ (.int .i64 l)).setCell ⟨Q, 2, none⟩ (.int .i64 t)).setCell ⟨Q, 3, none⟩ (.bool st)) Q 26 #[.slice a' n' c', .int .i64 l, .int .i64 t, .bool st] ∧
    Secs ((((w.setCell ⟨Q, 0, none⟩ (.slice a' n' c')).setCell ⟨Q, 1, none⟩ (.int .i64 l)).setCell ⟨Q, 2, none⟩ (.int .i64 t)).setCell ⟨Q, 3, none⟩ (.bool st)) (.slice a' n' c') S ∧
    Upd (fun q => q = Q) w ((((w.setCell ⟨Q, 0, none⟩ (.slice a' n' c')).setCell ⟨Q, 1, none⟩ (.int .i64 l)).setCell ⟨Q, 2, none⟩ (.int .i64 t)).setCell ⟨Q, 3, none⟩ (.bool st)) := by
  have hU : Upd (fun q => q = Q) w ((((w.setCell ⟨Q, 0, none⟩ (.slice a' n' c')).setCell ⟨Q, 1, none⟩ (.int .i64 l)).setCell ⟨Q, 2, none⟩ (.int .i64 t)).setCell ⟨Q, 3, none⟩ (.bool st)) := by
    refine Upd.setCell (S := fun q => q = Q) ?_ (Or.inl rfl) _
    refine Upd.setCell (S := fun q => q = Q) ?_ (Or.inl rfl) _
    refine Upd.setCell (S := fun q => q = Q) ?_ (Or.inl rfl) _
    refine Upd.setCell (S := fun q => q = Q) ?_ (Or.inl rfl) _
    exact Upd.refl _ _
  exact ⟨(((hQ.set_ 0 _).set_ 1 _).set_ 2 _).set_ 3 _, secs_far hs hS hne hQ hU, hU⟩
end Go.Proofs.Ytekmdaphkgkgaaa
