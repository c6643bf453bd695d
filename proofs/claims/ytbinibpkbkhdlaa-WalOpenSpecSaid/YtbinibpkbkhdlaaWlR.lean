/- Wal: the records in sectors, as plain data; what a step of the iterator and a round of the loop over it may turn. -/
import Derived.Test.YtbinibpkbkhdlaaWlH
import Derived.Test.YtbinibpkbkhdlaaWlL
namespace Go.Proofs.Ytbinibpkbkhdlaa
open Go.RowKit

def begB (s : List UInt8) : Bool := decide (bt s 10 % 2 = 1)
def endB (s : List UInt8) : Bool := decide (2 ≤ bt s 10 % 4)
def pay (s : List UInt8) : List UInt8 := (s.take (12 + bt s 11)).drop 12
/-- does no sector of the same record lie there? -/
def cutB (S : List (List UInt8)) (b : W32) (k : Nat) : Bool :=
  decide (k = S.length) || (!gdB (S.getD k []) k || (decide (num4 (S.getD k []) 0 ≠ b) || begB (S.getD k [])))
/-- the rest of a record, from a sector on, and where the next one begins -/
def inn (S : List (List UInt8)) (b : W32) : Nat → Nat → List UInt8 → Option (List UInt8 × Nat)
  | 0, _, _ => none
  | f + 1, k, acc => if endB (S.getD k []) then some (acc ++ pay (S.getD k []), k + 1) else if cutB S b (k + 1) then none else inn S b f (k + 1) (acc ++ pay (S.getD k []))
/-- does a record begin there, not older than the one before? -/
def begsB (S : List (List UInt8)) (bf : W32) (k : Nat) : Bool := gdB (S.getD k []) k && (begB (S.getD k []) && decide (bf.toNat ≤ (num4 (S.getD k []) 0).toNat))
def outr (S : List (List UInt8)) : Nat → Nat → W32 → List (List UInt8)
  | 0, _, _ => []
  | f + 1, k, bf => if k < S.length then
      if begsB S bf k then
        match inn S (num4 (S.getD k []) 0) S.length k [] with
        | none => []
        | some (r, k') => r :: outr S f k' (num4 (S.getD k []) 0)
      else []
    else []
def recs (S : List (List UInt8)) : List (List UInt8) := outr S (S.length + 1) 0 0#32
theorem inn_lt (S : List (List UInt8)) (b : W32) : ∀ (f k : Nat) (acc r : List UInt8) (k' : Nat), inn S b f k acc = some (r, k') → k < k'
  | 0, _, _, _, _, h => by simp [inn] at h
  | f + 1, k, acc, r, k', h => by
    rw [inn] at h
    split at h
    · cases h; omega
    · split at h
      · cases h
      · have := inn_lt S b f _ _ _ _ h; omega
theorem outr_end (S : List (List UInt8)) (f k : Nat) (bf : W32) (h : ¬ k < S.length) : outr S f k bf = [] := by
  cases f with
  | zero => rfl
  | succ f => rw [outr, if_neg h]
theorem outr_no (S : List (List UInt8)) (f k : Nat) (bf : W32) (h : begsB S bf k = false) : outr S f k bf = [] := by
  cases f with
  | zero => rfl
  | succ f => rw [outr]; split; rw [if_neg (by simp [h])]; rfl
theorem outr_cut (S : List (List UInt8)) (f k : Nat) (bf : W32) (h : inn S (num4 (S.getD k []) 0) S.length k [] = none) : outr S f k bf = [] := by
  cases f with
  | zero => rfl
  | succ f =>
    rw [outr]; split
    · split
      · rw [h]
      · rfl
    · rfl
theorem outr_on (S : List (List UInt8)) (f k : Nat) (bf : W32) (hk : k < S.length) (h : begsB S bf k = true) (r : List UInt8) (k' : Nat) (hi : inn S (num4 (S.getD k []) 0) S.length k [] = some (r, k')) : outr S (f + 1) k bf = r :: outr S f k' (num4 (S.getD k []) 0) := by
  rw [outr, if_pos hk, if_pos h, hi]

/-- block k holds bytes -/
def U8 (W : World) (k : Nat) : Prop := ∃ cs fr, W.heap[k]? = some (.cells cs 5 fr)
/-- what a step of the iterator leaves -/
def It (B : Nat) (W W' : World) : Prop := Upd (fun k => B ≤ k ∧ U8 W k) W W'
/-- what a round leaves -/
def Bd (n₀ b1 : Nat) (W W' : World) : Prop := Upd (fun k => n₀ ≤ k ∧ k ≠ b1 ∧ ¬ U8 W k) W W'
theorem It.others {B : Nat} {W W' : World} (h : It B W W') : KeepsOthers W W' :=
  ⟨h.size, fun k o hk ho => (h.block k (Array.getElem?_eq_some_iff.1 hk).1 (fun ⟨_, cs, fr, hc⟩ => by rw [hk] at hc; cases hc; cases ho)).trans hk⟩
theorem Bd.trans {n₀ b1 : Nat} {A B C : World} (h : Bd n₀ b1 A B) (k : Bd n₀ b1 B C) : Bd n₀ b1 A C :=
  ⟨k.os.trans h.os, k.tape.trans h.tape, k.output.trans h.output, Nat.le_trans h.size k.size, fun i hi hs => by
    have e := h.block i hi hs
    refine (k.block i (Nat.lt_of_lt_of_le hi h.size) (fun hk => hs ⟨hk.1, hk.2.1, fun ⟨cs, fr, hc⟩ => hk.2.2 ⟨cs, fr, e.trans hc⟩⟩)).trans e⟩
theorem Bd.putObj {n₀ b1 : Nat} {w : World} (hn : n₀ ≤ w.heap.size) (hb : b1 < w.heap.size) (W : World) (l : Nat) (o o' : Obj) (hl : w.heap.size ≤ l) (h : W.heap[l]? = some o) (ho : o.isCells = false) : Bd n₀ b1 W (W.putObj l o') :=
  (Upd.refl _ W).grown (grownBy_putObj' W l o') (fun k e => by
    cases e
    exact .inl ⟨by omega, by omega, fun ⟨cs, fr, hc⟩ => by rw [h] at hc; cases hc; cases ho⟩)
theorem Bd.below {n₀ b1 : Nat} {W W' : World} (h : Bd n₀ b1 W W') (hn : n₀ ≤ W.heap.size) : Below n₀ W W' := Upd.below h hn (fun k hk hs => by omega)
theorem own_u8 {W : World} {B n : Nat} {v : Value} {xs : List Value} (h : W.ownsRow B 5 1 v n xs) (k : Nat) (hk : v.ownBlock = some k) : U8 W k := by
  rcases h.2 with ⟨rfl, _⟩ | ⟨g, cap, cur, rfl, _, hg, _⟩
  · cases hk
  · cases hk; exact ⟨cur, _, hg⟩
theorem Bd.own {n₀ b1 : Nat} {W W' : World} (h : Bd n₀ b1 W W') {B n : Nat} {v : Value} {xs : List Value} (ho : W.ownsRow B 5 1 v n xs) : W'.ownsRow B 5 1 v n xs :=
  Upd.own h ho (fun k hk hs => hs.2.2 (own_u8 ho k hk))
/-- a record that came: the slice, and its bytes -/
structure Rc where
  a : Option Addr
  n : Nat
  c : Nat
  b : List UInt8
abbrev Rc.v (x : Rc) : Value := .slice x.a x.n x.c
/-- records that came: each in a row of bytes of its own, below B -/
def Came (n₀ B : Nat) (W : World) (xs : List Rc) : Prop := ∀ x ∈ xs, W.ownsRow n₀ 5 1 x.v x.b.length (bc x.b) ∧ ∀ k, x.v.ownBlock = some k → k < B
theorem Came.upd {S : Nat → Prop} {n₀ B : Nat} {W W' : World} {xs : List Rc} (h : Came n₀ B W xs) (hu : Upd S W W') (hS : ∀ k, k < B → ¬ S k) : Came n₀ B W' xs := fun x hx =>
  ⟨hu.own (h x hx).1 (fun k hk => hS k ((h x hx).2 k hk)), (h x hx).2⟩
theorem Came.bd {n₀ b1 n₁ B : Nat} {W W' : World} {xs : List Rc} (h : Came n₁ B W xs) (hu : Bd n₀ b1 W W') : Came n₁ B W' xs := fun x hx => ⟨hu.own (h x hx).1, (h x hx).2⟩
theorem Came.put {n₀ B : Nat} {W : World} {xs : List Rc} (h : Came n₀ B W xs) (l : Nat) (o o' : Obj) (ho : W.heap[l]? = some o) (hc : o.isCells = false) : Came n₀ B (W.putObj l o') xs := fun x hx => by
  have hu : Upd (fun k => k = l) W (W.putObj l o') := (Upd.refl _ W).grown (grownBy_putObj' W l o') (fun k e => by cases e; exact .inl rfl)
  exact ⟨hu.own (h x hx).1 (fun k hk hs => by
    obtain ⟨cs, fr, hcs⟩ := own_u8 (h x hx).1 k hk
    subst hs
    rw [ho] at hcs; cases hcs; cases hc), (h x hx).2⟩
theorem Came.mono {n₀ B B' : Nat} {W : World} {xs : List Rc} (h : Came n₀ B W xs) (hB : B ≤ B') : Came n₀ B' W xs := fun x hx => ⟨(h x hx).1, fun k hk => Nat.lt_of_lt_of_le ((h x hx).2 k hk) hB⟩
end Go.Proofs.Ytbinibpkbkhdlaa
