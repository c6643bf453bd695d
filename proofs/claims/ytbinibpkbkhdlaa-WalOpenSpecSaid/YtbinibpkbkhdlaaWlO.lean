/- Wal: Open. -/
import Derived.Test.YtbinibpkbkhdlaaWlI
import Derived.Test.YtbinibpkbkhdlaaWkG
import Derived.RangeFuncNested
import Derived.OwnWalkIn
import Derived.Maps.AppendAt
namespace Go.Proofs.Ytbinibpkbkhdlaa
open Go.RowKit

/-- some sectors of a disk -/
theorem secs_sub {w : World} {g off n cap A m c : Nat} {S : List (List UInt8)} (h : Secs w (.slice (some ⟨g, off, none⟩) n cap) S) (hn : S.length = n) (hA : A + m ≤ n) (hc : m ≤ c) :
    Secs w (.slice (some ⟨g, off + A, none⟩) m c) ((S.drop A).take m) := by
  obtain ⟨vs, ⟨hl, _, _, he, _, hr⟩, hel⟩ := h
  cases he
  have hlen : ((S.drop A).take m).length = m := by simp; omega
  refine ⟨(vs.drop A).take m, ?_, fun i s hs => ?_⟩
  · rw [hlen]
    refine ⟨by simp; omega, _, _, rfl, hc, ?_⟩
    rcases hr with h0 | ⟨g', off', h1, h2⟩
    · left; omega
    · cases h1
      refine .inr ⟨g, off + A, rfl, fun j u hu => ?_⟩
      have hj : j < m := by
        rcases Nat.lt_or_ge j m with h | h
        · exact h
        · rw [List.getElem?_eq_none (by simp; omega)] at hu; cases hu
      rw [List.getElem?_take_of_lt hj, List.getElem?_drop] at hu
      rw [Nat.add_assoc]
      exact h2 _ u hu
  · have hi : i < m := by
      rcases Nat.lt_or_ge i m with h | h
      · exact h
      · rw [List.getElem?_eq_none (by omega)] at hs; cases hs
    rw [List.getElem?_take_of_lt hi, List.getElem?_drop] at hs ⊢
    exact hel _ s hs
def part (D : Dk) (f m : Nat) : List (List UInt8) := (D.secs.drop f).take m
def opE (D : Dk) (f m : Int) : Int := if chk D = 1 then 1 else if fitsB f m D.secs.length = false then 1 else if D.stop then 410 else 0
def opL (D : Dk) (f m : Int) : Lg := if opE D f m = 0 then ⟨f, m, recs (part D f.toNat m.toNat), ((recs (part D f.toNat m.toNat)).length : Int)⟩ else Lg.zero
theorem opE_1 {D : Dk} {f m : Int} (h : chk D = 1) : opE D f m = 1 := if_pos h
theorem opE_2 {D : Dk} {f m : Int} (h : chk D = 0) (h2 : fitsB f m D.secs.length = false) : opE D f m = 1 := by rw [opE, if_neg (by rw [h]; decide), if_pos h2]
theorem opE_3 {D : Dk} {f m : Int} (h : chk D = 0) (h2 : fitsB f m D.secs.length = true) : opE D f m = if D.stop then 410 else 0 := by rw [opE, if_neg (by rw [h]; decide), if_neg (by rw [h2]; decide)]
theorem opL_bad {D : Dk} {f m : Int} (h : opE D f m ≠ 0) : opL D f m = Lg.zero := if_neg h
/-- what the loop over the records has made -/
structure OpI (w : World) (gl b1 : Nat) (v1 f m : Value) (pre : List Rc) (W : World) : Prop where
  bel : Below w.heap.size w W
  box : Blk W b1 22 #[v1]
  log : ∃ v, Blk W gl 29 #[f, m, v, .int .i64 0] ∧ W.ownsRow w.heap.size 25 1 v pre.length (pre.map Rc.v)
theorem blk_u8 {W : World} {g : Nat} {t : TypeId} {cs : Array Value} (h : Blk W g t cs) (ht : t ≠ 5) : ¬ U8 W g := fun ⟨_, _, hc⟩ => by
  rw [h] at hc; cases hc; exact ht rfl
theorem own_nu8 {W : World} {B n : Nat} {e : TypeId} {v : Value} {xs : List Value} (h : W.ownsRow B e 1 v n xs) (he : e ≠ 5) (k : Nat) (hk : v.ownBlock = some k) : ¬ U8 W k := fun ⟨_, _, hc⟩ => by
  rcases h.2 with ⟨rfl, _⟩ | ⟨g, cap, cur, rfl, _, hg, _⟩
  · cases hk
  · cases hk; rw [hg] at hc; cases hc; exact he rfl
theorem Blk.upd {S : Nat → Prop} {W W' : World} {g : Nat} {t : TypeId} {cs : Array Value} (h : Blk W g t cs) (hu : Upd S W W') (hS : ¬ S g) : Blk W' g t cs := (hu.block g h.lt hS).trans h
theorem OpI.it {w : World} {B gl b1 : Nat} {v1 f m : Value} {pre : List Rc} {W W' : World} (hB : w.heap.size ≤ B) (h : OpI w gl b1 v1 f m pre W) (hu : It B W W') : OpI w gl b1 v1 f m pre W' := by
  obtain ⟨v, h1, h2⟩ := h.log
  exact ⟨h.bel.trans (hu.below h.bel.size (fun k hk hs => by have := hs.1; omega)), h.box.upd hu (fun hs => blk_u8 h.box (by decide) hs.2), v, h1.upd hu (fun hs => blk_u8 h1 (by decide) hs.2), hu.own h2 (fun k hk hs => own_nu8 h2 (by decide) k hk hs.2)⟩
theorem OpI.put {w : World} {gl b1 : Nat} {v1 f m : Value} {pre : List Rc} {W : World} (h : OpI w gl b1 v1 f m pre W) (l : Nat) (o o' : Obj) (hl : w.heap.size ≤ l) (ho : W.heap[l]? = some o) (hc : o.isCells = false) : OpI w gl b1 v1 f m pre (W.putObj l o') := by
  obtain ⟨v, h1, h2⟩ := h.log
  have hu : Upd (fun k => k = l) W (W.putObj l o') := (Upd.refl _ W).grown (grownBy_putObj' W l o') (fun k e => by cases e; exact .inl rfl)
  have hne : ∀ {g : Nat} {t : TypeId} {cs : Array Value}, Blk W g t cs → ¬ g = l := fun hb e => by subst e; rw [hb] at ho; cases ho; cases hc
  refine ⟨h.bel.trans (hu.below h.bel.size (fun k hk hs => by omega)), h.box.upd hu (hne h.box), v, h1.upd hu (hne h1), hu.own h2 (fun k hk hs => ?_)⟩
  subst hs
  rcases h2.2 with ⟨rfl, _⟩ | ⟨g, cap, cur, rfl, _, hg, _⟩
  · cases hk
  · cases hk; rw [hg] at ho; cases ho; cases hc
theorem OpI.alloc {w : World} {gl b1 : Nat} {v1 f m : Value} {pre : List Rc} {W : World} (h : OpI w gl b1 v1 f m pre W) (o : Obj) : OpI w gl b1 v1 f m pre (W.alloc o) := by
  obtain ⟨v, h1, h2⟩ := h.log
  exact ⟨h.bel.alloc h.bel.size o, h.box.alloc o, v, h1.alloc o, h2.alloc o⟩
end Go.Proofs.Ytbinibpkbkhdlaa
