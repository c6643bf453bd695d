/- Intervals: slices that read as lists of intervals. -/
import Derived.Test.YtnjpjjefhpbfgaaChecked
import Derived.Test.YtnjpjjefhpbfgaaIvR
import Derived.Deep.AppendLies
import Derived.Maps.AppendAt
import Derived.BigQuiet
namespace Go.Proofs.Ytnjpjjefhpbfgaa
open Go.RowKit

theorem ret_bool {a b : Bool} (h : a = b) : Ending.returned (.bool a) = .returned (.bool b) := by rw [h]
theorem ret_int {k : IntKind} {a b : Int} (h : a = b) : Ending.returned (.int k a) = .returned (.int k b) := by rw [h]
theorem Sl.form {w : World} {size n : Nat} {v : Value} {xs : List Value} (h : Sl w size v n xs) : ∃ a cap, v = .slice a n cap := by
  obtain ⟨_, a, cap, rfl, _⟩ := h; exact ⟨a, cap, rfl⟩
theorem Sl.alloc {w : World} {size : Nat} {v : Value} {n : Nat} {xs : List Value} (h : Sl w size v n xs) (o : Obj) : Sl (w.alloc o) size v n xs :=
  h.upd (Upd.alloc (Upd.refl (fun _ => False) w) o) (fun _ _ h => h)
theorem sl_nil (w : World) (size : Nat) : Sl w size (.slice none 0 0) 0 [] := ⟨by simp, none, 0, rfl, Nat.le_refl _, .inl rfl⟩
theorem below_alloc (w : World) (o : Obj) : Below w.heap.size w (w.alloc o) := (Below.refl _ _).alloc (Nat.le_refl _) o
theorem blw_drewN {B : Nat} {a w : World} (h : Below B a w) (n : Nat) : Below B a (w.drewN n) := ⟨h.os, h.tape, h.output, h.size, h.block⟩
theorem calls_flip {P : Program} {f : FuncId} {args : Array Value} {w : World} {v : Value} (h : Calls P f args w fun e w' => e = .returned v ∧ w = w') : Calls P f args w fun e w' => e = .returned v ∧ w' = w :=
  h.mono fun _ _ ⟨he, hw⟩ => ⟨he, hw.symm⟩
theorem thenB {f : FuncId} {args : Array Value} {a W : World} {x : Ending} (hb : Below a.heap.size a W) (h : Calls Try.prog f args W fun e w' => e = x ∧ Below W.heap.size W w') : Calls Try.prog f args W fun e w' => e = x ∧ Below a.heap.size a w' :=
  h.mono fun _ _ ⟨he, hb'⟩ => ⟨he, hb.trans (hb'.mono hb.size)⟩
def Blk (w : World) (g : Nat) (t : TypeId) (cs : Array Value) : Prop := w.heap[g]? = some (.cells cs t (0, 0))
section
variable {w w' : World} {g : Nat} {t : TypeId} {cs : Array Value}
theorem Blk.lt (h : Blk w g t cs) : g < w.heap.size := by
  rcases Nat.lt_or_ge g w.heap.size with hlt | hge
  · exact hlt
  · unfold Blk at h; rw [Array.getElem?_eq_none hge] at h; cases h
theorem Blk.cell (h : Blk w g t cs) (i : Nat) : w.cell? ⟨g, i, none⟩ = cs[i]? := cell_of_row w g i cs t (0, 0) h
theorem Blk.frozen (h : Blk w g t cs) (i : Nat) : w.frozen? ⟨g, i, none⟩ = false := by
  unfold Blk at h
  simp [World.frozen?, h]
theorem Blk.new (w : World) (t : TypeId) (cs : Array Value) : Blk (w.alloc (.cells cs t)) w.heap.size t cs := heap_alloc_new w _
theorem Blk.alloc (h : Blk w g t cs) (o : Obj) : Blk (w.alloc o) g t cs := (Below.heap_alloc w o g h.lt).trans h
theorem Blk.set_ (h : Blk w g t cs) (i : Nat) (u : Value) : Blk (w.setCell ⟨g, i, none⟩ u) g t (cs.setIfInBounds i u) := by
  unfold Blk at h ⊢
  simp [World.setCell, Array.getElem?_modify, h]
theorem Blk.drewN (h : Blk w g t cs) (n : Nat) : Blk (w.drewN n) g t cs := h
theorem Blk.below {B : Nat} (h : Blk w g t cs) (hb : Below B w w') (hg : g < B) : Blk w' g t cs := (hb.block g hg).trans h
theorem Blk.sl {n : Nat} {xs : List Value} (h : Blk w g t cs) (hs : cs.toList = xs) (hn : xs.length = n * 2) : Sl w 2 (.slice (some ⟨g, 0, none⟩) n n) n xs :=
  ⟨hn, _, _, rfl, Nat.le_refl _, .inr ⟨g, 0, rfl, fun j u hu => by rw [Nat.zero_add, h.cell j]; subst hs; simpa using hu⟩⟩
end


theorem blk_new2 (w : World) (o : Obj) (t : TypeId) (cs : Array Value) : Blk ((w.alloc o).alloc (.cells cs t)) (w.heap.size + 1) t cs := by
  have h := Blk.new (w.alloc o) t cs
  rw [World.size_alloc] at h
  exact h
theorem cells2 {w : World} {g : Nat} {t : TypeId} {x y : Value} (h : Blk w g t #[x, y]) :
    w.cell? ⟨g, 0, none⟩ = some x ∧ w.cell? ⟨g, 1, none⟩ = some y ∧ w.frozen? ⟨g, 0, none⟩ = false ∧ w.frozen? ⟨g, 1, none⟩ = false := ⟨h.cell 0, h.cell 1, h.frozen 0, h.frozen 1⟩
theorem cells1 {w : World} {g : Nat} {t : TypeId} {x : Value} (h : Blk w g t #[x]) : w.cell? ⟨g, 0, none⟩ = some x ∧ w.frozen? ⟨g, 0, none⟩ = false := ⟨h.cell 0, h.frozen 0⟩
/-- the cells of intervals -/
def ivc (i : Iv) : List Value := [.int .i64 i.1, .int .i64 i.2]
def ivs : List Iv → List Value
  | [] => []
  | i :: l => ivc i ++ ivs l
theorem ivs_len : ∀ l : List Iv, (ivs l).length = l.length * 2
  | [] => rfl
  | i :: l => by rw [ivs, List.length_append, ivs_len l, ivc]; simp; omega
theorem ivs_app : ∀ a b : List Iv, ivs (a ++ b) = ivs a ++ ivs b
  | [], b => rfl
  | i :: a, b => by rw [List.cons_append, ivs, ivs, ivs_app a b, List.append_assoc]
theorem ivs_one (l : List Iv) : ∀ u ∈ ivs l, u.oneCell' = true := by
  induction l with
  | nil => intro u hu; cases hu
  | cons i l ih =>
    intro u hu
    rcases List.mem_append.1 hu with h | h
    · simp [ivc] at h
      rcases h with rfl | rfl <;> rfl
    · exact ih u h
theorem ivs_at : ∀ (l : List Iv) (k : Nat) (i : Iv), l[k]? = some i → (ivs l)[k * 2]? = some (.int .i64 i.1) ∧ (ivs l)[k * 2 + 1]? = some (.int .i64 i.2)
  | [], k, i, h => by simp at h
  | x :: l, 0, i, h => by
    simp at h; subst h
    exact ⟨rfl, rfl⟩
  | x :: l, k + 1, i, h => by
    have := ivs_at l k i (by simpa using h)
    rw [ivs, show (k + 1) * 2 = k * 2 + 2 by omega]
    exact this
/-- a slice that reads as a list of intervals -/
def Rd (w : World) (v : Value) (l : List Iv) : Prop := Sl w 2 v l.length (ivs l)
theorem Rd.len {w : World} {v : Value} {l : List Iv} (h : Rd w v l) : ∃ a cap, v = .slice a l.length cap := Sl.form h
theorem Rd.next {w w' : World} (hb : Below w.heap.size w w') {v : Value} {l : List Iv} (h : Rd w v l) : Rd w' v l := Sl.next hb h
theorem Rd.alloc {w : World} {v : Value} {l : List Iv} (h : Rd w v l) (o : Obj) : Rd (w.alloc o) v l := Sl.alloc h o
theorem rd_nil (w : World) : Rd w (.slice none 0 0) [] := sl_nil w 2
theorem Rd.at_ {w : World} {a : Option Addr} {n cap : Nat} {l : List Iv} (h : Rd w (.slice a n cap) l) (hp : 0 < n) :
    ∃ g off, a = some ⟨g, off, none⟩ ∧ l.length = n ∧ n ≤ cap ∧ ∀ k i, l[k]? = some i → w.cell? ⟨g, off + k * 2, none⟩ = some (.int .i64 i.1) ∧ w.cell? ⟨g, off + k * 2 + 1, none⟩ = some (.int .i64 i.2) := by
  obtain ⟨_, a', cap', he, hn, hr⟩ := h
  simp only [Value.slice.injEq] at he
  obtain ⟨rfl, rfl, rfl⟩ := he
  rcases hr with h0 | ⟨g, off, rfl, hc⟩
  · omega
  · refine ⟨g, off, rfl, rfl, hn, fun k i hk => ?_⟩
    obtain ⟨h1, h2⟩ := ivs_at l k i hk
    exact ⟨hc _ _ h1, by rw [Nat.add_assoc]; exact hc _ _ h2⟩
/-- an interval's error, and a list's -/
def okR (i : Iv) : Bool := decide (-1099511627776 ≤ i.1) && (decide (i.1 ≤ 1099511627776) && (decide (-1099511627776 ≤ i.2) && decide (i.2 ≤ 1099511627776)))
def ck (i : Iv) : Int := if okR i then (if i.2 < i.1 then 80 else 0) else 1
def ckL : List Iv → Int
  | [] => 0
  | i :: l => if ck i = 0 then ckL l else ck i
theorem ck_ok {i : Iv} (h : ck i = 0) : -1099511627776 ≤ i.1 ∧ i.1 ≤ 1099511627776 ∧ -1099511627776 ≤ i.2 ∧ i.2 ≤ 1099511627776 ∧ i.1 ≤ i.2 := by
  unfold ck at h
  split at h
  · rename_i hk
    split at h
    · omega
    · simp [okR] at hk; omega
  · omega
theorem ckL_ok : ∀ {l : List Iv}, ckL l = 0 → ∀ i ∈ l, ck i = 0
  | [], _, i, hi => by cases hi
  | x :: l, h, i, hi => by
    rw [ckL] at h
    split at h
    · rename_i hx
      rcases List.mem_cons.1 hi with rfl | hi
      · exact hx
      · exact ckL_ok h i hi
    · contradiction
theorem ckL_drop {l : List Iv} {k : Nat} {i : Iv} (h : l[k]? = some i) : ckL (l.drop k) = if ck i = 0 then ckL (l.drop (k + 1)) else ck i := by
  obtain ⟨hk, rfl⟩ := List.getElem?_eq_some_iff.1 h
  rw [List.drop_eq_getElem_cons hk, ckL]
theorem ck_01 (i : Iv) : ck i = 0 ∨ ck i = 1 ∨ ck i = 80 := by unfold ck; split <;> (try split) <;> simp
end Go.Proofs.Ytnjpjjefhpbfgaa
