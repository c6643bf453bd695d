/- Disk: slices that read as lists of bytes, slices of such slices, disks as plain data. -/
import Derived.Test.YtbinibpkbkhdlaaChecked
import Derived.Test.YtbinibpkbkhdlaaMem
import Derived.Lib.Strings
import Derived.Lib.IndexBytes
import Derived.Deep.AppendLies
namespace Go.Proofs.Ytbinibpkbkhdlaa
open Go.RowKit

theorem ret_bool {a b : Bool} (h : a = b) : Ending.returned (.bool a) = .returned (.bool b) := by rw [h]
theorem ret_int {k : IntKind} {a b : Int} (h : a = b) : Ending.returned (.int k a) = .returned (.int k b) := by rw [h]
def mkS (l : List UInt8) : ByteArray := ⟨l.toArray⟩
theorem mkS_size (l : List UInt8) : (mkS l).size = l.length := rfl
theorem mkS_toList (l : List UInt8) : (mkS l).toList = l := by rw [Lib.toList_data]; rfl
/-- the cells of bytes -/
def bc (l : List UInt8) : List Value := l.map fun c => .int .u8 (c.toNat : Int)
theorem bc_len (l : List UInt8) : (bc l).length = l.length := by simp [bc]
theorem bc_app (a b : List UInt8) : bc (a ++ b) = bc a ++ bc b := by simp [bc]
theorem Sl.form {w : World} {size n : Nat} {v : Value} {xs : List Value} (h : Sl w size v n xs) : ∃ a cap, v = .slice a n cap := by
  obtain ⟨_, a, cap, rfl, _⟩ := h; exact ⟨a, cap, rfl⟩
theorem Sl.alloc {w : World} {size : Nat} {v : Value} {n : Nat} {xs : List Value} (h : Sl w size v n xs) (o : Obj) : Sl (w.alloc o) size v n xs :=
  h.upd (Upd.alloc (Upd.refl (fun _ => False) w) o) (fun _ _ h => h)
theorem sl_nil (w : World) (size : Nat) : Sl w size (.slice none 0 0) 0 [] := ⟨by simp, none, 0, rfl, Nat.le_refl _, .inl rfl⟩
theorem Sl.pos {w : World} {n : Nat} {xs : List Value} {a : Option Addr} {cap : Nat} (h : Sl w 1 (.slice a n cap) n xs) (hp : 0 < n) :
    ∃ g off, a = some ⟨g, off, none⟩ ∧ n ≤ cap ∧ ∀ k u, xs[k]? = some u → w.cell? ⟨g, off + k, none⟩ = some u := by
  obtain ⟨_, a', cap', he, hn, hr⟩ := h
  cases he
  rcases hr with h0 | ⟨g, off, rfl, hc⟩
  · omega
  · exact ⟨g, off, rfl, hn, hc⟩
/-- the first bytes of a slice of bytes -/
theorem Sl.take {w : World} {l : List UInt8} {a : Option Addr} {cap m : Nat} (h : Sl w 1 (.slice a l.length cap) l.length (bc l)) (hm : m ≤ l.length) : Sl w 1 (.slice a m cap) m (bc (l.take m)) := by
  obtain ⟨_, a', cap', he, hn, hr⟩ := h
  cases he
  refine ⟨by simp [bc]; omega, a, cap, rfl, by omega, ?_⟩
  rcases Nat.eq_zero_or_pos m with h0 | hp
  · exact .inl h0
  · rcases hr with h0 | ⟨g, off, rfl, hc⟩
    · omega
    · refine .inr ⟨g, off, rfl, fun j u hu => hc j u ?_⟩
      have hj : j < m := by
        rcases Nat.lt_or_ge j m with h | h
        · exact h
        · rw [List.getElem?_eq_none (by simp [bc]; omega)] at hu; cases hu
      simpa [bc, List.getElem?_take_of_lt hj] using hu

/-- text of bytes out of a slice -/
theorem conv_bytes {w : World} {l : List UInt8} {a : Option Addr} {cap : Nat} (h : Sl w 1 (.slice a l.length cap) l.length (bc l)) :
    (convert 25 9 (.slice a l.length cap)).run Try.prog w = .ok (.string (mkS l)) w := by
  obtain ⟨_, a', cap', he, _, hr⟩ := h
  cases he
  rcases hr with h0 | ⟨g, off, rfl, hc⟩
  · have hl : l = [] := List.eq_nil_of_length_eq_zero h0
    subst hl
    rcases a with _ | x
    · exact run_convert_bytes_nil w _ 5 Try.underlying25 Try.underlying5 _ _ _ Try.underlying9
    · rw [run_convert_bytes_string w 25 9 5 _ _ _ Try.underlying25 Try.underlying5 Try.underlying9]
      rw [run_bytesToString w x ([] : List UInt8).length cap [] (by simp [loadCells, loadCellsFrom])]
      rfl
  · have hx := run_convert_bytes_arg w _ 5 Try.underlying25 Try.underlying5 g off l.length cap (l.map fun c => (c.toNat : Int)) (by simp)
      (fun j hj => by
        have := hc j (.int .u8 (l[j].toNat : Int)) (by simp [bc, hj])
        simpa [List.getD, hj] using this) _ Try.underlying9
    rw [hx]
    congr 2
    simp [strOfNums, mkS, Function.comp_def]

section
variable {P : Program} (w : World)
/-- append of a slice that reads as cells of one each (nil and empty included) onto a slice of the call's own -/
theorem run_append_sl (base : Nat) (t ty e : TypeId) (i : TypeInfo) (z : Value) (bytes : Nat) (ht : P.underlying t = some (.slice e)) (hi : P.info? e = some i) (hz : i.zero = some z)
    (hsize : i.size = 1) (hby : i.bytes = bytes) (hzs : z.cells.size = 1)
    (v : Value) (n : Nat) (xs : List Value) (hown : w.ownsRow base e 1 v n xs) (x : Value) (m : Nat) (ys : List Value)
    (hs : Sl w 1 x m ys) (h1 : ∀ u ∈ ys, u.oneCell' = true) (hm : n + m ≤ maxLen) (hb : (n + m) * bytes ≤ 140737488355328) (hbase : base ≤ w.heap.size) :
    ∃ v' w', (Builtin.append_ #[t, t] ty #[v, x]).run P w = .ok v' w' ∧ w'.ownsRow base e 1 v' (n + m) (xs ++ ys) ∧ w.grownBy w' v.ownBlock := by
  obtain ⟨hl, a', cap', rfl, _, hr⟩ := hs
  rcases a' with _ | ad
  · have h0 : m = 0 := by
      rcases hr with h | ⟨g, off, h, _⟩
      · exact h
      · cases h
    subst h0
    have hy : ys = [] := List.eq_nil_of_length_eq_zero (by simpa using hl)
    subst hy
    refine ⟨v, w, ?_, by simpa using hown, World.grownBy.refl _ _⟩
    rcases hown.2 with ⟨rfl, rfl⟩ | ⟨g, cap, cur, rfl, _, _, hnc, _⟩
    · simp [Builtin.append_, run_underlying ht, sizeOf, typeInfo, hi, Builtin.lenOf, Builtin.firstCells]
    · simp [Builtin.append_, run_underlying ht, sizeOf, typeInfo, hi, Builtin.lenOf, Builtin.firstCells, hnc, storeCells]
  · have hnews : ∀ j u, ys[j]? = some u → w.cell? (ad.add j) = some u := by
      rcases hr with h | ⟨g, off, h, hc⟩
      · intro j u hu
        subst h
        have hy : ys = [] := List.eq_nil_of_length_eq_zero (by simpa using hl)
        subst hy
        simp at hu
      · cases h
        intro j u hu
        have hadd : (⟨g, off, none⟩ : Addr).add j = ⟨g, off + j, none⟩ := by simp [Addr.add]
        rw [hadd]; exact hc j u hu
    obtain ⟨v', w', h1', h2, h3, _⟩ := run_append_own (P := P) w base t ty e i z 1 bytes ht hi hz hsize hby hzs (by omega) v n xs hown ad m cap' ys (by simpa using hl) hnews h1 hm hb hbase
    exact ⟨v', w', h1', h2, h3⟩
theorem wpList_append_sl {ops : Array Oper} {rest : List Oper} {o : Oper} {a : Act} {Q : Exit → Act → World → Prop} (hgd : o.guard = none) (s x : Operand) (t : TypeId)
    (ho : o.op = .call { callee := .builtin .append, args := #[s, x], argTypes := #[t, t] })
    (base : Nat) (e : TypeId) (i : TypeInfo) (z : Value) (bytes : Nat) (ht : P.underlying t = some (.slice e)) (hi : P.info? e = some i) (hz : i.zero = some z)
    (hsize : i.size = 1) (hby : i.bytes = bytes) (hzs : z.cells.size = 1)
    (v : Value) (n : Nat) (xs : List Value) (hs : a.eval s = v) (hown : w.ownsRow base e 1 v n xs) (y : Value) (m : Nat) (ys : List Value) (hx : a.eval x = y)
    (hsl : Sl w 1 y m ys) (h1 : ∀ u ∈ ys, u.oneCell' = true) (hm : n + m ≤ maxLen) (hb : (n + m) * bytes ≤ 140737488355328) (hbase : base ≤ w.heap.size)
    (h : ∀ v' w', w'.ownsRow base e 1 v' (n + m) (xs ++ ys) → w.grownBy w' v.ownBlock → wpList P ops Q rest (a.put o.dst v') w') : wpList P ops Q (o :: rest) a w := by
  obtain ⟨v', w', hr, h2, h3⟩ := run_append_sl w base t o.type e i z bytes ht hi hz hsize hby hzs v n xs hown y m ys hsl h1 hm hb hbase
  refine wpList_plain hgd fun K hK => ?_
  unfold Oper.wp execOp
  simp only [ho, resolve, invoke, builtin, Sem.run_bind, Sem.run_pure, Result.andThen_ok, List.map_toArray, List.map_cons, List.map_nil, hs, hx, hr]
  exact hK _ _ (h v' w' h2 h3)
end
theorem bc_one (l : List UInt8) : ∀ u ∈ bc l, u.oneCell' = true := by
  intro u hu
  simp only [bc, List.mem_map] at hu
  obtain ⟨c, _, rfl⟩ := hu
  rfl
/-- an empty literal: a row of the call's own -/
theorem own_empty (w : World) (e : TypeId) (size : Nat) : (w.alloc (.cells #[] e)).ownsRow w.heap.size e size (.slice (some ⟨w.heap.size, 0, none⟩) 0 0) 0 [] :=
  ⟨by simp, .inr ⟨w.heap.size, 0, #[], rfl, Nat.le_refl _, heap_alloc_new w _, Nat.le_refl _, Nat.zero_le _, by simp, by simp⟩⟩

/-- a slice of slices of bytes -/
def Secs (w : World) (v : Value) (S : List (List UInt8)) : Prop :=
  ∃ vs : List Value, Sl w 1 v S.length vs ∧ ∀ (i : Nat) (s : List UInt8), S[i]? = some s → ∃ x, vs[i]? = some x ∧ Sl w 1 x s.length (bc s)
theorem Secs.len {w : World} {v : Value} {S : List (List UInt8)} (h : Secs w v S) : ∃ a cap, v = .slice a S.length cap := by
  obtain ⟨vs, h1, _⟩ := h; exact h1.form
theorem Secs.next {w w' : World} (hb : Below w.heap.size w w') {v : Value} {S : List (List UInt8)} (h : Secs w v S) : Secs w' v S := by
  obtain ⟨vs, h1, h2⟩ := h
  exact ⟨vs, h1.next hb, fun i s hs => by obtain ⟨x, h3, h4⟩ := h2 i s hs; exact ⟨x, h3, h4.next hb⟩⟩
theorem secs_nil (w : World) : Secs w (.slice none 0 0) [] := ⟨[], sl_nil w 1, fun i s h => by simp at h⟩

/-- a disk as plain data -/
structure Dk where
  secs : List (List UInt8)
  left : Int
  tear : Int
  stop : Bool
  deriving DecidableEq
def dkAgg (v : Value) (D : Dk) : Value := .agg #[v, .int .i64 D.left, .int .i64 D.tear, .bool D.stop]
def DkV (w : World) (d : Value) (D : Dk) : Prop := ∃ v, d = dkAgg v D ∧ Secs w v D.secs
theorem DkV.next {w w' : World} (hb : Below w.heap.size w w') {d : Value} {D : Dk} (h : DkV w d D) : DkV w' d D := by
  obtain ⟨v, h1, h2⟩ := h; exact ⟨v, h1, h2.next hb⟩
def Dk.zero : Dk := ⟨[], 0, 0, false⟩
theorem dkV_zero (w : World) : DkV w (.agg #[.slice none 0 0, .int .i64 0, .int .i64 0, .bool false]) Dk.zero := ⟨_, rfl, secs_nil w⟩
end Go.Proofs.Ytbinibpkbkhdlaa
