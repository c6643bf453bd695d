/- Slices of bytes that read as a list of bytes; texts made of them. -/
import Derived.Test.YtmlkfglnnepjjaaDoorChecked
import Derived.Test.YtmlkfglnnepjjaaDoorSpec
import Derived.Test.YtmlkfglnnepjjaaDoorMem
import Derived.Lib.Strings
import Derived.Lib.IndexBytes
namespace Go.Proofs.YtmlkfglnnepjjaaDoor
open Go.RowKit

abbrev tx (s : ByteArray) : List UInt8 := s.data.toList
theorem tx_len (s : ByteArray) : (tx s).length = s.size := by simp [tx]
theorem bA_str {s : ByteArray} {k : Nat} (h : k < s.size) : bA (tx s) k = (s[k].toNat : Int) := by
  rw [bA_lt (by rw [tx_len]; exact h)]; rfl
theorem toList_tx (s : ByteArray) : s.toList = tx s := Lib.toList_data s
theorem str_ne {s : ByteArray} (l : List UInt8) : (s.toList == l) = decide (tx s = l) := by rw [toList_tx, Bool.eq_iff_iff]; simp
def mkS (l : List UInt8) : ByteArray := ⟨l.toArray⟩
theorem tx_mkS (l : List UInt8) : tx (mkS l) = l := rfl
theorem size_mkS (l : List UInt8) : (mkS l).size = l.length := by rw [← tx_len, tx_mkS]
theorem mkS_extract (l : List UInt8) (a b : Nat) : (mkS l).extract a b = mkS (sub l a b) := by
  rw [Lib.extract_eq]; rfl
/-- the cells of bytes -/
def bc (l : List UInt8) : List Value := l.map fun c => .int .u8 (c.toNat : Int)
theorem Sl.alloc {w : World} {size : Nat} {v : Value} {n : Nat} {xs : List Value} (h : Sl w size v n xs) (o : Obj) : Sl (w.alloc o) size v n xs :=
  h.upd (Upd.alloc (Upd.refl (fun _ => False) w) o) (fun _ _ h => h)

/-- text of bytes out of a slice -/
theorem conv_bytes {w : World} {l : List UInt8} {a : Option Addr} {cap : Nat} (h : Sl w 1 (.slice a l.length cap) l.length (bc l)) :
    (convert 22 9 (.slice a l.length cap)).run Tryd.prog w = .ok (.string (mkS l)) w := by
  obtain ⟨_, a', cap', he, _, hr⟩ := h
  cases he
  rcases hr with h0 | ⟨g, off, rfl, hc⟩
  · have hl : l = [] := List.eq_nil_of_length_eq_zero h0
    subst hl
    rcases a with _ | x
    · exact run_convert_bytes_nil w _ 5 Tryd.underlying22 Tryd.underlying5 _ _ _ Tryd.underlying9
    · rw [run_convert_bytes_string w 22 9 5 _ _ _ Tryd.underlying22 Tryd.underlying5 Tryd.underlying9]
      rw [run_bytesToString w x ([] : List UInt8).length cap [] (by simp [loadCells, loadCellsFrom])]
      rfl
  · have hx := run_convert_bytes_arg w _ 5 Tryd.underlying22 Tryd.underlying5 g off l.length cap (l.map fun c => (c.toNat : Int)) (by simp)
      (fun j hj => by
        have := hc j (.int .u8 (l[j].toNat : Int)) (by simp [bc, hj])
        simpa [List.getD, hj] using this) _ Tryd.underlying9
    rw [hx]
    congr 2
    simp [strOfNums, mkS, Function.comp_def]

theorem Sl.pos {w : World} {l : List UInt8} {a : Option Addr} {cap : Nat} (h : Sl w 1 (.slice a l.length cap) l.length (bc l)) (hp : 0 < l.length) :
    ∃ g off, a = some ⟨g, off, none⟩ ∧ l.length ≤ cap ∧ ∀ k, k < l.length → w.cell? ⟨g, off + k, none⟩ = some (.int .u8 (bA l k)) := by
  obtain ⟨_, a', cap', he, hn, hr⟩ := h
  cases he
  rcases hr with h0 | ⟨g, off, rfl, hc⟩
  · omega
  · exact ⟨g, off, rfl, hn, fun k hk => hc k _ (by simp [bc, bA, hk])⟩
theorem Sl.form {w : World} {size n : Nat} {v : Value} {xs : List Value} (h : Sl w size v n xs) : ∃ a cap, v = .slice a n cap := by
  obtain ⟨_, a, cap, rfl, _⟩ := h; exact ⟨a, cap, rfl⟩
/-- a part of a slice of bytes -/
theorem Sl.sub {w : World} {l : List UInt8} {g off cap a b : Nat} (h : Sl w 1 (.slice (some ⟨g, off, none⟩) l.length cap) l.length (bc l)) (hab : a ≤ b) (hb : b ≤ l.length) :
    Sl w 1 (.slice (some ⟨g, off + a, none⟩) (sub l a b).length (cap - a)) (sub l a b).length (bc (sub l a b)) := by
  have hsl : (Proofs.YtmlkfglnnepjjaaDoor.sub l a b).length = b - a := by simp [Proofs.YtmlkfglnnepjjaaDoor.sub]; omega
  obtain ⟨_, a', cap', he, hn, hr⟩ := h
  cases he
  rcases hr with h0 | ⟨g', off', he, hc⟩
  · have hl0 : l = [] := List.eq_nil_of_length_eq_zero h0
    subst hl0
    have hb0 : b = 0 := by simpa using hb
    subst hb0
    obtain rfl : a = 0 := by omega
    exact ⟨by simp [bc], _, _, rfl, by rw [hsl]; omega, .inl (by rw [hsl])⟩
  · cases he
    refine ⟨by simp [bc], _, _, rfl, by omega, .inr ⟨g, off + a, rfl, fun j u hu => ?_⟩⟩
    have hj : j < b - a := by
      rcases Nat.lt_or_ge j (b - a) with h | h
      · exact h
      · rw [List.getElem?_eq_none (by simp [bc]; omega)] at hu; cases hu
    rw [Nat.add_assoc]
    refine hc (a + j) u ?_
    simp only [bc, List.getElem?_map] at hu ⊢
    rw [Proofs.YtmlkfglnnepjjaaDoor.sub, List.getElem?_take_of_lt hj, List.getElem?_drop] at hu
    exact hu
theorem sub_len {l : List UInt8} {a b : Nat} (hb : b ≤ l.length) : (sub l a b).length = b - a := by simp [sub]; omega
/-- the text of a part of a slice of bytes, as the walk meets it -/
theorem conv_sub {w : World} {l : List UInt8} {g off cap a b : Nat} (h : Sl w 1 (.slice (some ⟨g, off, none⟩) l.length cap) l.length (bc l)) (hab : a ≤ b) (hb : b ≤ l.length) :
    (convert 22 9 (.slice (some ⟨g, off + a, none⟩) (b - a) (cap - a))).run Tryd.prog w = .ok (.string (mkS (sub l a b))) w := by
  have := conv_bytes (h.sub hab hb)
  rwa [sub_len hb] at this
/-- bytes out of a text: a new block -/
theorem conv_str (l : List UInt8) (w : World) : ∃ g cap w1, (convert 9 22 (.string (mkS l))).run Tryd.prog w = .ok (.slice (some ⟨g, 0, none⟩) l.length cap) w1 ∧
    Sl w1 1 (.slice (some ⟨g, 0, none⟩) l.length cap) l.length (bc l) ∧ Below w.heap.size w w1 ∧ w.heap.size ≤ g ∧ g < w1.heap.size := by
  have hr := run_bytes_of_string (P := Tryd.prog) w 9 22 5 (mkS l) Tryd.underlying9 Tryd.underlying22 Tryd.underlying5
  rw [size_mkS] at hr
  refine ⟨_, _, _, hr, ⟨by simp [bc], _, _, rfl, grownCap_ge w l.length 0 5, .inr ⟨w.heap.size, 0, rfl, fun j u hu => ?_⟩⟩, (Below.refl _ _).drew.alloc (Nat.le_refl _) _, Nat.le_refl _, by simp⟩
  have hj : j < l.length := by
    rcases Nat.lt_or_ge j l.length with h | h
    · exact h
    · rw [List.getElem?_eq_none (by simpa [bc] using h)] at hu; cases hu
  rw [Nat.zero_add, cell_of_row _ w.heap.size j _ _ _ (heap_alloc_new w.drew _)]
  have hb := bytesRow_at (mkS l) (grownCap w l.length 0 5) j (by simpa [mkS] using hj)
  rw [hb]
  simp only [bc, List.getElem?_map, List.getElem?_eq_getElem hj, Option.map_some] at hu
  rw [← hu]
  simp [mkS]
end Go.Proofs.YtmlkfglnnepjjaaDoor
