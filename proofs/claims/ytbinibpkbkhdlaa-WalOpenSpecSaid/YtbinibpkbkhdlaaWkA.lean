/- Disk: whole sectors, and clones. -/
import Derived.Test.YtbinibpkbkhdlaaDkW
namespace Go.Proofs.Ytbinibpkbkhdlaa
open Go.RowKit

def Blk (w : World) (g : Nat) (t : TypeId) (cs : Array Value) : Prop := w.heap[g]? = some (.cells cs t (0, 0))
section
variable {w w' : World} {g : Nat} {t : TypeId} {cs : Array Value}
theorem Blk.lt (h : Blk w g t cs) : g < w.heap.size := by
  rcases Nat.lt_or_ge g w.heap.size with hlt | hge
  · exact hlt
  · unfold Blk at h; rw [Array.getElem?_eq_none hge] at h; cases h
theorem Blk.cell (h : Blk w g t cs) (i : Nat) : w.cell? ⟨g, i, none⟩ = cs[i]? := cell_of_row w g i cs t (0, 0) h
theorem Blk.frozen (h : Blk w g t cs) (i : Nat) : w.frozen? ⟨g, i, none⟩ = false := by
  unfold Blk at h
  simp [World.frozen?, h]
theorem Blk.new (w : World) (t : TypeId) (cs : Array Value) : Blk (w.alloc (.cells cs t)) w.heap.size t cs := heap_alloc_new w _
theorem Blk.alloc (h : Blk w g t cs) (o : Obj) : Blk (w.alloc o) g t cs := (Below.heap_alloc w o g h.lt).trans h
theorem Blk.set_ (h : Blk w g t cs) (i : Nat) (u : Value) : Blk (w.setCell ⟨g, i, none⟩ u) g t (cs.setIfInBounds i u) := by
  unfold Blk at h ⊢
  simp [World.setCell, Array.getElem?_modify, h]
theorem Blk.below {B : Nat} (h : Blk w g t cs) (hb : Below B w w') (hg : g < B) : Blk w' g t cs := (hb.block g hg).trans h
theorem Blk.sl {n : Nat} {xs : List Value} (h : Blk w g t cs) (hs : cs.toList = xs) (hn : xs.length = n) : Sl w 1 (.slice (some ⟨g, 0, none⟩) n n) n xs :=
  ⟨by omega, _, _, rfl, Nat.le_refl _, .inr ⟨g, 0, rfl, fun j u hu => by rw [Nat.zero_add, h.cell j]; subst hs; simpa using hu⟩⟩
end

/-- the cells of a made slice of bytes -/
def zc (n : Nat) : Array Value := madeCells #[.int .u8 0] n
theorem infoU8 : (Try.prog.info? 5).map (fun i => (i.zero, i.size, i.bytes)) = some (some (.int .u8 0), 1, 1) := by kernel_rfl
theorem zc_128 : (zc 128).toList = bc (List.replicate 128 0) := by kernel_rfl
theorem zc_127 : (zc 127).toList = bc (List.replicate 127 0) := by kernel_rfl
theorem zc_size (n : Nat) : (zc n).size = n := by unfold zc; exact size_madeCells _ _
theorem mk_any (n : Nat) (hn : n ≤ 1000) (w : World) : (Instr.makeSlice 25 (.int .i64 (n : Int)) (.int .i64 (n : Int))).run Try.prog w = .ok (.slice (some ⟨w.heap.size, 0, none⟩) n n) (w.alloc (.cells (zc n) 5)) := by
  obtain ⟨i0, hi, hz0, hz1, hz2⟩ := info_parts infoU8
  have := run_makeSlice (P := Try.prog) w 25 5 i0 (.int .u8 0) Try.underlying25 hi hz0 .i64 .i64 n n (by omega) (Int.le_refl _) (by rw [hz1]; omega) (by rw [hz2]; omega) (by omega)
  rw [this, hz1]
  simp [zc, Value.cells]
theorem mk128 (w : World) : (Instr.makeSlice 25 (.int .i64 128) (.int .i64 128)).run Try.prog w = .ok (.slice (some ⟨w.heap.size, 0, none⟩) 128 128) (w.alloc (.cells (zc 128) 5)) := mk_any 128 (by omega) w
theorem mk127 (w : World) : (Instr.makeSlice 25 (.int .i64 127) (.int .i64 127)).run Try.prog w = .ok (.slice (some ⟨w.heap.size, 0, none⟩) 127 127) (w.alloc (.cells (zc 127) 5)) := mk_any 127 (by omega) w

/-- a slice of bytes comes back, in memory of the call's own -/
def RetB (w : World) (l : List UInt8) (e : Ending) (w' : World) : Prop := ∃ v, e = .returned v ∧ Sl w' 1 v l.length (bc l) ∧ Below w.heap.size w w'

/-- the elements of a slice, cloned into memory of the call's own -/
def RetOwn (w : World) (ty : TypeId) (n : Nat) (xs : List Value) (e : Ending) (w' : World) : Prop := ∃ v, e = .returned v ∧ w'.ownsRow w.heap.size ty 1 v n xs ∧ Below w.heap.size w w'

theorem infoSl : (Try.prog.info? 25).map (fun i => (i.zero, i.size, i.bytes)) = some (some (.slice none 0 0), 1, 24) := by kernel_rfl
set_option maxRecDepth 100000 in
theorem cloneB_any (ys : List Value) (m : Nat) (v : Value) (w : World) (hv : Sl w 1 v m ys) (h1 : ∀ u ∈ ys, u.oneCell' = true) (hl : m ≤ 100000000) :
    Calls Try.prog 56 #[v] w fun e w' => RetOwn w 5 m ys e w' := by
  obtain ⟨i0, hi, hz0, hz1, hz2⟩ := info_parts infoU8
  obtain ⟨a, cap, rfl⟩ := hv.form
  have hnil := @Lib.run_eql_slice_nil Try.prog
  rcases a with _ | ad
  · have h0 : m = 0 := by
      obtain ⟨_, a', cap', he, _, hr⟩ := hv
      cases he
      rcases hr with h | ⟨g, off, h, _⟩
      · exact h
      · cases h
    subst h0
    have hl0 : ys = [] := List.eq_nil_of_length_eq_zero (by simpa using hv.1)
    subst hl0
    clear hv h1
    go_enter Try.func56, Try.ntmps56
    go_wp2_with fail
    go_ret
    exact ⟨_, rfl, World.ownsRow_nil _ _ _ _, Below.refl _ _⟩
  · have hv2 := hv.alloc (.cells #[] 5)
    have H1 := Lib.hid h1
    clear h1
    go_enter Try.func56, Try.ntmps56
    go_wp2_with (first | (at_builtin; refine wpList_append_sl _ rfl (.tmp 5) (.tmp 6) 25 rfl w.heap.size 5 i0 _ _ Try.underlying25 hi hz0 hz1 hz2 rfl _ 0 [] rfl (own_empty w 5 1) _ m ys rfl hv2 H1.out ?h1 ?h2 ?h3 ?_))
    case h1 => unfold maxLen; omega
    case h2 => omega
    case h3 => simp
    intro v' w' hown hgr
    have hb : Below w.heap.size w w' := ((Below.refl _ _).alloc (Nat.le_refl _) _).grown hgr (by simp) (fun k hk => by simp [Value.ownBlock] at hk; omega)
    clear hgr hv2 hv
    go_wp2_with fail
    go_ret
    exact ⟨_, rfl, hown, hb⟩
set_option maxRecDepth 100000 in
theorem cloneS_any (ys : List Value) (m : Nat) (v : Value) (w : World) (hv : Sl w 1 v m ys) (h1 : ∀ u ∈ ys, u.oneCell' = true) (hl : m ≤ 100000000) :
    Calls Try.prog 57 #[v] w fun e w' => RetOwn w 25 m ys e w' := by
  obtain ⟨i0, hi, hz0, hz1, hz2⟩ := info_parts infoSl
  obtain ⟨a, cap, rfl⟩ := hv.form
  have hnil := @Lib.run_eql_slice_nil Try.prog
  rcases a with _ | ad
  · have h0 : m = 0 := by
      obtain ⟨_, a', cap', he, _, hr⟩ := hv
      cases he
      rcases hr with h | ⟨g, off, h, _⟩
      · exact h
      · cases h
    subst h0
    have hl0 : ys = [] := List.eq_nil_of_length_eq_zero (by simpa using hv.1)
    subst hl0
    clear hv h1
    go_enter Try.func57, Try.ntmps57
    go_wp2_with fail
    go_ret
    exact ⟨_, rfl, World.ownsRow_nil _ _ _ _, Below.refl _ _⟩
  · have hv2 := hv.alloc (.cells #[] 25)
    have H1 := Lib.hid h1
    clear h1
    go_enter Try.func57, Try.ntmps57
    go_wp2_with (first | (at_builtin; refine wpList_append_sl _ rfl (.tmp 5) (.tmp 6) 22 rfl w.heap.size 25 i0 _ _ Try.underlying22 hi hz0 hz1 hz2 rfl _ 0 [] rfl (own_empty w 25 1) _ m ys rfl hv2 H1.out ?h1 ?h2 ?h3 ?_))
    case h1 => unfold maxLen; omega
    case h2 => omega
    case h3 => simp
    intro v' w' hown hgr
    have hb : Below w.heap.size w w' := ((Below.refl _ _).alloc (Nat.le_refl _) _).grown hgr (by simp) (fun k hk => by simp [Value.ownBlock] at hk; omega)
    clear hgr hv2 hv
    go_wp2_with fail
    go_ret
    exact ⟨_, rfl, hown, hb⟩
end Go.Proofs.Ytbinibpkbkhdlaa
