/- Layer 1: the program's Tokens: its closure, and itself. -/
import Derived.Test.YtmlkfglnnepjjaaDoorScan
import Derived.Test.YtmlkfglnnepjjaaDoorMem
namespace Go.Proofs.YtmlkfglnnepjjaaDoor
open Go.RowKit

theorem own_form {w : World} {base : Nat} {e : TypeId} {size : Nat} {v : Value} {n : Nat} {xs : List Value} (h : w.ownsRow base e size v n xs) : ∃ a cap, v = .slice a n cap := by
  rcases h.2 with ⟨rfl, rfl⟩ | ⟨g, cap, cur, rfl, _⟩
  · exact ⟨none, 0, rfl⟩
  · exact ⟨some ⟨g, 0, none⟩, cap, rfl⟩

/-- the cells of a list of problems of code 10 -/
def pc (acc : List Nat) : List Value := acc.flatMap fun (a : Nat) => [.int .i64 (a : Int), .int .i64 10]
theorem pc_len (acc : List Nat) : (pc acc).length = acc.length * 2 := by
  induction acc with
  | nil => rfl
  | cons a r ih => simp only [pc, List.flatMap_cons, List.length_append, List.length_cons, List.length_nil] at *; omega

theorem infoProblem : (Tryd.prog.info? 39).map (fun i => (i.zero, i.size, i.bytes)) = some (some (.agg #[.int .i64 0, .int .i64 0]), 2, 16) := by kernel_rfl
theorem infoToken : (Tryd.prog.info? 35).map (fun i => (i.zero, i.size, i.bytes)) = some (some (.agg #[.int .i64 0, .string ⟨#[]⟩, .int .i64 0]), 3, 32) := by kernel_rfl

/-- what a call of the closure leaves -/
def Col (B : Nat) (vb : Value) (acc' : List Nat) (to : Nat) (w w' : World) : Prop :=
  ∃ vb', w'.heap[B]? = some (.cells #[vb'] 25 (0, 0)) ∧ w'.heap[B + 1]? = some (.cells #[.int .i64 to] 3 (0, 0)) ∧ w'.ownsRow (B + 2) 39 2 vb' acc'.length (pc acc') ∧
    Upd (fun k => k = B ∨ k = B + 1 ∨ vb.ownBlock = some k) w w' ∧ (∀ g, vb'.ownBlock = some g → vb.ownBlock = some g ∨ w.heap.size ≤ g)


theorem pc_snoc (acc : List Nat) (a : Nat) : pc (acc ++ [a]) = pc acc ++ [.int .i64 a, .int .i64 10] := by simp [pc]

section
variable {B fr to : Nat} {last : Int} {vb : Value} {acc : List Nat} {w : World}

/-- behind the append -/
theorem col_mid (hb : w.heap[B]? = some (.cells #[vb] 25 (0, 0))) (he : w.heap[B + 1]? = some (.cells #[.int .i64 last] 3 (0, 0)))
    (ho : w.ownsRow (B + 2) 39 2 vb acc.length (pc acc)) {o : Obj} {w1 : World} (hgr : (w.alloc o).grownBy w1 vb.ownBlock) :
    w1.heap[B]? = some (.cells #[vb] 25 (0, 0)) ∧ w1.heap[B + 1]? = some (.cells #[.int .i64 last] 3 (0, 0)) := by
  have h0 := lt_of_block hb
  have h1 := lt_of_block he
  have hl := ho.lt
  refine ⟨?_, ?_⟩
  · rw [hgr.block B (by simp; omega) (fun e => by have := (hl B e.symm).1; omega), Below.heap_alloc _ _ _ h0]; exact hb
  · rw [hgr.block (B + 1) (by simp; omega) (fun e => by have := (hl (B + 1) e.symm).1; omega), Below.heap_alloc _ _ _ h1]; exact he

theorem col_add (hb : w.heap[B]? = some (.cells #[vb] 25 (0, 0))) (he : w.heap[B + 1]? = some (.cells #[.int .i64 last] 3 (0, 0)))
    (ho : w.ownsRow (B + 2) 39 2 vb acc.length (pc acc)) {o : Obj} {w1 : World} {g cap' : Nat} (hgr : (w.alloc o).grownBy w1 vb.ownBlock)
    (hown : w1.ownsRow (B + 2) 39 2 (.slice (some ⟨g, 0, none⟩) (acc.length + 1) cap') (acc.length + 1) (pc acc ++ [.int .i64 fr, .int .i64 10]))
    (hg : vb.ownBlock = some g ∨ g = w.heap.size + 1) :
    Col B vb (acc ++ [fr]) to w ((w1.setCell ⟨B, 0, none⟩ (.slice (some ⟨g, 0, none⟩) (acc.length + 1) cap')).setCell ⟨B + 1, 0, none⟩ (.int .i64 to)) := by
  obtain ⟨hb1, he1⟩ := col_mid hb he ho hgr
  have h0 := lt_of_block hb
  have h1 := lt_of_block he
  have hgl := hown.lt g rfl
  refine ⟨.slice (some ⟨g, 0, none⟩) (acc.length + 1) cap', ?_, one_setCell (v := .int .i64 last) ?_, ?_, ?_, ?_⟩
  · rw [Below.heap_setCell _ _ _ _ (by simp)]
    exact one_setCell hb1
  · exact (Below.heap_setCell _ _ _ _ (by simp)).trans he1
  · rw [List.length_append, pc_snoc]
    exact ownsRow_setCell_other (ownsRow_setCell_other hown (by simp [Value.ownBlock]; omega) _) (by simp [Value.ownBlock]; omega) _
  · refine Upd.setCell (Upd.setCell (Upd.grown ((Upd.refl _ w).alloc o) hgr ?_) (.inl (.inl rfl)) _) (.inl (.inr (.inl rfl))) _
    intro k hk
    exact .inl (.inr (.inr hk))
  · intro g' hg'
    simp [Value.ownBlock] at hg'
    subst hg'
    rcases hg with hg | hg
    · exact .inl hg
    · exact .inr (by omega)

theorem col_keep (hb : w.heap[B]? = some (.cells #[vb] 25 (0, 0))) (he : w.heap[B + 1]? = some (.cells #[.int .i64 last] 3 (0, 0)))
    (ho : w.ownsRow (B + 2) 39 2 vb acc.length (pc acc)) :
    Col B vb acc to w (w.setCell ⟨B + 1, 0, none⟩ (.int .i64 to)) := by
  refine ⟨vb, ?_, one_setCell he, ownsRow_setCell_other ho (fun e => ?_) _, Upd.setCell (Upd.refl _ w) (.inl (.inr (.inl rfl))) _, fun g hg => .inl hg⟩
  · rw [Below.heap_setCell _ _ _ _ (by simp)]; exact hb
  · have := (ho.lt _ e).1; simp at this

set_option maxRecDepth 100000 in
theorem collect_add (hb : w.heap[B]? = some (.cells #[vb] 25 (0, 0))) (he : w.heap[B + 1]? = some (.cells #[.int .i64 last] 3 (0, 0)))
    (ho : w.ownsRow (B + 2) 39 2 vb acc.length (pc acc)) (hn : acc.length < 64) (hne : ((fr : Int) != last) = true) :
    Calls Tryd.prog 24 #[.int .i64 fr, .int .i64 to, .pointer (some ⟨B + 1, 0, none⟩), .pointer (some ⟨B, 0, none⟩)] w fun e w' => e = .returned (.tuple #[]) ∧ Col B vb (acc ++ [fr]) to w w' := by
  obtain ⟨i0, hi, hz0, hz1, hz2⟩ := info_parts infoProblem
  obtain ⟨a, cap, hv⟩ := own_form ho
  subst hv
  have c0 := cell_of_one hb
  have c1 := cell_of_one he
  have f0 := free_of_one hb
  have f1 := free_of_one he
  go_enter Tryd.func24, Tryd.ntmps24
  go_wp2_with (first | (at_builtin; refine wpList_append_mine _ rfl _ _ 25 rfl (B + 2) 39 i0 (.agg #[.int .i64 0, .int .i64 0]) 2 16 Tryd.underlying25 hi hz0 hz1 hz2 rfl _ _ _ rfl (ho.alloc _) ⟨w.heap.size, 0, none⟩ 1 1 [.int .i64 fr, .int .i64 10] rfl rfl ?c1 ?c2 ?c3 ?c4 ?c5 ?c6 ?_))
  case c1 => exact news_at w [.int .i64 fr, .int .i64 10] _
  case c2 => intro u hu; simp at hu; rcases hu with rfl | rfl <;> rfl
  case c3 => omega
  case c4 => unfold maxLen; omega
  case c5 => omega
  case c6 => have := lt_of_block he; simp; omega
  · intro g cap' w1 hown hgr hg
    have fin := Lib.hid (col_add (to := to) hb he ho hgr hown hg)
    obtain ⟨hb1, he1⟩ := col_mid hb he ho hgr
    have d0 := cell_of_one hb1
    have d1 := cell_of_one he1
    have e0 := free_of_one hb1
    have e1 := free_of_one he1
    clear c0 c1 f0 f1 hb he ho hown hgr hg hb1 he1
    go_wp2
    go_end0
    exact ⟨rfl, fin.out⟩

set_option maxRecDepth 100000 in
theorem collect_keep (hb : w.heap[B]? = some (.cells #[vb] 25 (0, 0))) (he : w.heap[B + 1]? = some (.cells #[.int .i64 last] 3 (0, 0)))
    (ho : w.ownsRow (B + 2) 39 2 vb acc.length (pc acc)) (hne : ((fr : Int) != last) = false ∨ 64 ≤ acc.length) :
    Calls Tryd.prog 24 #[.int .i64 fr, .int .i64 to, .pointer (some ⟨B + 1, 0, none⟩), .pointer (some ⟨B, 0, none⟩)] w fun e w' => e = .returned (.tuple #[]) ∧ Col B vb acc to w w' := by
  obtain ⟨a, cap, hv⟩ := own_form ho
  subst hv
  have fin := Lib.hid (col_keep (to := to) hb he ho)
  have c0 := cell_of_one hb
  have c1 := cell_of_one he
  have f0 := free_of_one hb
  have f1 := free_of_one he
  clear hb he ho
  cases hx : ((fr : Int) != last)
  · clear hne
    go_enter Tryd.func24, Tryd.ntmps24
    go_wp2
    go_end0
    exact ⟨rfl, fin.out⟩
  · have hge : 64 ≤ acc.length := by rcases hne with h | h; rw [hx] at h; cases h; exact h
    have hd : decide ((acc.length : Int) < 64) = false := by simp; omega
    clear hne
    go_enter Tryd.func24, Tryd.ntmps24
    go_wp2
    go_end0
    exact ⟨rfl, fin.out⟩

theorem collect_any {bacc : List Nat} (hb : w.heap[B]? = some (.cells #[vb] 25 (0, 0))) (he : w.heap[B + 1]? = some (.cells #[.int .i64 last] 3 (0, 0)))
    (ho : w.ownsRow (B + 2) 39 2 vb (bacc.take 64).length (pc (bacc.take 64))) :
    Calls Tryd.prog 24 #[.int .i64 fr, .int .i64 to, .pointer (some ⟨B + 1, 0, none⟩), .pointer (some ⟨B, 0, none⟩)] w fun e w' => e = .returned (.tuple #[]) ∧ Col B vb ((if (fr : Int) = last then bacc else bacc ++ [fr]).take 64) to w w' := by
  by_cases hx : (fr : Int) = last
  · rw [if_pos hx]
    exact collect_keep hb he ho (.inl (by simp [hx]))
  · rw [if_neg hx]
    by_cases hn : bacc.length < 64
    · have e1 : (bacc ++ [fr]).take 64 = bacc.take 64 ++ [fr] := by
        rw [List.take_of_length_le (by simp; omega), List.take_of_length_le (by omega)]
      rw [e1]
      exact collect_add hb he ho (by simp; omega) (by simpa using hx)
    · have e1 : (bacc ++ [fr]).take 64 = bacc.take 64 := List.take_append_of_le_length (by omega)
      rw [e1]
      exact collect_keep hb he ho (.inr (by simp; omega))
end
end Go.Proofs.YtmlkfglnnepjjaaDoor
