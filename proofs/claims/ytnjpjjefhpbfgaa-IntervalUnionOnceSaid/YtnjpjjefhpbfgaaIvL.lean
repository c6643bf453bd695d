/- A loop over a function whose loop variable lies in a block of its own and whose body may return. Not of this program. -/
import Derived.RangeFuncFrom
import Derived.RangeFuncCalls
import Derived.RangeFuncKeeps
import Derived.WalkKit
namespace Go.Proofs.Ytnjpjjefhpbfgaa
open Go.RowKit

/-- the record of the loop -/
def lrec (fn : FuncId) (tmps : Array Value) (ps : Array Tmp) (assign body : Code) (D : Nat) (st : LoopState) (pe : Option Code) : Obj :=
  .loop { state := st, pending := pe, fn := fn, tmps := tmps, params := ps, assign := assign, body := body, defers := D }
/-- how a round may end -/
def roundEnd (Kp : World → World → Prop) (J Jx : World → Prop) (W : World) : Exit → Act → World → Prop
  | .normal, _, W' => KeepsOthers W W' ∧ Kp W W' ∧ J W'
  | .ret, _, W' => KeepsOthers W W' ∧ Jx W'
  | _, _, _ => False
theorem range_lawS {P : Program} {n N : Nat} {α : Type} {g : Operand} {q : Tmp} (s : Tmp) {assign body : Code} {Q : Exit → Act → World → Prop} {a : Act} {w : World}
    {gf : Nat} {lb : Array Value} (hg : a.eval g = .func (.func gf) #[] lb) (eg : ∀ args w, (callFunc gf args).run P w = .ok (.enter gf args) w)
    (enc : α → Value) (cs : α → Array Value) (t : TypeId) (Kp : World → World → Prop) (hKt : ∀ {A B C : World}, Kp A B → Kp B C → Kp A C)
    (hKo : ∀ (W : World) (l : Nat) (o o' : Obj), w.heap.size ≤ l → W.heap[l]? = some o → o.isCells = false → Kp W (W.putObj l o'))
    (hKa : ∀ (W : World) (o : Obj), w.heap.size ≤ W.heap.size → Kp W (W.alloc o))
    (S Sp : List α → Prop)
    (hseq : ∀ (l : Nat) (J Jx : List α → World → Prop) (W : World), Below w.heap.size w W → AbidesFrom W.heap.size J → AbidesFrom W.heap.size Jx →
      (∀ pre x W1, J pre W1 → pre.length < N → YieldAt Fence.wide (n - 1 - 1) P l #[enc x] W1 fun e W' => (e = .returned (.bool true) ∧ J (pre ++ [x]) W' ∧ Kp W1 W') ∨ (e = .returned (.bool false) ∧ Jx (pre ++ [x]) W')) → J [] W →
      CallsIn Fence.wide (n - 1) P gf (#[.func (.yield l) #[] #[]] ++ lb) W fun e W' => (∃ v, e = .returned v) ∧ ((∃ xs, S xs ∧ J xs W') ∨ (∃ pre, Sp pre ∧ Jx pre W')))
    (I Ix : List α → World → Prop) (hI : OwnFrom w.heap.size I) (hIx : OwnFrom w.heap.size Ix) (h0 : I [] w)
    (hassign : ∀ (l : Nat) (x : α) (W : World) (K : Act → World → Prop), K { tmps := (a.tmps.setIfInBounds q (enc x)).setIfInBounds s (.pointer (some ⟨W.heap.size, 0, none⟩)), defers := [] } (W.alloc (.cells (cs x) t)) →
      assign.wpIn (Fence.wide.inRound l) (n - 1 - 1) P (Exit.then K (fun _ _ _ => False)) { tmps := a.tmps.setIfInBounds q (enc x), defers := [] } W)
    (hbody : ∀ (l : Nat) (pre : List α) (x : α) (b : Nat) (W : World), I pre W → W.heap[b]? = some (.cells (cs x) t (0, 0)) → w.heap.size ≤ b → pre.length < N →
      body.wpIn (Fence.wide.inRound l) (n - 1 - 1) P (roundEnd Kp (I (pre ++ [x])) (Ix (pre ++ [x])) W) { tmps := (a.tmps.setIfInBounds q (enc x)).setIfInBounds s (.pointer (some ⟨b, 0, none⟩)), defers := [] } W)
    (hdone : ∀ (D : Nat) (xs : List α) (W : World), w.heap.size ≤ D → S xs → I xs W → W.heap[D]? = some (.deferred (some [])) → Q .normal { a with defers := { target := .collected D, args := #[] } :: a.defers } W)
    (hstop : ∀ (D : Nat) (pre : List α) (W : World), w.heap.size ≤ D → Sp pre → Ix pre W → W.heap[D]? = some (.deferred (some [])) → Code.ret.wpIn Fence.wide n P Q { a with defers := { target := .collected D, args := #[] } :: a.defers } W) :
    (Code.rangeFunc g #[q] assign body).wpIn Fence.wide n P Q a w := by
  refine wpIn_rangeFunc fun fn hfn => ?_
  have hl1 : ((w.alloc (.deferred (some []))).alloc (lrec fn a.tmps #[q] assign body w.heap.size .ready none)).heap[w.heap.size + 1]? = some (lrec fn a.tmps #[q] assign body w.heap.size .ready none) := by
    have := World.alloc_heap_new (w.alloc (.deferred (some []))) (lrec fn a.tmps #[q] assign body w.heap.size .ready none)
    rwa [World.size_alloc] at this
  have hd1 : ((w.alloc (.deferred (some []))).alloc (lrec fn a.tmps #[q] assign body w.heap.size .ready none)).heap[w.heap.size]? = some (.deferred (some [])) :=
    (Below.heap_alloc _ _ _ (by simp)).trans (World.alloc_heap_new w _)
  have hb1 : Below w.heap.size w ((w.alloc (.deferred (some []))).alloc (lrec fn a.tmps #[q] assign body w.heap.size .ready none)) := ((Below.refl _ w).alloc (Nat.le_refl _) _).alloc (by simp) _
  have hi1 := hI.alloc (lrec fn a.tmps #[q] assign body w.heap.size .ready none) (hI.alloc (.deferred (some [])) h0)
  have he := run_enterLoop_outer (P := P) (w := w) fn a.tmps #[q] assign body
  change _ = Result.ok _ ((w.alloc (.deferred (some []))).alloc (lrec fn a.tmps #[q] assign body w.heap.size .ready none)) at he
  obtain ⟨W1, hW1⟩ : ∃ W1, (w.alloc (.deferred (some []))).alloc (lrec fn a.tmps #[q] assign body w.heap.size .ready none) = W1 := ⟨_, rfl⟩
  rw [hW1] at hl1 hd1 hb1 hi1 he
  have hW1s : w.heap.size + 1 < W1.heap.size := (Array.getElem?_eq_some_iff.1 hl1).1
  have keepO : ∀ {A B : World} {row : Option Nat} {k : Nat} {o : Obj}, A.grownBy B row → (∀ r, row = some r → W1.heap.size ≤ r ∧ ∃ o : Obj, A.heap[r]? = some o ∧ o.isWalk = true) → A.heap[k]? = some o → o.isWalk = false → B.heap[k]? = some o := fun {A B row k o} hgr hr hk ho => by
    refine (hgr.block k (Array.getElem?_eq_some_iff.1 hk).1 (fun e => ?_)).trans hk
    obtain ⟨_, o', h1, h2⟩ := hr k e.symm
    rw [hk] at h1; cases h1; rw [ho] at h2; cases h2
  refine ⟨w.heap.size + 1, [{ target := .collected w.heap.size, args := #[] }], W1, { target := .fn (.func gf) lb, args := #[.func (.yield (w.heap.size + 1)) #[] #[]] }, W1, gf,
    #[.func (.yield (w.heap.size + 1)) #[] #[]] ++ lb, W1, he, ?_, fun _ _ => trivial, ?_, fun h => by simp [Fence.wide] at h, ?_⟩
  · simp only [resolve, hg]
    simp [go_sem]
  · simp [invoke, go_sem, eg]
  · have toCells : ∀ {A : World} {row : Option Nat}, (∀ r, row = some r → W1.heap.size ≤ r ∧ ∃ o : Obj, A.heap[r]? = some o ∧ o.isWalk = true) → ∀ r, row = some r → w.heap.size ≤ r ∧ ∃ o : Obj, A.heap[r]? = some o ∧ o.isCells = false := fun hr r e => by
      obtain ⟨h1, o, h2, h3⟩ := hr r e
      exact ⟨by omega, o, h2, Obj.not_cells_of_walk h3⟩
    refine (hseq (w.heap.size + 1)
      (fun pre W => I pre W ∧ W.heap[w.heap.size + 1]? = some (lrec fn a.tmps #[q] assign body w.heap.size .ready none) ∧ W.heap[w.heap.size]? = some (.deferred (some [])))
      (fun pre W => Ix pre W ∧ W.heap[w.heap.size + 1]? = some (lrec fn a.tmps #[q] assign body w.heap.size .done (some .ret)) ∧ W.heap[w.heap.size]? = some (.deferred (some [])))
      W1 hb1
      (fun s A B row hs hgr hr => ⟨hI s A B row hs.1 hgr (toCells hr), keepO hgr hr hs.2.1 rfl, keepO hgr hr hs.2.2 rfl⟩)
      (fun s A B row hs hgr hr => ⟨hIx s A B row hs.1 hgr (toCells hr), keepO hgr hr hs.2.1 rfl, keepO hgr hr hs.2.2 rfl⟩) ?_ ⟨hi1, hl1, hd1⟩).mono ?_
    · rintro pre x W ⟨hi, hl, hd⟩ hlen
      have hlt : w.heap.size + 1 < W.heap.size := (Array.getElem?_eq_some_iff.1 hl).1
      obtain ⟨WA, hWA⟩ : ∃ WA, W.alloc (.cells (cs x) t) = WA := ⟨_, rfl⟩
      have hiA : I pre WA := by rw [← hWA]; exact hI.alloc _ hi
      have hlA : WA.heap[w.heap.size + 1]? = some (lrec fn a.tmps #[q] assign body w.heap.size .ready none) := by rw [← hWA]; exact (Below.heap_alloc _ _ _ hlt).trans hl
      have hdA : WA.heap[w.heap.size]? = some (.deferred (some [])) := by rw [← hWA]; exact (Below.heap_alloc _ _ _ (by omega)).trans hd
      have hxA : WA.heap[W.heap.size]? = some (.cells (cs x) t (0, 0)) := by rw [← hWA]; exact World.alloc_heap_new W _
      have hkA : Kp W WA := by rw [← hWA]; exact hKa W _ (by omega)
      have hltA : w.heap.size + 1 < WA.heap.size := (Array.getElem?_eq_some_iff.1 hlA).1
      refine ⟨fn, _, assign, body, run_yield (P := P) (args := #[enc x]) hl rfl, roundIn_of_wpIn hfn ?_⟩
      rw [show (#[q].zip #[enc x]).foldl (fun t (p, v) => t.setIfInBounds p v) a.tmps = a.tmps.setIfInBounds q (enc x) by simp]
      refine hassign _ x W _ ?_
      rw [hWA]
      refine ⟨_, run_beginRound hlA rfl, ?_⟩
      have hl2 : (WA.putObj (w.heap.size + 1) (lrec fn a.tmps #[q] assign body w.heap.size .busy none)).heap[w.heap.size + 1]? = some (lrec fn a.tmps #[q] assign body w.heap.size .busy none) := World.putObj_heap_same hltA
      have hd2 : (WA.putObj (w.heap.size + 1) (lrec fn a.tmps #[q] assign body w.heap.size .busy none)).heap[w.heap.size]? = some (.deferred (some [])) := (World.putObj_heap_other (by omega)).trans hdA
      have hx2 : (WA.putObj (w.heap.size + 1) (lrec fn a.tmps #[q] assign body w.heap.size .busy none)).heap[W.heap.size]? = some (.cells (cs x) t (0, 0)) := (World.putObj_heap_other (by omega)).trans hxA
      have hk2 : Kp WA (WA.putObj (w.heap.size + 1) (lrec fn a.tmps #[q] assign body w.heap.size .busy none)) := hKo _ _ _ _ (by omega) hlA rfl
      refine wpIn_mono (hbody _ pre x W.heap.size _ (hI.putObj _ hiA (by omega) hlA rfl) hx2 (by omega) hlen) ?_
      intro e a3 W3 hp
      cases e with
      | normal =>
        obtain ⟨hk3, hkp3, hi3⟩ := hp
        have hl3 := hk3.same _ _ hl2 rfl
        exact ⟨_, _, run_endRound (P := P) none hl3, .inl ⟨rfl, ⟨hI.putObj _ hi3 (by omega) hl3 rfl, World.putObj_heap_same (Array.getElem?_eq_some_iff.1 hl3).1, (World.putObj_heap_other (by omega)).trans (hk3.same _ _ hd2 rfl)⟩, hKt hkA (hKt (hKt hk2 hkp3) (hKo _ _ _ _ (by omega) hl3 rfl))⟩⟩
      | ret =>
        obtain ⟨hk3, hi3⟩ := hp
        have hl3 := hk3.same _ _ hl2 rfl
        exact ⟨_, _, run_endRound (P := P) (some .ret) hl3, .inr ⟨rfl, hIx.putObj _ hi3 (by omega) hl3 rfl, World.putObj_heap_same (Array.getElem?_eq_some_iff.1 hl3).1, (World.putObj_heap_other (by omega)).trans (hk3.same _ _ hd2 rfl)⟩⟩
      | _ => exact hp.elim
    · rintro e W2 ⟨⟨v, rfl⟩, ⟨xs, hs, hi, hl, hd⟩ | ⟨pre, hs, hi, hl, hd⟩⟩
      · exact ⟨none, _, run_endLoop (P := P) hl (by simp), hdone _ xs _ (Nat.le_refl _) hs (hI.putObj _ hi (by omega) hl rfl) ((World.putObj_heap_other (by omega)).trans hd)⟩
      · exact ⟨some .ret, _, run_endLoop (P := P) hl (by simp), hstop _ pre _ (Nat.le_refl _) hs (hIx.putObj _ hi (by omega) hl rfl) ((World.putObj_heap_other (by omega)).trans hd)⟩
end Go.Proofs.Ytnjpjjefhpbfgaa
