/- Intervals: Clone, the comparison, the sort. -/
import Derived.Test.YtnjpjjefhpbfgaaIvS
import Derived.Test.YtnjpjjefhpbfgaaIvW
namespace Go.Proofs.Ytnjpjjefhpbfgaa
open Go.RowKit

theorem infoIv : (Try.prog.info? 23).map (fun i => (i.zero, i.size, i.bytes)) = some (some (.agg #[.int .i64 0, .int .i64 0]), 2, 16) := by kernel_rfl
/-- a row of the call's own that reads as a list of intervals -/
def Ow (w : World) (B : Nat) (v : Value) (l : List Iv) : Prop := w.ownsRow B 23 2 v l.length (ivs l)
theorem Ow.rd {w : World} {B : Nat} {v : Value} {l : List Iv} (h : Ow w B v l) : Rd w v l := Sl.of_own h
theorem own_emptyI (w : World) (e : TypeId) (size : Nat) : (w.alloc (.cells #[] e)).ownsRow w.heap.size e size (.slice (some ⟨w.heap.size, 0, none⟩) 0 0) 0 [] :=
  ⟨by simp, .inr ⟨w.heap.size, 0, #[], rfl, Nat.le_refl _, heap_alloc_new w _, Nat.le_refl _, Nat.zero_le _, by simp, by simp⟩⟩
set_option maxRecDepth 100000 in
theorem clone_any (l : List Iv) (n : Nat) (hn : l.length = n) (hm : n ≤ 1000000000) (v : Value) (w : World) (hv : Rd w v l) :
    Calls Try.prog 43 #[v] w fun e w' => ∃ u, e = .returned u ∧ Ow w' w.heap.size u l ∧ Below w.heap.size w w' := by
  obtain ⟨i0, hi, hz0, hz1, hz2⟩ := info_parts infoIv
  have hnil := @Lib.run_eql_slice_nil Try.prog
  have hv' := hv
  obtain ⟨hl, a, cap, rfl, hc, hr⟩ := hv
  rcases a with _ | ad
  · have h0 : l.length = 0 := by
      rcases hr with h | ⟨g, off, h, _⟩
      · exact h
      · cases h
    have hl0 : l = [] := List.eq_nil_of_length_eq_zero h0
    subst hl0
    clear hr hl hv' hc
    go_enter Try.func43, Try.ntmps43
    go_wp2_with fail
    go_ret
    exact ⟨_, rfl, World.ownsRow_nil _ _ _ _, Below.refl _ _⟩
  · rcases Nat.eq_zero_or_pos n with h0 | hp
    · subst h0
      have hl0 : l = [] := List.eq_nil_of_length_eq_zero hn
      subst hl0
      clear hr hl hv'
      go_enter Try.func43, Try.ntmps43
      go_wp2_with fail
      go_ret
      exact ⟨_, rfl, own_emptyI w 23 2, below_alloc w _⟩
    · rcases hr with h0 | ⟨g, off, hg, hcs⟩
      · omega
      cases hg
      have hnews : ∀ j u, (ivs l)[j]? = some u → (w.alloc (.cells #[] 23)).cell? ((⟨g, off, none⟩ : Addr).add j) = some u := fun j u hj => by
        have hadd : (⟨g, off, none⟩ : Addr).add j = ⟨g, off + j, none⟩ := by unfold Addr.add; split <;> simp_all
        rw [hadd]
        have h := hcs j u hj
        exact ((below_alloc w (.cells #[] 23)).cell (p := ⟨g, off + j, none⟩) (World.block_lt_of_cell? w _ h)).trans h
      have H1 := Lib.hid (ivs_one l)
      have hl' : (ivs l).length = n * 2 := by rw [hl, hn]
      rw [hn] at hc hv' ⊢
      clear hcs
      go_enter Try.func43, Try.ntmps43
      go_wp2_with (at_builtin; refine wpList_append_mine _ rfl (.tmp 5) (.tmp 6) 30 rfl w.heap.size 23 i0 _ 2 16 Try.underlying30 hi hz0 hz1 hz2 rfl (.slice (some ⟨w.heap.size, 0, none⟩) 0 0) 0 [] rfl (own_emptyI w 23 2) ⟨g, off, none⟩ n cap (ivs l) rfl hl' hnews H1.out hp (by unfold maxLen; omega) (by omega) (by simp) ?_)
      intro g' cap' w' hown hgr _
      have hb : Below w.heap.size w w' := ((Below.refl _ _).alloc (Nat.le_refl _) _).grown hgr (by simp) (fun k hk => by simp [Value.ownBlock] at hk; omega)
      clear hgr hnews
      go_wp2_with fail
      go_ret
      exact ⟨_, rfl, by unfold Ow; rw [hn]; simpa using hown, hb⟩
theorem isAggI : ∀ w, (isAgg 23).run Try.prog w = .ok true w := fun _ => by kernel_rfl
theorem sizeOfI : ∀ w, (Go.sizeOf 23).run Try.prog w = .ok 2 w := fun _ => by kernel_rfl
def cfI (x y : Int × Int) : Int := Lib.compareInt x.1 y.1
theorem ltI (x y : Int × Int) : ltOf cfI x y = decide (x.1 < y.1) := by
  unfold ltOf cfI Lib.compareInt
  by_cases h1 : x.1 < y.1
  · simp [h1]
  · by_cases h2 : y.1 < x.1 <;> simp [h1, h2]
theorem swoI : Go.Sort.SWO (ltOf cfI) where
  irrefl x := by rw [ltI]; simp
  trans x y z h1 h2 := by rw [ltI] at *; simp at *; omega
  ntrans x y z h1 h2 := by rw [ltI] at *; simp at *; omega
set_option maxHeartbeats 1000000 in
theorem closure_any (x y : Int × Int) (W : World) : Calls Try.prog 45 #[.agg #[.int .i64 x.1, .int .i64 x.2], .agg #[.int .i64 y.1, .int .i64 y.2]] W fun e w' => e = .returned (.int .i64 (cfI x y)) ∧ ∃ q os', w' = Go.Sort.grow (W.drewN q) os' := by
  have hcon : ∀ W', Calls Try.prog 46 #[.int .i64 x.1, .int .i64 y.1] W' fun e w' => e = .returned (.int .i64 (cfI x y)) ∧ w' = W' := fun W' => Any.cmp_Compare_int lays122 x.1 y.1 W'
  generalize cfI x y = r at hcon ⊢
  go_enter Try.func45, Try.ntmps45
  go_wp2_with (go_at_call 46; refine (hcon _).mono ?_; rintro e w' ⟨rfl, rfl⟩)
  go_ret
  exact ⟨rfl, 0, _, by rw [Go.Sort.alloc_eq_grow, Go.Sort.alloc_eq_grow, Go.Sort.grow_grow]; rfl⟩
theorem cmpLaysI (blk off size : Nat) (w : World) : CmpLays Try.prog 45 #[] ivc 2 cfI blk off size w :=
  fun _ _ _ _ x y => closure_any x y _
theorem flat_ivs (l : List Iv) : (Go.Sort.flatK ivc 2 l.toArray).toList = ivs l := by
  apply List.ext_getElem?
  intro t
  have hs : (Go.Sort.flatK ivc 2 l.toArray).size = l.length * 2 := by simp
  by_cases ht : t < l.length * 2
  · have hk : t / 2 < l.length := by omega
    obtain ⟨h1, h2⟩ := ivs_at l (t / 2) l[t / 2] (List.getElem?_eq_getElem hk)
    have hg := Go.Sort.get_flatK ivc 2 l.toArray t (by simpa using ht)
    rw [getElem!_pos (Go.Sort.flatK ivc 2 l.toArray) t (by omega)] at hg
    have hd : l.toArray[t / 2]! = l[t / 2] := by simp [hk]
    rw [hd] at hg
    rw [Array.getElem?_toList, Array.getElem?_eq_getElem (by omega), hg]
    rcases (show t % 2 = 0 ∨ t % 2 = 1 by omega) with h | h
    · rw [h]
      have : t / 2 * 2 = t := by omega
      rw [this] at h1
      rw [h1]; rfl
    · rw [h]
      have : t / 2 * 2 + 1 = t := by omega
      rw [this] at h2
      rw [h2]; rfl
  · rw [List.getElem?_eq_none (by rw [Array.length_toList]; omega), List.getElem?_eq_none (by rw [ivs_len]; omega)]
theorem sortedI {d : Array (Int × Int)} (h : Go.Sort.SortedIn (ltOf cfI) 0 d.size d) : Srt d.toList := by
  unfold Srt
  rw [List.pairwise_iff_getElem]
  intro i j hi hj hij
  have := h i j (Nat.zero_le _) hij (by simpa using hj)
  rw [ltI, getElem!_pos d i (by simpa using hi), getElem!_pos d j (by simpa using hj)] at this
  simpa using this
theorem putCells_take (F : Array Value) (cur : Array Value) (h : F.size ≤ cur.size) : (Go.Sort.putCells id 0 F cur).toList.take F.size = F.toList := by
  apply List.ext_getElem?
  intro t
  by_cases ht : t < F.size
  · rw [List.getElem?_take_of_lt ht, Array.getElem?_toList, Array.getElem?_toList]
    unfold Go.Sort.putCells
    rw [Array.getElem?_mapIdx, Array.getElem?_eq_getElem (by omega), Option.map_some, if_pos ⟨Nat.zero_le _, by omega⟩, Nat.sub_zero, getElem!_pos F t ht, Array.getElem?_eq_getElem ht]
    rfl
  · rw [List.getElem?_eq_none (by rw [List.length_take]; omega), List.getElem?_eq_none (by rw [Array.length_toList]; omega)]
theorem modify_same {h : Array Obj} {g : Nat} {f : Obj → Obj} {o : Obj} (hg : h[g]? = some o) : (h.modify g f)[g]? = some (f o) := by
  rw [Array.getElem?_modify, if_pos rfl, hg]; rfl
theorem grow_below (w : World) (os : Array Obj) (k : Nat) (hk : k < w.heap.size) : (Go.Sort.grow w os).heap[k]? = w.heap[k]? := by
  unfold Go.Sort.grow
  simp only []
  rw [Array.getElem?_append_left hk]
set_option maxHeartbeats 1000000 in
theorem sort_any (l : List Iv) (n : Nat) (hn : l.length = n) (hm : n ≤ 1000000000) (g cap B : Nat) (w : World) (ho : Ow w B (.slice (some ⟨g, 0, none⟩) n cap) l) :
    Calls Try.prog 44 #[.slice (some ⟨g, 0, none⟩) n cap, .func (.func 45) #[] #[]] w fun e w' =>
      e = .returned (.tuple #[]) ∧ ∃ s : List Iv, s.Perm l ∧ Srt s ∧ Ow w' B (.slice (some ⟨g, 0, none⟩) n cap) s ∧ Upd (fun k => k = g) w w' := by
  subst hn
  obtain ⟨hlen, ⟨h0, _⟩ | ⟨g', cap', cur, he, hB, hg, hnc, hcm, hcs, htake⟩⟩ := ho
  · cases h0
  cases he
  have hblk : g < w.heap.size := (Array.getElem?_eq_some_iff.1 hg).1
  have hF := flat_ivs l
  have hH : Go.Sort.HoldsK ivc 2 w g 0 l.toArray := by
    intro j hj
    have hj' : j < l.length * 2 := by simpa using hj
    rw [Nat.zero_add]
    refine ⟨?_, by simp [World.frozen?, hg]⟩
    rw [cell_of_row w g j cur 23 (0, 0) hg]
    have h1 : cur[j]? = (ivs l)[j]? := by
      rw [← htake, List.getElem?_take_of_lt hj', Array.getElem?_toList]
    rw [h1, ← hF, Array.getElem?_toList, getElem!_pos _ j hj, Array.getElem?_eq_getElem hj]
    rfl
  have eg : ∀ args w, (callFunc 45 args).run Try.prog w = .ok (.enter 45 args) w := enters_of Try.func45 (by kernel_rfl) rfl
  have hcon := AnyQ.slices_SortFunc sortIv 2 isAggI sizeOfI ivc (fun _ => rfl) (fun x v hv => by simp [ivc] at hv; rcases hv with rfl | rfl <;> rfl) cfI swoI 45 #[] g 0 cap l.toArray w eg (cmpLaysI g 0 l.toArray.size w) hH hblk (by simp; omega)
  rw [List.size_toArray] at hcon
  refine Calls.mono hcon ?_
  rintro e w' ⟨rfl, d', m, os, hp, hs, rfl⟩
  have hsz : d'.size = l.length := by have := hp.1; simpa using this
  have hF2 := flat_ivs d'.toList
  rw [Array.toArray_toList] at hF2
  have hFs : (Go.Sort.flatK ivc 2 d').size = l.length * 2 := by simp [hsz]
  have hheap : (sortWorldK ivc 2 w g 0 m d' os).heap[g]? = some (.cells (Go.Sort.putCells id 0 (Go.Sort.flatK ivc 2 d') cur) 23 (0, 0)) := by
    unfold sortWorldK
    rw [grow_below _ _ _ (by show g < (Go.Sort.putRow id (Go.Sort.ahead w m) g 0 _).heap.size; rw [Go.Sort.size_putRow]; exact hblk)]
    exact modify_same hg
  have hdl : d'.toList.length = l.length := by simp [hsz]
  refine ⟨rfl, d'.toList, ?_, sortedI (by rw [hsz]; exact hs), ⟨by rw [ivs_len], .inr ⟨g, cap, _, by rw [hdl], hB, hheap, by rw [hdl]; exact hnc, hcm, by simpa [Go.Sort.putCells] using hcs, ?_⟩⟩, ?_⟩
  · have h3 := hp.2.2
    have e1 : l.toArray.extract 0 l.length = l.toArray := by rw [← List.size_toArray, Array.extract_size]
    have e2 : d'.extract 0 l.length = d' := by rw [← hsz, Array.extract_size]
    rw [e1, e2] at h3
    simpa using h3
  · have h4 := putCells_take (Go.Sort.flatK ivc 2 d') cur (by rw [hFs, hcs]; omega)
    rw [hFs] at h4
    rw [hdl, h4, hF2]
  · refine ⟨rfl, rfl, rfl, ?_, fun k hk hne => ?_⟩
    · unfold sortWorldK Go.Sort.grow
      simp only [Array.size_append]
      have : (Go.Sort.putRowK ivc 2 (Go.Sort.ahead w m) g 0 d').heap.size = w.heap.size := by unfold Go.Sort.putRowK; rw [Go.Sort.size_putRow]; rfl
      omega
    · unfold sortWorldK
      rw [grow_below _ _ _ (by unfold Go.Sort.putRowK; rw [Go.Sort.size_putRow]; exact hk)]
      show (w.heap.modify g _)[k]? = _
      rw [Array.getElem?_modify, if_neg (fun e => hne e.symm)]
end Go.Proofs.Ytnjpjjefhpbfgaa
