/- Intervals: the iterator over a union. -/
import Derived.Test.YtnjpjjefhpbfgaaIvD
import Derived.Test.YtnjpjjefhpbfgaaIvA
import Derived.RangeFuncKeeps
import Derived.RangeFuncCalls
import Derived.RangeFuncNested
import Derived.OwnWalkIn
import Derived.WalkMore
import Derived.Deep.DeepCutAuto
import Derived.Deep.RegionHeld3
namespace Go.Proofs.Ytnjpjjefhpbfgaa
open Go.RowKit

/-- the block that a variable's slice lies in -/
def ptB (W : World) (b : Nat) : Option Nat := match W.cell? ⟨b, 0, none⟩ with | some v => v.ownBlock | none => none
/-- what a round of the loop leaves -/
def KpI (b : Nat) (A B : World) : Prop := Upd (fun k => k = b ∨ ptB A b = some k ∨ ∃ o, A.heap[k]? = some o ∧ o.isCells = false) A B ∧ (ptB B b = ptB A b ∨ ∀ k, ptB B b = some k → A.heap.size ≤ k)
theorem KpI.trans {b : Nat} {A B C : World} (h : KpI b A B) (k : KpI b B C) : KpI b A C := by
  refine ⟨⟨k.1.os.trans h.1.os, k.1.tape.trans h.1.tape, k.1.output.trans h.1.output, Nat.le_trans h.1.size k.1.size, fun i hi hs => ?_⟩, ?_⟩
  · have e := h.1.block i hi hs
    refine (k.1.block i (Nat.lt_of_lt_of_le hi h.1.size) (fun hk => ?_)).trans e
    rcases hk with hk | hk | ⟨o, ho, hc⟩
    · exact hs (.inl hk)
    · rcases h.2 with h2 | h2
      · exact hs (.inr (.inl (h2 ▸ hk)))
      · have := h2 i hk; omega
    · exact hs (.inr (.inr ⟨o, e ▸ ho, hc⟩))
  · rcases k.2 with k2 | k2
    · rw [k2]; exact h.2
    · exact .inr fun i hi => Nat.le_trans h.1.size (k2 i hi)
theorem KpI.put {b : Nat} (W : World) (l : Nat) (o o' : Obj) (hb : b ≠ l) (h : W.heap[l]? = some o) (hc : o.isCells = false) : KpI b W (W.putObj l o') := by
  have hu : Upd (fun k => k = l) W (W.putObj l o') := (Upd.refl _ W).grown (grownBy_putObj' W l o') (fun k e => by cases e; exact .inl rfl)
  refine ⟨hu.mono (fun k _ e => .inr (.inr (by subst e; exact ⟨o, h, hc⟩))), ?_⟩
  · left
    unfold ptB
    by_cases hlt : b < W.heap.size
    · rw [hu.cell (p := ⟨b, 0, none⟩) hlt hb]
    · have h1 : W.cell? ⟨b, 0, none⟩ = none := by
        cases hq : W.cell? ⟨b, 0, none⟩
        · rfl
        · have := World.block_lt_of_cell? W _ hq; exact absurd this hlt
      have h2 : (W.putObj l o').cell? ⟨b, 0, none⟩ = none := by
        cases hq : (W.putObj l o').cell? ⟨b, 0, none⟩
        · rfl
        · have := World.block_lt_of_cell? _ _ hq
          simp at this
          exact absurd this hlt
      rw [h1, h2]
theorem KpI.alloc {b : Nat} (W : World) (o : Obj) (hb : b < W.heap.size) : KpI b W (W.alloc o) := by
  have hbl : RowKit.Below W.heap.size W (W.alloc o) := (Below.refl _ _).alloc (Nat.le_refl _) o
  refine ⟨(Upd.refl _ W).alloc o, .inl ?_⟩
  unfold ptB
  rw [hbl.cell (p := ⟨b, 0, none⟩) hb]
theorem ptB_below {A B : World} {b : Nat} (hb : Below A.heap.size A B) (h : b < A.heap.size) : ptB B b = ptB A b := by
  unfold ptB
  rw [hb.cell (p := ⟨b, 0, none⟩) h]
theorem below_grown {A B : World} (h : Below A.heap.size A B) : A.grownBy B none := ⟨h.os, h.tape, h.output, h.size, fun k hk _ => h.block k hk⟩
theorem abides {β : Type} {n : Nat} {J : β → World → Prop} (hJ : AbidesFrom n J) {s : β} {A B : World} (h : J s A) (hb : Below A.heap.size A B) : J s B := hJ s A B none h (below_grown hb) (fun r e => by cases e)
theorem Ow.upd {w w' : World} {B : Nat} {v : Value} {l : List Iv} {S : Nat → Prop} (h : Ow w B v l) (hU : Upd S w w') (hS : ∀ k, v.ownBlock = some k → ¬ S k) : Ow w' B v l := hU.own h hS
theorem Ow.next {w w' : World} {B : Nat} {v : Value} {l : List Iv} (h : Ow w B v l) (hb : Below w.heap.size w w') : Ow w' B v l := (Upd.of_below hb).own h (fun k hk hs => by have := (h.lt k hk).2; omega)
/-- the sort, of no element too -/
theorem sort_all (l : List Iv) (n : Nat) (hn : l.length = n) (hm : n ≤ 1000000000) (p : Option Addr) (cap B : Nat) (w : World) (ho : Ow w B (.slice p n cap) l) :
    Calls Try.prog 44 #[.slice p n cap, .func (.func 45) #[] #[]] w fun e w' =>
      e = .returned (.tuple #[]) ∧ ∃ s : List Iv, s.Perm l ∧ Srt s ∧ Ow w' B (.slice p n cap) s ∧ Upd (fun k => (Value.slice p n cap).ownBlock = some k) w w' := by
  rcases Nat.eq_zero_or_pos n with h0 | hp
  · subst h0
    have hl : l = [] := List.eq_nil_of_length_eq_zero hn
    subst hl
    refine Calls.mono (AnyF.slices_SortFunc_none { sortIv with } p cap _ w) ?_
    rintro e w' ⟨rfl, rfl⟩
    exact ⟨rfl, [], List.Perm.refl _, List.Pairwise.nil, ho, Upd.refl _ _⟩
  · have ho' := ho
    obtain ⟨_, ⟨h0, h1⟩ | ⟨g, cap', cur, he, _⟩⟩ := ho
    · cases h0; omega
    · cases he
      refine (sort_any l _ hn hm g cap B w ho').mono ?_
      rintro e w' ⟨rfl, s, h1, h2, h3, h4⟩
      exact ⟨rfl, s, h1, h2, h3, h4.mono (fun k _ hk => by rw [hk]; rfl)⟩
/-- what holds between two rounds of the iterator -/
structure ItS (b1 B : Nat) (u : Value) (s : List Iv) (J : List Iv → World → Prop) (done : List Iv) (W : World) : Prop where
  j : J done W
  ow : Ow W B u s
  lt : b1 < W.heap.size
  far : ∀ g, u.ownBlock = some g → g ≠ b1 ∧ ptB W b1 ≠ some g
  size : B ≤ W.heap.size
theorem ItS.next {b1 B n : Nat} {u : Value} {s : List Iv} {J : List Iv → World → Prop} {done : List Iv} {W W' : World} (h : ItS b1 B u s J done W) (hJ : AbidesFrom n J) (hb : Below W.heap.size W W') : ItS b1 B u s J done W' :=
  ⟨abides hJ h.j hb, h.ow.next hb, Nat.lt_of_lt_of_le h.lt hb.size, fun g hg => ⟨(h.far g hg).1, by rw [ptB_below hb h.lt]; exact (h.far g hg).2⟩, Nat.le_trans h.size hb.size⟩
theorem ItS.round {b1 B : Nat} {u : Value} {s : List Iv} {J : List Iv → World → Prop} {done : List Iv} {W W' : World} (h : ItS b1 B u s J done W) (x : Iv) (hj : J (done ++ [x]) W') (hK : KpI b1 W W') : ItS b1 B u s J (done ++ [x]) W' :=
  ⟨hj, h.ow.upd hK.1 (fun k hk hs => by
    have := h.far k hk
    rcases hs with hs | hs | ⟨o, ho, hc⟩
    · exact this.1 hs
    · exact this.2 hs
    · obtain ⟨_, ⟨h0, _⟩ | ⟨g, cap, cur, h0, _, hg, _⟩⟩ := h.ow
      · rw [h0] at hk; cases hk
      · rw [h0] at hk; cases hk
        rw [hg] at ho; cases ho; cases hc), Nat.lt_of_lt_of_le h.lt hK.1.size, fun g hg => by
    have h1 := h.far g hg
    refine ⟨h1.1, ?_⟩
    rcases hK.2 with h2 | h2
    · rw [h2]; exact h1.2
    · intro e
      have := h2 g e
      have := (h.ow.lt g hg).2
      omega, Nat.le_trans h.size hK.1.size⟩
theorem mrg_drop {s : List Iv} {k : Nat} {x : Iv} (h : s[k]? = some x) : mrg (s.drop k) = mrg1 x (s.drop (k + 1)) := by
  obtain ⟨hk, rfl⟩ := List.getElem?_eq_some_iff.1 h
  rw [List.drop_eq_getElem_cons hk, mrg]
theorem mrg1_on {s : List Iv} {k : Nat} {y : Iv} (h : s[k]? = some y) (x : Iv) (hle : y.1 ≤ x.2 + 1) : mrg1 x (s.drop k) = mrg1 (x.1, max x.2 y.2) (s.drop (k + 1)) := by
  obtain ⟨hk, rfl⟩ := List.getElem?_eq_some_iff.1 h
  rw [List.drop_eq_getElem_cons hk, mrg1, if_pos hle]
theorem mrg1_off {s : List Iv} {k : Nat} {y : Iv} (h : s[k]? = some y) (x : Iv) (hle : ¬ y.1 ≤ x.2 + 1) : mrg1 x (s.drop k) = x :: mrg (s.drop k) := by
  obtain ⟨hk, rfl⟩ := List.getElem?_eq_some_iff.1 h
  rw [List.drop_eq_getElem_cons hk, mrg1, if_neg hle, mrg]
theorem mrg1_fin {s : List Iv} {k : Nat} (h : s.length ≤ k) (x : Iv) : mrg1 x (s.drop k) = x :: mrg (s.drop k) := by
  rw [List.drop_eq_nil_of_le h]; rfl
theorem uni_len (l : List Iv) : (uni l).length ≤ l.length := by
  have h1 : ∀ (r : List Iv) (x : Iv), (mrg1 x r).length ≤ r.length + 1 := by
    intro r
    induction r with
    | nil => intro x; simp [mrg1]
    | cons y r ih =>
      intro x
      rw [mrg1]
      split
      · have := ih (x.1, max x.2 y.2); simp; omega
      · have := ih y; simp; omega
  have h2 : ∀ s : List Iv, (mrg s).length ≤ s.length := by
    intro s
    cases s with
    | nil => exact Nat.le_refl _
    | cons x r => have := h1 r x; simpa [mrg] using this
  have h3 := h2 (l.mergeSort fun a b => decide (a.1 ≤ b.1))
  rw [List.length_mergeSort] at h3
  exact h3
set_option maxRecDepth 100000 in
set_option maxHeartbeats 4000000 in
theorem union_it (l : List Iv) (n : Nat) (hn : l.length = n) (hm : n ≤ 1000000) (hck : ∀ i ∈ l, ck i = 0) (w0 : World) (v : Value) (hr : Rd w0 v l) (b0 b1 : Nat) (hb0 : Blk w0 b0 30 #[v]) (hb1 : b1 < w0.heap.size) (hp : ptB w0 b1 = none)
    (nn yl : Nat) (J Jx : List Iv → World → Prop) (W : World) (hbW : Below w0.heap.size w0 W) (hJ : AbidesFrom W.heap.size J)
    (hY : ∀ pre x W1, J pre W1 → pre.length < 1000000 → YieldAt Fence.wide nn Try.prog yl #[ivA x] W1 fun e W' => (e = .returned (.bool true) ∧ J (pre ++ [x]) W' ∧ KpI b1 W1 W') ∨ (e = .returned (.bool false) ∧ Jx (pre ++ [x]) W'))
    (hJx : AbidesFrom W.heap.size Jx) (h0 : J [] W) :
    Calls Try.prog 42 #[.func (.yield yl) #[] #[], .pointer (some ⟨b0, 0, none⟩)] W fun e W' => (∃ v, e = .returned v) ∧ (J (uni l) W' ∨ ∃ pre x, (∃ r, uni l = pre ++ x :: r) ∧ Jx (pre ++ [x]) W') := by
  have HCl := Lib.hid (clone_any l n hn (by omega) v W (hr.next hbW))
  have HJ := Lib.hid hJ
  have HY := Lib.hid hY
  have HJx := Lib.hid hJx
  have hptW : ptB W b1 = none := (ptB_below hbW hb1).trans hp
  have hb1W : b1 < W.heap.size := Nat.lt_of_lt_of_le hb1 hbW.size
  obtain ⟨c0, _⟩ := cells1 (hb0.below hbW hb0.lt)
  have Hck := Lib.hid hck
  have Hm := Lib.hid hm
  clear hJ hY hJx hr hb0 hb1 hp hbW hck hm
  go_enter Try.func42, Try.ntmps42
  go_wp2_with fail
  refine HCl.out.mono ?_
  rintro e w1 ⟨u, rfl, hou, hbu⟩
  have hul : l.length = n := hn
  obtain ⟨p, cap, rfl⟩ := (Ow.rd hou).len
  rw [hul] at hou ⊢
  have HSo := Lib.hid (sort_all l n hul (by have := Hm.out; omega) p cap _ w1 hou)
  have Hbu := Lib.hid hbu
  have Hou := Lib.hid hou
  clear hou hbu
  go_wp2_with fail
  refine HSo.out.mono ?_
  rintro e w2 ⟨rfl, s, hperm, hsrt, hos, hus⟩
  have hsn : s.length = n := hperm.length_eq.trans hul
  have hbs : Below W.heap.size W w2 := Hbu.out.trans (hus.below Hbu.out.size (fun k hk hs => by have := (Hou.out.lt k hs).1; omega))
  have hI : ItS b1 W.heap.size (.slice p n cap) s J [] w2 := ⟨abides HJ.out h0 hbs, hos, Nat.lt_of_lt_of_le hb1W hbs.size, fun g hg => ⟨by have := (hos.lt g hg).1; omega, by rw [ptB_below hbs hb1W, hptW]; simp⟩, hbs.size⟩
  have Huni := Lib.hid (show uni l = mrg s from (uni_sorted hperm hsrt (fun i hi => (ck_ok (Hck.out i hi)).2.2.2.2)).symm)
  have HI := Lib.hid hI
  have Hsn := Lib.hid hsn
  have Hrg := Lib.hid (show ∀ i ∈ s, -1099511627776 ≤ i.1 ∧ i.1 ≤ 1099511627776 ∧ -1099511627776 ≤ i.2 ∧ i.2 ≤ 1099511627776 from fun i hi => by have := ck_ok (Hck.out i (hperm.mem_iff.1 hi)); omega)
  clear hperm hsrt hos hus hbs hI hsn c0 h0 hb1W hptW
  go_wp2_with fail
  go_loopw [4] (fun i wr => ∃ (k : Nat) (done : List Iv), Hid (k ≤ n ∧ done.length ≤ k) ∧ Hid (mrg s = done ++ mrg (s.drop k)) ∧ i = .int .i64 (k : Int) ∧ Hid (ItS b1 W.heap.size (.slice p n cap) s J done wr)) (fun i _ => n - (intOf i).toNat)
  case atStart => exact ⟨0, [], Lib.hid ⟨Nat.zero_le _, Nat.le_refl _⟩, Lib.hid rfl, rfl, HI⟩
  case round =>
    clear HI
    obtain ⟨k, done, Hk, Hd, rfl, HI⟩ := hrel
    by_cases hk : k < n
    · obtain ⟨g, off, rfl, hsl, hcap, hat⟩ := HI.out.ow.rd.at_ (by omega)
      obtain ⟨x, hx⟩ : ∃ x, s[k]? = some x := ⟨_, List.getElem?_eq_getElem (by rw [Hsn.out]; exact hk)⟩
      obtain ⟨c0, c1⟩ := hat k x hx
      have Hat := Lib.hid hat
      have Hmd := Lib.hid (mrg_drop hx)
      have Hxr := Lib.hid (Hrg.out x (List.mem_of_getElem? hx))
      obtain ⟨lo, hi⟩ := x
      simp only [] at c0 c1 Hxr
      have hglt : g < wr.heap.size := World.block_lt_of_cell? wr _ c0
      have hgne : ¬ g = wr.heap.size := by omega
      obtain ⟨wo, rfl⟩ : ∃ wo, wo = wr := ⟨_, rfl⟩
      have hX := Blk.new wo 23 #[.int .i64 lo, .int .i64 hi]
      have hbX := below_alloc wo (.cells #[.int .i64 lo, .int .i64 hi] 23)
      have HX := Lib.hid hX
      have HbX := Lib.hid hbX
      have j0 : (0 : Int) ≤ (k : Int) := by omega
      have j1 : (k : Int) < (n : Int) := by omega
      have s1 : IntKind.i64.wrap ((k : Int) + 1) = ((k + 1 : Nat) : Int) := by rw [IntKind.wrap_i64]; have := Hm.out; omega
      have Hkn := Lib.hid hk
      clear hat hx hX hbX hk
      go_wp2_with fail
      clear c0 c1
      go_loopw [4] (fun i wi => ∃ (k' : Nat) (h' : Int), Hid (k < k' ∧ k' ≤ n) ∧ Hid (-1099511627776 ≤ h' ∧ h' ≤ 1099511627776) ∧ Hid (mrg (s.drop k) = mrg1 (lo, h') (s.drop k')) ∧ i = .int .i64 (k' : Int) ∧ Hid (Blk wi wo.heap.size 23 #[.int .i64 lo, .int .i64 h']) ∧ Hid (Below wo.heap.size wo wi)) (fun i _ => n - (intOf i).toNat)
      case atStart => exact ⟨k + 1, hi, Lib.hid ⟨by omega, by have := Hkn.out; omega⟩, Lib.hid ⟨Hxr.out.2.2.1, Hxr.out.2.2.2⟩, Hmd, rfl, HX, HbX⟩
      case round =>
        clear HX HbX Hmd
        obtain ⟨k', h', Hk', Hh', Hmg, rfl, HX, HbX⟩ := hrel
        obtain ⟨x0, x1, f0, f1⟩ := cells2 HX.out
        have s2 : IntKind.i64.wrap (h' + 1) = h' + 1 := by rw [IntKind.wrap_i64]; have := Hh'.out; omega
        by_cases hk' : k' < n
        · obtain ⟨y, hy'⟩ : ∃ y, s[k']? = some y := ⟨_, List.getElem?_eq_getElem (by rw [Hsn.out]; exact hk')⟩
          obtain ⟨cy0, cy1⟩ := Hat.out k' y hy'
          have e0 := (HbX.out.cell (p := ⟨g, off + k' * 2, none⟩) (World.block_lt_of_cell? wo _ cy0)).trans cy0
          have e1 := (HbX.out.cell (p := ⟨g, off + k' * 2 + 1, none⟩) (World.block_lt_of_cell? wo _ cy1)).trans cy1
          have Hyr := Lib.hid (Hrg.out y (List.mem_of_getElem? hy'))
          have Hyy := Lib.hid hy'
          obtain ⟨ylo, yhi⟩ := y
          simp only [] at e0 e1 Hyr
          have j2 : (0 : Int) ≤ (k' : Int) := by omega
          have j3 : (k' : Int) < (n : Int) := by omega
          have j4 : decide (k' < n) = true := decide_eq_true hk'
          have s3 : IntKind.i64.wrap ((k' : Int) + 1) = ((k' + 1 : Nat) : Int) := by rw [IntKind.wrap_i64]; have := Hm.out; omega
          have Hkn' := Lib.hid hk'
          clear cy0 cy1 hy'
          by_cases hle : ylo ≤ h' + 1
          · have Hon := Lib.hid (mrg1_on Hyy.out (lo, h') hle)
            obtain ⟨mx, hmx⟩ : ∃ m, max h' yhi = m := ⟨_, rfl⟩
            have Hmx := Lib.hid hmx
            have Hmb := Lib.hid (show -1099511627776 ≤ mx ∧ mx ≤ 1099511627776 by have := Hh'.out; have := Hyr.out; omega)
            go_wp2_with fail
            go_quiet (fail)
            have hXq := HX.out.drewN nq
            have HbXq := Lib.hid (blw_drewN HbX.out nq)
            have e1q : (wr.drewN nq).cell? ⟨g, off + k' * 2 + 1, none⟩ = some (.int .i64 yhi) := by simpa using e1
            obtain ⟨wq, hwq⟩ : ∃ wq, wr.drewN nq = wq := ⟨_, rfl⟩
            rw [hwq] at hXq HbXq e1q ⊢
            have HXq := Lib.hid hXq
            clear hwq x0 x1 f0 f1 e0 e1
            obtain ⟨x0, x1, f0, f1⟩ := cells2 hXq
            clear hXq
            by_cases hq : h' < yhi
            · have hm2 : mx = yhi := by omega
              subst hm2
              go_wp2_with fail
              go_region
              all_goals
                go_wp2_with fail
                exact ⟨⟨k' + 1, mx, Lib.hid (by have := Hk'.out; omega), Hmb, Lib.hid (by rw [Hmg.out, Hon.out, Hmx.out]), by go_num, Lib.hid ((HXq.out.set_ 1 (.int .i64 mx)).drewN 1), Lib.hid ((HbXq.out.setCell (p := ⟨wo.heap.size, 1, none⟩) (Nat.le_refl _) _).drew)⟩, by have := Hkn'.out; simp [intOf]; omega⟩
            · have hm2 : mx = h' := by omega
              subst hm2
              go_wp2_with fail
              go_region
              all_goals
                go_wp2_with fail
                exact ⟨⟨k' + 1, mx, Lib.hid (by have := Hk'.out; omega), Hmb, Lib.hid (by rw [Hmg.out, Hon.out, Hmx.out]), by go_num, Lib.hid ((HXq.out.set_ 1 (.int .i64 mx)).drewN 1), Lib.hid ((HbXq.out.setCell (p := ⟨wo.heap.size, 1, none⟩) (Nat.le_refl _) _).drew)⟩, by have := Hkn'.out; simp [intOf]; omega⟩
          · have Hmy := Lib.hid (show mrg1 (lo, h') (s.drop k') = (lo, h') :: mrg (s.drop k') from mrg1_off Hyy.out (lo, h') hle)
            go_wp2_with fail
            go_quiet (fail)
            have HIq := Lib.hid (HI.out.next HJ.out (blw_drewN HbX.out nq))
            have HXq := HX.out.drewN nq
            obtain ⟨wq, hwq⟩ : ∃ wq, wr.drewN nq = wq := ⟨_, rfl⟩
            rw [hwq] at HIq HXq ⊢
            clear hwq x0 x1 f0 f1
            obtain ⟨x0, x1, f0, f1⟩ := cells2 HXq
            go_upto_region 9 with fail
            obtain ⟨fn, tmps, assign, body, hy, hR⟩ := HY.out done (lo, h') wq HIq.out.j (by have := Hk.out; have := Hm.out; have := Hkn.out; omega)
            refine (wpIn_wide (n := nn + 1)).1 ?_
            have HR := Lib.hid hR
            clear hR
            unfold ivA at hy
            gi_wp2
            refine HR.out.mono ?_
            rintro e W6 (⟨rfl, hj6, hk6⟩ | ⟨rfl, hx6⟩)
            · have HS6 := Lib.hid (HIq.out.round (lo, h') hj6 hk6)
              clear hj6 hk6 hy x0 x1 f0 f1 HXq
              gi_wp2
              go_wp2_with fail
              exact ⟨⟨k', done ++ [(lo, h')], Lib.hid ⟨Hk'.out.2, by have := Hk.out; have := Hk'.out; simp; omega⟩, Lib.hid (by rw [Hd.out, Hmg.out, Hmy.out, List.append_assoc]; rfl), rfl, HS6⟩, by have := Hk'.out; have := Hkn.out; simp [intOf]; omega⟩
            · have Hx6 := Lib.hid hx6
              clear hx6 hy x0 x1 f0 f1 HXq
              gi_wp2
              go_wp2_with fail
              try rw [Exit.noGoto_ret]
              first | go_end0 | (refine bodyPost_ret (results_none rfl _ _ _) rfl ?_)
              exact ⟨⟨_, rfl⟩, .inr ⟨done, (lo, h'), ⟨mrg (s.drop k'), by rw [Huni.out, Hd.out, Hmg.out, Hmy.out]⟩, Hx6.out⟩⟩
        · have hkn' : s.length ≤ k' := by rw [Hsn.out]; omega
          have Hkn' := Lib.hid hkn'
          obtain rfl : k' = n := by have := Hk'.out; omega
          clear hkn' hk'
          have Hmy := Lib.hid (show mrg1 (lo, h') (s.drop k') = (lo, h') :: mrg (s.drop k') from mrg1_fin Hkn'.out (lo, h'))
          go_wp2_with fail
          go_quiet (fail)
          have HIq := Lib.hid (HI.out.next HJ.out (blw_drewN HbX.out nq))
          have HXq := HX.out.drewN nq
          obtain ⟨wq, hwq⟩ : ∃ wq, wr.drewN nq = wq := ⟨_, rfl⟩
          rw [hwq] at HIq HXq ⊢
          clear hwq x0 x1 f0 f1
          obtain ⟨x0, x1, f0, f1⟩ := cells2 HXq
          go_upto_region 9 with fail
          obtain ⟨fn, tmps, assign, body, hy, hR⟩ := HY.out done (lo, h') wq HIq.out.j (by have := Hk.out; have := Hm.out; have := Hkn.out; omega)
          refine (wpIn_wide (n := nn + 1)).1 ?_
          have HR := Lib.hid hR
          clear hR
          unfold ivA at hy
          gi_wp2
          refine HR.out.mono ?_
          rintro e W6 (⟨rfl, hj6, hk6⟩ | ⟨rfl, hx6⟩)
          · have HS6 := Lib.hid (HIq.out.round (lo, h') hj6 hk6)
            clear hj6 hk6 hy x0 x1 f0 f1 HXq
            gi_wp2
            go_wp2_with fail
            exact ⟨⟨k', done ++ [(lo, h')], Lib.hid ⟨Hk'.out.2, by have := Hk.out; have := Hk'.out; simp; omega⟩, Lib.hid (by rw [Hd.out, Hmg.out, Hmy.out, List.append_assoc]; rfl), rfl, HS6⟩, by have := Hk'.out; have := Hkn.out; simp [intOf]; omega⟩
          · have Hx6 := Lib.hid hx6
            clear hx6 hy x0 x1 f0 f1 HXq
            gi_wp2
            go_wp2_with fail
            try rw [Exit.noGoto_ret]
            first | go_end0 | (refine bodyPost_ret (results_none rfl _ _ _) rfl ?_)
            exact ⟨⟨_, rfl⟩, .inr ⟨done, (lo, h'), ⟨mrg (s.drop k'), by rw [Huni.out, Hd.out, Hmg.out, Hmy.out]⟩, Hx6.out⟩⟩
    · have hkn : k = n := by have := Hk.out; omega
      have hfin : uni l = done := by rw [Huni.out, Hd.out, List.drop_eq_nil_of_le (by rw [Hsn.out]; omega)]; simp [mrg]
      have Hfin := Lib.hid hfin
      have j1 : ¬ (k : Int) < (n : Int) := by omega
      clear hkn hfin
      go_wp2_with fail
      try rw [Exit.noGoto_ret]
      first | go_end0 | (refine bodyPost_ret (results_none rfl _ _ _) rfl ?_)
      exact ⟨⟨_, rfl⟩, .inl (by rw [Hfin.out]; exact HI.out.j)⟩
end Go.Proofs.Ytnjpjjefhpbfgaa
