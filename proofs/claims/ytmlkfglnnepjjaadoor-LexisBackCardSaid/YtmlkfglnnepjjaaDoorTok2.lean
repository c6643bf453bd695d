/- Layer 1: the program's Tokens. -/
import Derived.Test.YtmlkfglnnepjjaaDoorTok
import Derived.Deep.RegionLaw
import Derived.Deep.RegionHeld3
import Derived.Deep.AppendLies
namespace Go.Proofs.YtmlkfglnnepjjaaDoor
open Go.RowKit

/-- the cells of tokens -/
def tc1 (l : List UInt8) (t : Int × Nat × Nat) : List Value := [.int .i64 t.1, .string (mkS (sub l t.2.1 t.2.2)), .int .i64 (t.2.1 : Int)]
def tc (l : List UInt8) (acc : List (Int × Nat × Nat)) : List Value := acc.flatMap (tc1 l)
theorem tc_len (l : List UInt8) (acc : List (Int × Nat × Nat)) : (tc l acc).length = acc.length * 3 := by
  induction acc with
  | nil => rfl
  | cons a r ih => simp only [tc, List.flatMap_cons, List.length_append, List.length_cons, tc1, List.length_nil] at *; omega
theorem tc_snoc (l : List UInt8) (acc : List (Int × Nat × Nat)) (t : Int × Nat × Nat) : tc l (acc ++ [t]) = tc l acc ++ tc1 l t := by simp [tc]

set_option maxRecDepth 100000 in
theorem tokens_long (l : List UInt8) (v : Value) (w : World) (hv : Sl w 1 v l.length (bc l)) (hl : 65536 < l.length) :
    Calls Tryd.prog 12 #[v] w fun e w' => e = .returned (.tuple #[.slice none 0 0, .slice none 0 0, .int .i64 2]) ∧ Below w.heap.size w w' := by
  obtain ⟨_, a, cap, rfl, _⟩ := hv
  go_enter Tryd.func12, Tryd.ntmps12
  go_wp2
  refine bodyPost_ret (v := .tuple #[.slice none 0 0, .slice none 0 0, .int .i64 2]) ?_ rfl ⟨rfl, ?_⟩
  · simp [results, Tryd.results12, go_sem]
  · exact ((Below.refl _ _).alloc (Nat.le_refl _) _)

theorem TabW_below {w w' : World} {B : Nat} (h : Below B w w') (hB : 0 < B) (hT : TabW w) : TabW w' := fun i hi => (h.cell (p := ⟨0, i, none⟩) hB).trans (hT i hi)
theorem TabW_lt {w : World} (hT : TabW w) : 0 < w.heap.size := World.block_lt_of_cell? w _ (hT 0 (by omega))

/-- what holds at the head of the loop -/
def TokRel (l : List UInt8) (B : Nat) (w wr : World) (v : Value) (at' : Value) : Prop :=
  ∃ (j f : Nat) (acc : List (Int × Nat × Nat)) (bacc : List Nat) (last : Int) (vb : Value),
    at' = .int .i64 j ∧ j ≤ l.length ∧ l.length - j ≤ f ∧ acc ++ tkL l f j = toks l ∧ bacc ++ bdL l f j last = bads l ∧ acc.length ≤ j ∧
    wr.ownsRow (B + 2) 35 3 v acc.length (tc l acc) ∧ wr.heap[B]? = some (.cells #[vb] 25 (0, 0)) ∧ wr.heap[B + 1]? = some (.cells #[.int .i64 last] 3 (0, 0)) ∧
    wr.ownsRow (B + 2) 39 2 vb (bacc.take 64).length (pc (bacc.take 64)) ∧ (∀ g, v.ownBlock = some g → vb.ownBlock ≠ some g) ∧ Below B w wr


theorem skip_mk (l : List UInt8) (k : Nat) (w : World) (hs : l.length ≤ 1000000000) (hk : k ≤ l.length) (hT : TabW w) :
    Calls Tryd.prog 25 #[.string (mkS l), .int .i64 k] w fun e w' => e = .returned (.int .i64 (sk false l k)) ∧ w = w' :=
  skip_any (mkS l) k w (by rw [size_mkS]; exact hs) (by rw [size_mkS]; exact hk) hT
theorem scan_mk (l : List UInt8) (k : Nat) (w : World) (hs : l.length ≤ 1000000000) (hk : k ≤ l.length) (hT : TabW w) :
    Calls Tryd.prog 26 #[.string (mkS l), .int .i64 k] w fun e w' => e = .returned (.tuple #[.int .i64 (sc l k).1, .int .i64 (sc l k).2]) ∧ w = w' :=
  scan_any (mkS l) k w (by rw [size_mkS]; exact hs) (by rw [size_mkS]; exact hk) hT


theorem rel_bad {l : List UInt8} {B : Nat} {w wr w2 : World} {v vb : Value} {j f en : Nat} {acc : List (Int × Nat × Nat)} {bacc : List Nat} {last : Int}
    (hlt : j < l.length) (hf : l.length - j ≤ f) (hacc : acc ++ tkL l f j = toks l) (hbacc : bacc ++ bdL l f j last = bads l) (haj : acc.length ≤ j)
    (hov : wr.ownsRow (B + 2) 35 3 v acc.length (tc l acc)) (hob : wr.ownsRow (B + 2) 39 2 vb (bacc.take 64).length (pc (bacc.take 64)))
    (hne : ∀ g, v.ownBlock = some g → vb.ownBlock ≠ some g) (hbel : Below B w wr) (hBs : B ≤ wr.heap.size)
    (hsc : sc l j = (0, en)) (hcol : Col B vb ((if (j : Int) = last then bacc else bacc ++ [j]).take 64) en wr w2) : TokRel l B w w2 v (.int .i64 (sk false l en : Nat)) := by
  obtain ⟨vb', h1, h2, h3, h4, h5⟩ := hcol
  have hbd := sc_bd hlt
  rw [hsc] at hbd
  simp only [] at hbd
  obtain ⟨f', rfl⟩ : ∃ f', f = f' + 1 := ⟨f - 1, by omega⟩
  have hsk := sk_le (b := false) hbd.2
  have hsg := sk_ge false l en
  refine ⟨sk false l en, f', acc, if (j : Int) = last then bacc else bacc ++ [j], (en : Int), vb', rfl, hsk, by omega, ?_, ?_, by omega, ?_, h1, h2, h3, ?_, ?_⟩
  · rw [← hacc]; simp [tkL, hlt, hsc]
  · rw [← hbacc]; simp only [bdL, hlt, hsc, if_true]; split <;> simp
  · refine h4.own hov (fun k hk hS => ?_)
    have := (hov.lt k hk).1
    rcases hS with rfl | rfl | hS
    · omega
    · omega
    · exact hne k hk hS
  · intro g hg hg'
    rcases h5 g hg' with h6 | h6
    · exact hne g hg h6
    · have := (hov.lt g hg).2; omega
  · refine hbel.trans (h4.below hBs (fun k hk hS => ?_))
    rcases hS with rfl | rfl | hS
    · omega
    · omega
    · have := (hob.lt k hS).1; omega

theorem rel_tok {l : List UInt8} {B : Nat} {w wr w1 : World} {v vb : Value} {j f en g cap : Nat} {kd : Int} {o : Obj} {acc : List (Int × Nat × Nat)} {bacc : List Nat} {last : Int}
    (hlt : j < l.length) (hf : l.length - j ≤ f) (hacc : acc ++ tkL l f j = toks l) (hbacc : bacc ++ bdL l f j last = bads l) (haj : acc.length ≤ j)
    (hov : wr.ownsRow (B + 2) 35 3 v acc.length (tc l acc)) (hob : wr.ownsRow (B + 2) 39 2 vb (bacc.take 64).length (pc (bacc.take 64)))
    (hB0 : wr.heap[B]? = some (.cells #[vb] 25 (0, 0))) (hB1 : wr.heap[B + 1]? = some (.cells #[.int .i64 last] 3 (0, 0)))
    (hne : ∀ g, v.ownBlock = some g → vb.ownBlock ≠ some g) (hbel : Below B w wr) (hBs : B ≤ wr.heap.size)
    (hsc : sc l j = (kd, en)) (hkd : kd ≠ 0)
    (hown : w1.ownsRow (B + 2) 35 3 (.slice (some ⟨g, 0, none⟩) (acc.length + 1) cap) (acc.length + 1) (tc l acc ++ [.int .i64 kd, .string ((mkS l).extract j en), .int .i64 (j : Int)]))
    (hgr : (wr.alloc o).grownBy w1 v.ownBlock) (hat : v.ownBlock = some g ∨ g = wr.heap.size + 1) :
    TokRel l B w w1 (.slice (some ⟨g, 0, none⟩) (acc.length + 1) cap) (.int .i64 (sk false l en : Nat)) := by
  have hbd := sc_bd hlt
  rw [hsc] at hbd
  simp only [] at hbd
  obtain ⟨f', rfl⟩ : ∃ f', f = f' + 1 := ⟨f - 1, by omega⟩
  have hsk := sk_le (b := false) hbd.2
  have hsg := sk_ge false l en
  have hu : Upd (fun k => v.ownBlock = some k) wr w1 := Upd.grown ((Upd.refl _ wr).alloc o) hgr (fun k hk => .inl hk)
  refine ⟨sk false l en, f', acc ++ [(kd, j, en)], bacc, last, vb, rfl, hsk, by omega, ?_, ?_, by simp; omega, ?_, ?_, ?_, ?_, ?_, ?_⟩
  · rw [← hacc]; simp [tkL, hlt, hsc, hkd]
  · rw [← hbacc]; simp [bdL, hlt, hsc, hkd]
  · rw [tc_snoc, List.length_append]
    rw [mkS_extract] at hown
    exact hown
  · exact hu.heap hB0 (fun e => by have := (hov.lt _ e).1; omega)
  · exact hu.heap hB1 (fun e => by have := (hov.lt _ e).1; omega)
  · exact hu.own hob (fun k hk e => hne k e hk)
  · intro g' hg' hg2
    simp only [Value.ownBlock, Option.some.injEq] at hg'
    subst hg'
    rcases hat with h | h
    · exact hne _ h hg2
    · have := (hob.lt _ hg2).2; omega
  · exact hbel.trans (hu.below hBs (fun k hk e => by have := (hov.lt _ e).1; omega))

theorem TokRel.below {l : List UInt8} {B : Nat} {w wr : World} {v a : Value} (h : TokRel l B w wr v a) : Below B w wr := by
  obtain ⟨_, _, _, _, _, _, _, _, _, _, _, _, _, _, _, _, _, h⟩ := h
  exact h

/-- the cells of the tokens of a text, with the end -/
def tcE (l : List UInt8) : List Value := tc l (toks l) ++ [.int .i64 4, .string ⟨#[]⟩, .int .i64 (l.length : Int)]
/-- what Tokens gives -/
def TokOut (l : List UInt8) (w : World) (e : Ending) (w' : World) : Prop :=
  ∃ vl vb, e = .returned (.tuple #[vl, vb, .int .i64 0]) ∧ Sl w' 3 vl ((toks l).length + 1) (tcE l) ∧ Sl w' 2 vb ((bads l).take 64).length (pc ((bads l).take 64)) ∧ Below w.heap.size w w'

theorem tok_end {l : List UInt8} {w wr w1 : World} {v : Value} {bl : List Nat} {f j g cap : Nat} {acc : List (Int × Nat × Nat)} {bacc : List Nat} {last : Int} {o : Obj} {ab : Option Addr} {capb : Nat}
    (hj : ¬ j < l.length) (hacc : acc ++ tkL l f j = toks l) (hbacc : bacc ++ bdL l f j last = bads l)
    (hov : wr.ownsRow (w.heap.size + 2) 35 3 v acc.length (tc l acc)) (hbl : bl = bacc.take 64) (hob : wr.ownsRow (w.heap.size + 2) 39 2 (.slice ab bl.length capb) bl.length (pc bl))
    (hne : ∀ g, v.ownBlock = some g → Value.ownBlock (.slice ab bl.length capb) ≠ some g) (hbel : Below w.heap.size w wr)
    (hown : w1.ownsRow (w.heap.size + 2) 35 3 (.slice (some ⟨g, 0, none⟩) (acc.length + 1) cap) (acc.length + 1) (tc l acc ++ [.int .i64 4, .string ⟨#[]⟩, .int .i64 (l.length : Int)]))
    (hgr : ((wr.alloc o).drew).grownBy w1 v.ownBlock) :
    TokOut l w (.returned (.tuple #[.slice (some ⟨g, 0, none⟩) (acc.length + 1) cap, .slice ab bl.length capb, .int .i64 0])) (w1.setCell ⟨w.heap.size, 0, none⟩ (.slice ab bl.length capb)) := by
  have hu : Upd (fun k => v.ownBlock = some k) wr w1 := Upd.grown (((Upd.refl _ wr).alloc o).drew) hgr (fun k hk => .inl hk)
  rw [tkL_end (by omega), List.append_nil] at hacc
  rw [bdL_end (by omega), List.append_nil] at hbacc
  subst hacc hbacc
  have hg := hown.lt g rfl
  refine ⟨_, _, rfl, ?_, ?_, ?_⟩
  · exact Sl.of_own (ownsRow_setCell_other hown (by simp [Value.ownBlock]; omega) _)
  · rw [← hbl]
    exact Sl.of_own (ownsRow_setCell_other (hu.own hob (fun k hk e => hne k e hk)) (fun e => by have h : w.heap.size + 2 ≤ w.heap.size := (hob.lt _ e).1; omega) _)
  · exact (hbel.trans (hu.below hbel.size (fun k hk e => by have := (hov.lt _ e).1; omega))).setCell (Nat.le_refl _) _

set_option maxRecDepth 100000 in
theorem tokens_short (l : List UInt8) (v : Value) (w : World) (hv : Sl w 1 v l.length (bc l)) (hl : l.length ≤ 65536) (hT : TabW w) :
    Calls Tryd.prog 12 #[v] w (TokOut l w) := by
  have hsz : (mkS l).size = l.length := size_mkS l
  obtain ⟨a, cap, hv'⟩ : ∃ a cap, v = .slice a l.length cap := by obtain ⟨_, a, cap, rfl, _⟩ := hv; exact ⟨a, cap, rfl⟩
  subst hv'
  have hconv := conv_bytes (hv.alloc (.cells #[.slice none 0 0] 25))
  have hmf : ∀ (fn : Fn) (first cap : Array Value) (w : World), (Instr.makeFunc fn first cap).run Tryd.prog w = .ok (.func fn first cap) w := fun _ _ _ _ => rfl
  have hT1 : TabW ((w.alloc (.cells #[.slice none 0 0] 25)).alloc (.cells #[.int .i64 (-1)] 3)) :=
    TabW_below (((Below.refl _ _).alloc (Nat.le_refl _) _).alloc (by simp) _) (TabW_lt hT) hT
  have S0 := Lib.hid (skip_mk l 0 ((w.alloc (.cells #[.slice none 0 0] 25)).alloc (.cells #[.int .i64 (-1)] 3)) (by omega) (Nat.zero_le _) hT1)
  go_enter Tryd.func12, Tryd.ntmps12
  go_wp2_with fail
  refine (S0.out).mono ?_
  rintro e w' ⟨rfl, rfl⟩
  clear S0 hconv
  go_wp2_with fail
  go_loopw [2, 8] (fun v at' wr => TokRel l w.heap.size w wr v at') (fun _ at' _ => l.length - (intOf at').toNat)
  case atStart =>
    refine ⟨sk false l 0, l.length, [], [], -1, .slice none 0 0, rfl, sk_le (Nat.zero_le _), by omega, rfl, rfl, Nat.zero_le _, World.ownsRow_nil _ _ _ _, ?_, ?_, World.ownsRow_nil _ _ _ _, by simp [Value.ownBlock], ((Below.refl _ _).alloc (Nat.le_refl _) _).alloc (by simp) _⟩
    · rw [Below.heap_alloc _ _ _ (by simp)]; exact heap_alloc_new w _
    · have h := heap_alloc_new (w.alloc (.cells #[.slice none 0 0] 25)) (.cells #[.int .i64 (-1)] 3 (0, 0))
      simpa using h
  case round =>
    obtain ⟨j, f, acc, bacc, last, vb, rfl, hj, hf, hacc, hbacc, haj, hov, hB0, hB1, hob, hne, hbel⟩ := hrel
    have HA := Lib.hid hacc
    have HB := Lib.hid hbacc
    clear hacc hbacc
    have hTr := TabW_below hbel (TabW_lt hT) hT
    by_cases hlt : j < l.length
    · obtain ⟨kd, en, hsc⟩ : ∃ kd en, sc l j = (kd, en) := ⟨_, _, rfl⟩
      have hbd := sc_bd hlt
      have hS := scan_mk l j wr (by omega) hj hTr
      rw [hsc] at hS hbd
      simp only [] at hbd hS
      have HS := Lib.hid hS
      have HSC := Lib.hid hsc
      clear hS hsc
      have hsg := sk_ge false l en
      have hsl := sk_le (b := false) hbd.2
      by_cases hkd : kd = 0
      · subst hkd
        have R := fun w2 h => rel_bad (w2 := w2) hlt hf HA.out HB.out haj hov hob hne hbel hbel.size HSC.out h
        have HR := Lib.hid R
        have HC := Lib.hid (collect_any (fr := j) (to := en) hB0 hB1 hob)
        clear R hov hob hne hB0 hB1
        go_wp2_with fail
        refine (HS.out).mono ?_
        rintro e w' ⟨rfl, rfl⟩
        go_wp2_with fail
        refine (HC.out).mono ?_
        rintro e w2 ⟨rfl, hcol⟩
        have R2 := HR.out w2 hcol
        have hT2 := TabW_below R2.below (TabW_lt hT) hT
        have HR2 := Lib.hid R2
        clear R2 hcol
        go_wp2_with fail
        refine (skip_mk l en _ (by omega) hbd.2 hT2).mono ?_
        rintro e w' ⟨rfl, rfl⟩
        go_wp2_with fail
        go_roundw
        case rel => exact HR2.out
        case measure => simp [intOf]; omega
      · obtain ⟨i0, hi0, hz0, hz1, hz2⟩ := info_parts infoToken
        have R := fun g cap w1 o => rel_tok (g := g) (cap := cap) (w1 := w1) (o := o) hlt hf HA.out HB.out haj hov hob hB0 hB1 hne hbel hbel.size HSC.out hkd
        have HR := Lib.hid R
        have hkb : (kd == 0) = false := by simpa using hkd
        have hBz : w.heap.size + 1 < wr.heap.size := lt_of_block hB1
        clear R hob hne hB0 hB1 hkd
        go_wp2_with fail
        refine (HS.out).mono ?_
        rintro e w' ⟨rfl, rfl⟩
        go_wp2_with (first | (at_builtin; refine wpList_append_lies _ rfl _ _ 24 rfl (w.heap.size + 2) 35 i0 _ 3 32 Tryd.underlying24 hi0 hz0 hz1 hz2 rfl (by omega) u2 acc.length (tc l acc) rfl (hov.alloc _) ⟨wr.heap.size, 0, none⟩ 1 1 [.int .i64 kd, .string ((mkS l).extract j en), .int .i64 (j : Int)] rfl rfl ?c1 ?c2 ?c3 ?c4 ?c5 ?c6 (wr.heap.size + 1) ?c7 ?_))
        case c1 => exact news_at wr [.int .i64 kd, .string ((mkS l).extract j en), .int .i64 (j : Int)] _
        case c2 => simp [Value.oneCell']
        case c3 => omega
        case c4 => unfold maxLen; omega
        case c5 => omega
        case c6 => simp; omega
        case c7 => simp
        intro g gcap w1 hown hgr hat hgl
        have R2 := HR.out g gcap w1 _ hown hgr hat
        have hT2 := TabW_below R2.below (TabW_lt hT) hT
        have HR2 := Lib.hid R2
        clear R2 hown hgr hat hov
        go_wp2_with fail
        refine (skip_mk l en _ (by omega) hbd.2 hT2).mono ?_
        rintro e w' ⟨rfl, rfl⟩
        go_wp2_with fail
        go_roundw
        case rel => exact HR2.out
        case measure => simp [intOf]; omega
    · obtain ⟨i0, hi0, hz0, hz1, hz2⟩ := info_parts infoToken
      obtain ⟨bl, hbl⟩ : ∃ bl, bl = bacc.take 64 := ⟨_, rfl⟩
      rw [← hbl] at hob
      have Hbl := Lib.hid hbl
      clear hbl
      obtain ⟨ab, capb, hvb⟩ := own_form hob
      subst hvb
      have hBlt := lt_of_block hB0
      have hBlt1 := lt_of_block hB1
      have hc0 := cell_of_one hB0
      have hf0 := free_of_one hB0
      have hvB : u2.ownBlock ≠ some w.heap.size := fun e => by have := (hov.lt _ e).1; omega
      go_wp2_with fail
      go_region_held3 (fun w' => w'.cell? ⟨w.heap.size, 0, none⟩ = some (.slice ab bl.length capb) ∧ w'.frozen? ⟨w.heap.size, 0, none⟩ = false)
        (first
          | exact ⟨hc0, hf0⟩
          | (refine ⟨?_, ?_⟩; (rw [World.cell?_drew, World.cell?_alloc_past _ _ _ hBlt]; exact hc0); (rw [World.frozen?_drew, World.frozen?_alloc_past _ _ _ hBlt]; exact hf0))
          | (go_split_ands
             refine ⟨?_, ?_⟩
             · (rw [hgrow.cell_far _ (by simp; omega) (Ne.symm hvB)]; assumption)
             · (rw [hgrow.frozen_far _ (by simp; omega) (Ne.symm hvB)]; assumption))
          | (go_split_ands; refine ⟨?_, ?_⟩; (refine World.cell?_setCell_same _ _ _ (u := .slice ab bl.length capb) ?_); assumption; (rw [World.frozen?_setCell]; assumption)))
        ((refine step_append_lies _ (by rfl) _ _ _ (by rfl) (w.heap.size + 2) 35 i0 _ 3 32 Tryd.underlying24 hi0 hz0 hz1 hz2 rfl (by omega) u2 acc.length (tc l acc) (by rfl) ((hov.alloc _).drew)
            ⟨wr.heap.size, 0, none⟩ 1 1 [.int .i64 4, .string ⟨#[]⟩, .int .i64 l.length] (by rfl) (by rfl) (World.news_of_block (cs := #[.int .i64 4, .string ⟨#[]⟩, .int .i64 l.length]) (t := 35) (fr := (0, 0)) (heap_alloc_new wr _)) (by simp [Value.oneCell'])
            (by omega) (by unfold maxLen; omega) (by omega) (by simp; omega) (wr.heap.size + 1) (by simp) ?_; intro gg gcap w1 hown1 hgrow hat hlt'))
      have fin := Lib.hid (tok_end (cap := gcap) hlt HA.out HB.out hov Hbl.out hob hne hbel hown1 hgrow)
      clear hown1 hgrow hov hob
      go_wp2
      refine bodyPost_ret (v := .tuple #[.slice (some ⟨gg, 0, none⟩) (acc.length + 1) gcap, .slice ab bl.length capb, .int .i64 0]) ?_ rfl fin.out
      simp [results, Tryd.results12, go_sem, *]
end Go.Proofs.YtmlkfglnnepjjaaDoor
