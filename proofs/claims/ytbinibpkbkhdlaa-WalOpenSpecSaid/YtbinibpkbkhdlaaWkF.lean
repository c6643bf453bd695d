/- Disk: the write of a sector. -/
import Derived.Test.YtbinibpkbkhdlaaWkE
import Derived.Laws.CopyOwn
import Derived.Laws.OwnMore
namespace Go.Proofs.Ytbinibpkbkhdlaa
open Go.RowKit

theorem own_frozen {w : World} {base n cap g : Nat} {e : TypeId} {xs : List Value} (h : w.ownsRow base e 1 (.slice (some ⟨g, 0, none⟩) n cap) n xs) (j : Nat) : w.frozen? ⟨g, j, none⟩ = false := by
  rcases h.2 with ⟨h', _⟩ | ⟨g', cap', cur, h', _, hg, _⟩
  · cases h'
  · cases h'
    simp [World.frozen?, hg]
theorem own_block {w : World} {base n cap g : Nat} {e : TypeId} {xs : List Value} (h : w.ownsRow base e 1 (.slice (some ⟨g, 0, none⟩) n cap) n xs) :
    ∃ cur : List Value, w.heap[g]? = some (.cells cur.toArray e (0, 0)) ∧ cur.take n = xs ∧ base ≤ g := by
  rcases h.2 with ⟨h', _⟩ | ⟨g', cap', cur, h', hb, hg, _, _, _, ht⟩
  · cases h'
  · cases h'
    exact ⟨cur.toList, by simpa using hg, by simpa using ht, hb⟩
/-- how many bytes of a write are performed -/
def wrM (left : Int) (t : Nat) : Nat := if left = 0 then t else 128
def wrSec (left : Int) (t : Nat) (s b : List UInt8) : List UInt8 := b.take (wrM left t) ++ s.drop (wrM left t)
def wrLeft (left : Int) : Int := if 0 < left then left - 1 else left
def WrOut (S : List (List UInt8)) (left : Int) (t B k : Nat) (s b : List UInt8) (w0 w : World) (e : Ending) (w' : World) : Prop :=
  e = .returned (.bool (decide (left ≠ 0))) ∧ Upd (fun q => q = B) w w' ∧
    ∃ v', (∀ W2, Upd (fun q => w0.heap.size ≤ q ∧ q ≤ B) w' W2 → Secs W2 v' (S.set k (wrSec left t s b))) ∧ Blk w' B 79 #[v', .int .i64 (wrLeft left), .int .i64 (t : Int), .bool (decide (left = 0))]
theorem els_one {w : World} {S : List (List UInt8)} {vs : List Value} (hl : vs.length = S.length * 1) (hel : ∀ (i : Nat) (s : List UInt8), S[i]? = some s → ∃ x, vs[i]? = some x ∧ Sl w 1 x s.length (bc s)) : ∀ u ∈ vs, u.oneCell' = true := by
  intro u hu
  obtain ⟨i, hi⟩ := List.mem_iff_getElem?.1 hu
  have hiv := (List.getElem?_eq_some_iff.1 hi).1
  obtain ⟨x, h1, h2⟩ := hel i _ (List.getElem?_eq_getElem (by omega))
  rw [h1] at hi
  cases hi
  obtain ⟨a, c, rfl⟩ := h2.form
  rfl
theorem sizeU8 : (Try.prog.info? 5).map (·.size) = some 1 := by kernel_rfl
theorem splice_bc {cur : List Value} {s b : List UInt8} {m : Nat} (hc : cur.take 128 = bc s) (hs : s.length = 128) (hb : b.length = 128) (hm : m ≤ 128) :
    128 ≤ (splice cur 0 (bc (b.take m))).length ∧ (splice cur 0 (bc (b.take m))).take 128 = bc (b.take m ++ s.drop m) := by
  have hl : 128 ≤ cur.length := by
    have := congrArg List.length hc
    simp [bc, hs] at this
    omega
  have hm2 : (bc (b.take m)).length = m := by simp [bc]; omega
  have e : splice cur 0 (bc (b.take m)) = bc (b.take m) ++ cur.drop m := by
    simp only [splice, List.take_zero, List.nil_append, Nat.zero_add, hm2]
  rw [e]
  refine ⟨by simp [hm2]; omega, ?_⟩
  rw [List.take_append, hm2, bc_app, List.take_of_length_le (by omega)]
  congr 1
  have : bc (s.drop m) = (bc s).drop m := by simp [bc]
  rw [this, ← hc, List.drop_take]

theorem Upd.of_belowS {S : Nat → Prop} {w w' : World} (h : Below w.heap.size w w') : Upd S w w' := ⟨h.os, h.tape, h.output, h.size, fun k hk _ => h.block k hk⟩
/-- what the last stores leave -/
theorem wr_end {S : List (List UInt8)} {left : Int} {t B k m g2 g3 cap2 cap3 : Nat} {s b : List UInt8} {st : Bool} {w0 w w2 w3 : World} {vs cur : List Value} {x0 : Value}
    (hO3 : w3.ownsRow w2.heap.size 25 1 (.slice (some ⟨g3, 0, none⟩) S.length cap3) S.length vs) (hB3 : Blk w3 B 79 #[x0, .int .i64 left, .int .i64 (t : Int), .bool st])
    (hgr2 : w2.heap[g2]? = some (.cells (splice cur 0 (bc (b.take m))).toArray 5 (0, 0))) (hb3 : Below w2.heap.size w2 w3) (hbw3 : Below w0.heap.size w0 w3) (hB0 : w0.heap.size ≤ B) (hB2 : B < w2.heap.size) (hg2 : B < g2)
    (hg2c : 128 ≤ cap2) (hw2 : w.heap.size ≤ w2.heap.size) (hU3 : Upd (fun q => q = B) w w3) (hel : ∀ (i : Nat) (s : List UInt8), S[i]? = some s → ∃ x, vs[i]? = some x ∧ Sl w0 1 x s.length (bc s)) (hk : S[k]? = some s)
    (hct : cur.take 128 = bc s) (hsl : s.length = 128) (hbl : b.length = 128) (hm : m ≤ 128) (hmm : m = wrM left t) :
    (∀ W2, Upd (fun q => w0.heap.size ≤ q ∧ q ≤ B) ((w3.setCell ⟨B, 0, none⟩ (.slice (some ⟨g3, 0, none⟩) S.length cap3)).setCell ⟨g3, k, none⟩ (.slice (some ⟨g2, 0, none⟩) 128 cap2)) W2 → Secs W2 (.slice (some ⟨g3, 0, none⟩) S.length cap3) (S.set k (wrSec left t s b))) ∧
    (∀ W2, Upd (fun q => q = B) ((w3.setCell ⟨B, 0, none⟩ (.slice (some ⟨g3, 0, none⟩) S.length cap3)).setCell ⟨g3, k, none⟩ (.slice (some ⟨g2, 0, none⟩) 128 cap2)) W2 → Upd (fun q => q = B) w W2) ∧
      Blk ((w3.setCell ⟨B, 0, none⟩ (.slice (some ⟨g3, 0, none⟩) S.length cap3)).setCell ⟨g3, k, none⟩ (.slice (some ⟨g2, 0, none⟩) 128 cap2)) B 79 #[.slice (some ⟨g3, 0, none⟩) S.length cap3, .int .i64 left, .int .i64 (t : Int), .bool st] := by
  have hg2l := lt_of_block hgr2
  have hg3 := (hO3.lt g3 rfl).1
  have hkS := (List.getElem?_eq_some_iff.1 hk).1
  have hkv : k < vs.length := by have := hO3.1; omega
  have hw0 := hbw3.size
  have o1 := (Upd.setCell (Upd.refl (fun q => q = B) w3) (p := ⟨B, 0, none⟩) (.inl rfl) (.slice (some ⟨g3, 0, none⟩) S.length cap3)).own hO3 (fun q hq e => by have := (hO3.lt q hq).1; omega)
  have o2 := (o1.stored k (.slice (some ⟨g2, 0, none⟩) 128 cap2)).1
  refine ⟨fun W2 hW2 => ?_, fun W2 hW2 => ((Upd.setCell (S := fun q => q = B) hU3 (p := ⟨B, 0, none⟩) (Or.inl rfl) _).setCell (p := ⟨g3, k, none⟩) (.inr (by show w.heap.size ≤ g3; omega)) _).trans hW2, Blk.far (hB3.set_ 0 _) (by show B ≠ g3; omega) _⟩
  have o3 := hW2.own o2 (fun q hq e => by have := (hO3.lt q hq).1; have := e.2; omega)
  have hBel : Below w0.heap.size w0 W2 := by
    have h1 : Below w0.heap.size w0 ((w3.setCell ⟨B, 0, none⟩ (.slice (some ⟨g3, 0, none⟩) S.length cap3)).setCell ⟨g3, k, none⟩ (.slice (some ⟨g2, 0, none⟩) 128 cap2)) := (hbw3.setCell (p := ⟨B, 0, none⟩) hB0 _).setCell (p := ⟨g3, k, none⟩) (by show w0.heap.size ≤ g3; omega) _
    exact h1.trans (hW2.below h1.size (fun q hq e => by have := e.1; omega))
  have hG : W2.heap[g2]? = some (.cells (splice cur 0 (bc (b.take m))).toArray 5 (0, 0)) := by
    refine hW2.heap ?_ (fun e => by have := e.2; omega)
    refine (Below.heap_setCell _ ⟨g3, k, none⟩ _ g2 (by show g2 ≠ g3; omega)).trans ((Below.heap_setCell _ ⟨B, 0, none⟩ _ g2 (by show g2 ≠ B; omega)).trans ?_)
    exact (hb3.block g2 hg2l).trans hgr2
  refine ⟨vs.set k (.slice (some ⟨g2, 0, none⟩) 128 cap2), by rw [List.length_set]; exact Sl.of_own o3, fun i r hr => ?_⟩
  · by_cases hik : i = k
    · subst hik
      rw [List.getElem?_set_self hkS] at hr
      cases hr
      obtain ⟨p1, p2⟩ := splice_bc hct hsl hbl hm
      rw [hmm] at p1 p2 hG
      have hsz : (wrSec left t s b).length = 128 := by
        have hm2 : wrM left t ≤ 128 := by omega
        simp [wrSec, hsl, hbl]; omega
      refine ⟨_, List.getElem?_set_self hkv, ?_⟩
      rw [hsz]
      refine ⟨by rw [bc_len, hsz], _, _, rfl, hg2c, .inr ⟨g2, 0, rfl, fun j u hu => ?_⟩⟩
      rw [Nat.zero_add, cell_of_row W2 g2 j _ _ _ hG]
      rw [wrSec, ← p2] at hu
      have hj : j < 128 := by
        rcases Nat.lt_or_ge j 128 with h | h
        · exact h
        · rw [List.getElem?_eq_none (by simp; omega)] at hu; cases hu
      rw [List.getElem?_take_of_lt hj] at hu
      simpa using hu
    · rw [List.getElem?_set_ne (fun e => hik e.symm)] at hr
      obtain ⟨x, hx, hsx⟩ := hel i r hr
      exact ⟨x, by rw [List.getElem?_set_ne (fun e => hik e.symm)]; exact hx, hsx.next hBel⟩

set_option maxRecDepth 100000 in
set_option maxHeartbeats 2000000 in
theorem write_pos (S : List (List UInt8)) (left : Int) (t : Nat) (a : Option Addr) (cap B k : Nat) (s b : List UInt8) (vb : Value) (w0 w : World)
    (hB : Blk w B 79 #[.slice a S.length cap, .int .i64 left, .int .i64 (t : Int), .bool false]) (hB0 : w0.heap.size ≤ B) (hbw : Below w0.heap.size w0 w)
    (hs : Secs w0 (.slice a S.length cap) S) (hvb : Sl w0 1 vb 128 (bc b)) (hbl : b.length = 128) (hk : S[k]? = some s) (hsl : s.length = 128) (_ht : t ≤ 128) (hSn : S.length ≤ 4096)
    (hle : left ≤ 9223372036854775807) (hne : left ≠ 0) :
    Calls Try.prog 46 #[.pointer (some ⟨B, 0, none⟩), .int .i64 k, vb] w fun e w' => WrOut S left t B k s b w0 w e w' := by
  have hkS := (List.getElem?_eq_some_iff.1 hk).1
  obtain ⟨ab, cb, rfl⟩ := hvb.form
  obtain ⟨gb, ob, rfl, hcb, _⟩ := hvb.pos (by omega)
  obtain ⟨g, off, rfl, hcap, hcs⟩ := hs.at_ (by omega)
  obtain ⟨ad, c, hcell, hsec⟩ := hcs k s hk
  rw [hsl] at hcell hsec
  obtain ⟨vs, hvs, hel⟩ := hs
  have hg0 := World.block_lt_of_cell? w0 _ hcell
  have hbW : Below w0.heap.size w0 w := hbw
  have hcw := (hbW.cell (p := ⟨g, off + k, none⟩) hg0).trans hcell
  obtain ⟨b0, b1, b2, b3, f0, f1, f2, f3⟩ := dkCells hB
  have hBl := hB.lt
  have hB' : Blk w B 79 #[.slice (some ⟨g, off, none⟩) S.length cap, .int .i64 left, .int .i64 (t : Int), .bool false] := hB
  have HB := Lib.hid hB'
  have HU := Lib.hid (show Upd (fun q => q = B) w w from Upd.refl _ _)
  have hsW : w.heap.size ≤ (w).heap.size := HU.out.size
  have HK := Lib.hid hk
  have HEL := Lib.hid hel
  have HCL := Lib.hid (fun W (h : Below w0.heap.size w0 W) => cloneB_any (bc s) 128 (.slice ad 128 c) W (hsec.next h) (bc_one s) (by omega))
  have HCS := Lib.hid (fun W (h : Below w0.heap.size w0 W) => cloneS_any vs S.length (.slice (some ⟨g, off, none⟩) S.length cap) W (hvs.next h) (els_one hvs.1 hel) (by omega))
  have n1 : (left == 0) = false := by simpa using hne
  clear hB hB' hk hel hcs hsec hcell
  go_enter Try.func46, Try.ntmps46
  go_wp2_with fail
  refine (HCL.out _ hbW).mono ?_
  rintro e w1 ⟨v2, rfl, hown2, hb1⟩
  obtain ⟨g2, cap2, rfl, hg2B, hg2l⟩ := hown2.form (by omega)
  obtain ⟨cur, hcur, hct, _⟩ := own_block hown2
  have hcap2 : 128 ≤ cap2 := by obtain ⟨_, a', c', he, hle', _⟩ := Sl.of_own hown2; cases he; exact hle'
  have hbw1 := hbW.trans (hb1.mono hbW.size)
  have hvb1 := hvb.next hbw1
  have hBw1 := HB.out.below hb1 HB.out.lt
  have Hct := Lib.hid hct
  have Hcur := Lib.hid hcur
  clear hown2 hct hcur
  have hsrc : ∀ j v, (bc (b.take 128))[j]? = some v → w1.cell? ((⟨gb, ob, none⟩ : Addr).add j) = some v := fun j v hv => by
    obtain ⟨gb', ob', he, _, hc⟩ := hvb1.pos (by omega)
    cases he
    have hadd : (⟨gb, ob, none⟩ : Addr).add j = ⟨gb, ob + j, none⟩ := by unfold Addr.add; split <;> simp_all
    rw [hadd]
    refine hc j v ?_
    have hj : j < 128 := by
      rcases Nat.lt_or_ge j 128 with h | h
      · exact h
      · rw [List.getElem?_eq_none (by simp [bc]; omega)] at hv; cases hv
    simpa [bc, List.getElem?_take_of_lt hj] using hv
  have Hsrc := Lib.hid hsrc
  clear hsrc hvb1
  go_wp2_with (with_reducible refine wpList_copy_splice rfl (.tmp 33) (.tmp 36) 25 25 rfl 5 Try.underlying25 sizeU8 (some ⟨g2, 0, none⟩) (some ⟨gb, ob, none⟩) 128 cap2 128 cb rfl rfl g2 0 cur 5 Hcur.out (bc (b.take 128)) ?h1 ?h2 ?h3 (bc_one _) g2 w1 (Below.refl _ _) (Nat.le_refl _) ?_)
  case h1 => simp [bc, hbl]; try omega
  case h2 =>
    first
      | exact fun _ => ⟨rfl, _, rfl, Hsrc.out⟩
      | (intro _ j v hv
         have := Hsrc.out j v hv
         have hadd : (⟨gb, ob, none⟩ : Addr).add j = ⟨gb, ob + j, none⟩ := by unfold Addr.add; split <;> simp_all
         rw [hadd] at this
         exact this)
  case h3 =>
    have := congrArg List.length Hct.out
    simp [bc, hsl] at this
    simp [bc, hbl]; omega
  intro w2 hgr2 hb2
  have hbw2 : Below w0.heap.size w0 w2 := hbw1.trans (hb2.mono (by have := hbw.size; omega))
  have hBw2 := hBw1.below hb2 (by omega)
  obtain ⟨b0', b1', b2', b3', f0', f1', f2', f3'⟩ := dkCells hBw2
  go_wp2_with fail
  refine (HCS.out _ hbw2).mono ?_
  rintro e w3 ⟨v3, rfl, hown3, hb3⟩
  obtain ⟨g3, cap3, rfl, hg3B, hg3l⟩ := hown3.form (by omega)
  have hBw3 := hBw2.below hb3 hBw2.lt
  have hbw3 := hbw2.trans (hb3.mono hbw2.size)
  have hB2l := hBw2.lt
  have hw2s : w.heap.size ≤ w2.heap.size := by have := hb1.size; have := hb2.size; omega
  have hU3 : Upd (fun q => q = B) w w3 := HU.out.trans (Upd.of_belowS (hb1.trans ((hb2.mono (by omega)).trans (hb3.mono (by have := hb1.size; have := hb2.size; omega)))))
  have hkv : k < vs.length := by have := hvs.1; omega
  have e0 : (w3.setCell ⟨B, 0, none⟩ (.slice (some ⟨g3, 0, none⟩) S.length cap3)).cell? ⟨g3, k, none⟩ = some vs[k] := by
    rw [World.cell?_setCell_other _ _ _ _ (by intro h; have := congrArg Addr.block h; simp at this; omega)]
    have := hown3.cells (g := g3) rfl k vs[k] (List.getElem?_eq_getElem hkv)
    have hadd : (⟨g3, 0, none⟩ : Addr).add k = ⟨g3, k, none⟩ := by unfold Addr.add; split <;> simp_all
    rw [hadd] at this
    exact this
  have e1 : (w3.setCell ⟨B, 0, none⟩ (.slice (some ⟨g3, 0, none⟩) S.length cap3)).frozen? ⟨g3, k, none⟩ = false := by
    rw [World.frozen?_setCell]
    exact own_frozen hown3 k
  obtain ⟨x0, hx0⟩ : ∃ x, vs[k] = x := ⟨_, rfl⟩
  rw [hx0] at e0
  obtain ⟨d0, d1, d2, d3, h0', h1', h2', h3'⟩ := dkCells hBw3
  have hne1 : ¬ B = g3 := by omega
  have hne2 : ¬ g3 = B := by omega
  have hend := Lib.hid (wr_end hown3 hBw3 hgr2.out hb3 hbw3 hB0 hB2l (by omega) hcap2 hw2s hU3 HEL.out HK.out Hct.out hsl hbl (by omega) (show 128 = wrM left t from by rw [wrM, if_neg hne]))
  clear hown3 hBw3 hx0 b0 b1 b2 b3 f0 f1 f2 f3 b0' b1' b2' b3' f0' f1' f2' f3' hU3 hgr2
  go_wp2_with fail
  · have hpos : 0 < left := by assumption
    go_ret
    obtain ⟨p1, p2, p3⟩ := hend.out
    refine ⟨ret_bool (decide_eq_true hne).symm, p2 _ (Upd.setCell (S := fun q => q = B) (Upd.refl _ _) (p := ⟨B, 1, none⟩) (Or.inl rfl) (.int .i64 (left - 1))), _, fun W2 h => p1 W2 (Upd.trans (Upd.setCell (S := fun q => w0.heap.size ≤ q ∧ q ≤ B) (Upd.refl _ _) (p := ⟨B, 1, none⟩) (Or.inl ⟨hB0, Nat.le_refl _⟩) (.int .i64 (left - 1))) h), ?_⟩
    rw [wrLeft, if_pos hpos, decide_eq_false hne]
    exact p3.set_ 1 _
  · have hneg : left ≤ 0 := by assumption
    go_ret
    obtain ⟨p1, p2, p3⟩ := hend.out
    refine ⟨ret_bool (decide_eq_true hne).symm, p2 _ (Upd.refl _ _), _, p1, ?_⟩
    rw [wrLeft, if_neg (by omega), decide_eq_false hne]
    exact p3
set_option maxRecDepth 100000 in
set_option maxHeartbeats 2000000 in
theorem write_zero (S : List (List UInt8)) (t : Nat) (a : Option Addr) (cap B k : Nat) (s b : List UInt8) (vb : Value) (w0 w : World)
    (hB : Blk w B 79 #[.slice a S.length cap, .int .i64 0, .int .i64 (t : Int), .bool false]) (hB0 : w0.heap.size ≤ B) (hbw : Below w0.heap.size w0 w)
    (hs : Secs w0 (.slice a S.length cap) S) (hvb : Sl w0 1 vb 128 (bc b)) (hbl : b.length = 128) (hk : S[k]? = some s) (hsl : s.length = 128) (ht : t ≤ 128) (hSn : S.length ≤ 4096) :
    Calls Try.prog 46 #[.pointer (some ⟨B, 0, none⟩), .int .i64 k, vb] w fun e w' => WrOut S 0 t B k s b w0 w e w' := by
  have hkS := (List.getElem?_eq_some_iff.1 hk).1
  obtain ⟨ab, cb, rfl⟩ := hvb.form
  obtain ⟨gb, ob, rfl, hcb, _⟩ := hvb.pos (by omega)
  obtain ⟨g, off, rfl, hcap, hcs⟩ := hs.at_ (by omega)
  obtain ⟨ad, c, hcell, hsec⟩ := hcs k s hk
  rw [hsl] at hcell hsec
  obtain ⟨vs, hvs, hel⟩ := hs
  have hg0 := World.block_lt_of_cell? w0 _ hcell
  have hbW : Below w0.heap.size w0 (w.setCell ⟨B, 3, none⟩ (.bool true)) := hbw.setCell hB0 _
  have hcw := (hbW.cell (p := ⟨g, off + k, none⟩) hg0).trans hcell
  obtain ⟨b0, b1, b2, b3, f0, f1, f2, f3⟩ := dkCells hB
  have hBl := hB.lt
  have hB' : Blk (w.setCell ⟨B, 3, none⟩ (.bool true)) B 79 #[.slice (some ⟨g, off, none⟩) S.length cap, .int .i64 0, .int .i64 (t : Int), .bool true] := hB.set_ 3 _
  have HB := Lib.hid hB'
  have HU := Lib.hid (show Upd (fun q => q = B) w (w.setCell ⟨B, 3, none⟩ (.bool true)) from Upd.setCell (S := fun q => q = B) (Upd.refl _ _) (p := ⟨B, 3, none⟩) (Or.inl rfl) _)
  have hsW : w.heap.size ≤ ((w.setCell ⟨B, 3, none⟩ (.bool true))).heap.size := HU.out.size
  have HK := Lib.hid hk
  have HEL := Lib.hid hel
  have HCL := Lib.hid (fun W (h : Below w0.heap.size w0 W) => cloneB_any (bc s) 128 (.slice ad 128 c) W (hsec.next h) (bc_one s) (by omega))
  have HCS := Lib.hid (fun W (h : Below w0.heap.size w0 W) => cloneS_any vs S.length (.slice (some ⟨g, off, none⟩) S.length cap) W (hvs.next h) (els_one hvs.1 hel) (by omega))
  have i1 : (t : Int) ≤ (cb : Int) := by omega
  have i2 : (0 : Int) ≤ (t : Int) := by omega
  clear hB hB' hk hel hcs hsec hcell
  go_enter Try.func46, Try.ntmps46
  go_wp2_with fail
  refine (HCL.out _ hbW).mono ?_
  rintro e w1 ⟨v2, rfl, hown2, hb1⟩
  obtain ⟨g2, cap2, rfl, hg2B, hg2l⟩ := hown2.form (by omega)
  obtain ⟨cur, hcur, hct, _⟩ := own_block hown2
  have hcap2 : 128 ≤ cap2 := by obtain ⟨_, a', c', he, hle', _⟩ := Sl.of_own hown2; cases he; exact hle'
  have hbw1 := hbW.trans (hb1.mono hbW.size)
  have hvb1 := hvb.next hbw1
  have hBw1 := HB.out.below hb1 HB.out.lt
  have Hct := Lib.hid hct
  have Hcur := Lib.hid hcur
  clear hown2 hct hcur
  have hsrc : ∀ j v, (bc (b.take t))[j]? = some v → w1.cell? ((⟨gb, ob, none⟩ : Addr).add j) = some v := fun j v hv => by
    obtain ⟨gb', ob', he, _, hc⟩ := hvb1.pos (by omega)
    cases he
    have hadd : (⟨gb, ob, none⟩ : Addr).add j = ⟨gb, ob + j, none⟩ := by unfold Addr.add; split <;> simp_all
    rw [hadd]
    refine hc j v ?_
    have hj : j < t := by
      rcases Nat.lt_or_ge j t with h | h
      · exact h
      · rw [List.getElem?_eq_none (by simp [bc]; omega)] at hv; cases hv
    simpa [bc, List.getElem?_take_of_lt hj] using hv
  have Hsrc := Lib.hid hsrc
  clear hsrc hvb1
  go_wp2_with (with_reducible refine wpList_copy_splice rfl (.tmp 33) (.tmp 36) 25 25 rfl 5 Try.underlying25 sizeU8 (some ⟨g2, 0, none⟩) (some ⟨gb, ob, none⟩) 128 cap2 t cb rfl rfl g2 0 cur 5 Hcur.out (bc (b.take t)) ?h1 ?h2 ?h3 (bc_one _) g2 w1 (Below.refl _ _) (Nat.le_refl _) ?_)
  case h1 => simp [bc, hbl]; try omega
  case h2 =>
    first
      | exact fun _ => ⟨rfl, _, rfl, Hsrc.out⟩
      | (intro _ j v hv
         have := Hsrc.out j v hv
         have hadd : (⟨gb, ob, none⟩ : Addr).add j = ⟨gb, ob + j, none⟩ := by unfold Addr.add; split <;> simp_all
         rw [hadd] at this
         exact this)
  case h3 =>
    have := congrArg List.length Hct.out
    simp [bc, hsl] at this
    simp [bc, hbl]; omega
  intro w2 hgr2 hb2
  have hbw2 : Below w0.heap.size w0 w2 := hbw1.trans (hb2.mono (by have := hbw.size; omega))
  have hBw2 := hBw1.below hb2 (by omega)
  obtain ⟨b0', b1', b2', b3', f0', f1', f2', f3'⟩ := dkCells hBw2
  go_wp2_with fail
  refine (HCS.out _ hbw2).mono ?_
  rintro e w3 ⟨v3, rfl, hown3, hb3⟩
  obtain ⟨g3, cap3, rfl, hg3B, hg3l⟩ := hown3.form (by omega)
  have hBw3 := hBw2.below hb3 hBw2.lt
  have hbw3 := hbw2.trans (hb3.mono hbw2.size)
  have hB2l := hBw2.lt
  have hw2s : w.heap.size ≤ w2.heap.size := by have := hb1.size; have := hb2.size; omega
  have hU3 : Upd (fun q => q = B) w w3 := HU.out.trans (Upd.of_belowS (hb1.trans ((hb2.mono (by omega)).trans (hb3.mono (by have := hb1.size; have := hb2.size; omega)))))
  have hkv : k < vs.length := by have := hvs.1; omega
  have e0 : (w3.setCell ⟨B, 0, none⟩ (.slice (some ⟨g3, 0, none⟩) S.length cap3)).cell? ⟨g3, k, none⟩ = some vs[k] := by
    rw [World.cell?_setCell_other _ _ _ _ (by intro h; have := congrArg Addr.block h; simp at this; omega)]
    have := hown3.cells (g := g3) rfl k vs[k] (List.getElem?_eq_getElem hkv)
    have hadd : (⟨g3, 0, none⟩ : Addr).add k = ⟨g3, k, none⟩ := by unfold Addr.add; split <;> simp_all
    rw [hadd] at this
    exact this
  have e1 : (w3.setCell ⟨B, 0, none⟩ (.slice (some ⟨g3, 0, none⟩) S.length cap3)).frozen? ⟨g3, k, none⟩ = false := by
    rw [World.frozen?_setCell]
    exact own_frozen hown3 k
  obtain ⟨x0, hx0⟩ : ∃ x, vs[k] = x := ⟨_, rfl⟩
  rw [hx0] at e0
  obtain ⟨d0, d1, d2, d3, h0', h1', h2', h3'⟩ := dkCells hBw3
  have hne1 : ¬ B = g3 := by omega
  have hne2 : ¬ g3 = B := by omega
  have hend := Lib.hid (wr_end hown3 hBw3 hgr2.out hb3 hbw3 hB0 hB2l (by omega) hcap2 hw2s hU3 HEL.out HK.out Hct.out hsl hbl (by omega) (show t = wrM 0 t from rfl))
  clear hown3 hBw3 hx0 b0 b1 b2 b3 f0 f1 f2 f3 b0' b1' b2' b3' f0' f1' f2' f3' hU3 hgr2
  go_wp2_with fail
  go_ret
  obtain ⟨p1, p2, p3⟩ := hend.out
  exact ⟨rfl, p2 _ (Upd.refl _ _), _, p1, p3⟩
end Go.Proofs.Ytbinibpkbkhdlaa
