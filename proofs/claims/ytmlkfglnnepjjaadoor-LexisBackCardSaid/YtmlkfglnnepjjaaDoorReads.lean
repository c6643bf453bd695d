/- Layer 1, the statements' helper 'reads': the texts of the tokens of a source, and its problems. -/
import Derived.Test.YtmlkfglnnepjjaaDoorSame
import Derived.Test.YtmlkfglnnepjjaaDoorSameP
namespace Go.Proofs.YtmlkfglnnepjjaaDoor
open Go.RowKit

theorem tokens_any (l : List UInt8) (v : Value) (w : World) (hv : Sl w 1 v l.length (bc l)) (hl : l.length ≤ 65536) (hT : TabW w) :
    Calls Tryd.prog 12 #[v] w (TokOut l w) := tokens_short l v w hv hl hT

/-- the tokens of a text as values, with the end -/
def tkE (l : List UInt8) : List Tk := (toks l).map (fun t => (t.1, mkS (sub l t.2.1 t.2.2), (t.2.1 : Int))) ++ [(4, ⟨#[]⟩, (l.length : Int))]
theorem tkE_len (l : List UInt8) : (tkE l).length = (toks l).length + 1 := by simp [tkE]
theorem tkE_cells (l : List UInt8) : tkcs (tkE l) = tcE l := by
  simp [tkE, tkcs, tcE, tc, tkc, List.flatMap_append, List.flatMap_map]
  rfl

/-- where the cells of a slice of one-cell elements lie -/
theorem Sl.ones {w : World} {n : Nat} {xs : List Value} {a : Option Addr} {cap : Nat} (h : Sl w 1 (.slice a n cap) n xs) (hp : 0 < n) :
    ∃ g off, a = some ⟨g, off, none⟩ ∧ n ≤ cap ∧ ∀ j u, xs[j]? = some u → w.cell? ⟨g, off + j, none⟩ = some u := by
  obtain ⟨_, a', cap', he, hn, hr⟩ := h
  cases he
  rcases hr with h0 | ⟨g, off, rfl, hc⟩
  · omega
  · exact ⟨g, off, rfl, hn, hc⟩
theorem tkE_last (l : List UInt8) : tA (tkE l) (toks l).length = (4, ⟨#[]⟩, (l.length : Int)) := by
  simp [tA, tkE, List.getD]
theorem tkE_text {l : List UInt8} {j : Nat} (h : j < (toks l).length) : (tA (tkE l) j).2.1 = ((toks l).map (fun t => mkS (sub l t.2.1 t.2.2))).getD j ⟨#[]⟩ := by
  simp [tA, tkE, List.getD, List.getElem?_append_left, h]

set_option maxRecDepth 100000 in
set_option maxHeartbeats 1000000 in
theorem reads_true (l : List UInt8) (ts : List ByteArray) (bad : List Nat) (vt vb : Value) (w : World) (ht : Sl w 1 vt ts.length (ts.map .string)) (hb : Sl w 1 vb bad.length (bad.map fun (a : Nat) => .int .i64 (a : Int)))
    (hl : l.length ≤ 1000) (hT : TabW w) (h1 : (toks l).map (fun t => mkS (sub l t.2.1 t.2.2)) = ts) (h2 : (bads l).take 64 = bad) (hn : ts.length ≤ 1000) :
    Calls Tryd.prog 23 #[.string (mkS l), vt, vb] w fun e w' => e = .returned (.bool true) ∧ Below w.heap.size w w' := by
  obtain ⟨at', ct, rfl⟩ := ht.form
  obtain ⟨ab, cb, rfl⟩ := hb.form
  obtain ⟨g, cap, w1, hcv, hsl, hbel, hgl, hgs⟩ := conv_str l w
  have HTk := Lib.hid (tokens_any l _ w1 hsl (by omega) (TabW_below hbel (TabW_lt hT) hT))
  go_enter Tryd.func23, Tryd.ntmps23
  go_wp2_with fail
  refine (HTk.out).mono ?_
  rintro e w2 ⟨vl, vp, rfl, hl1, hp1, hbel2⟩
  rw [← tkE_cells, ← tkE_len] at hl1
  rw [h2] at hp1
  have ht2 := (ht.next hbel).next hbel2
  have hb2 := (hb.next hbel).next hbel2
  have hlen : (tkE l).length = ts.length + 1 := by rw [tkE_len, ← h1]; simp
  have hn1 : (toks l).length = ts.length := by rw [← h1]; simp
  obtain ⟨al, cl, hvl⟩ := hl1.form
  subst hvl
  obtain ⟨gl, ol, rfl, hcl, hcells⟩ := hl1.toks (by omega)
  obtain ⟨l0, l1, l2⟩ := hcells ts.length (by omega)
  have hlast := tkE_last l
  rw [hn1] at hlast
  rw [hlast] at l0 l1 l2
  simp only [] at l0 l1 l2
  have htexts : ∀ j, j < ts.length → w2.cell? ⟨gl, ol + j * 3 + 1, none⟩ = some (.string (ts.getD j ⟨#[]⟩)) := fun j hj => by
    obtain ⟨_, h, _⟩ := hcells j (by omega)
    rw [tkE_text (by omega), h1] at h
    exact h
  have HT := Lib.hid htexts
  rw [hlen] at hl1 hcl
  obtain ⟨ap, cp, rfl⟩ := hp1.form
  clear hcells htexts hlast
  have hb1 : ((ts.length : Int) + 1 != (ts.length : Int) + 1) = false := by simp
  rw [hlen]
  have Hhl := Lib.hid hlen
  have Hh1 := Lib.hid h1
  have Hh2 := Lib.hid h2
  have Hn1 := Lib.hid hn1
  clear hlen h1 h2 hn1
  go_wp2_with fail
  go_loopw [10] (fun i wr => ∃ j n : Nat, j ≤ ts.length ∧ wr = w2.drewN n ∧ i = .int .i64 j) (fun i _ => ts.length - (intOf i).toNat)
  case atStart => exact ⟨0, 0, Nat.zero_le _, rfl, rfl⟩
  case round =>
    obtain ⟨j, n, hj, rfl, rfl⟩ := hrel
    clear l0 l1 l2
    by_cases hlt : j < ts.length
    · obtain ⟨gt, ot, rfl, hct, htc⟩ := ht2.ones (by omega)
      have c1 := HT.out j hlt
      have c2 := htc j (.string (ts.getD j ⟨#[]⟩)) (by simp [List.getD, hlt])
      obtain ⟨s, hs⟩ : ∃ s, ts.getD j ⟨#[]⟩ = s := ⟨_, rfl⟩
      rw [hs] at c1 c2
      clear hs htc
      go_wp2_with fail
      go_quiet (fail)
      go_wp2_with fail
      go_roundw
      case rel => exact ⟨j + 1, _, by omega, rfl, by go_num⟩
      case measure => simp [intOf]; omega
    · go_wp2_with fail
      go_loopw [11] (fun i wr => ∃ j n : Nat, j ≤ bad.length ∧ wr = w2.drewN n ∧ i = .int .i64 j) (fun i _ => bad.length - (intOf i).toNat)
      case atStart => exact ⟨0, n, Nat.zero_le _, rfl, rfl⟩
      case round =>
        obtain ⟨j, n, hj, rfl, rfl⟩ := hrel
        have hb64 : bad.length ≤ 64 := by rw [← Hh2.out]; simp; omega
        by_cases hlt : j < bad.length
        · obtain ⟨gb, ob, rfl, hcb, hbc⟩ := hb2.ones (by omega)
          obtain ⟨gp, op, rfl, hcp, hpc⟩ := hp1.probs (by omega)
          obtain ⟨c1, c2⟩ := hpc j hlt
          have c3 := hbc j (.int .i64 (bad.getD j 0 : Nat)) (by simp [List.getD, hlt])
          obtain ⟨s, hs⟩ : ∃ s, bad.getD j 0 = s := ⟨_, rfl⟩
          rw [hs] at c1 c3
          clear hs hbc hpc
          go_wp2_with fail
          go_quiet (fail)
          go_wp2_with fail
          go_roundw
          case rel => exact ⟨j + 1, _, by omega, rfl, by go_num⟩
          case measure => simp [intOf]; omega
        · go_wp2_with fail
          go_ret
          exact ⟨rfl, below_drewN (hbel.trans (hbel2.mono hbel.size)) _⟩
end Go.Proofs.YtmlkfglnnepjjaaDoor
