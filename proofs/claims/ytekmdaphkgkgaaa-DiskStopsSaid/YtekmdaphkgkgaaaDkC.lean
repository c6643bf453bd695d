/- Disk: the index of a sector, Read, Stop, Restart. -/
import Derived.Test.YtekmdaphkgkgaaaDkB
namespace Go.Proofs.Ytekmdaphkgkgaaa
open Go.RowKit

theorem chk01 (D : Dk) : chk D = 0 ∨ chk D = 1 := by unfold chk; split <;> simp
theorem chk_ok {D : Dk} (h : chk D = 0) : 1 ≤ D.secs.length ∧ D.secs.length ≤ 4096 ∧ anyOdd D.secs = false ∧ -1 ≤ D.left ∧ 0 ≤ D.tear ∧ D.tear ≤ 128 ∧ (D.stop = false ∨ D.left = 0) := by
  have hn : ¬ (D.secs.length < 1 ∨ 4096 < D.secs.length ∨ anyOdd D.secs = true ∨ D.left < -1 ∨ D.tear < 0 ∨ 128 < D.tear ∨ (D.stop = true ∧ D.left ≠ 0)) := fun h' => by
    rw [chk_1 h'] at h; cases h
  simp only [not_or, not_and, Decidable.not_not] at hn
  obtain ⟨h1, h2, h3, h4, h5, h6, h7⟩ := hn
  refine ⟨by omega, by omega, by simpa using h3, by omega, by omega, by omega, ?_⟩
  cases hs : D.stop
  · exact .inl rfl
  · exact .inr (h7 hs)
def chkS (D : Dk) (k : Int) : Int := if chk D = 0 ∧ 0 ≤ k ∧ k < D.secs.length then 0 else 1
theorem chkS_ok {D : Dk} {k : Int} (h : chkS D k = 0) : chk D = 0 ∧ 0 ≤ k ∧ k < D.secs.length := by
  unfold chkS at h
  split at h
  · assumption
  · cases h
theorem chkS01 (D : Dk) (k : Int) : chkS D k = 0 ∨ chkS D k = 1 := by unfold chkS; split <;> simp
theorem below_alloc (w : World) (o : Obj) : Below w.heap.size w (w.alloc o) := (Below.refl _ _).alloc (Nat.le_refl _) o

theorem bcell {W w1 : World} (hb : Below W.heap.size W w1) : (∀ b o, b < W.heap.size → w1.cell? ⟨b, o, none⟩ = W.cell? ⟨b, o, none⟩) ∧ (∀ b o, b < W.heap.size → w1.frozen? ⟨b, o, none⟩ = W.frozen? ⟨b, o, none⟩) :=
  ⟨fun b o h => hb.cell (p := ⟨b, o, none⟩) h, fun b o h => hb.frozen (p := ⟨b, o, none⟩) h⟩

set_option maxRecDepth 100000 in
theorem checkSector_any (D : Dk) (d : Value) (k : Int) (w : World) (hd : DkV w d D) :
    Calls Try.prog 28 #[d, .int .i64 k] w fun e w' => e = .returned (.int .i64 (chkS D k)) ∧ Below w.heap.size w w' := by
  have HC := fun W (hb : Below w.heap.size w W) => check_any D d W (hd.next hb)
  obtain ⟨v, rfl, hs⟩ := hd
  obtain ⟨a, cap, rfl⟩ := hs.len
  have hS : chkS D k = if chk D = 0 ∧ 0 ≤ k ∧ k < D.secs.length then 0 else 1 := rfl
  have h01 := chk01 D
  obtain ⟨c, hc⟩ : ∃ c, chk D = c := ⟨_, rfl⟩
  rw [hc] at HC hS h01
  obtain ⟨S, left, tear, stop⟩ := D
  unfold dkAgg at HC ⊢
  simp only [] at HC hS ⊢
  have HC2 := Lib.hid HC
  have HS := Lib.hid hS
  clear HC hS hs hc
  rcases h01 with rfl | rfl
  · go_enter Try.func28, Try.ntmps28
    go_wp2_with (first | (go_at_call 22; refine (HC2.out _ (below_alloc _ _)).mono ?_; rintro e w' ⟨rfl, hb1⟩; obtain ⟨hcc, hff⟩ := bcell hb1))
    all_goals
      go_ret
      refine ⟨ret_int ?_, (below_alloc w _).trans (hb1.mono (by simp))⟩
      rw [HS.out]
      first
        | (rw [if_pos ⟨by trivial, by omega, by omega⟩])
        | (rw [if_neg (fun h => by omega)])
  · go_enter Try.func28, Try.ntmps28
    go_wp2_with (first | (go_at_call 22; refine (HC2.out _ (below_alloc _ _)).mono ?_; rintro e w' ⟨rfl, hb1⟩))
    go_ret
    exact ⟨ret_int (by rw [HS.out, if_neg]; simp), (below_alloc w _).trans (hb1.mono (by simp))⟩

/-- what Read says -/
def rdE (D : Dk) (k : Int) : Int := if chkS D k = 1 then 1 else if D.stop then 410 else 0
def rdB (D : Dk) (k : Int) : List UInt8 := if rdE D k = 0 then D.secs.getD k.toNat [] else []
def RetRd (D : Dk) (k : Int) (w : World) (e : Ending) (w' : World) : Prop := ∃ v, e = .returned (.tuple #[v, .int .i64 (rdE D k)]) ∧ Sl w' 1 v (rdB D k).length (bc (rdB D k)) ∧ Below w.heap.size w w'
set_option maxRecDepth 100000 in
theorem read_any (D : Dk) (d : Value) (k : Int) (w : World) (hd : DkV w d D) (hsz : ∀ s ∈ D.secs, s.length ≤ 100000000) :
    Calls Try.prog 18 #[d, .int .i64 k] w fun e w' => RetRd D k w e w' := by
  have HC := fun W (hb : Below w.heap.size w W) => checkSector_any D d k W (hd.next hb)
  obtain ⟨v, rfl, hs⟩ := hd
  obtain ⟨a, cap, rfl⟩ := hs.len
  rcases chkS01 D k with h0 | h1
  · obtain ⟨_, hk0, hk1⟩ := chkS_ok h0
    obtain ⟨j, rfl⟩ : ∃ j : Nat, k = j := ⟨k.toNat, by omega⟩
    obtain ⟨S, left, tear, stop⟩ := D
    obtain ⟨g, off, rfl, hcap, hc⟩ := hs.at_ (by simp only [] at hk1 ⊢; omega)
    simp only [] at hk1 hc hcap hsz
    obtain ⟨s, hjs⟩ : ∃ s, S[j]? = some s := ⟨_, List.getElem?_eq_getElem (by omega)⟩
    obtain ⟨ad, c, hcell, hsl⟩ := hc j s hjs
    have hl := hsz s (List.mem_of_getElem? hjs)
    have hg := World.block_lt_of_cell? w _ hcell
    rw [h0] at HC
    unfold dkAgg at HC ⊢
    simp only [] at HC ⊢
    have HC2 := Lib.hid HC
    have H0 := Lib.hid h0
    have Hj := Lib.hid hjs
    clear HC hc hs h0 hjs
    cases stop
    · go_enter Try.func18, Try.ntmps18
      go_wp2_with fail
      refine (HC2.out _ (below_alloc _ _)).mono ?_
      rintro e w1 ⟨rfl, hb1⟩
      have hb2 := (below_alloc w (.cells #[.slice (some ⟨g, off, none⟩) S.length cap, .int .i64 left, .int .i64 tear, .bool false] 26)).trans (hb1.mono (by simp))
      obtain ⟨hcc, hff⟩ := bcell hb1
      have hcell1 : w1.cell? ⟨g, off + j, none⟩ = some (.slice ad s.length c) := (hb2.cell (p := ⟨g, off + j, none⟩) hg).trans hcell
      have hcl := fun W (hb : Below w.heap.size w W) => cloneB_any (bc s) s.length (.slice ad s.length c) W (hsl.next hb) (bc_one s) hl
      have Hcl := Lib.hid hcl
      clear hcl
      go_wp2_with fail
      refine (Hcl.out _ hb2).mono ?_
      rintro e w2 ⟨v2, rfl, hown, hb3⟩
      have hf := Lib.hid (Sl.of_own hown)
      clear hown
      go_wp2_with fail
      go_ret2
      have hE : rdE ⟨S, left, tear, false⟩ (j : Int) = 0 := by simp [rdE, H0.out]
      have hB : rdB ⟨S, left, tear, false⟩ (j : Int) = s := by
        rw [rdB, if_pos hE]
        simp [List.getD, Hj.out]
      refine ⟨v2, by rw [hE]; rfl, by rw [hB]; exact hf.out, hb2.trans (hb3.mono hb2.size)⟩
    · go_enter Try.func18, Try.ntmps18
      go_wp2_with fail
      refine (HC2.out _ (below_alloc _ _)).mono ?_
      rintro e w1 ⟨rfl, hb1⟩
      obtain ⟨hcc, hff⟩ := bcell hb1
      go_wp2_with fail
      go_ret2
      have hE : rdE ⟨S, left, tear, true⟩ (j : Int) = 410 := by simp [rdE, H0.out]
      have hB : rdB ⟨S, left, tear, true⟩ (j : Int) = [] := by rw [rdB, if_neg (by rw [hE]; decide)]
      exact ⟨_, by rw [hE]; rfl, by rw [hB]; exact sl_nil _ _, (below_alloc w _).trans (hb1.mono (by simp))⟩
  · rw [h1] at HC
    have HC2 := Lib.hid HC
    have H1 := Lib.hid h1
    have Hs := Lib.hid hs
    unfold dkAgg at HC ⊢
    unfold dkAgg at HC2
    clear HC h1 hs
    go_enter Try.func18, Try.ntmps18
    go_wp2_with fail
    refine (HC2.out _ (below_alloc _ _)).mono ?_
    rintro e w1 ⟨rfl, hb1⟩
    go_wp2_with fail
    go_ret2
    have hE : rdE D k = 1 := by rw [rdE, if_pos H1.out]
    have hB : rdB D k = [] := by rw [rdB, if_neg (by rw [hE]; decide)]
    exact ⟨_, by rw [hE]; rfl, by rw [hB]; exact sl_nil _ _, (below_alloc w _).trans (hb1.mono (by simp))⟩
end Go.Proofs.Ytekmdaphkgkgaaa
