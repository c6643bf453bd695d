/- Intervals: checkOneAndAll, Without. -/
import Derived.Test.YtnjpjjefhpbfgaaIvI
import Derived.Deep.RegionHeld3
namespace Go.Proofs.Ytnjpjjefhpbfgaa
open Go.RowKit

set_option maxRecDepth 100000 in
set_option maxHeartbeats 1000000 in
theorem cko_any (lo hi : Int) (l : List Iv) (n : Nat) (hn : l.length = n) (hm : n ≤ 100000) (a : Option Addr) (cap : Nat) (w : World) (hr : Rd w (.slice a n cap) l) :
    Calls Try.prog 37 #[.agg #[.int .i64 lo, .int .i64 hi], .slice a n cap] w fun e w' => e = .returned (.int .i64 (ckL ((lo, hi) :: l))) ∧ Below w.heap.size w w' := by
  have hb := below_alloc w (.cells #[.int .i64 lo, .int .i64 hi] 23)
  have hB := Blk.new w 23 #[.int .i64 lo, .int .i64 hi]
  obtain ⟨W, hW⟩ : ∃ W, w.alloc (.cells #[.int .i64 lo, .int .i64 hi] 23) = W := ⟨_, rfl⟩
  rw [hW] at hb hB
  have HW := Lib.hid hW
  have Hb := Lib.hid hb
  have HC := Lib.hid (check_any lo hi W)
  have HA := Lib.hid (fun W' (hb' : Below w.heap.size w W') => checkAll_any l n hn (by unfold maxLen; omega) a cap W' (hr.next hb'))
  have hE : ckL ((lo, hi) :: l) = if ck (lo, hi) = 0 then ckL l else ck (lo, hi) := rfl
  obtain ⟨ce, hce⟩ : ∃ x, ck (lo, hi) = x := ⟨_, rfl⟩
  rw [hce] at HC hE
  obtain ⟨c0, c1, _, _⟩ := cells2 hB
  clear hb hB hW hr hce
  by_cases h0 : ce = 0
  · rw [if_pos h0] at hE
    have HE := Lib.hid hE
    subst h0
    clear hE
    go_enter Try.func37, Try.ntmps37
    go_wp2_with (rw [HW.out])
    refine HC.out.mono ?_
    rintro e w1 ⟨rfl, hb1⟩
    have Hb1 := Lib.hid (Hb.out.trans (hb1.mono Hb.out.size))
    clear hb1
    go_wp2_with fail
    refine (HA.out _ Hb1.out).mono ?_
    rintro e w2 ⟨rfl, hb2⟩
    have Hb2 := Lib.hid (Hb1.out.trans (hb2.mono Hb1.out.size))
    clear hb2
    go_wp2_with fail
    go_ret
    exact ⟨ret_int HE.out.symm, Hb2.out⟩
  · rw [if_neg h0] at hE
    have HE := Lib.hid hE
    have f0 : ((ce : Int) != 0) = true := by simpa using h0
    clear hE h0
    go_enter Try.func37, Try.ntmps37
    go_wp2_with (rw [HW.out])
    refine HC.out.mono ?_
    rintro e w1 ⟨rfl, hb1⟩
    have Hb1 := Lib.hid (Hb.out.trans (hb1.mono Hb.out.size))
    clear hb1
    go_wp2_with fail
    go_ret
    exact ⟨ret_int HE.out.symm, Hb1.out⟩
/-- what Without gives -/
def woR (i : Iv) (l : List Iv) : List Iv := if ckL (i :: l) = 0 then wto i (uni l) else []
theorem start_own (W : World) (B : Nat) (hB : B ≤ W.heap.size) (lo hi : Int) : Ow (W.alloc (.cells #[.int .i64 lo, .int .i64 hi] 23)) B (.slice (some ⟨W.heap.size, 0, none⟩) 1 1) [(lo, hi)] :=
  ⟨rfl, .inr ⟨W.heap.size, 1, #[.int .i64 lo, .int .i64 hi], rfl, hB, heap_alloc_new W _, Nat.le_refl _, by unfold maxLen; omega, rfl, rfl⟩⟩
theorem uni_bd {l : List Iv} (h : ∀ i ∈ l, ck i = 0) : ∀ i ∈ uni l, -1099511627777 ≤ i.1 ∧ i.1 ≤ 1099511627777 ∧ -1099511627777 ≤ i.2 ∧ i.2 ≤ 1099511627777 := by
  intro i hi
  have hv : Vld l := fun j hj => (ck_ok (h j hj)).2.2.2.2
  obtain ⟨h1, h2⟩ := uni_ok hv
  have h3 := h1.2 i hi
  obtain ⟨x, hx, h4, h5⟩ := (h2 i.1).1 ⟨i, hi, Int.le_refl _, h3⟩
  obtain ⟨y, hy, h6, h7⟩ := (h2 i.2).1 ⟨i, hi, h3, Int.le_refl _⟩
  have := ck_ok (h x hx)
  have := ck_ok (h y hy)
  omega
theorem below_drew {W w' : World} (h : Below W.drew.heap.size W.drew w') : Below W.heap.size W w' := (Below.refl W.heap.size W).drew.trans h
theorem size_alloc (w : World) (o : Obj) : (w.alloc o).heap.size = w.heap.size + 1 := by simp
theorem size_le {w w' : World} {o : Obj} (h : (w.alloc o).drew.heap.size ≤ w'.heap.size) : w.heap.size + 1 ≤ w'.heap.size := by
  have h2 : (w.alloc o).heap.size ≤ w'.heap.size := h
  rw [size_alloc] at h2
  exact h2
theorem ne_blk {w : World} {B gs k : Nat} {v : Value} {l : List Iv} (h : Ow w B v l) (hk : v.ownBlock = some k) (he : k = gs) (hg : gs = w.heap.size ∨ B = gs + 1 ∨ gs + 1 ≤ B) : False := by
  have := h.lt k hk
  omega
set_option maxRecDepth 100000 in
set_option maxHeartbeats 4000000 in
theorem without_any (lo hi : Int) (l : List Iv) (n : Nat) (hn : l.length = n) (hm : n ≤ 100000) (a : Option Addr) (cap : Nat) (w : World) (hr : Rd w (.slice a n cap) l) :
    Calls Try.prog 23 #[.agg #[.int .i64 lo, .int .i64 hi], .slice a n cap] w fun e w' => ∃ u, e = .returned (.tuple #[u, .int .i64 (ckL ((lo, hi) :: l))]) ∧ Rd w' u (woR (lo, hi) l) ∧ Below w.heap.size w w' := by
  have hb := below_alloc w (.cells #[.int .i64 lo, .int .i64 hi] 23)
  have hB := Blk.new w 23 #[.int .i64 lo, .int .i64 hi]
  obtain ⟨W, hW⟩ : ∃ W, w.alloc (.cells #[.int .i64 lo, .int .i64 hi] 23) = W := ⟨_, rfl⟩
  rw [hW] at hb hB
  have HW := Lib.hid hW
  have Hb := Lib.hid hb
  have HB := Lib.hid hB
  have HR := Lib.hid hr
  have HC := Lib.hid (cko_any lo hi l n hn hm a cap W (hr.next hb))
  have hok := ckL_ok (l := (lo, hi) :: l)
  have hwo : woR (lo, hi) l = if ckL ((lo, hi) :: l) = 0 then wto (lo, hi) (uni l) else [] := rfl
  obtain ⟨ce, hce⟩ : ∃ x, ckL ((lo, hi) :: l) = x := ⟨_, rfl⟩
  rw [hce] at HC hok hwo ⊢
  obtain ⟨c0, c1, _, _⟩ := cells2 hB
  clear hb hB hW hr hce
  by_cases h0 : ce = 0
  · subst h0
    rw [if_pos rfl] at hwo
    have Hwo := Lib.hid hwo
    have Hck := Lib.hid (fun i (hi : i ∈ l) => hok rfl i (List.mem_cons_of_mem _ hi))
    clear hwo hok
    go_enter Try.func23, Try.ntmps23
    go_wp2_with (rw [HW.out])
    refine HC.out.mono ?_
    rintro e w2 ⟨rfl, hb2⟩
    have Hb2 := Lib.hid (Hb.out.trans (hb2.mono Hb.out.size))
    have HB2 := Lib.hid (HB.out.below hb2 HB.out.lt)
    clear hb2 c0 c1
    obtain ⟨c0, c1, _, _⟩ := cells2 HB2.out
    have HUn := Lib.hid (show ∀ Z, Calls Try.prog 35 #[.slice a n cap] Z fun e w' => ∃ b0, e = .returned (.func (.func 42) #[] #[.pointer (some ⟨b0, 0, none⟩)]) ∧ Blk w' b0 30 #[.slice a n cap] ∧ Below Z.heap.size Z w' from
      fun Z => (unionF_any a n cap Z).mono fun e w' ⟨he, hw⟩ => ⟨Z.heap.size, he, by rw [hw]; exact Blk.new Z _ _, by rw [hw]; exact below_alloc Z _⟩)
    have HCo := Lib.hid (show ∀ X b0, Below w.heap.size w X → Blk X b0 30 #[.slice a n cap] → Calls Try.prog 39 #[.func (.func 42) #[] #[.pointer (some ⟨b0, 0, none⟩)]] X fun e w' => ∃ va vc, e = .returned (.slice va (uni l).length vc) ∧ Ow w' X.heap.size (.slice va (uni l).length vc) (uni l) ∧ Below X.heap.size X w' from
      fun X b0 hX hb0 => (collect_any l n hn hm Hck.out _ X (HR.out.next hX) b0 hb0).mono fun e w' ⟨u, he, h1, h2⟩ => by
        obtain ⟨va, vc, rfl⟩ := (Ow.rd h1).len
        exact ⟨va, vc, he, h1, h2⟩)
    have HSs := Lib.hid (show ∀ X, Below w2.heap.size w2 X → Below w2.heap.size w2 X ∧ X.cell? ⟨w.heap.size, 0, none⟩ = some (.int .i64 lo) ∧ X.cell? ⟨w.heap.size, 1, none⟩ = some (.int .i64 hi) from fun X hX => by
      obtain ⟨q0, q1, _, _⟩ := cells2 (HB2.out.below hX HB2.out.lt)
      exact ⟨hX, q0, q1⟩)
    have HRe := Lib.hid (show ∀ X va vc gs B2, Below w2.heap.size w2 X → w2.heap.size ≤ gs → Ow X w2.heap.size (.slice (some ⟨gs, 0, none⟩) 1 1) [(lo, hi)] → Ow X B2 (.slice va (uni l).length vc) (uni l) → (∀ k, (Value.slice va (uni l).length vc).ownBlock = some k → k ≠ gs) →
        Calls Try.prog 38 #[.slice va (uni l).length vc, .slice (some ⟨gs, 0, none⟩) 1 1, .func (.func 40) #[] #[]] X fun e w' => ∃ r, e = .returned r ∧ Rd w' r (woR (lo, hi) l) ∧ Below w2.heap.size w2 w' from
      fun X va vc gs B2 hX hgs hs hu hne =>
        (reduce_any (uni l) [(lo, hi)] (uni l).length rfl (by have := uni_len l; omega) (by simp) (uni_bd Hck.out) va vc (some ⟨gs, 0, none⟩) 1 1 w2.heap.size X hX.size hs
          (fun W' hU => (hu.upd hU (fun k hk hk' => hne k hk (by simpa [Value.ownBlock] using hk'.symm))).rd)).mono fun e w' ⟨r, he, h1, h2⟩ =>
            ⟨r, he, by rw [Hwo.out]; exact h1.rd, ⟨h2.os.trans hX.os, h2.tape.trans hX.tape, h2.output.trans hX.output, Nat.le_trans hX.size h2.size, fun k hk => (h2.block k (Nat.lt_of_lt_of_le hk hX.size) (fun he2 => by simp [Value.ownBlock] at he2; omega)).trans (hX.block k hk)⟩⟩)
    have hbx : Below w2.heap.size w2 w2 := Below.refl _ _
    go_wp2_with fail
    go_region_held3 (fun X => Below w2.heap.size w2 X ∧ X.cell? ⟨w.heap.size, 0, none⟩ = some (.int .i64 lo) ∧ X.cell? ⟨w.heap.size, 1, none⟩ = some (.int .i64 hi))
      (first
        | (with_reducible exact HSs.out _ hbx)
        | (with_reducible exact HSs.out _ hbx.drew)
        | (with_reducible exact HSs.out _ ((Below.refl w2.heap.size w2).alloc (Nat.le_refl _) _).drew)
        | (with_reducible exact HSs.out _ ((‹RowKit.Below w2.heap.size w2 _ ∧ _›).1.alloc (‹RowKit.Below w2.heap.size w2 _ ∧ _›).1.size _)))
      (first
        | (go_at_call 35; with_reducible refine Calls.mono (HUn.out _) ?_; rintro e w4 ⟨b0, rfl, hB4, hb4⟩; have hbx := (‹RowKit.Below w2.heap.size w2 _ ∧ _›).1.trans (hb4.mono (‹RowKit.Below w2.heap.size w2 _ ∧ _›).1.size); have hbU := hbx)
        | (go_at_call 39; with_reducible refine Calls.mono (HCo.out _ _ (Hb2.out.trans ((‹RowKit.Below w2.heap.size w2 _ ∧ _›).1.mono Hb2.out.size)) (by first | exact hB4 | exact hB4.alloc _)) ?_; rintro e w5 ⟨va, vc, rfl, hu5, hb5⟩; have hbx := (‹RowKit.Below w2.heap.size w2 _ ∧ _›).1.trans (hb5.mono (‹RowKit.Below w2.heap.size w2 _ ∧ _›).1.size); have hbC := hbx)
        | (go_at_call 38; with_reducible refine Calls.mono (HRe.out _ _ _ _ _ (‹RowKit.Below w2.heap.size w2 _ ∧ _›).1 (by first | with_reducible exact hbC.size | with_reducible exact hbU.size | exact Nat.le_refl _) (by first | exact start_own w5 _ hbC.size lo hi | exact (start_own w4 _ hbU.size lo hi).next hb5 | exact ((start_own w2 w2.heap.size (Nat.le_refl _) lo hi).next (below_drew hb4)).next hb5) (by first | exact hu5 | exact hu5.next (below_alloc _ _)) (fun k hk he => by exact ne_blk hu5 hk he (by first | exact .inl rfl | exact .inr (.inl (size_alloc _ _)) | exact .inr (.inr (size_le hb4.size))))) ?_; rintro e w6 ⟨r, rfl, hr6, hb6⟩; have hbx := hb6))
    all_goals (go_wp2_with fail)
    all_goals (exact bodyPost_ret (v := .tuple #[r, .int .i64 0]) (by simp [results, Try.results23, go_sem, *]) rfl ⟨_, rfl, hr6, Hb2.out.trans (hb6.mono Hb2.out.size)⟩)
  · rw [if_neg h0] at hwo
    have Hwo := Lib.hid hwo
    have f0 : ((ce : Int) != 0) = true := by simpa using h0
    clear hok hwo h0
    go_enter Try.func23, Try.ntmps23
    go_wp2_with (rw [HW.out])
    refine HC.out.mono ?_
    rintro e w2 ⟨rfl, hb2⟩
    have Hb2 := Lib.hid (Hb.out.trans (hb2.mono Hb.out.size))
    clear hb2
    go_wp2_with fail
    exact bodyPost_ret (v := .tuple #[.slice none 0 0, .int .i64 ce]) (by simp [results, Try.results23, go_sem, *]) rfl ⟨_, rfl, by rw [Hwo.out]; exact rd_nil _, Hb2.out⟩
end Go.Proofs.Ytnjpjjefhpbfgaa
