/- Signing: a signature that came in. Signing: the statement SigningVerifySpec. -/
import Derived.Test.YtiloaheaglcpbaaDoorSgOpenK
import Derived.Test.YtiloaheaglcpbaaDoorSgQ3
import Derived.Test.YtiloaheaglcpbaaDoorSgY1
import Derived.Test.YtiloaheaglcpbaaDoorSgQB
namespace Go.Proofs.YtiloaheaglcpbaaDoor
open Go.RowKit
section
open Go.ChangeShapes Go.WideShapes Go.ChangeAt Go.RowKit Go.Deep

theorem cells_dg {H : Type} {enc : TypeId × Value → H} {W : World} {fuel : Nat} {cs : List Value} {x : DataW H × List MemPlace} (hs : cs.length = 32)
    (hf : DataW.trod enc Tryd.prog W 0 (fun _ => true) true fuel 26 cs = some x) : ∃ l : List UInt8, l.length = 32 ∧ cs = bc l := by
  obtain ⟨xs, m, _, _, _, hl, hi⟩ := DataW.trod_array Tryd.underlying26 hf
  have hcell : ∀ i, i < 32 → ∃ a : Int, 0 ≤ a ∧ a < 256 ∧ cs[i]? = some (.int .u8 a) := fun i h => by
    have h1 := hi i h
    rw [List.getElem?_eq_getElem (by omega)] at h1
    obtain ⟨a, ea, _, wa⟩ := DataW.trod_int Tryd.underlying5 h1
    have hb := bounds_u8 wa
    refine ⟨a, by omega, by omega, ?_⟩
    rw [cellsU8] at ea
    have : (cs.drop (i * 1)).take 1 = [cs[i]'(by omega)] := by
      rw [Nat.mul_one, List.drop_eq_getElem_cons (show i < cs.length by omega)]
      rfl
    rw [this] at ea
    rw [List.getElem?_eq_getElem (by omega)]
    simpa using ea
  refine ⟨(List.range 32).map fun i => UInt8.ofNat (intOf (cs.getD i undef)).toNat, by simp, ?_⟩
  apply List.ext_getElem?
  intro i
  rcases Nat.lt_or_ge i 32 with hlt | hge
  · obtain ⟨a, h0, h256, hc⟩ := hcell i hlt
    have hg : cs.getD i undef = .int .u8 a := by rw [List.getD, hc]; rfl
    rw [hc]
    simp only [bc, List.map_map, List.getElem?_map, List.getElem?_range hlt, Option.map_some, Function.comp, hg, intOf]
    congr 2
    have h2 : (UInt8.ofNat a.toNat).toNat = a.toNat := by
      rw [UInt8.toNat_ofNat']; omega
    omega
  · rw [List.getElem?_eq_none (by omega), List.getElem?_eq_none (by simp [bc]; omega)]
theorem cells_digs {H : Type} {enc : TypeId × Value → H} {W : World} {fuel : Nat} {cs : List Value} {x : DataW H × List MemPlace}
    (hf : DataW.trod enc Tryd.prog W 0 (fun _ => true) true fuel 40 cs = some x) :
    ∃ (a : Option Addr) (n c : Nat) (E : Nat → List UInt8), cs = [.slice a n c] ∧ n ≤ c ∧ Ro W a n E := by
  rcases open_slice Tryd.underlying40 hf with ⟨hcs, _⟩ | ⟨a, len, cap, m, n, D, Pl, hcs, hb, hl, hm, hmm, hx, hall⟩
  · exact ⟨none, 0, 0, fun _ => zb, hcs, Nat.le_refl _, fun k hk => by omega, fun _ => rfl⟩
  · have hlm : len ≤ m := by rw [hmm]; split <;> omega
    have each : ∀ i, i < len → ∃ q : List UInt8, q.length = 32 ∧ ∀ j v, (bc q)[j]? = some v → W.cell? (a.add (i * 32 + j)) = some v := by
      intro i hi
      obtain ⟨cs', h1, h2⟩ := hall i (by omega)
      rw [cellsDg] at h1
      obtain ⟨_, hlen, hcell⟩ := World.cells?_some h1
      obtain ⟨l, hl32, rfl⟩ := cells_dg hlen h2
      refine ⟨l, hl32, fun j v hv => ?_⟩
      have hj : j < (bc l).length := by
        rcases Nat.lt_or_ge j (bc l).length with h | h
        · exact h
        · rw [List.getElem?_eq_none h] at hv; cases hv
      have e := hcell j (by omega)
      rw [add_add] at e
      rw [e, hv]
    obtain ⟨q, hq⟩ := choose_lt each
    refine ⟨some a, len, cap, fun i => if i < len then q i else zb, hcs, hl, fun k hk => ?_, fun k => ?_⟩
    · obtain ⟨b, off, spot⟩ := a
      have h0 := (hq 0 (by omega)).2 0 _ (bt_cell (d := q 0) (k := 0) (by rw [(hq 0 (by omega)).1]; omega))
      have hspot : spot = none := by simpa [Addr.add] using World.cell?_spot h0
      subst hspot
      refine ⟨b, off, rfl, ?_⟩
      simp only [if_pos hk]
      intro j v hv
      have := (hq k hk).2 j v hv
      have hadd : ∀ k, (⟨b, off, none⟩ : Addr).add k = ⟨b, off + k, none⟩ := fun k => by unfold Addr.add; split <;> simp_all
      rw [hadd] at this
      rw [Nat.add_assoc]
      exact this
    · show (if k < len then q k else zb).length = 32
      by_cases h : k < len
      · rw [if_pos h]; exact (hq k h).1
      · rw [if_neg h]; rfl
theorem cellsDgs : Tryd.prog.cellsOf 40 = 1 := by kernel_rfl
theorem cellsSig : Tryd.prog.cellsOf 42 = 3 := by kernel_rfl
/-- a signature that came in -/
theorem open_sig {H : Type} {enc : TypeId × Value → H} {W : World} {base : Nat} {v : Value} {d : DataW H} {p : List MemPlace}
    (hval : Value.okWide Tryd.prog W .any base 42 v) (h : DataW.Trod enc Tryd.prog W 0 (fun _ => true) true 42 v d p) :
    ∃ (idx : Int) (a : Option Addr) (np cp : Nat) (Pt : Nat → List UInt8) (b : Option Addr) (nq cq : Nat) (Q : Nat → List UInt8), v = .agg #[.int .i64 idx, .slice a np cp, .slice b nq cq] ∧ np ≤ cp ∧ Ro W a np Pt ∧ nq ≤ cq ∧ Ro W b nq Q := by
  obtain ⟨cs, rfl, hsz⟩ := okWide_struct Tryd.underlying42 hval
  rw [cellsSig] at hsz
  obtain ⟨fuel, hf⟩ := h
  obtain ⟨xs, k, hk, hxy, _, hxl, hff⟩ := DataW.trod_struct Tryd.underlying42 hf
  match xs, hxl with
  | [y0, y1, y2], _ =>
    have g0 := hff 0 _ rfl
    have g1 := hff 1 _ rfl
    have g2 := hff 2 _ rfl
    obtain ⟨cl⟩ := cs
    match cl, hsz with
    | [v0, v1, v2], _ =>
      simp [cellsInt, cellsDgs, Value.cells] at g0 g1 g2
      obtain ⟨z0, h0, _, w0⟩ := DataW.trod_int Tryd.underlying3 g0
      obtain ⟨a, np, cp, Pt, h1, hl1, hr1⟩ := cells_digs g1
      obtain ⟨b, nq, cq, Q, h2, hl2, hr2⟩ := cells_digs g2
      simp only [List.cons.injEq, and_true] at h0 h1 h2
      subst h0 h1 h2
      exact ⟨z0, a, np, cp, Pt, b, nq, cq, Q, rfl, hl1, hr1, hl2, hr2⟩

end
set_option maxRecDepth 100000 in
set_option maxHeartbeats 1000000 in
theorem vs_a (dp : List UInt8) (hdp : dp.length = 32) (many idx : Int) (am : Option Addr) (q capm : Nat) (ap : Option Addr) (np cp : Nat) (aq : Option Addr) (nq cq : Nat) (w : World) (hbig : (300 < q ∧ q ≤ 65536) ∨ 100 < np ∨ 100 < nq) :
    Calls Tryd.prog 5 #[arrV dp, .int .i64 many, .slice am q capm, .agg #[.int .i64 idx, .slice ap np cp, .slice aq nq cq]] w fun e w' => e = .returned (.bool true) ∧ Below w.heap.size w w' := by
  have HSane := Lib.hid (fun W => sane_any W)
  have HlD := Lib.hid (show (bc dp).length = 32 by rw [bc_len, hdp])
  have Hd := Lib.hid hbig
  unfold arrV
  obtain ⟨D, hD⟩ : ∃ D, bc dp = D := ⟨_, rfl⟩
  rw [hD] at HlD ⊢
  clear hdp hD hbig
  have h1 := (Blk.new w 26 D.toArray).alloc (.cells #[.int .i64 idx, .slice ap np cp, .slice aq nq cq] 42)
  have h2 := Blk.new (w.alloc (.cells D.toArray 26)) 42 #[.int .i64 idx, .slice ap np cp, .slice aq nq cq]
  rw [World.size_alloc] at h2
  have H1 := Lib.hid h1
  have H2 := Lib.hid h2
  have Hb := Lib.hid ((below_alloc w (.cells D.toArray 26)).alloc (by simp) (.cells #[.int .i64 idx, .slice ap np cp, .slice aq nq cq] 42))
  clear h1 h2
  go_enter Tryd.func5, Tryd.ntmps5
  go_wp2_with fail
  refine (HSane.out _).mono ?_
  rintro e w1 ⟨rfl, hb1⟩
  obtain ⟨c0, c1, c2, f0, f1, f2⟩ := cells3 (H2.out.below hb1 H2.out.lt)
  have H1w := Lib.hid (H1.out.below hb1 H1.out.lt)
  have H2w := Lib.hid (H2.out.below hb1 H2.out.lt)
  have Hb1 := Lib.hid (Hb.out.trans (hb1.mono Hb.out.size))
  clear hb1
  go_wp2_with (first | (exfalso; have := Hd.out; omega))
  all_goals
    first
      | (go_ret
         exact ⟨rfl, Hb1.out⟩)
      | (exfalso; have := Hd.out; omega)

set_option maxRecDepth 100000 in
set_option maxHeartbeats 1000000 in
theorem vs_b (dp : List UInt8) (hdp : dp.length = 32) (many idx : Int) (am : Option Addr) (q capm : Nat) (ap : Option Addr) (np cp : Nat) (aq : Option Addr) (nq cq : Nat) (w : World) (b : Bool) (hq : q ≤ 300) (hn : np ≤ 100) (hnq : nq ≤ 100)
    (hV : (∀ W, Below w.heap.size w W → Calls Tryd.prog 25 #[arrV dp, .int .i64 many, .slice am q capm, .agg #[.int .i64 idx, .slice ap np cp, .slice aq nq cq]] W fun e w' => e = .returned (.bool b) ∧ Below W.heap.size W w'))
    (hR : (∀ W, Below w.heap.size w W → Calls Tryd.prog 26 #[arrV dp, .int .i64 many, .slice am q capm, .agg #[.int .i64 idx, .slice ap np cp, .slice aq nq cq]] W fun e w' => e = .returned (.bool b) ∧ Below W.heap.size W w')) :
    Calls Tryd.prog 5 #[arrV dp, .int .i64 many, .slice am q capm, .agg #[.int .i64 idx, .slice ap np cp, .slice aq nq cq]] w fun e w' => e = .returned (.bool true) ∧ Below w.heap.size w w' := by
  have HSane := Lib.hid (fun W => sane_any W)
  have HlD := Lib.hid (show (bc dp).length = 32 by rw [bc_len, hdp])
  have i1 : ¬ (300 : Int) < (q : Int) := by omega
  have HV := Lib.hid hV
  have HR := Lib.hid hR
  have i3 : ¬ (100 : Int) < (np : Int) := by omega
  have i4 : ¬ (100 : Int) < (nq : Int) := by omega
  unfold arrV at HV HR ⊢
  obtain ⟨D, hD⟩ : ∃ D, bc dp = D := ⟨_, rfl⟩
  rw [hD] at HlD HV HR ⊢
  clear hdp hD hV hR hn hnq hq
  have h1 := (Blk.new w 26 D.toArray).alloc (.cells #[.int .i64 idx, .slice ap np cp, .slice aq nq cq] 42)
  have h2 := Blk.new (w.alloc (.cells D.toArray 26)) 42 #[.int .i64 idx, .slice ap np cp, .slice aq nq cq]
  rw [World.size_alloc] at h2
  have H1 := Lib.hid h1
  have H2 := Lib.hid h2
  have Hb := Lib.hid ((below_alloc w (.cells D.toArray 26)).alloc (by simp) (.cells #[.int .i64 idx, .slice ap np cp, .slice aq nq cq] 42))
  clear h1 h2
  go_enter Tryd.func5, Tryd.ntmps5
  go_wp2_with fail
  refine (HSane.out _).mono ?_
  rintro e w1 ⟨rfl, hb1⟩
  obtain ⟨c0, c1, c2, f0, f1, f2⟩ := cells3 (H2.out.below hb1 H2.out.lt)
  have H1w := Lib.hid (H1.out.below hb1 H1.out.lt)
  have H2w := Lib.hid (H2.out.below hb1 H2.out.lt)
  have Hb1 := Lib.hid (Hb.out.trans (hb1.mono Hb.out.size))
  clear hb1
  go_wp2_with fail
  clear c0 c1 c2 f0 f1 f2
  refine wp_region_held_drew (S := fun W => Below w1.heap.size w1 W) (by kernel_rfl) (Below.refl _ _).drew (fun hHeld => ?_)
  refine wpAnyH_take (i := 0) (oi := { dst := some 31, op := Op.load 26 (Operand.tmp 4), type := 26, pos := "law.go:85", after := #[], guard := none }) rfl (by kernel_rfl) (by kernel_rfl) (by kernel_rfl) (fun _ _ _ h => h) (yieldsIf_load_mid (by rfl) _ _ rfl w.heap.size _ rfl D _ (fun W h => (H1w.out.below h H1w.out.lt).range) Tryd.underlying26 rfl (by rw [HlD.out]; exact infoDg)) hHeld ?_
  try simp only [Act.put, List.setIfInBounds_toArray, List.set_cons_zero, List.set_cons_succ]
  refine wpAnyH_take (i := 1) (oi := { dst := some 32, op := Op.move (Operand.tmp 1), type := 3, pos := "law.go:85", after := #[], guard := none }) (v := ?_) rfl (by kernel_rfl) (by kernel_rfl) (by kernel_rfl) (fun _ _ _ h => h) (Or.inl ⟨by rfl, ?_⟩) hHeld ?_
  rotate_left
  · intro W hSw
    clear hSw
    go_simp
    try with_reducible rfl
  try simp only [Act.put, List.setIfInBounds_toArray, List.set_cons_zero, List.set_cons_succ]
  refine wpAnyH_take (i := 2) (oi := { dst := some 33, op := Op.move (Operand.tmp 2), type := 22, pos := "law.go:85", after := #[], guard := none }) (v := ?_) rfl (by kernel_rfl) (by kernel_rfl) (by kernel_rfl) (fun _ _ _ h => h) (Or.inl ⟨by rfl, ?_⟩) hHeld ?_
  rotate_left
  · intro W hSw
    clear hSw
    go_simp
    try with_reducible rfl
  try simp only [Act.put, List.setIfInBounds_toArray, List.set_cons_zero, List.set_cons_succ]
  refine wpAnyH_take (i := 3) (oi := { dst := some 34, op := Op.load 42 (Operand.tmp 7), type := 42, pos := "law.go:85", after := #[], guard := none }) (v := ?_) rfl (by kernel_rfl) (by kernel_rfl) (by kernel_rfl) (fun _ _ _ h => h) (Or.inl ⟨by rfl, ?_⟩) hHeld ?_
  rotate_left
  · intro W hSw
    obtain ⟨t0, t1, t2, _, _, _⟩ := cells3 (H2w.out.below hSw H2w.out.lt)
    clear hSw
    go_simp
    try with_reducible rfl
  try simp only [Act.put, List.setIfInBounds_toArray, List.set_cons_zero, List.set_cons_succ]
  refine wpAnyH_take (i := 5) (oi := { dst := some 36, op := Op.load 26 (Operand.tmp 4), type := 26, pos := "law.go:85", after := #[], guard := none }) rfl (by kernel_rfl) (by kernel_rfl) (by kernel_rfl) (fun _ _ _ h => h) (yieldsIf_load_mid (by rfl) _ _ rfl w.heap.size _ rfl D _ (fun W h => (H1w.out.below h H1w.out.lt).range) Tryd.underlying26 rfl (by rw [HlD.out]; exact infoDg)) hHeld ?_
  try simp only [Act.put, List.setIfInBounds_toArray, List.set_cons_zero, List.set_cons_succ]
  refine wpAnyH_take (i := 6) (oi := { dst := some 37, op := Op.move (Operand.tmp 1), type := 3, pos := "law.go:85", after := #[], guard := none }) (v := ?_) rfl (by kernel_rfl) (by kernel_rfl) (by kernel_rfl) (fun _ _ _ h => h) (Or.inl ⟨by rfl, ?_⟩) hHeld ?_
  rotate_left
  · intro W hSw
    clear hSw
    go_simp
    try with_reducible rfl
  try simp only [Act.put, List.setIfInBounds_toArray, List.set_cons_zero, List.set_cons_succ]
  refine wpAnyH_take (i := 7) (oi := { dst := some 38, op := Op.move (Operand.tmp 2), type := 22, pos := "law.go:85", after := #[], guard := none }) (v := ?_) rfl (by kernel_rfl) (by kernel_rfl) (by kernel_rfl) (fun _ _ _ h => h) (Or.inl ⟨by rfl, ?_⟩) hHeld ?_
  rotate_left
  · intro W hSw
    clear hSw
    go_simp
    try with_reducible rfl
  try simp only [Act.put, List.setIfInBounds_toArray, List.set_cons_zero, List.set_cons_succ]
  refine wpAnyH_take (i := 8) (oi := { dst := some 39, op := Op.load 42 (Operand.tmp 7), type := 42, pos := "law.go:85", after := #[], guard := none }) (v := ?_) rfl (by kernel_rfl) (by kernel_rfl) (by kernel_rfl) (fun _ _ _ h => h) (Or.inl ⟨by rfl, ?_⟩) hHeld ?_
  rotate_left
  · intro W hSw
    obtain ⟨t0, t1, t2, _, _, _⟩ := cells3 (H2w.out.below hSw H2w.out.lt)
    clear hSw
    go_simp
    try with_reducible rfl
  try simp only [Act.put, List.setIfInBounds_toArray, List.set_cons_zero, List.set_cons_succ]
  refine wpAnyH_ready (rs := [4]) (by kernel_rfl) (by simp) ?_
  refine AllReadyH.cons (o := { dst := some 35, op := Op.call { callee := Callee.value (Operand.func 25), args := #[Operand.tmp 31, Operand.tmp 32, Operand.tmp 33, Operand.tmp 34], argTypes := #[26, 3, 22, 42] }, type := 4, pos := "law.go:85", after := #[{ on := 0, ground := Ground.data }, { on := 1, ground := Ground.data }, { on := 2, ground := Ground.data }, { on := 3, ground := Ground.data }], guard := none }) rfl (fun K hK => ?_) ?_
  · go_simp
    go_at_call 25
    refine (HV.out _ (Hb1.out.trans (hHeld.mono Hb1.out.size))).mono ?_
    rintro e w8 ⟨rfl, hb8⟩
    refine hK.out _ _ (hHeld.trans (hb8.mono hHeld.size)) (fun hHeld => ?_)
    clear hb8
    clear hK K
    try simp only [Act.put, List.setIfInBounds_toArray, List.set_cons_zero, List.set_cons_succ]
    refine wpAnyH_ready (rs := [9]) (by kernel_rfl) (by simp) ?_
    refine AllReadyH.cons (o := { dst := some 40, op := Op.call { callee := Callee.value (Operand.func 26), args := #[Operand.tmp 36, Operand.tmp 37, Operand.tmp 38, Operand.tmp 39], argTypes := #[26, 3, 22, 42] }, type := 4, pos := "law.go:85", after := #[{ on := 5, ground := Ground.data }, { on := 6, ground := Ground.data }, { on := 7, ground := Ground.data }, { on := 8, ground := Ground.data }, { on := 4, ground := Ground.chain }], guard := none }) rfl (fun K hK => ?_) ?_
    · go_simp
      go_at_call 26
      refine (HR.out _ (Hb1.out.trans (hHeld.mono Hb1.out.size))).mono ?_
      rintro e w8 ⟨rfl, hb8⟩
      refine hK.out _ _ (hHeld.trans (hb8.mono hHeld.size)) (fun hHeld => ?_)
      clear hb8
      clear hK K
      try simp only [Act.put, List.setIfInBounds_toArray, List.set_cons_zero, List.set_cons_succ]
      refine wpAnyH_ready (rs := [10]) (by kernel_rfl) (by simp) ?_
      refine AllReadyH.cons (o := { dst := some 41, op := Op.binOp BinOp.eql 4 (Operand.tmp 35) (Operand.tmp 40) 4, type := 4, pos := "law.go:85", after := #[{ on := 4, ground := Ground.data }, { on := 9, ground := Ground.data }], guard := none }) rfl (fun K hK => ?_) ?_
      · go_simp
        refine hK.out _ _ hHeld (fun hHeld => ?_)
        clear hK K
        try simp only [Act.put, List.setIfInBounds_toArray, List.set_cons_zero, List.set_cons_succ]
        refine wpAnyH_ready (rs := [11]) (by kernel_rfl) (by simp) ?_
        refine AllReadyH.cons (o := { dst := some 8, op := Op.assign (Operand.tmp 41), type := 4, pos := "law.go:85", after := #[{ on := 10, ground := Ground.data }, { on := 9, ground := Ground.chain }, { on := 0, ground := Ground.phase }, { on := 1, ground := Ground.phase }, { on := 2, ground := Ground.phase }, { on := 3, ground := Ground.phase }, { on := 4, ground := Ground.phase }, { on := 5, ground := Ground.phase }, { on := 6, ground := Ground.phase }, { on := 7, ground := Ground.phase }, { on := 8, ground := Ground.phase }, { on := 9, ground := Ground.phase }, { on := 10, ground := Ground.phase }], guard := none }) rfl (fun K hK => ?_) ?_
        · go_simp
          refine hK.out _ _ hHeld (fun hHeld => ?_)
          clear hK K
          try simp only [Act.put, List.setIfInBounds_toArray, List.set_cons_zero, List.set_cons_succ]
          have Hb9 := Lib.hid (Hb1.out.trans (hHeld.mono Hb1.out.size))
          clear hHeld
          refine wpAnyH_done (by kernel_rfl) ?_ _
          go_wp2_with fail
          go_ret
          exact ⟨rfl, Hb9.out⟩
        exact AllReadyH.nil
      exact AllReadyH.nil
    exact AllReadyH.nil
  exact AllReadyH.nil

set_option maxRecDepth 100000 in
set_option maxHeartbeats 1000000 in
theorem vs_c (dp : List UInt8) (hdp : dp.length = 32) (many idx : Int) (am : Option Addr) (q capm : Nat) (ap : Option Addr) (np cp : Nat) (aq : Option Addr) (nq cq : Nat) (w : World) (b : Bool) (hq : 65536 < q) (hn : np ≤ 100) (hnq : nq ≤ 100)
    (hV : (∀ W, Below w.heap.size w W → Calls Tryd.prog 25 #[arrV dp, .int .i64 many, .slice am q capm, .agg #[.int .i64 idx, .slice ap np cp, .slice aq nq cq]] W fun e w' => e = .returned (.bool b) ∧ Below W.heap.size W w'))
    (hR : (∀ W, Below w.heap.size w W → Calls Tryd.prog 26 #[arrV dp, .int .i64 many, .slice am q capm, .agg #[.int .i64 idx, .slice ap np cp, .slice aq nq cq]] W fun e w' => e = .returned (.bool b) ∧ Below W.heap.size W w')) :
    Calls Tryd.prog 5 #[arrV dp, .int .i64 many, .slice am q capm, .agg #[.int .i64 idx, .slice ap np cp, .slice aq nq cq]] w fun e w' => e = .returned (.bool true) ∧ Below w.heap.size w w' := by
  have HSane := Lib.hid (fun W => sane_any W)
  have HlD := Lib.hid (show (bc dp).length = 32 by rw [bc_len, hdp])
  have i1 : (300 : Int) < (q : Int) := by omega
  have i2 : ¬ (q : Int) ≤ 65536 := by omega
  have HV := Lib.hid hV
  have HR := Lib.hid hR
  have i3 : ¬ (100 : Int) < (np : Int) := by omega
  have i4 : ¬ (100 : Int) < (nq : Int) := by omega
  unfold arrV at HV HR ⊢
  obtain ⟨D, hD⟩ : ∃ D, bc dp = D := ⟨_, rfl⟩
  rw [hD] at HlD HV HR ⊢
  clear hdp hD hV hR hn hnq hq
  have h1 := (Blk.new w 26 D.toArray).alloc (.cells #[.int .i64 idx, .slice ap np cp, .slice aq nq cq] 42)
  have h2 := Blk.new (w.alloc (.cells D.toArray 26)) 42 #[.int .i64 idx, .slice ap np cp, .slice aq nq cq]
  rw [World.size_alloc] at h2
  have H1 := Lib.hid h1
  have H2 := Lib.hid h2
  have Hb := Lib.hid ((below_alloc w (.cells D.toArray 26)).alloc (by simp) (.cells #[.int .i64 idx, .slice ap np cp, .slice aq nq cq] 42))
  clear h1 h2
  go_enter Tryd.func5, Tryd.ntmps5
  go_wp2_with fail
  refine (HSane.out _).mono ?_
  rintro e w1 ⟨rfl, hb1⟩
  obtain ⟨c0, c1, c2, f0, f1, f2⟩ := cells3 (H2.out.below hb1 H2.out.lt)
  have H1w := Lib.hid (H1.out.below hb1 H1.out.lt)
  have H2w := Lib.hid (H2.out.below hb1 H2.out.lt)
  have Hb1 := Lib.hid (Hb.out.trans (hb1.mono Hb.out.size))
  clear hb1
  go_wp2_with fail
  clear c0 c1 c2 f0 f1 f2
  refine wp_region_held_drew (S := fun W => Below w1.heap.size w1 W) (by kernel_rfl) (Below.refl _ _).drew (fun hHeld => ?_)
  refine wpAnyH_take (i := 0) (oi := { dst := some 31, op := Op.load 26 (Operand.tmp 4), type := 26, pos := "law.go:85", after := #[], guard := none }) rfl (by kernel_rfl) (by kernel_rfl) (by kernel_rfl) (fun _ _ _ h => h) (yieldsIf_load_mid (by rfl) _ _ rfl w.heap.size _ rfl D _ (fun W h => (H1w.out.below h H1w.out.lt).range) Tryd.underlying26 rfl (by rw [HlD.out]; exact infoDg)) hHeld ?_
  try simp only [Act.put, List.setIfInBounds_toArray, List.set_cons_zero, List.set_cons_succ]
  refine wpAnyH_take (i := 1) (oi := { dst := some 32, op := Op.move (Operand.tmp 1), type := 3, pos := "law.go:85", after := #[], guard := none }) (v := ?_) rfl (by kernel_rfl) (by kernel_rfl) (by kernel_rfl) (fun _ _ _ h => h) (Or.inl ⟨by rfl, ?_⟩) hHeld ?_
  rotate_left
  · intro W hSw
    clear hSw
    go_simp
    try with_reducible rfl
  try simp only [Act.put, List.setIfInBounds_toArray, List.set_cons_zero, List.set_cons_succ]
  refine wpAnyH_take (i := 2) (oi := { dst := some 33, op := Op.move (Operand.tmp 2), type := 22, pos := "law.go:85", after := #[], guard := none }) (v := ?_) rfl (by kernel_rfl) (by kernel_rfl) (by kernel_rfl) (fun _ _ _ h => h) (Or.inl ⟨by rfl, ?_⟩) hHeld ?_
  rotate_left
  · intro W hSw
    clear hSw
    go_simp
    try with_reducible rfl
  try simp only [Act.put, List.setIfInBounds_toArray, List.set_cons_zero, List.set_cons_succ]
  refine wpAnyH_take (i := 3) (oi := { dst := some 34, op := Op.load 42 (Operand.tmp 7), type := 42, pos := "law.go:85", after := #[], guard := none }) (v := ?_) rfl (by kernel_rfl) (by kernel_rfl) (by kernel_rfl) (fun _ _ _ h => h) (Or.inl ⟨by rfl, ?_⟩) hHeld ?_
  rotate_left
  · intro W hSw
    obtain ⟨t0, t1, t2, _, _, _⟩ := cells3 (H2w.out.below hSw H2w.out.lt)
    clear hSw
    go_simp
    try with_reducible rfl
  try simp only [Act.put, List.setIfInBounds_toArray, List.set_cons_zero, List.set_cons_succ]
  refine wpAnyH_take (i := 5) (oi := { dst := some 36, op := Op.load 26 (Operand.tmp 4), type := 26, pos := "law.go:85", after := #[], guard := none }) rfl (by kernel_rfl) (by kernel_rfl) (by kernel_rfl) (fun _ _ _ h => h) (yieldsIf_load_mid (by rfl) _ _ rfl w.heap.size _ rfl D _ (fun W h => (H1w.out.below h H1w.out.lt).range) Tryd.underlying26 rfl (by rw [HlD.out]; exact infoDg)) hHeld ?_
  try simp only [Act.put, List.setIfInBounds_toArray, List.set_cons_zero, List.set_cons_succ]
  refine wpAnyH_take (i := 6) (oi := { dst := some 37, op := Op.move (Operand.tmp 1), type := 3, pos := "law.go:85", after := #[], guard := none }) (v := ?_) rfl (by kernel_rfl) (by kernel_rfl) (by kernel_rfl) (fun _ _ _ h => h) (Or.inl ⟨by rfl, ?_⟩) hHeld ?_
  rotate_left
  · intro W hSw
    clear hSw
    go_simp
    try with_reducible rfl
  try simp only [Act.put, List.setIfInBounds_toArray, List.set_cons_zero, List.set_cons_succ]
  refine wpAnyH_take (i := 7) (oi := { dst := some 38, op := Op.move (Operand.tmp 2), type := 22, pos := "law.go:85", after := #[], guard := none }) (v := ?_) rfl (by kernel_rfl) (by kernel_rfl) (by kernel_rfl) (fun _ _ _ h => h) (Or.inl ⟨by rfl, ?_⟩) hHeld ?_
  rotate_left
  · intro W hSw
    clear hSw
    go_simp
    try with_reducible rfl
  try simp only [Act.put, List.setIfInBounds_toArray, List.set_cons_zero, List.set_cons_succ]
  refine wpAnyH_take (i := 8) (oi := { dst := some 39, op := Op.load 42 (Operand.tmp 7), type := 42, pos := "law.go:85", after := #[], guard := none }) (v := ?_) rfl (by kernel_rfl) (by kernel_rfl) (by kernel_rfl) (fun _ _ _ h => h) (Or.inl ⟨by rfl, ?_⟩) hHeld ?_
  rotate_left
  · intro W hSw
    obtain ⟨t0, t1, t2, _, _, _⟩ := cells3 (H2w.out.below hSw H2w.out.lt)
    clear hSw
    go_simp
    try with_reducible rfl
  try simp only [Act.put, List.setIfInBounds_toArray, List.set_cons_zero, List.set_cons_succ]
  refine wpAnyH_ready (rs := [4]) (by kernel_rfl) (by simp) ?_
  refine AllReadyH.cons (o := { dst := some 35, op := Op.call { callee := Callee.value (Operand.func 25), args := #[Operand.tmp 31, Operand.tmp 32, Operand.tmp 33, Operand.tmp 34], argTypes := #[26, 3, 22, 42] }, type := 4, pos := "law.go:85", after := #[{ on := 0, ground := Ground.data }, { on := 1, ground := Ground.data }, { on := 2, ground := Ground.data }, { on := 3, ground := Ground.data }], guard := none }) rfl (fun K hK => ?_) ?_
  · go_simp
    go_at_call 25
    refine (HV.out _ (Hb1.out.trans (hHeld.mono Hb1.out.size))).mono ?_
    rintro e w8 ⟨rfl, hb8⟩
    refine hK.out _ _ (hHeld.trans (hb8.mono hHeld.size)) (fun hHeld => ?_)
    clear hb8
    clear hK K
    try simp only [Act.put, List.setIfInBounds_toArray, List.set_cons_zero, List.set_cons_succ]
    refine wpAnyH_ready (rs := [9]) (by kernel_rfl) (by simp) ?_
    refine AllReadyH.cons (o := { dst := some 40, op := Op.call { callee := Callee.value (Operand.func 26), args := #[Operand.tmp 36, Operand.tmp 37, Operand.tmp 38, Operand.tmp 39], argTypes := #[26, 3, 22, 42] }, type := 4, pos := "law.go:85", after := #[{ on := 5, ground := Ground.data }, { on := 6, ground := Ground.data }, { on := 7, ground := Ground.data }, { on := 8, ground := Ground.data }, { on := 4, ground := Ground.chain }], guard := none }) rfl (fun K hK => ?_) ?_
    · go_simp
      go_at_call 26
      refine (HR.out _ (Hb1.out.trans (hHeld.mono Hb1.out.size))).mono ?_
      rintro e w8 ⟨rfl, hb8⟩
      refine hK.out _ _ (hHeld.trans (hb8.mono hHeld.size)) (fun hHeld => ?_)
      clear hb8
      clear hK K
      try simp only [Act.put, List.setIfInBounds_toArray, List.set_cons_zero, List.set_cons_succ]
      refine wpAnyH_ready (rs := [10]) (by kernel_rfl) (by simp) ?_
      refine AllReadyH.cons (o := { dst := some 41, op := Op.binOp BinOp.eql 4 (Operand.tmp 35) (Operand.tmp 40) 4, type := 4, pos := "law.go:85", after := #[{ on := 4, ground := Ground.data }, { on := 9, ground := Ground.data }], guard := none }) rfl (fun K hK => ?_) ?_
      · go_simp
        refine hK.out _ _ hHeld (fun hHeld => ?_)
        clear hK K
        try simp only [Act.put, List.setIfInBounds_toArray, List.set_cons_zero, List.set_cons_succ]
        refine wpAnyH_ready (rs := [11]) (by kernel_rfl) (by simp) ?_
        refine AllReadyH.cons (o := { dst := some 8, op := Op.assign (Operand.tmp 41), type := 4, pos := "law.go:85", after := #[{ on := 10, ground := Ground.data }, { on := 9, ground := Ground.chain }, { on := 0, ground := Ground.phase }, { on := 1, ground := Ground.phase }, { on := 2, ground := Ground.phase }, { on := 3, ground := Ground.phase }, { on := 4, ground := Ground.phase }, { on := 5, ground := Ground.phase }, { on := 6, ground := Ground.phase }, { on := 7, ground := Ground.phase }, { on := 8, ground := Ground.phase }, { on := 9, ground := Ground.phase }, { on := 10, ground := Ground.phase }], guard := none }) rfl (fun K hK => ?_) ?_
        · go_simp
          refine hK.out _ _ hHeld (fun hHeld => ?_)
          clear hK K
          try simp only [Act.put, List.setIfInBounds_toArray, List.set_cons_zero, List.set_cons_succ]
          have Hb9 := Lib.hid (Hb1.out.trans (hHeld.mono Hb1.out.size))
          clear hHeld
          refine wpAnyH_done (by kernel_rfl) ?_ _
          go_wp2_with fail
          go_ret
          exact ⟨rfl, Hb9.out⟩
        exact AllReadyH.nil
      exact AllReadyH.nil
    exact AllReadyH.nil
  exact AllReadyH.nil

theorem vs_any (dp : List UInt8) (hdp : dp.length = 32) (many idx : Int) (msg : List UInt8) (q : Nat) (hq : msg.length = q) (am : Option Addr) (capm : Nat) (ap : Option Addr) (np cp : Nat) (Pt : Nat → List UInt8) (aq : Option Addr) (nq cq : Nat) (Q : Nat → List UInt8)
    (hcp : np ≤ cp) (hcq : nq ≤ cq) (w : World) (hy : Sl w 1 (.slice am q capm) q (bc msg)) (hp : Ro w ap np Pt) (hx : Ro w aq nq Q) (hT : Tabs w) :
    Calls Tryd.prog 5 #[arrV dp, .int .i64 many, .slice am q capm, .agg #[.int .i64 idx, .slice ap np cp, .slice aq nq cq]] w fun e w' => e = .returned (.bool true) ∧ Below w.heap.size w w' := by
  by_cases hbig : (300 < q ∧ q ≤ 65536) ∨ 100 < np ∨ 100 < nq
  · exact vs_a dp hdp many idx am q capm ap np cp aq nq cq w hbig
  · have hgo : ∀ b, (∀ W, Below w.heap.size w W → Calls Tryd.prog 25 #[arrV dp, .int .i64 many, .slice am q capm, .agg #[.int .i64 idx, .slice ap np cp, .slice aq nq cq]] W fun e w' => e = .returned (.bool b) ∧ Below W.heap.size W w') →
        (∀ W, Below w.heap.size w W → Calls Tryd.prog 26 #[arrV dp, .int .i64 many, .slice am q capm, .agg #[.int .i64 idx, .slice ap np cp, .slice aq nq cq]] W fun e w' => e = .returned (.bool b) ∧ Below W.heap.size W w') →
        Calls Tryd.prog 5 #[arrV dp, .int .i64 many, .slice am q capm, .agg #[.int .i64 idx, .slice ap np cp, .slice aq nq cq]] w fun e w' => e = .returned (.bool true) ∧ Below w.heap.size w w' := fun b h1 h2 => by
      by_cases h : q ≤ 300
      · exact vs_b dp hdp many idx am q capm ap np cp aq nq cq w b h (by omega) (by omega) h1 h2
      · exact vs_c dp hdp many idx am q capm ap np cp aq nq cq w b (by omega) (by omega) (by omega) h1 h2
    cases hv : vfyB many idx np q
    · exact hgo false (fun W _ => verify_bad (bc dp).toArray many idx am q capm ap np cp aq nq cq W hv) (fun W _ => rverify_bad (bc dp).toArray many idx am q capm ap np cp aq nq cq W hv)
    · have hv' := of_decide_eq_true hv
      obtain ⟨m, rfl⟩ : ∃ m : Nat, many = (m : Int) := ⟨many.toNat, by omega⟩
      obtain ⟨ix, rfl⟩ : ∃ ix : Nat, idx = (ix : Int) := ⟨idx.toNat, by omega⟩
      obtain rfl : np = 67 := by omega
      obtain ⟨g, po, rfl, _⟩ := hp.1 0 (by omega)
      have hr : ∀ W, Below w.heap.size w W → ∀ j, j < 67 → W.rangeAt g (po + j * 32) (bc (Pt j)) := fun W hb j hj => by
        obtain ⟨g', o', e, h⟩ := (hp.next hb).1 j hj
        cases e; exact h
      exact hgo _ (fun W hb => verify_gen dp hdp m (by omega) (by omega) ix (by omega) msg q hq (by omega) am capm Pt hp.2 g po cp aq nq cq W (hy.next hb) (hr W hb) (hT.next hb) Q hcq (hx.next hb))
        (fun W hb => rverify_gen dp hdp m (by omega) (by omega) ix (by omega) msg q hq (by omega) am capm Pt hp.2 g po cp aq nq cq W hcp (hy.next hb) (hr W hb) Q hcq (hx.next hb))
end Go.Proofs.YtiloaheaglcpbaaDoor
