/- Signing: Verify of the reference at a signature of the right shape. -/
import Derived.Test.YtiloaheaglcpbaaDoorSgQ8
namespace Go.Proofs.YtiloaheaglcpbaaDoor
open Go.RowKit

/-- append onto a row of the call's own, whatever the size of an element: as one step of a region that draws -/
theorem step_app_rows2 {P : Program} {ops : Array Oper} {o : Oper} {a : Act} {w : World} {K : Act → World → Prop} {Q : Exit → Act → World → Prop} {E : Prop}
    (hgd : o.guard = none) (s x : Operand) (t : TypeId) (ho : o.op = .call { callee := .builtin .append, args := #[s, x], argTypes := #[t, t] })
    (base : Nat) (e : TypeId) (i : TypeInfo) (z : Value) (size bytes : Nat) (ht : P.underlying t = some (.slice e)) (hi : P.info? e = some i) (hz : i.zero = some z)
    (hsize : i.size = size) (hby : i.bytes = bytes) (hzs : z.cells.size = size) (hsz : 0 < size)
    (gv n cv : Nat) (xs : List Value) (hs : a.eval s = .slice (some ⟨gv, 0, none⟩) n cv) (hown : w.ownsRow base e size (.slice (some ⟨gv, 0, none⟩) n cv) n xs)
    (ao : Option Addr) (k c : Nat) (ys : List Value) (hx : a.eval x = .slice ao k c) (hl : ys.length = k * size) (hy : ∀ ad, ao = some ad → ∀ j u, ys[j]? = some u → w.cell? (ad.add j) = some u) (hn : ao = none → k = 0)
    (h1 : ∀ u ∈ ys, u.oneCell' = true) (m : Nat) (hm : n + k = m) (h63 : m ≤ maxLen) (hb : m * bytes ≤ 140737488355328) (hbase : base ≤ w.heap.size)
    (hK : ∀ g cap w', w'.ownsRow base e size (.slice (some ⟨g, 0, none⟩) m cap) m (xs ++ ys) → w.grownBy w' (some gv) → K (a.put o.dst (.slice (some ⟨g, 0, none⟩) m cap)) w') :
    if Region.wanted o (yielded ops a.tmps) = true then Oper.wp P o a w K Q else E := by
  have hw : Region.wanted o (yielded ops a.tmps) = true := by simp [Region.wanted, hgd]
  rw [if_pos hw]
  subst hm
  cases ao with
  | none =>
    obtain rfl := hn rfl
    have hy0 : ys = [] := List.eq_nil_of_length_eq_zero (by rw [hl, Nat.zero_mul])
    subst hy0
    have hr : (Builtin.append_ #[t, t] o.type #[.slice (some ⟨gv, 0, none⟩) n cv, .slice none 0 c]).run P w = .ok (.slice (some ⟨gv, 0, none⟩) n cv) w := by
      have hnc : n ≤ cv := by
        rcases hown.2 with ⟨h, _⟩ | ⟨g, cap, cur, h, _, _, hnc, _⟩
        · cases h
        · cases h; exact hnc
      simp [Builtin.append_, run_underlying ht, sizeOf, typeInfo, hi, Builtin.lenOf, Builtin.firstCells, hnc, storeCells]
    unfold Oper.wp execOp
    simp only [ho, resolve, invoke, builtin, Sem.run_bind, Sem.run_pure, Result.andThen_ok, List.map_toArray, List.map_cons, List.map_nil, hs, hx, hr]
    exact hK gv cv w (by simpa using hown) (World.grownBy.refl _ _)
  | some ad =>
    obtain ⟨v', w', hr, h2, h3, h4⟩ := run_append_own (P := P) w base t o.type e i z size bytes ht hi hz hsize hby hzs hsz (.slice (some ⟨gv, 0, none⟩) n cv) n xs hown ad k c ys hl (hy ad rfl) h1 h63 hb hbase
    obtain ⟨g, cap, rfl⟩ : ∃ g cap, v' = .slice (some ⟨g, 0, none⟩) (n + k) cap := by
      rcases h2.2 with ⟨rfl, he⟩ | ⟨g, cap, cur, rfl, _⟩
      · have := (h4.1 rfl).1; cases this
      · exact ⟨g, cap, rfl⟩
    unfold Oper.wp execOp
    simp only [ho, resolve, invoke, builtin, Sem.run_bind, Sem.run_pure, Result.andThen_ok, List.map_toArray, List.map_cons, List.map_nil, hs, hx, hr]
    exact hK g cap w' h2 h3
theorem alloc_there {B : Nat} {w0 W : World} {t : TypeId} {cs : Array Value} (_h : Below B w0 (W.alloc (.cells cs t))) (hn : cs.size = 32) : (W.alloc (.cells cs t)).there W.heap.size 0 32 ∧ W.heap.size < (W.alloc (.cells cs t)).heap.size :=
  ⟨there_blk (Blk.new W t cs) hn, (Blk.new W t cs).lt⟩
theorem alloc_there_drew {B : Nat} {w0 W : World} {t : TypeId} {cs : Array Value} (_h : Below B w0 (W.alloc (.cells cs t)).drew) (hn : cs.size = 32) : (W.alloc (.cells cs t)).drew.there W.heap.size 0 32 ∧ W.heap.size < (W.alloc (.cells cs t)).drew.heap.size :=
  ⟨by simp only [World.there_drew]; exact there_blk (Blk.new W t cs) hn, (Blk.new W t cs).lt⟩
/-- a load of a whole row out of the middle of a block, under a guard that holds -/
theorem wpList_load_mid_g {P : Program} {ops : Array Oper} {rest : List Oper} {op : Oper} {a : Act} {w : World} {Q : Exit → Act → World → Prop} (hw : Region.wanted op (yielded ops a.tmps) = true) (ty : TypeId) (x : Operand) (ho : op.op = .load ty x)
    (b o : Nat) (hx : a.eval x = .pointer (some ⟨b, o, none⟩)) (cs : List Value) (d : TypeDesc) (hc : w.rangeAt b o cs)
    (hu : P.underlying ty = some d) (hd : d.isRow = true) (hi : (P.info? ty).map (·.size) = some cs.length)
    (h : wpList P ops Q rest (a.put op.dst (.agg cs.toArray)) w) : wpList P ops Q (op :: rest) a w := by
  unfold wpList
  rw [if_pos hw]
  exact .inl (wp_load_mid ty x ho b o hx cs d hc hu hd hi h)

set_option maxRecDepth 100000 in
set_option maxHeartbeats 1000000 in
theorem rverify_any (dp : List UInt8) (hdp : dp.length = 32) (m : Nat) (h1 : 1 ≤ m) (h2 : m ≤ 256) (ix : Nat) (hix : ix < m) (msg : List UInt8) (q : Nat) (hq : msg.length = q) (hq9 : q ≤ 65536) (am : Option Addr) (capm : Nat)
    (Pt : Nat → List UInt8) (hP : ∀ j, (Pt j).length = 32) (g po cap : Nat) (pa : Option Addr) (pn pcap : Nat) (w : World) (_hcap : 67 ≤ cap) (hy : Sl w 1 (.slice am q capm) q (bc msg)) (hr : ∀ j, j < 67 → w.rangeAt g (po + j * 32) (bc (Pt j)))
    (X : List UInt8) (hX : X.length = 32) (hC : ∀ W, Below w.heap.size w W → Calls Tryd.prog 48 #[arrV (opub fun j => flw ix j (Pt j) (dig (mh dp ix msg) j) (15 - dig (mh dp ix msg) j)), .int .i64 (ix : Int), .int .i64 (m : Int), .slice pa pn pcap] W fun e w' => e = .returned (.tuple #[arrV X, .int .i64 0]) ∧ Below W.heap.size W w') :
    Calls Tryd.prog 26 #[arrV dp, .int .i64 (m : Int), .slice am q capm, .agg #[.int .i64 (ix : Int), .slice (some ⟨g, po, none⟩) 67 cap, .slice pa pn pcap]] w fun e w' => e = .returned (.bool (decide (X = dp))) ∧ Below w.heap.size w w' := by
  obtain ⟨iu, hiu, hu0, hu1, hu2⟩ := info_parts infoD32
  have hlt : g < w.heap.size := by
    have := hr 0 (by omega) 0 _ (by rw [bt_cell (d := Pt 0) (k := 0) (by rw [hP]; omega)])
    exact World.block_lt_of_cell? w _ this
  have HMH := Lib.hid (fun W (hb : Below w.heap.size w W) => rhash_any dp hdp ix (by omega) msg q hq (by omega) am capm W (hy.next hb))
  have HDG := Lib.hid (fun W => rdigits_any (mh dp ix msg) (mh_len _ _ _) W)
  have HRp := Lib.hid (fun j (hj : j < 67) W (hb : Below w.heap.size w W) => rangeAt_below (hr j hj) hb hlt)
  have HCl := Lib.hid (fun j (hj : j < 67) W => rclimb_any (Pt j) (hP j) ix j (dig (mh dp ix msg) j) 15 (by omega) (by omega) (by omega) W)
  have HPl := Lib.hid hP
  have HdC := Lib.hid (digC_size (mh dp ix msg))
  have Hl1 := Lib.hid (show (bc dp).length = 32 by rw [bc_len, hdp])
  have HC := Lib.hid hC
  have HlX := Lib.hid (show (bc X).length = 32 by rw [bc_len, hX])
  have HoX := Lib.hid (bc_one X)
  have Heq := Lib.hid (fun W => eq_dg W X dp hX hdp)
  unfold arrV at HMH HDG HC Heq
  obtain ⟨DX, hDX⟩ : ∃ D, bc X = D := ⟨_, rfl⟩
  rw [hDX] at HC HlX HoX Heq
  have HArr := Lib.hid (show arrV dp = .agg (bc dp).toArray from rfl)
  rw [HArr.out]
  obtain ⟨dg, hdg⟩ : ∃ dg, mh dp ix msg = dg := ⟨_, rfl⟩
  rw [hdg] at HMH HDG HCl HdC HC
  obtain ⟨DG, hDG⟩ : ∃ DG, bc dg = DG := ⟨_, rfl⟩
  rw [hDG] at HMH HDG
  obtain ⟨D, hD⟩ : ∃ D, bc dp = D := ⟨_, rfl⟩
  rw [hD] at HMH Hl1 Heq ⊢
  have i1 : ¬ (m : Int) < 1 := by omega
  have i2 : ¬ (256 : Int) < (m : Int) := by omega
  have i3 : ¬ (ix : Int) < 0 := by omega
  have i4 : ¬ (m : Int) ≤ (ix : Int) := by omega
  have i5 : ¬ (65536 : Int) < (q : Int) := by omega
  have i6 : (1 : Int) ≤ (m : Int) := by omega
  have i7 : (m : Int) ≤ 256 := by omega
  have i8 : (ix : Int) < (m : Int) := by omega
  have i9 : (q : Int) ≤ 65536 := by omega
  have hg1 := (Blk.new w 26 D.toArray).alloc (.cells #[.int .i64 (ix : Int), .slice (some ⟨g, po, none⟩) 67 cap, .slice pa pn pcap] 42)
  have hg2 := Blk.new (w.alloc (.cells D.toArray 26)) 42 #[.int .i64 (ix : Int), .slice (some ⟨g, po, none⟩) 67 cap, .slice pa pn pcap]
  rw [World.size_alloc] at hg2
  have hb := (below_alloc w (.cells D.toArray 26)).alloc (by simp) (.cells #[.int .i64 (ix : Int), .slice (some ⟨g, po, none⟩) 67 cap, .slice pa pn pcap] 42)
  obtain ⟨w0, hw0⟩ : ∃ w0, (w.alloc (.cells D.toArray 26)).alloc (.cells #[.int .i64 (ix : Int), .slice (some ⟨g, po, none⟩) 67 cap, .slice pa pn pcap] 42) = w0 := ⟨_, rfl⟩
  rw [hw0] at hg1 hg2 hb
  have HW0 := Lib.hid hw0
  have H1 := Lib.hid hg1
  have H2 := Lib.hid hg2
  have Hb := Lib.hid hb
  obtain ⟨c0, c1, c2, f0, f1, f2⟩ := cells3 hg2
  clear hC hX hDX hdp hP hr hy hlt hq hdg hDG hD hg1 hg2 hb hw0
  go_enter Tryd.func26, Tryd.ntmps26
  go_wp2_with (first
    | (refine wpList_load_row rfl 26 _ rfl w.heap.size rfl 26 D.toArray (0, 0) _ (by rw [HW0.out]; exact H1.out) Tryd.underlying26 rfl (by rw [List.size_toArray, Hl1.out]; exact infoDg) ?_; rw [HW0.out])
    | (refine (HMH.out _ Hb.out).mono ?_
       rintro e w5 ⟨rfl, hb5⟩
       have H15 := Lib.hid (H1.out.below hb5 H1.out.lt)
       have H25 := Lib.hid (H2.out.below hb5 H2.out.lt)
       have Hb5 := Lib.hid (Hb.out.trans (hb5.mono Hb.out.size))
       clear hb5 c0 c1 c2 f0 f1 f2)
    | (refine (HDG.out _).mono ?_
       rintro e w6 ⟨dv, rfl, hown6, hb6⟩
       have H16 := Lib.hid (H15.out.below hb6 H15.out.lt)
       have H26 := Lib.hid (H25.out.below hb6 H25.out.lt)
       have Hb6 := Lib.hid (Hb5.out.trans (hb6.mono Hb5.out.size))
       have HDv := Lib.hid (Sl.of_own hown6)
       clear hb6 hown6))
  have hal : Below w6.heap.size w6 (w6.alloc (.cells #[] 26)) := below_alloc w6 _
  have hoi := own_empty' w6 w6.heap.size (Nat.le_refl _) 26 32
  obtain ⟨w7, hw7⟩ : ∃ w7, w6.alloc (.cells #[] 26) = w7 := ⟨_, rfl⟩
  rw [hw7] at hal hoi ⊢
  have Hal := Lib.hid hal
  have Hoi := Lib.hid hoi
  clear hal hoi hw7
  obtain ⟨_, da, dc, rfl, hdc, h0 | ⟨dgb, doff, rfl, hcell⟩⟩ := HDv.out
  · omega
  have Hcell := Lib.hid hcell
  have Hdcap := Lib.hid hdc
  clear hcell hdc HDv
  go_loopw [10, 11] (fun b i wr => ∃ (k gv cv : Nat), Hid (k ≤ 67) ∧ b = .slice (some ⟨gv, 0, none⟩) k cv ∧ i = .int .i64 (k : Int) ∧ wr.ownsRow w6.heap.size 26 32 (.slice (some ⟨gv, 0, none⟩) k cv) k (bc (ends (fun j => flw ix j (Pt j) (dig dg j) (15 - dig dg j)) k)) ∧ Below w6.heap.size w6 wr) (fun _ i _ => 67 - (intOf i).toNat)
  case atStart => exact ⟨0, w6.heap.size, 0, Lib.hid (by omega), rfl, by go_num, Hoi.out, Hal.out⟩
  case round =>
    clear Hoi Hal
    obtain ⟨k, gv, cv, Hk, rfl, rfl, hown, hbw⟩ := hrel
    have Hown := Lib.hid hown
    clear hown
    by_cases hk : k < 67
    · have HCk := Lib.hid (fun W => HCl.out k hk W)
      have HRk := Lib.hid (fun W (h : Below w6.heap.size w6 W) => HRp.out k hk W (Hb6.out.trans (h.mono Hb6.out.size)))
      have Hdc := Lib.hid (Hcell.out k (.int .i64 (dig dg k : Int)) (by rw [Array.getElem?_toList]; exact digC_at dg k hk))
      have Hdl := Lib.hid (World.block_lt_of_cell? w6 _ Hdc.out)
      have HlP := Lib.hid (show (bc (Pt k)).length = 32 by rw [bc_len, HPl.out])
      have HlE := Lib.hid (show (bc (flw ix k (Pt k) (dig dg k) (15 - dig dg k))).length = 32 by rw [bc_len, flw_len _ _ _ (HPl.out k)])
      have HoE := Lib.hid (bc_one (flw ix k (Pt k) (dig dg k) (15 - dig dg k)))
      have HEa := Lib.hid (show bc (ends (fun j => flw ix j (Pt j) (dig dg j) (15 - dig dg j)) k) ++ bc (flw ix k (Pt k) (dig dg k) (15 - dig dg k)) = bc (ends (fun j => flw ix j (Pt j) (dig dg j) (15 - dig dg j)) (k + 1)) by rw [ends_succ, bc_app])
      have hdcap := Hdcap.out
      obtain ⟨EK, hEK⟩ : ∃ D, bc (ends (fun j => flw ix j (Pt j) (dig dg j) (15 - dig dg j)) k) = D := ⟨_, rfl⟩
      obtain ⟨D1, hD1⟩ : ∃ D, bc (flw ix k (Pt k) (dig dg k) (15 - dig dg k)) = D := ⟨_, rfl⟩
      obtain ⟨PD, hPD⟩ : ∃ D, bc (Pt k) = D := ⟨_, rfl⟩
      unfold arrV at HCk
      rw [hPD, hD1] at HCk
      rw [hPD] at HRk HlP
      rw [hD1] at HlE HoE HEa
      rw [hEK] at HEa Hown
      clear hPD hD1 hEK
      have j1 : (k : Int) < 67 := by omega
      have hd32 : D1.length = 32 := HlE.out
      have s1 : IntKind.i64.wrap ((k : Int) + 1) = ((k + 1 : Nat) : Int) := by rw [IntKind.wrap_i64]; omega
      go_wp2_with fail
      refine wp_region_held_drew (S := fun W => Below w6.heap.size w6 W) (by kernel_rfl) hbw.drew (fun hHeld => ?_)
      refine wpAnyH_take (i := 0) (oi := { dst := some 53, op := Op.move (Operand.tmp 10), type := 40, pos := "ref.go:119", after := #[], guard := none }) (v := ?_) rfl (by kernel_rfl) (by kernel_rfl) (by kernel_rfl) (fun _ _ _ h => h) (Or.inl ⟨by rfl, ?_⟩) hHeld ?_
      rotate_left
      · intro W hSw
        clear hSw
        go_simp
        try with_reducible rfl
      try simp only [Act.put, List.setIfInBounds_toArray, List.set_cons_zero, List.set_cons_succ]
      refine wpAnyH_take (i := 1) (oi := { dst := some 54, op := Op.fieldAddr 42 (Operand.tmp 7) 1, type := 0, pos := "ref.go:119", after := #[], guard := none }) (v := ?_) rfl (by kernel_rfl) (by kernel_rfl) (by kernel_rfl) (fun _ _ _ h => h) (Or.inl ⟨by rfl, ?_⟩) hHeld ?_
      rotate_left
      · intro W hSw
        clear hSw
        go_simp
        try with_reducible rfl
      try simp only [Act.put, List.setIfInBounds_toArray, List.set_cons_zero, List.set_cons_succ]
      refine wpAnyH_take (i := 2) (oi := { dst := some 55, op := Op.load 40 (Operand.tmp 54), type := 40, pos := "ref.go:119", after := #[{ on := 1, ground := Ground.data }], guard := none }) (v := ?_) rfl (by kernel_rfl) (by kernel_rfl) (by kernel_rfl) (fun _ _ _ h => h) (Or.inl ⟨by rfl, ?_⟩) hHeld ?_
      rotate_left
      · intro W hSw
        obtain ⟨t0, t1, t2, _, _, _⟩ := cells3 (H26.out.below hSw H26.out.lt)
        clear hSw
        go_simp
        try with_reducible rfl
      try simp only [Act.put, List.setIfInBounds_toArray, List.set_cons_zero, List.set_cons_succ]
      refine wpAnyH_take (i := 3) (oi := { dst := some 56, op := Op.move (Operand.tmp 11), type := 3, pos := "ref.go:119", after := #[], guard := none }) (v := ?_) rfl (by kernel_rfl) (by kernel_rfl) (by kernel_rfl) (fun _ _ _ h => h) (Or.inl ⟨by rfl, ?_⟩) hHeld ?_
      rotate_left
      · intro W hSw
        clear hSw
        go_simp
        try with_reducible rfl
      try simp only [Act.put, List.setIfInBounds_toArray, List.set_cons_zero, List.set_cons_succ]
      refine wpAnyH_take (i := 4) (oi := { dst := some 57, op := Op.indexAddr 40 (Operand.tmp 55) (Operand.tmp 56), type := 0, pos := "ref.go:119", after := #[{ on := 2, ground := Ground.data }, { on := 3, ground := Ground.data }], guard := none }) (v := ?_) rfl (by kernel_rfl) (by kernel_rfl) (by kernel_rfl) (fun _ _ _ h => h) (Or.inl ⟨by rfl, ?_⟩) hHeld ?_
      rotate_left
      · intro W hSw
        clear hSw
        go_simp
        try with_reducible rfl
      try simp only [Act.put, List.setIfInBounds_toArray, List.set_cons_zero, List.set_cons_succ]
      refine wpAnyH_take (i := 5) (oi := { dst := some 58, op := Op.load 26 (Operand.tmp 57), type := 26, pos := "ref.go:119", after := #[{ on := 4, ground := Ground.data }], guard := none }) rfl (by kernel_rfl) (by kernel_rfl) (by kernel_rfl) (fun _ _ _ h => h) (yieldsIf_load_mid (by rfl) _ _ rfl g (po + k * 32) (by rfl) PD _ (fun W h => HRk.out _ h) Tryd.underlying26 rfl (by rw [HlP.out]; exact infoDg)) hHeld ?_
      try simp only [Act.put, List.setIfInBounds_toArray, List.set_cons_zero, List.set_cons_succ]
      refine wpAnyH_take (i := 6) (oi := { dst := some 59, op := Op.fieldAddr 42 (Operand.tmp 7) 0, type := 0, pos := "ref.go:119", after := #[], guard := none }) (v := ?_) rfl (by kernel_rfl) (by kernel_rfl) (by kernel_rfl) (fun _ _ _ h => h) (Or.inl ⟨by rfl, ?_⟩) hHeld ?_
      rotate_left
      · intro W hSw
        clear hSw
        go_simp
        try with_reducible rfl
      try simp only [Act.put, List.setIfInBounds_toArray, List.set_cons_zero, List.set_cons_succ]
      refine wpAnyH_take (i := 7) (oi := { dst := some 60, op := Op.load 3 (Operand.tmp 59), type := 3, pos := "ref.go:119", after := #[{ on := 6, ground := Ground.data }], guard := none }) (v := ?_) rfl (by kernel_rfl) (by kernel_rfl) (by kernel_rfl) (fun _ _ _ h => h) (Or.inl ⟨by rfl, ?_⟩) hHeld ?_
      rotate_left
      · intro W hSw
        obtain ⟨t0, t1, t2, _, _, _⟩ := cells3 (H26.out.below hSw H26.out.lt)
        clear hSw
        go_simp
        try with_reducible rfl
      try simp only [Act.put, List.setIfInBounds_toArray, List.set_cons_zero, List.set_cons_succ]
      refine wpAnyH_take (i := 8) (oi := { dst := some 61, op := Op.move (Operand.tmp 11), type := 3, pos := "ref.go:119", after := #[], guard := none }) (v := ?_) rfl (by kernel_rfl) (by kernel_rfl) (by kernel_rfl) (fun _ _ _ h => h) (Or.inl ⟨by rfl, ?_⟩) hHeld ?_
      rotate_left
      · intro W hSw
        clear hSw
        go_simp
        try with_reducible rfl
      try simp only [Act.put, List.setIfInBounds_toArray, List.set_cons_zero, List.set_cons_succ]
      refine wpAnyH_take (i := 9) (oi := { dst := some 62, op := Op.move (Operand.tmp 9), type := 33, pos := "ref.go:119", after := #[], guard := none }) (v := ?_) rfl (by kernel_rfl) (by kernel_rfl) (by kernel_rfl) (fun _ _ _ h => h) (Or.inl ⟨by rfl, ?_⟩) hHeld ?_
      rotate_left
      · intro W hSw
        clear hSw
        go_simp
        try with_reducible rfl
      try simp only [Act.put, List.setIfInBounds_toArray, List.set_cons_zero, List.set_cons_succ]
      refine wpAnyH_take (i := 10) (oi := { dst := some 63, op := Op.move (Operand.tmp 11), type := 3, pos := "ref.go:119", after := #[], guard := none }) (v := ?_) rfl (by kernel_rfl) (by kernel_rfl) (by kernel_rfl) (fun _ _ _ h => h) (Or.inl ⟨by rfl, ?_⟩) hHeld ?_
      rotate_left
      · intro W hSw
        clear hSw
        go_simp
        try with_reducible rfl
      try simp only [Act.put, List.setIfInBounds_toArray, List.set_cons_zero, List.set_cons_succ]
      refine wpAnyH_take (i := 11) (oi := { dst := some 64, op := Op.indexAddr 33 (Operand.tmp 62) (Operand.tmp 63), type := 0, pos := "ref.go:119", after := #[{ on := 9, ground := Ground.data }, { on := 10, ground := Ground.data }], guard := none }) (v := ?_) rfl (by kernel_rfl) (by kernel_rfl) (by kernel_rfl) (fun _ _ _ h => h) (Or.inl ⟨by rfl, ?_⟩) hHeld ?_
      rotate_left
      · intro W hSw
        clear hSw
        go_simp
        try with_reducible rfl
      try simp only [Act.put, List.setIfInBounds_toArray, List.set_cons_zero, List.set_cons_succ]
      refine wpAnyH_take (i := 12) (oi := { dst := some 65, op := Op.load 3 (Operand.tmp 64), type := 3, pos := "ref.go:119", after := #[{ on := 11, ground := Ground.data }], guard := none }) (v := ?_) rfl (by kernel_rfl) (by kernel_rfl) (by kernel_rfl) (fun _ _ _ h => h) (Or.inl ⟨by rfl, ?_⟩) hHeld ?_
      rotate_left
      · intro W hSw
        have tq := (hSw.cell (p := ⟨dgb, doff + k, none⟩) Hdl.out).trans Hdc.out
        clear hSw
        go_simp
        try with_reducible rfl
      try simp only [Act.put, List.setIfInBounds_toArray, List.set_cons_zero, List.set_cons_succ]
      refine wpAnyH_ready (rs := [13]) (by kernel_rfl) (by simp) ?_
      refine AllReadyH.cons (o := { dst := some 66, op := Op.call { callee := Callee.value (Operand.func 41), args := #[Operand.tmp 58, Operand.tmp 60, Operand.tmp 61, Operand.tmp 65, Operand.const (Value.int IntKind.i64 15)], argTypes := #[26, 3, 3, 3, 3] }, type := 26, pos := "ref.go:119", after := #[{ on := 5, ground := Ground.data }, { on := 7, ground := Ground.data }, { on := 8, ground := Ground.data }, { on := 12, ground := Ground.data }], guard := none }) rfl (fun K hK => ?_) AllReadyH.nil
      go_simp
      go_at_call 41
      refine (HCk.out _).mono ?_
      rintro e w8 ⟨rfl, hb8⟩
      have hown8 := own_next (own_drew Hown.out) hb8
      refine hK.out _ _ (hHeld.trans (hb8.mono hHeld.size)) (fun hHeld => ?_)
      clear hb8
      clear hK K
      try simp only [Act.put, List.setIfInBounds_toArray, List.set_cons_zero, List.set_cons_succ]
      refine wpAnyH_ready (rs := [14]) (by kernel_rfl) (by simp) ?_
      refine AllReadyH.cons (o := { dst := some 67, op := Op.buildSlice 40 1 #[(0, Operand.tmp 66)], type := 40, pos := "ref.go:119", after := #[{ on := 13, ground := Ground.data }], guard := none }) rfl (fun K hK => ?_) AllReadyH.nil
      go_simp
      rw [fold_all D1 _ (by rw [HlE.out]; rfl)]
      refine hK.out _ _ (hHeld.alloc hHeld.size _) (fun hHeld => ?_)
      clear hK K
      try simp only [Act.put, List.setIfInBounds_toArray, List.set_cons_zero, List.set_cons_succ]
      refine wpAnyH_ready (rs := [15]) (by kernel_rfl) (by simp) ?_
      refine AllReadyH.cons (o := { dst := some 68, op := Op.call { callee := Callee.builtin Builtin.append, args := #[Operand.tmp 53, Operand.tmp 67], argTypes := #[40, 40] }, type := 40, pos := "ref.go:119", after := #[{ on := 0, ground := Ground.data }, { on := 14, ground := Ground.data }, { on := 13, ground := Ground.chain }], guard := none }) rfl (fun K hK => ?_) AllReadyH.nil
      refine step_app_rows2 rfl (.tmp 53) (.tmp 67) 40 rfl w6.heap.size 26 iu _ 32 32 Tryd.underlying40 hiu hu0 hu1 hu2 rfl (by omega) gv k cv EK rfl (hown8.alloc _) (some ⟨_, 0, none⟩) 1 1 D1 rfl (by rw [HlE.out]) (fun ad had j u hu => by cases had; rw [Addr.add_mid]; exact (Blk.range (Blk.new w8 26 D1.toArray)) j u hu) (fun h => by cases h) HoE.out (k + 1) rfl (by unfold maxLen; omega) (by omega) (by have := hHeld.size; omega) ?_
      intro g9 cap9 w9 hown9 hg9
      have hb9 : Below w6.heap.size w6 w9 := Below.grown hHeld hg9 hHeld.size (fun k hk => by cases hk; exact (hown8.lt _ rfl).1)
      rw [HEa.out] at hown9
      refine hK.out _ _ hb9 (fun hHeld => ?_)
      clear hK K
      try simp only [Act.put, List.setIfInBounds_toArray, List.set_cons_zero, List.set_cons_succ]
      refine wpAnyH_ready (rs := [16]) (by kernel_rfl) (by simp) ?_
      refine AllReadyH.cons (o := { dst := some 10, op := Op.assign (Operand.tmp 68), type := 40, pos := "ref.go:119", after := #[{ on := 15, ground := Ground.data }, { on := 15, ground := Ground.chain }, { on := 0, ground := Ground.phase }, { on := 1, ground := Ground.phase }, { on := 2, ground := Ground.phase }, { on := 3, ground := Ground.phase }, { on := 4, ground := Ground.phase }, { on := 5, ground := Ground.phase }, { on := 6, ground := Ground.phase }, { on := 7, ground := Ground.phase }, { on := 8, ground := Ground.phase }, { on := 9, ground := Ground.phase }, { on := 10, ground := Ground.phase }, { on := 11, ground := Ground.phase }, { on := 12, ground := Ground.phase }, { on := 13, ground := Ground.phase }, { on := 14, ground := Ground.phase }, { on := 15, ground := Ground.phase }], guard := none }) rfl (fun K hK => ?_) AllReadyH.nil
      go_simp
      refine hK.out _ _ hb9 (fun hHeld => ?_)
      clear hK K
      have Hown9 := Lib.hid hown9
      have Hb9 := Lib.hid hHeld
      clear hHeld hb9 hown9 hg9 hown8
      refine wpAnyH_done (by kernel_rfl) ?_ _
      go_wp2_with fail
      go_roundw
      case rel => exact ⟨k + 1, g9, cap9, Lib.hid (by omega), rfl, by go_num, Hown9.out, Hb9.out⟩
      case measure => simp [intOf]; omega
    · have hk67 : k = 67 := by have := Hk.out; omega
      subst hk67
      obtain ⟨g', cap', he, _, hrE⟩ := own_range Hown.out (by omega)
      cases he
      have hgl : gv < wr.heap.size := (Hown.out.lt gv rfl).2
      have HOne := Lib.hid (fun W (hb : Below wr.heap.size wr W) => rone_any (fun j => flw ix j (Pt j) (dig dg j) (15 - dig dg j)) (fun j => flw_len _ _ _ (HPl.out j) _ _) gv cv W (rangeAt_below hrE hb hgl))
      have Hbw := Lib.hid (Hb6.out.trans (hbw.mono Hb6.out.size))
      have H1w := Lib.hid (H16.out.below hbw H16.out.lt)
      have H2w := Lib.hid (H26.out.below hbw H26.out.lt)
      have HlO := Lib.hid (show (bc (opub fun j => flw ix j (Pt j) (dig dg j) (15 - dig dg j))).length = 32 by rw [bc_len]; rfl)
      unfold arrV at HOne
      obtain ⟨DO, hDO⟩ : ∃ D, bc (opub fun j => flw ix j (Pt j) (dig dg j) (15 - dig dg j)) = D := ⟨_, rfl⟩
      rw [hDO] at HOne HC
      clear hDO hrE hgl Hown
      go_wp2_with fail
      refine wp_region_held_drew (S := fun W => Below wr.heap.size wr W) (by kernel_rfl) (Below.refl _ _).drew (fun hHeld => ?_)
      refine wpAnyH_take (i := 0) (oi := { dst := some 70, op := Op.move (Operand.tmp 10), type := 40, pos := "ref.go:121", after := #[], guard := none }) (v := ?_) rfl (by kernel_rfl) (by kernel_rfl) (by kernel_rfl) (fun _ _ _ h => h) (Or.inl ⟨by rfl, ?_⟩) hHeld ?_
      rotate_left
      · intro W hSw
        clear hSw
        go_simp
        try with_reducible rfl
      try simp only [Act.put, List.setIfInBounds_toArray, List.set_cons_zero, List.set_cons_succ]
      refine wpAnyH_take (i := 2) (oi := { dst := some 72, op := Op.fieldAddr 42 (Operand.tmp 7) 0, type := 0, pos := "ref.go:121", after := #[], guard := none }) (v := ?_) rfl (by kernel_rfl) (by kernel_rfl) (by kernel_rfl) (fun _ _ _ h => h) (Or.inl ⟨by rfl, ?_⟩) hHeld ?_
      rotate_left
      · intro W hSw
        clear hSw
        go_simp
        try with_reducible rfl
      try simp only [Act.put, List.setIfInBounds_toArray, List.set_cons_zero, List.set_cons_succ]
      refine wpAnyH_take (i := 3) (oi := { dst := some 73, op := Op.load 3 (Operand.tmp 72), type := 3, pos := "ref.go:121", after := #[{ on := 2, ground := Ground.data }], guard := none }) (v := ?_) rfl (by kernel_rfl) (by kernel_rfl) (by kernel_rfl) (fun _ _ _ h => h) (Or.inl ⟨by rfl, ?_⟩) hHeld ?_
      rotate_left
      · intro W hSw
        obtain ⟨t0, t1, t2, _, _, _⟩ := cells3 (H2w.out.below hSw H2w.out.lt)
        clear hSw
        go_simp
        try with_reducible rfl
      try simp only [Act.put, List.setIfInBounds_toArray, List.set_cons_zero, List.set_cons_succ]
      refine wpAnyH_take (i := 4) (oi := { dst := some 74, op := Op.move (Operand.tmp 1), type := 3, pos := "ref.go:121", after := #[], guard := none }) (v := ?_) rfl (by kernel_rfl) (by kernel_rfl) (by kernel_rfl) (fun _ _ _ h => h) (Or.inl ⟨by rfl, ?_⟩) hHeld ?_
      rotate_left
      · intro W hSw
        clear hSw
        go_simp
        try with_reducible rfl
      try simp only [Act.put, List.setIfInBounds_toArray, List.set_cons_zero, List.set_cons_succ]
      refine wpAnyH_take (i := 5) (oi := { dst := some 75, op := Op.fieldAddr 42 (Operand.tmp 7) 2, type := 0, pos := "ref.go:121", after := #[], guard := none }) (v := ?_) rfl (by kernel_rfl) (by kernel_rfl) (by kernel_rfl) (fun _ _ _ h => h) (Or.inl ⟨by rfl, ?_⟩) hHeld ?_
      rotate_left
      · intro W hSw
        clear hSw
        go_simp
        try with_reducible rfl
      try simp only [Act.put, List.setIfInBounds_toArray, List.set_cons_zero, List.set_cons_succ]
      refine wpAnyH_take (i := 6) (oi := { dst := some 76, op := Op.load 40 (Operand.tmp 75), type := 40, pos := "ref.go:121", after := #[{ on := 5, ground := Ground.data }], guard := none }) (v := ?_) rfl (by kernel_rfl) (by kernel_rfl) (by kernel_rfl) (fun _ _ _ h => h) (Or.inl ⟨by rfl, ?_⟩) hHeld ?_
      rotate_left
      · intro W hSw
        obtain ⟨t0, t1, t2, _, _, _⟩ := cells3 (H2w.out.below hSw H2w.out.lt)
        clear hSw
        go_simp
        try with_reducible rfl
      try simp only [Act.put, List.setIfInBounds_toArray, List.set_cons_zero, List.set_cons_succ]
      refine wpAnyH_ready (rs := [1, 11]) (by kernel_rfl) (by simp) ?_
      refine AllReadyH.cons (o := { dst := some 71, op := Op.call { callee := Callee.value (Operand.func 49), args := #[Operand.tmp 70], argTypes := #[40] }, type := 26, pos := "ref.go:121", after := #[{ on := 0, ground := Ground.data }], guard := none }) rfl (fun K hK => ?_) ?_
      · go_simp
        go_at_call 49
        refine (HOne.out _ hHeld).mono ?_
        rintro e w8 ⟨rfl, hb1⟩
        refine hK.out _ _ (hHeld.trans (hb1.mono hHeld.size)) (fun hHeld => ?_)
        clear hb1
        clear hK K
        try simp only [Act.put, List.setIfInBounds_toArray, List.set_cons_zero, List.set_cons_succ]
        refine wpAnyH_ready (rs := [7, 11]) (by kernel_rfl) (by simp) ?_
        refine AllReadyH.cons (o := { dst := some 77, op := Op.call { callee := Callee.value (Operand.func 48), args := #[Operand.tmp 71, Operand.tmp 73, Operand.tmp 74, Operand.tmp 76], argTypes := #[26, 3, 3, 40] }, type := 37, pos := "ref.go:121", after := #[{ on := 1, ground := Ground.data }, { on := 3, ground := Ground.data }, { on := 4, ground := Ground.data }, { on := 6, ground := Ground.data }, { on := 1, ground := Ground.chain }], guard := none }) rfl (fun K hK => ?_) ?_
        · go_simp
          go_at_call 48
          refine (HC.out _ (Hbw.out.trans (hHeld.mono Hbw.out.size))).mono ?_
          rintro e w9 ⟨rfl, hb7⟩
          refine hK.out _ _ (hHeld.trans (hb7.mono hHeld.size)) (fun hHeld => ?_)
          clear hb7
          clear hK K
          try simp only [Act.put, List.setIfInBounds_toArray, List.set_cons_zero, List.set_cons_succ]
          refine wpAnyH_take (i := 8) (oi := { dst := some 69, op := Op.move (Operand.tmp 77), type := 37, pos := "ref.go:121", after := #[{ on := 7, ground := Ground.data }], guard := none }) (v := ?_) rfl (by kernel_rfl) (by kernel_rfl) (by kernel_rfl) (fun _ _ _ h => h) (Or.inl ⟨by rfl, ?_⟩) hHeld ?_
          rotate_left
          · intro W hSw
            clear hSw
            go_simp
            try with_reducible rfl
          try simp only [Act.put, List.setIfInBounds_toArray, List.set_cons_zero, List.set_cons_succ]
          refine wpAnyH_take (i := 9) (oi := { dst := some 78, op := Op.extract (Operand.tmp 69) 0, type := 26, pos := "ref.go:121", after := #[{ on := 8, ground := Ground.data }], guard := none }) (v := ?_) rfl (by kernel_rfl) (by kernel_rfl) (by kernel_rfl) (fun _ _ _ h => h) (Or.inl ⟨by rfl, ?_⟩) hHeld ?_
          rotate_left
          · intro W hSw
            clear hSw
            go_simp
            try with_reducible rfl
          try simp only [Act.put, List.setIfInBounds_toArray, List.set_cons_zero, List.set_cons_succ]
          refine wpAnyH_take (i := 10) (oi := { dst := some 79, op := Op.extract (Operand.tmp 69) 1, type := 28, pos := "ref.go:121", after := #[{ on := 8, ground := Ground.data }, { on := 12, ground := Ground.gcOnly Departure.lateStores }], guard := none }) (v := ?_) rfl (by kernel_rfl) (by kernel_rfl) (by kernel_rfl) (fun _ _ _ h => h) (Or.inl ⟨by rfl, ?_⟩) hHeld ?_
          rotate_left
          · intro W hSw
            clear hSw
            go_simp
            try with_reducible rfl
          try simp only [Act.put, List.setIfInBounds_toArray, List.set_cons_zero, List.set_cons_succ]
          refine wpAnyH_ready (rs := [11]) (by kernel_rfl) (by simp) ?_
          refine AllReadyH.cons (o := { dst := some 12, op := Op.alloc 26, type := 0, pos := "ref.go:121", after := #[], guard := none }) rfl (fun K hK => ?_) ?_
          · go_simp
            refine hK.out _ _ (hHeld.alloc hHeld.size _) (fun hHeld2 => ?_)
            first
              | (have hHeld3 : Below wr.heap.size wr (World.alloc _ (.cells _ _)) := hHeld2
                 obtain ⟨ht, hbl⟩ := alloc_there hHeld3 rfl
                 clear hHeld3)
              | (have hHeld3 : Below wr.heap.size wr (World.drew (World.alloc _ (.cells _ _))) := hHeld2
                 obtain ⟨ht, hbl⟩ := alloc_there_drew hHeld3 rfl
                 clear hHeld3)
            have hbz := hHeld.size
            clear hHeld
            have hHeld := hHeld2
            clear hHeld2
            clear hK K
            try simp only [Act.put, List.setIfInBounds_toArray, List.set_cons_zero, List.set_cons_succ]
            refine wpAnyH_ready (rs := [12]) (by kernel_rfl) (by simp) ?_
            refine AllReadyH.cons (o := { dst := none, op := Op.store 26 (Operand.tmp 12) (Operand.tmp 78), type := 0, pos := "ref.go:121", after := #[{ on := 11, ground := Ground.data }, { on := 9, ground := Ground.data }, { on := 7, ground := Ground.chain }, { on := 0, ground := Ground.phase }, { on := 1, ground := Ground.phase }, { on := 2, ground := Ground.phase }, { on := 3, ground := Ground.phase }, { on := 4, ground := Ground.phase }, { on := 5, ground := Ground.phase }, { on := 6, ground := Ground.phase }, { on := 7, ground := Ground.phase }, { on := 8, ground := Ground.phase }, { on := 9, ground := Ground.phase }, { on := 10, ground := Ground.textOnly Departure.lateStores }, { on := 11, ground := Ground.phase }], guard := none }) rfl (fun K hK => ?_) ?_
            · rw [if_pos (by rfl)]
              refine wp_store_mid 26 _ _ rfl _ 0 DX.toArray rfl rfl (by rw [show DX.toArray.size = 32 from HlX.out]; exact ht) (by rw [List.size_toArray, HlX.out]; exact infoDg) (all_oneCell_toArray HoX.out) ?_
              refine hK.out _ _ (setCells_below _ _ _ hHeld (by omega)) (fun hHeld2 => ?_)
              have Hr := Lib.hid (World.rangeAt_setCells_same _ _ 0 DX (by rw [HlX.out]; exact ht))
              clear hHeld
              have hHeld := hHeld2
              clear hHeld2
              clear hK K
              refine wpAnyH_ready (rs := [13]) (by kernel_rfl) (by simp) ?_
              refine AllReadyH.cons (o := { dst := some 13, op := Op.assign (Operand.tmp 79), type := 28, pos := "ref.go:121", after := #[{ on := 10, ground := Ground.data }, { on := 12, ground := Ground.chain }, { on := 0, ground := Ground.phase }, { on := 1, ground := Ground.phase }, { on := 2, ground := Ground.phase }, { on := 3, ground := Ground.phase }, { on := 4, ground := Ground.phase }, { on := 5, ground := Ground.phase }, { on := 6, ground := Ground.phase }, { on := 7, ground := Ground.phase }, { on := 8, ground := Ground.phase }, { on := 9, ground := Ground.phase }, { on := 10, ground := Ground.phase }, { on := 11, ground := Ground.phase }, { on := 12, ground := Ground.phase }], guard := none }) rfl (fun K hK => ?_) ?_
              · go_simp
                refine hK.out _ _ hHeld (fun hHeld => ?_)
                clear hK K
                try simp only [Act.put, List.setIfInBounds_toArray, List.set_cons_zero, List.set_cons_succ]
                have Hb9 := Lib.hid (Hbw.out.trans (hHeld.mono Hbw.out.size))
                have H19 := Lib.hid (H1w.out.below hHeld H1w.out.lt)
                have heq := Heq.out
                clear hHeld ht hbl hbz
                refine wpAnyH_done (by kernel_rfl) ?_ _
                go_wp2_with (first
                  | (refine wpList_load_mid_g (by first | rfl | simp [Region.wanted, yielded]) 26 _ rfl _ 0 rfl DX _ Hr.out Tryd.underlying26 rfl (by rw [HlX.out]; exact infoDg) ?_)
                  | (refine wpList_load_row_g (by first | rfl | simp [Region.wanted, yielded]) 26 _ rfl w.heap.size rfl 26 D.toArray (0, 0) _ H19.out Tryd.underlying26 rfl (by rw [List.size_toArray, Hl1.out]; exact infoDg) ?_))
                go_ret
                exact ⟨rfl, Hb9.out⟩
              exact AllReadyH.nil
            exact AllReadyH.nil
          exact AllReadyH.nil
        refine AllReadyH.cons (o := { dst := some 12, op := Op.alloc 26, type := 0, pos := "ref.go:121", after := #[], guard := none }) rfl (fun K hK => ?_) ?_
        · go_simp
          refine hK.out _ _ (hHeld.alloc hHeld.size _) (fun hHeld2 => ?_)
          first
            | (have hHeld3 : Below wr.heap.size wr (World.alloc _ (.cells _ _)) := hHeld2
               obtain ⟨ht, hbl⟩ := alloc_there hHeld3 rfl
               clear hHeld3)
            | (have hHeld3 : Below wr.heap.size wr (World.drew (World.alloc _ (.cells _ _))) := hHeld2
               obtain ⟨ht, hbl⟩ := alloc_there_drew hHeld3 rfl
               clear hHeld3)
          have hbz := hHeld.size
          clear hHeld
          have hHeld := hHeld2
          clear hHeld2
          clear hK K
          try simp only [Act.put, List.setIfInBounds_toArray, List.set_cons_zero, List.set_cons_succ]
          refine wpAnyH_ready (rs := [7]) (by kernel_rfl) (by simp) ?_
          refine AllReadyH.cons (o := { dst := some 77, op := Op.call { callee := Callee.value (Operand.func 48), args := #[Operand.tmp 71, Operand.tmp 73, Operand.tmp 74, Operand.tmp 76], argTypes := #[26, 3, 3, 40] }, type := 37, pos := "ref.go:121", after := #[{ on := 1, ground := Ground.data }, { on := 3, ground := Ground.data }, { on := 4, ground := Ground.data }, { on := 6, ground := Ground.data }, { on := 1, ground := Ground.chain }], guard := none }) rfl (fun K hK => ?_) ?_
          · go_simp
            go_at_call 48
            refine (HC.out _ (Hbw.out.trans (hHeld.mono Hbw.out.size))).mono ?_
            rintro e w9 ⟨rfl, hb7⟩
            have ht := there_below ht hb7 hbl
            have hbl := Nat.lt_of_lt_of_le hbl hb7.size
            refine hK.out _ _ (hHeld.trans (hb7.mono hHeld.size)) (fun hHeld => ?_)
            clear hb7
            clear hK K
            try simp only [Act.put, List.setIfInBounds_toArray, List.set_cons_zero, List.set_cons_succ]
            refine wpAnyH_take (i := 8) (oi := { dst := some 69, op := Op.move (Operand.tmp 77), type := 37, pos := "ref.go:121", after := #[{ on := 7, ground := Ground.data }], guard := none }) (v := ?_) rfl (by kernel_rfl) (by kernel_rfl) (by kernel_rfl) (fun _ _ _ h => h) (Or.inl ⟨by rfl, ?_⟩) hHeld ?_
            rotate_left
            · intro W hSw
              clear hSw
              go_simp
              try with_reducible rfl
            try simp only [Act.put, List.setIfInBounds_toArray, List.set_cons_zero, List.set_cons_succ]
            refine wpAnyH_take (i := 9) (oi := { dst := some 78, op := Op.extract (Operand.tmp 69) 0, type := 26, pos := "ref.go:121", after := #[{ on := 8, ground := Ground.data }], guard := none }) (v := ?_) rfl (by kernel_rfl) (by kernel_rfl) (by kernel_rfl) (fun _ _ _ h => h) (Or.inl ⟨by rfl, ?_⟩) hHeld ?_
            rotate_left
            · intro W hSw
              clear hSw
              go_simp
              try with_reducible rfl
            try simp only [Act.put, List.setIfInBounds_toArray, List.set_cons_zero, List.set_cons_succ]
            refine wpAnyH_take (i := 10) (oi := { dst := some 79, op := Op.extract (Operand.tmp 69) 1, type := 28, pos := "ref.go:121", after := #[{ on := 8, ground := Ground.data }, { on := 12, ground := Ground.gcOnly Departure.lateStores }], guard := none }) (v := ?_) rfl (by kernel_rfl) (by kernel_rfl) (by kernel_rfl) (fun _ _ _ h => h) (Or.inl ⟨by rfl, ?_⟩) hHeld ?_
            rotate_left
            · intro W hSw
              clear hSw
              go_simp
              try with_reducible rfl
            try simp only [Act.put, List.setIfInBounds_toArray, List.set_cons_zero, List.set_cons_succ]
            refine wpAnyH_ready (rs := [12]) (by kernel_rfl) (by simp) ?_
            refine AllReadyH.cons (o := { dst := none, op := Op.store 26 (Operand.tmp 12) (Operand.tmp 78), type := 0, pos := "ref.go:121", after := #[{ on := 11, ground := Ground.data }, { on := 9, ground := Ground.data }, { on := 7, ground := Ground.chain }, { on := 0, ground := Ground.phase }, { on := 1, ground := Ground.phase }, { on := 2, ground := Ground.phase }, { on := 3, ground := Ground.phase }, { on := 4, ground := Ground.phase }, { on := 5, ground := Ground.phase }, { on := 6, ground := Ground.phase }, { on := 7, ground := Ground.phase }, { on := 8, ground := Ground.phase }, { on := 9, ground := Ground.phase }, { on := 10, ground := Ground.textOnly Departure.lateStores }, { on := 11, ground := Ground.phase }], guard := none }) rfl (fun K hK => ?_) ?_
            · rw [if_pos (by rfl)]
              refine wp_store_mid 26 _ _ rfl _ 0 DX.toArray rfl rfl (by rw [show DX.toArray.size = 32 from HlX.out]; exact ht) (by rw [List.size_toArray, HlX.out]; exact infoDg) (all_oneCell_toArray HoX.out) ?_
              refine hK.out _ _ (setCells_below _ _ _ hHeld (by omega)) (fun hHeld2 => ?_)
              have Hr := Lib.hid (World.rangeAt_setCells_same _ _ 0 DX (by rw [HlX.out]; exact ht))
              clear hHeld
              have hHeld := hHeld2
              clear hHeld2
              clear hK K
              refine wpAnyH_ready (rs := [13]) (by kernel_rfl) (by simp) ?_
              refine AllReadyH.cons (o := { dst := some 13, op := Op.assign (Operand.tmp 79), type := 28, pos := "ref.go:121", after := #[{ on := 10, ground := Ground.data }, { on := 12, ground := Ground.chain }, { on := 0, ground := Ground.phase }, { on := 1, ground := Ground.phase }, { on := 2, ground := Ground.phase }, { on := 3, ground := Ground.phase }, { on := 4, ground := Ground.phase }, { on := 5, ground := Ground.phase }, { on := 6, ground := Ground.phase }, { on := 7, ground := Ground.phase }, { on := 8, ground := Ground.phase }, { on := 9, ground := Ground.phase }, { on := 10, ground := Ground.phase }, { on := 11, ground := Ground.phase }, { on := 12, ground := Ground.phase }], guard := none }) rfl (fun K hK => ?_) ?_
              · go_simp
                refine hK.out _ _ hHeld (fun hHeld => ?_)
                clear hK K
                try simp only [Act.put, List.setIfInBounds_toArray, List.set_cons_zero, List.set_cons_succ]
                have Hb9 := Lib.hid (Hbw.out.trans (hHeld.mono Hbw.out.size))
                have H19 := Lib.hid (H1w.out.below hHeld H1w.out.lt)
                have heq := Heq.out
                clear hHeld ht hbl hbz
                refine wpAnyH_done (by kernel_rfl) ?_ _
                go_wp2_with (first
                  | (refine wpList_load_mid_g (by first | rfl | simp [Region.wanted, yielded]) 26 _ rfl _ 0 rfl DX _ Hr.out Tryd.underlying26 rfl (by rw [HlX.out]; exact infoDg) ?_)
                  | (refine wpList_load_row_g (by first | rfl | simp [Region.wanted, yielded]) 26 _ rfl w.heap.size rfl 26 D.toArray (0, 0) _ H19.out Tryd.underlying26 rfl (by rw [List.size_toArray, Hl1.out]; exact infoDg) ?_))
                go_ret
                exact ⟨rfl, Hb9.out⟩
              exact AllReadyH.nil
            exact AllReadyH.nil
          exact AllReadyH.nil
        exact AllReadyH.nil
      refine AllReadyH.cons (o := { dst := some 12, op := Op.alloc 26, type := 0, pos := "ref.go:121", after := #[], guard := none }) rfl (fun K hK => ?_) ?_
      · go_simp
        refine hK.out _ _ (hHeld.alloc hHeld.size _) (fun hHeld2 => ?_)
        first
          | (have hHeld3 : Below wr.heap.size wr (World.alloc _ (.cells _ _)) := hHeld2
             obtain ⟨ht, hbl⟩ := alloc_there hHeld3 rfl
             clear hHeld3)
          | (have hHeld3 : Below wr.heap.size wr (World.drew (World.alloc _ (.cells _ _))) := hHeld2
             obtain ⟨ht, hbl⟩ := alloc_there_drew hHeld3 rfl
             clear hHeld3)
        have hbz := hHeld.size
        clear hHeld
        have hHeld := hHeld2
        clear hHeld2
        clear hK K
        try simp only [Act.put, List.setIfInBounds_toArray, List.set_cons_zero, List.set_cons_succ]
        refine wpAnyH_ready (rs := [1]) (by kernel_rfl) (by simp) ?_
        refine AllReadyH.cons (o := { dst := some 71, op := Op.call { callee := Callee.value (Operand.func 49), args := #[Operand.tmp 70], argTypes := #[40] }, type := 26, pos := "ref.go:121", after := #[{ on := 0, ground := Ground.data }], guard := none }) rfl (fun K hK => ?_) ?_
        · go_simp
          go_at_call 49
          refine (HOne.out _ hHeld).mono ?_
          rintro e w8 ⟨rfl, hb1⟩
          have ht := there_below ht hb1 hbl
          have hbl := Nat.lt_of_lt_of_le hbl hb1.size
          refine hK.out _ _ (hHeld.trans (hb1.mono hHeld.size)) (fun hHeld => ?_)
          clear hb1
          clear hK K
          try simp only [Act.put, List.setIfInBounds_toArray, List.set_cons_zero, List.set_cons_succ]
          refine wpAnyH_ready (rs := [7]) (by kernel_rfl) (by simp) ?_
          refine AllReadyH.cons (o := { dst := some 77, op := Op.call { callee := Callee.value (Operand.func 48), args := #[Operand.tmp 71, Operand.tmp 73, Operand.tmp 74, Operand.tmp 76], argTypes := #[26, 3, 3, 40] }, type := 37, pos := "ref.go:121", after := #[{ on := 1, ground := Ground.data }, { on := 3, ground := Ground.data }, { on := 4, ground := Ground.data }, { on := 6, ground := Ground.data }, { on := 1, ground := Ground.chain }], guard := none }) rfl (fun K hK => ?_) ?_
          · go_simp
            go_at_call 48
            refine (HC.out _ (Hbw.out.trans (hHeld.mono Hbw.out.size))).mono ?_
            rintro e w9 ⟨rfl, hb7⟩
            have ht := there_below ht hb7 hbl
            have hbl := Nat.lt_of_lt_of_le hbl hb7.size
            refine hK.out _ _ (hHeld.trans (hb7.mono hHeld.size)) (fun hHeld => ?_)
            clear hb7
            clear hK K
            try simp only [Act.put, List.setIfInBounds_toArray, List.set_cons_zero, List.set_cons_succ]
            refine wpAnyH_take (i := 8) (oi := { dst := some 69, op := Op.move (Operand.tmp 77), type := 37, pos := "ref.go:121", after := #[{ on := 7, ground := Ground.data }], guard := none }) (v := ?_) rfl (by kernel_rfl) (by kernel_rfl) (by kernel_rfl) (fun _ _ _ h => h) (Or.inl ⟨by rfl, ?_⟩) hHeld ?_
            rotate_left
            · intro W hSw
              clear hSw
              go_simp
              try with_reducible rfl
            try simp only [Act.put, List.setIfInBounds_toArray, List.set_cons_zero, List.set_cons_succ]
            refine wpAnyH_take (i := 9) (oi := { dst := some 78, op := Op.extract (Operand.tmp 69) 0, type := 26, pos := "ref.go:121", after := #[{ on := 8, ground := Ground.data }], guard := none }) (v := ?_) rfl (by kernel_rfl) (by kernel_rfl) (by kernel_rfl) (fun _ _ _ h => h) (Or.inl ⟨by rfl, ?_⟩) hHeld ?_
            rotate_left
            · intro W hSw
              clear hSw
              go_simp
              try with_reducible rfl
            try simp only [Act.put, List.setIfInBounds_toArray, List.set_cons_zero, List.set_cons_succ]
            refine wpAnyH_take (i := 10) (oi := { dst := some 79, op := Op.extract (Operand.tmp 69) 1, type := 28, pos := "ref.go:121", after := #[{ on := 8, ground := Ground.data }, { on := 12, ground := Ground.gcOnly Departure.lateStores }], guard := none }) (v := ?_) rfl (by kernel_rfl) (by kernel_rfl) (by kernel_rfl) (fun _ _ _ h => h) (Or.inl ⟨by rfl, ?_⟩) hHeld ?_
            rotate_left
            · intro W hSw
              clear hSw
              go_simp
              try with_reducible rfl
            try simp only [Act.put, List.setIfInBounds_toArray, List.set_cons_zero, List.set_cons_succ]
            refine wpAnyH_ready (rs := [12]) (by kernel_rfl) (by simp) ?_
            refine AllReadyH.cons (o := { dst := none, op := Op.store 26 (Operand.tmp 12) (Operand.tmp 78), type := 0, pos := "ref.go:121", after := #[{ on := 11, ground := Ground.data }, { on := 9, ground := Ground.data }, { on := 7, ground := Ground.chain }, { on := 0, ground := Ground.phase }, { on := 1, ground := Ground.phase }, { on := 2, ground := Ground.phase }, { on := 3, ground := Ground.phase }, { on := 4, ground := Ground.phase }, { on := 5, ground := Ground.phase }, { on := 6, ground := Ground.phase }, { on := 7, ground := Ground.phase }, { on := 8, ground := Ground.phase }, { on := 9, ground := Ground.phase }, { on := 10, ground := Ground.textOnly Departure.lateStores }, { on := 11, ground := Ground.phase }], guard := none }) rfl (fun K hK => ?_) ?_
            · rw [if_pos (by rfl)]
              refine wp_store_mid 26 _ _ rfl _ 0 DX.toArray rfl rfl (by rw [show DX.toArray.size = 32 from HlX.out]; exact ht) (by rw [List.size_toArray, HlX.out]; exact infoDg) (all_oneCell_toArray HoX.out) ?_
              refine hK.out _ _ (setCells_below _ _ _ hHeld (by omega)) (fun hHeld2 => ?_)
              have Hr := Lib.hid (World.rangeAt_setCells_same _ _ 0 DX (by rw [HlX.out]; exact ht))
              clear hHeld
              have hHeld := hHeld2
              clear hHeld2
              clear hK K
              refine wpAnyH_ready (rs := [13]) (by kernel_rfl) (by simp) ?_
              refine AllReadyH.cons (o := { dst := some 13, op := Op.assign (Operand.tmp 79), type := 28, pos := "ref.go:121", after := #[{ on := 10, ground := Ground.data }, { on := 12, ground := Ground.chain }, { on := 0, ground := Ground.phase }, { on := 1, ground := Ground.phase }, { on := 2, ground := Ground.phase }, { on := 3, ground := Ground.phase }, { on := 4, ground := Ground.phase }, { on := 5, ground := Ground.phase }, { on := 6, ground := Ground.phase }, { on := 7, ground := Ground.phase }, { on := 8, ground := Ground.phase }, { on := 9, ground := Ground.phase }, { on := 10, ground := Ground.phase }, { on := 11, ground := Ground.phase }, { on := 12, ground := Ground.phase }], guard := none }) rfl (fun K hK => ?_) ?_
              · go_simp
                refine hK.out _ _ hHeld (fun hHeld => ?_)
                clear hK K
                try simp only [Act.put, List.setIfInBounds_toArray, List.set_cons_zero, List.set_cons_succ]
                have Hb9 := Lib.hid (Hbw.out.trans (hHeld.mono Hbw.out.size))
                have H19 := Lib.hid (H1w.out.below hHeld H1w.out.lt)
                have heq := Heq.out
                clear hHeld ht hbl hbz
                refine wpAnyH_done (by kernel_rfl) ?_ _
                go_wp2_with (first
                  | (refine wpList_load_mid_g (by first | rfl | simp [Region.wanted, yielded]) 26 _ rfl _ 0 rfl DX _ Hr.out Tryd.underlying26 rfl (by rw [HlX.out]; exact infoDg) ?_)
                  | (refine wpList_load_row_g (by first | rfl | simp [Region.wanted, yielded]) 26 _ rfl w.heap.size rfl 26 D.toArray (0, 0) _ H19.out Tryd.underlying26 rfl (by rw [List.size_toArray, Hl1.out]; exact infoDg) ?_))
                go_ret
                exact ⟨rfl, Hb9.out⟩
              exact AllReadyH.nil
            exact AllReadyH.nil
          exact AllReadyH.nil
        exact AllReadyH.nil
      exact AllReadyH.nil
end Go.Proofs.YtiloaheaglcpbaaDoor
