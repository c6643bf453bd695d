/- Signing: the statement SigningShape, the walk with a longer path. -/
import Derived.Test.YtiloaheaglcpbaaDoorSgY2
import Derived.Test.YtiloaheaglcpbaaDoorSgX2
namespace Go.Proofs.YtiloaheaglcpbaaDoor
open Go.RowKit

/-- append onto a row of the call's own, whatever the size of an element: as one step of a region that draws -/
theorem step_app_rows {P : Program} {ops : Array Oper} {o : Oper} {a : Act} {w : World} {K : Act → World → Prop} {Q : Exit → Act → World → Prop} {E : Prop}
    (hgd : o.guard = none) (s x : Operand) (t : TypeId) (ho : o.op = .call { callee := .builtin .append, args := #[s, x], argTypes := #[t, t] })
    (base : Nat) (e : TypeId) (i : TypeInfo) (z : Value) (size bytes : Nat) (ht : P.underlying t = some (.slice e)) (hi : P.info? e = some i) (hz : i.zero = some z)
    (hsize : i.size = size) (hby : i.bytes = bytes) (hzs : z.cells.size = size) (hsz : 0 < size)
    (gv n cv : Nat) (xs : List Value) (hs : a.eval s = .slice (some ⟨gv, 0, none⟩) n cv) (hown : w.ownsRow base e size (.slice (some ⟨gv, 0, none⟩) n cv) n xs)
    (ao : Option Addr) (k c : Nat) (ys : List Value) (hx : a.eval x = .slice ao k c) (hl : ys.length = k * size) (hy : ∀ ad, ao = some ad → ∀ j u, ys[j]? = some u → w.cell? (ad.add j) = some u) (hn : ao = none → k = 0)
    (h1 : ∀ u ∈ ys, u.oneCell' = true) (m : Nat) (hm : n + k = m) (h63 : m ≤ maxLen) (hb : m * bytes ≤ 140737488355328) (hbase : base ≤ w.heap.size)
    (hK : ∀ g cap w', w'.ownsRow base e size (.slice (some ⟨g, 0, none⟩) m cap) m (xs ++ ys) → w.grownBy w' (some gv) → K (a.put o.dst (.slice (some ⟨g, 0, none⟩) m cap)) w') :
    if Region.wanted o (yielded ops a.tmps) = true then Oper.wp P o a w K Q else E := by
  have hw : Region.wanted o (yielded ops a.tmps) = true := by simp [Region.wanted, hgd]
  rw [if_pos hw]
  subst hm
  cases ao with
  | none =>
    obtain rfl := hn rfl
    have hy0 : ys = [] := List.eq_nil_of_length_eq_zero (by rw [hl, Nat.zero_mul])
    subst hy0
    have hr : (Builtin.append_ #[t, t] o.type #[.slice (some ⟨gv, 0, none⟩) n cv, .slice none 0 c]).run P w = .ok (.slice (some ⟨gv, 0, none⟩) n cv) w := by
      have hnc : n ≤ cv := by
        rcases hown.2 with ⟨h, _⟩ | ⟨g, cap, cur, h, _, _, hnc, _⟩
        · cases h
        · cases h; exact hnc
      simp [Builtin.append_, run_underlying ht, sizeOf, typeInfo, hi, Builtin.lenOf, Builtin.firstCells, hnc, storeCells]
    unfold Oper.wp execOp
    simp only [ho, resolve, invoke, builtin, Sem.run_bind, Sem.run_pure, Result.andThen_ok, List.map_toArray, List.map_cons, List.map_nil, hs, hx, hr]
    exact hK gv cv w (by simpa using hown) (World.grownBy.refl _ _)
  | some ad =>
    obtain ⟨v', w', hr, h2, h3, h4⟩ := run_append_own (P := P) w base t o.type e i z size bytes ht hi hz hsize hby hzs hsz (.slice (some ⟨gv, 0, none⟩) n cv) n xs hown ad k c ys hl (hy ad rfl) h1 h63 hb hbase
    obtain ⟨g, cap, rfl⟩ : ∃ g cap, v' = .slice (some ⟨g, 0, none⟩) (n + k) cap := by
      rcases h2.2 with ⟨rfl, he⟩ | ⟨g, cap, cur, rfl, _⟩
      · have := (h4.1 rfl).1; cases this
      · exact ⟨g, cap, rfl⟩
    unfold Oper.wp execOp
    simp only [ho, resolve, invoke, builtin, Sem.run_bind, Sem.run_pure, Result.andThen_ok, List.map_toArray, List.map_cons, List.map_nil, hs, hx, hr]
    exact hK g cap w' h2 h3
theorem own_cell_ne {w : World} {B : Nat} {e : TypeId} {size n : Nat} {v : Value} {xs : List Value} (h : w.ownsRow B e size v n xs) {p : Addr} (hp : v.ownBlock ≠ some p.block) (u : Value) : (w.setCell p u).ownsRow B e size v n xs := by
  rcases h with ⟨h1, h2 | ⟨g, cap, cur, e1, e2, e3, r⟩⟩
  · exact ⟨h1, .inl h2⟩
  · exact ⟨h1, .inr ⟨g, cap, cur, e1, e2, (Below.heap_setCell w p u g (fun h => hp (by rw [e1, ← h]; rfl))).trans e3, r⟩⟩
theorem own_src {w : World} {B k c size : Nat} {e : TypeId} {ao : Option Addr} {ys : List Value} (h : w.ownsRow B e size (.slice ao k c) k ys) : (∀ ad, ao = some ad → ∀ j u, ys[j]? = some u → w.cell? (ad.add j) = some u) ∧ (ao = none → k = 0) := by
  refine ⟨fun ad he j u hu => ?_, fun he => ?_⟩
  · subst he
    rcases h.2 with ⟨he, _⟩ | ⟨g, cap, cur, he, _⟩
    · cases he
    · cases he
      rw [Addr.add_mid, Nat.zero_add]
      have hj : j < k * size := by
        rcases Nat.lt_or_ge j (k * size) with h' | h'
        · exact h'
        · rw [List.getElem?_eq_none (by rw [h.1]; exact h')] at hu; cases hu
      rw [h.cellAt j hj]; exact hu
  · subst he
    rcases h.2 with ⟨he, _⟩ | ⟨g, cap, cur, he, _⟩
    · cases he; rfl
    · cases he

set_option maxRecDepth 100000 in
set_option maxHeartbeats 1000000 in
theorem sh_1 (seed : List UInt8) (n : Nat) (hn : seed.length = n) (sa : Option Addr) (scap : Nat) (m : Nat) (hm : m = 1 ∨ m = 2) (ix : Nat) (hix : ix < m) (hk : isKeyB n (m : Int) (ix : Int) = true)
    (msg : List UInt8) (q : Nat) (hq : msg.length = q) (hq9 : q ≤ 300) (am : Option Addr) (capm : Nat) (z : Int) (w : World) (hs : Sl w 1 (.slice sa n scap) n (bc seed)) (hy : Sl w 1 (.slice am q capm) q (bc msg)) (hT : Tabs w) :
    Calls Tryd.prog 10 #[.agg #[.slice sa n scap, .int .i64 (m : Int), .int .i64 (ix : Int)], .slice am q capm, .int .i64 1, .int .i64 z] w fun e w' => e = .returned (.bool true) ∧ Below w.heap.size w w' := by
  have hk9 := isKeyB_t hk
  have HSane := Lib.hid (fun W => sane_any W)
  have HF := Lib.hid (fun W => few_any sa n scap (m : Int) (ix : Int) am q capm W)
  rw [few_t hm (by omega) hq9] at HF
  have HPub : Hid (∀ W, Below w.heap.size w W → Calls Tryd.prog 20 #[.agg #[.slice sa n scap, .int .i64 (m : Int), .int .i64 (ix : Int)]] W fun e w' => e = .returned (.tuple #[arrV (pub seed m), .int .i64 0]) ∧ Below W.heap.size W w') :=
    Lib.hid (fun W hb => public_ok seed n hn sa scap m hm ix hk W (hs.next hb) (hT.next hb))
  have HS : Hid (∀ W, Below w.heap.size w W → Calls Tryd.prog 22 #[.agg #[.slice sa n scap, .int .i64 (m : Int), .int .i64 (ix : Int)], .slice am q capm] W fun e w' => ∃ v p, e = .returned (.tuple #[.agg #[.slice sa n scap, .int .i64 (m : Int), .int .i64 (ix + 1 : Int)], .agg #[.int .i64 (ix : Int), v, p], .int .i64 0])
      ∧ w'.ownsRow W.heap.size 26 32 v 67 (prC seed ix (mh (pub seed m) ix msg) 67) ∧ w'.ownsRow W.heap.size 26 32 p (m - 1) (ptC seed m ix) ∧ Below W.heap.size W w') :=
    Lib.hid (fun W hb => sign_ok seed n hn sa scap m hm ix hix hk msg q hq (by omega) am capm W (hs.next hb) (hy.next hb) (hT.next hb))
  have HV : Hid (∀ v p B B' W, Below w.heap.size w W → W.ownsRow B 26 32 v 67 (prC seed ix (mh (pub seed m) ix msg) 67) → W.ownsRow B' 26 32 p (m - 1) (ptC seed m ix) → Calls Tryd.prog 25 #[arrV (pub seed m), .int .i64 (m : Int), .slice am q capm, .agg #[.int .i64 (ix : Int), v, p]] W fun e w' => e = .returned (.bool true) ∧ Below W.heap.size W w') :=
    Lib.hid (fun v p B B' W hb hv hp => verify_signed seed m hm ix hix msg q hq (by omega) am capm v p B B' W (hy.next hb) hv hp (hT.next hb))
  have HVb : Hid (∀ (D : Array Value) (mm idx : Int) ap np cp aq nq cq W, vfyB mm idx np q = false → Calls Tryd.prog 25 #[.agg D, .int .i64 mm, .slice am q capm, .agg #[.int .i64 idx, .slice ap np cp, .slice aq nq cq]] W fun e w' => e = .returned (.bool false) ∧ Below W.heap.size W w') :=
    Lib.hid (fun D mm idx ap np cp aq nq cq W h => verify_bad D mm idx am q capm ap np cp aq nq cq W h)
  have HVl : Hid (∀ v B pa pcap W, Below w.heap.size w W → W.ownsRow B 26 32 v 67 (prC seed ix (mh (pub seed m) ix msg) 67) → Calls Tryd.prog 25 #[arrV (pub seed m), .int .i64 (m : Int), .slice am q capm, .agg #[.int .i64 (ix : Int), v, .slice pa m pcap]] W fun e w' => e = .returned (.bool false) ∧ Below W.heap.size W w') :=
    Lib.hid (fun v B pa pcap W hb hv => verify_long seed m hm ix hix msg q hq (by omega) am capm v B pa pcap W (hy.next hb) hv (hT.next hb))
  have HO := Lib.hid (And.intro (show (bc (pub seed m)).length = 32 by rw [bc_len, pub_len]) (bc_one (pub seed m)))
  obtain ⟨iu, hiu, hu0, hu1, hu2⟩ := info_parts infoD32
  have HoP := Lib.hid (show ∀ u ∈ ptC seed m ix, u.oneCell' = true by unfold ptC; split; (intro u hu; cases hu); exact bc_one _)
  unfold arrV at HPub HV HVl
  obtain ⟨DP, hDP⟩ : ∃ DP, bc (pub seed m) = DP := ⟨_, rfl⟩
  rw [hDP] at HPub HO
  simp only [hDP] at HV HVl
  obtain ⟨C1, hC1⟩ : ∃ C, prC seed ix (mh (pub seed m) ix msg) 67 = C := ⟨_, rfl⟩
  obtain ⟨P1, hP1⟩ : ∃ C, ptC seed m ix = C := ⟨_, rfl⟩
  simp only [hC1, hP1] at HS HV HVl
  rw [hP1] at HoP
  have H0 := Lib.hid (Blk.new w 24 #[.slice sa n scap, .int .i64 (m : Int), .int .i64 (ix : Int)])
  have Hb := Lib.hid (below_alloc w (.cells #[.slice sa n scap, .int .i64 (m : Int), .int .i64 (ix : Int)] 24))
  clear hs hy hT hn hq hk hDP hC1 hP1 hk9
  go_enter Tryd.func10, Tryd.ntmps10
  go_wp2_with (first
    | (refine (HSane.out _).mono ?_
       rintro e w1 ⟨rfl, hb1⟩
       obtain ⟨c0, c1, c2, f0, f1, f2⟩ := cells3 (H0.out.below hb1 H0.out.lt)
       have HK1 := Lib.hid (H0.out.below hb1 H0.out.lt)
       have Hb1 := Lib.hid (Hb.out.trans (hb1.mono Hb.out.size))
       clear hb1)
    | (refine (HF.out _).mono ?_
       rintro e w2 ⟨rfl, hb2⟩
       clear c0 c1 c2 f0 f1 f2
       obtain ⟨c0, c1, c2, f0, f1, f2⟩ := cells3 (HK1.out.below hb2 HK1.out.lt)
       have HK2 := Lib.hid (HK1.out.below hb2 HK1.out.lt)
       have Hb2 := Lib.hid (Hb1.out.trans (hb2.mono Hb1.out.size))
       clear hb2)
    | (with_reducible refine Calls.mono (HPub.out _ Hb2.out) ?_
       rintro e w4 ⟨rfl, hb4⟩
       have hbb := Hb2.out.trans (hb4.mono Hb2.out.size)
       have hB := Blk.new w4 26 #[.int .u8 0, .int .u8 0, .int .u8 0, .int .u8 0, .int .u8 0, .int .u8 0, .int .u8 0, .int .u8 0, .int .u8 0, .int .u8 0, .int .u8 0, .int .u8 0, .int .u8 0, .int .u8 0, .int .u8 0, .int .u8 0, .int .u8 0, .int .u8 0, .int .u8 0, .int .u8 0, .int .u8 0, .int .u8 0, .int .u8 0, .int .u8 0, .int .u8 0, .int .u8 0, .int .u8 0, .int .u8 0, .int .u8 0, .int .u8 0, .int .u8 0, .int .u8 0]
       have hxK := (HK2.out.below hb4 HK2.out.lt)
       have hlK := hxK.lt
       have hyK := (hxK.alloc (.cells #[.int .u8 0, .int .u8 0, .int .u8 0, .int .u8 0, .int .u8 0, .int .u8 0, .int .u8 0, .int .u8 0, .int .u8 0, .int .u8 0, .int .u8 0, .int .u8 0, .int .u8 0, .int .u8 0, .int .u8 0, .int .u8 0, .int .u8 0, .int .u8 0, .int .u8 0, .int .u8 0, .int .u8 0, .int .u8 0, .int .u8 0, .int .u8 0, .int .u8 0, .int .u8 0, .int .u8 0, .int .u8 0, .int .u8 0, .int .u8 0, .int .u8 0, .int .u8 0] 26)).farRow (show w.heap.size ≠ w4.heap.size by omega) DP.toArray
       have hBr := hB.setRow DP.toArray
       have hbc := setRow_below (g := w4.heap.size) (hbb.alloc hbb.size (.cells #[.int .u8 0, .int .u8 0, .int .u8 0, .int .u8 0, .int .u8 0, .int .u8 0, .int .u8 0, .int .u8 0, .int .u8 0, .int .u8 0, .int .u8 0, .int .u8 0, .int .u8 0, .int .u8 0, .int .u8 0, .int .u8 0, .int .u8 0, .int .u8 0, .int .u8 0, .int .u8 0, .int .u8 0, .int .u8 0, .int .u8 0, .int .u8 0, .int .u8 0, .int .u8 0, .int .u8 0, .int .u8 0, .int .u8 0, .int .u8 0, .int .u8 0, .int .u8 0] 26)) hbb.size DP.toArray
       have hbd := setRow_below (g := w4.heap.size) (hb4.alloc hb4.size (.cells #[.int .u8 0, .int .u8 0, .int .u8 0, .int .u8 0, .int .u8 0, .int .u8 0, .int .u8 0, .int .u8 0, .int .u8 0, .int .u8 0, .int .u8 0, .int .u8 0, .int .u8 0, .int .u8 0, .int .u8 0, .int .u8 0, .int .u8 0, .int .u8 0, .int .u8 0, .int .u8 0, .int .u8 0, .int .u8 0, .int .u8 0, .int .u8 0, .int .u8 0, .int .u8 0, .int .u8 0, .int .u8 0, .int .u8 0, .int .u8 0, .int .u8 0, .int .u8 0] 26)) hb4.size DP.toArray
       obtain ⟨w5, hw5⟩ : ∃ w5, (w4.alloc (.cells #[.int .u8 0, .int .u8 0, .int .u8 0, .int .u8 0, .int .u8 0, .int .u8 0, .int .u8 0, .int .u8 0, .int .u8 0, .int .u8 0, .int .u8 0, .int .u8 0, .int .u8 0, .int .u8 0, .int .u8 0, .int .u8 0, .int .u8 0, .int .u8 0, .int .u8 0, .int .u8 0, .int .u8 0, .int .u8 0, .int .u8 0, .int .u8 0, .int .u8 0, .int .u8 0, .int .u8 0, .int .u8 0, .int .u8 0, .int .u8 0, .int .u8 0, .int .u8 0] 26)).setRow w4.heap.size DP.toArray = w5 := ⟨_, rfl⟩
       rw [hw5] at hBr hbc hbd hyK
       have HW5 := Lib.hid hw5
       have HB5 := Lib.hid hB
       have HP5 := Lib.hid hBr
       have Hb5 := Lib.hid hbc
       have Hs5 := Lib.hid hbd
       have HK5 := Lib.hid hyK
       clear hb4 hbb hB hBr hbc hbd hw5 hxK hlK hyK
       clear c0 c1 c2 f0 f1 f2
       obtain ⟨c0, c1, c2, f0, f1, f2⟩ := cells3 HK5.out)
    | (refine wpList_store_row rfl 26 _ _ rfl w4.heap.size DP.toArray rfl rfl 26 _ HB5.out (by rw [List.size_toArray, HO.out.1]; exact infoDg) (show 32 = DP.length from HO.out.1.symm) (all_oneCell_toArray HO.out.2) ?_; rw [HW5.out])
    | (with_reducible refine Calls.mono (HS.out _ Hb5.out) ?_
       rintro e w6 ⟨v1, p1, rfl, ho1, hq1, hb6⟩
       obtain ⟨ga, d1, rfl, hd1, hr1⟩ := own_range ho1 (by omega)
       obtain ⟨p1, d2, rfl⟩ := (Sl.of_own hq1).form
       have hbb := Hb5.out.trans (hb6.mono Hb5.out.size)
       have h2 := two_b w6 #[.slice sa n scap, .int .i64 (m : Int), .int .i64 (ix + 1 : Int)] #[.int .i64 (ix : Int), .slice (some ⟨ga, 0, none⟩) 67 d1, .slice p1 (m - 1) d2]
       have hk7 := two_k w6 #[.slice sa n scap, .int .i64 (m : Int), .int .i64 (ix + 1 : Int)] #[.int .i64 (ix : Int), .slice (some ⟨ga, 0, none⟩) 67 d1, .slice p1 (m - 1) d2]
       have hs7 := two_s w6 #[.slice sa n scap, .int .i64 (m : Int), .int .i64 (ix + 1 : Int)] #[.int .i64 (ix : Int), .slice (some ⟨ga, 0, none⟩) 67 d1, .slice p1 (m - 1) d2]
       obtain ⟨w7, hw7⟩ : ∃ w7, two w6 #[.slice sa n scap, .int .i64 (m : Int), .int .i64 (ix + 1 : Int)] #[.int .i64 (ix : Int), .slice (some ⟨ga, 0, none⟩) 67 d1, .slice p1 (m - 1) d2] = w7 := ⟨_, rfl⟩
       rw [hw7] at h2 hk7 hs7
       unfold two at hw7
       have HW7 := Lib.hid hw7
       have HK7 := Lib.hid ((HK5.out.below hb6 HK5.out.lt).below h2 (HK5.out.below hb6 HK5.out.lt).lt)
       have HP7 := Lib.hid ((HP5.out.below hb6 HP5.out.lt).below h2 (HP5.out.below hb6 HP5.out.lt).lt)
       have Hb7 := Lib.hid (hbb.trans (h2.mono hbb.size))
       have HX7 := Lib.hid hk7
       have HS7 := Lib.hid hs7
       have Ho7 := Lib.hid (own_next ho1 h2)
       have Hq7 := Lib.hid (own_next hq1 h2)
       have Hne := Lib.hid (show w4.heap.size ≠ w6.heap.size + 1 by have := HP5.out.lt; have := hb6.size; omega)
       have Hnk := Lib.hid (show w.heap.size ≤ w6.heap.size + 1 by have := Hb5.out.size; have := hb6.size; omega)
       have k1 : (66 : Int) ≤ (d1 : Int) := by omega
       have Hga := Lib.hid (show ga ≠ w6.heap.size + 1 by have := (ho1.lt ga (by simp [Value.ownBlock])).2; omega)
       obtain ⟨i0, i1, i2, j0, j1, j2⟩ := cells3 hs7
       clear ho1 hq1 hr1
       clear hb6 hbb h2 hw7 hk7 hs7 c0 c1 c2 f0 f1 f2
       obtain ⟨c0, c1, c2, f0, f1, f2⟩ := cells3 HK7.out)
    | (refine wpList_store_row rfl 24 _ _ rfl w6.heap.size #[.slice sa n scap, .int .i64 (m : Int), .int .i64 (ix + 1 : Int)] rfl rfl 24 _ (two_0 w6) infoKey rfl (one3 rfl rfl rfl) ?_)
    | (refine wpList_store_row rfl 42 _ _ rfl (w6.heap.size + 1) #[.int .i64 (ix : Int), .slice (some ⟨ga, 0, none⟩) 67 d1, .slice p1 (m - 1) d2] rfl rfl 42 _ (two_1 w6 #[.slice sa n scap, .int .i64 (m : Int), .int .i64 (ix + 1 : Int)]) infoSig rfl (one3 rfl rfl rfl) ?_; rw [HW7.out])
    | (refine wpList_load_row rfl 26 _ rfl w4.heap.size rfl 26 DP.toArray (0, 0) _ (by first | exact HP7.out | exact HP7.out.far Hne.out _) Tryd.underlying26 rfl (by rw [List.size_toArray, HO.out.1]; exact infoDg) ?_)
    | fail)
  clear c0 c1 c2 f0 f1 f2
  have hl0 := HO.out.1
  have i2a : ∀ o, (w7.alloc o).cell? ⟨w6.heap.size + 1, 2, none⟩ = some (.slice p1 (m - 1) d2) := fun o => (cells3 (HS7.out.alloc o)).2.2.1
  have i2b : ∀ o o', ((w7.alloc o).alloc o').cell? ⟨w6.heap.size + 1, 2, none⟩ = some (.slice p1 (m - 1) d2) := fun o o' => (cells3 ((HS7.out.alloc o).alloc o')).2.2.1
  refine wp_region_held_drew (S := fun w' => Blk w' w4.heap.size 26 DP.toArray) (by kernel_rfl) (HP7.out.drew) (fun hHeld => ?_)
  refine wpAnyH_take (i := 1) (oi := { dst := some 64, op := Op.fieldAddr 42 (Operand.tmp 12) 2, type := 0, pos := "law.go:204", after := #[], guard := none }) (v := ?_) rfl (by kernel_rfl) (by kernel_rfl) (by kernel_rfl) (fun _ _ _ h => h) (Or.inl ⟨by rfl, ?_⟩) hHeld ?_
  rotate_left
  · intro W hSw
    clear hSw
    go_simp
    try with_reducible rfl
  try simp only [Act.put, List.setIfInBounds_toArray, List.set_cons_zero, List.set_cons_succ]
  refine wpAnyH_take (i := 4) (oi := { dst := some 67, op := Op.load 26 (Operand.tmp 9), type := 26, pos := "law.go:204", after := #[], guard := none }) rfl (by kernel_rfl) (by kernel_rfl) (by kernel_rfl) (fun _ _ _ h => h) (yieldsIf_load_mid (by rfl) _ _ rfl w4.heap.size _ rfl DP _ (fun W h => Blk.range h) Tryd.underlying26 rfl (by rw [HO.out.1]; exact infoDg)) hHeld ?_
  try simp only [Act.put, List.setIfInBounds_toArray, List.set_cons_zero, List.set_cons_succ]
  refine wpAnyH_ready (rs := [0, 2, 5]) (by kernel_rfl) (by simp) ?_
  refine AllReadyH.cons (o := { dst := some 63, op := Op.buildSlice 40 0 #[], type := 40, pos := "law.go:204", after := #[], guard := none }) rfl (fun K hK => ?_) ?_
  · go_simp
    refine hK.out _ _ (by (repeat (first | (with_reducible exact HP7.out) | (with_reducible exact hP8) | (with_reducible refine Blk.drew ?_) | (with_reducible refine Blk.alloc ?_ _)))) (fun hHeld => ?_)
    clear hK K
    try simp only [Act.put, List.setIfInBounds_toArray, List.set_cons_zero, List.set_cons_succ]
    refine wpAnyH_ready (rs := [2, 5]) (by kernel_rfl) (by simp) ?_
    refine AllReadyH.cons (o := { dst := some 65, op := Op.load 40 (Operand.tmp 64), type := 40, pos := "law.go:204", after := #[{ on := 1, ground := Ground.data }], guard := none }) rfl (fun K hK => ?_) ?_
    · go_simp
      refine hK.out _ _ (by (repeat (first | (with_reducible exact HP7.out) | (with_reducible exact hP8) | (with_reducible refine Blk.drew ?_) | (with_reducible refine Blk.alloc ?_ _)))) (fun hHeld => ?_)
      clear hK K
      try simp only [Act.put, List.setIfInBounds_toArray, List.set_cons_zero, List.set_cons_succ]
      refine wpAnyH_ready (rs := [3, 5]) (by kernel_rfl) (by simp) ?_
      refine AllReadyH.cons (o := { dst := some 66, op := Op.call { callee := Callee.builtin Builtin.append, args := #[Operand.tmp 63, Operand.tmp 65], argTypes := #[40, 40] }, type := 40, pos := "law.go:204", after := #[{ on := 0, ground := Ground.data }, { on := 2, ground := Ground.data }], guard := none }) rfl (fun K hK => ?_) ?_
      · refine step_app_rows rfl (.tmp 63) (.tmp 65) 40 rfl w7.heap.size 26 iu _ 32 32 Tryd.underlying40 hiu hu0 hu1 hu2 rfl (by omega) _ 0 0 [] rfl (own_emptyAt _ _ _ (by simp) _ _ (by (repeat (first | (with_reducible exact blk_at _ _ _ _ (by simp)) | (with_reducible refine Blk.drew ?_) | (with_reducible refine Blk.alloc ?_ _))))) p1 (m - 1) d2 P1 rfl Hq7.out.1 (own_src (own_next Hq7.out (by (repeat (first | (with_reducible exact Below.refl _ _) | (with_reducible refine Below.drew ?_) | (with_reducible refine Below.alloc ?_ (by first | exact Nat.le_refl _ | exact hb8.size | (simp; done) | (simp; omega)) _)))))).1 (own_src Hq7.out).2 HoP.out (m - 1) (by omega) (by unfold maxLen; omega) (by omega) (by first | exact Nat.le_refl _ | (simp; done) | (simp; omega)) ?_
        intro g8 cap8 w8 hown8 hg8
        have hk8 := fun (g : Nat) (t : TypeId) (cs : Array Value) hB hne => blk_grown (g := g) (t := t) (cs := cs) hB hg8 hne
        have hb8 : Below w7.heap.size w7 w8 := Below.grown (by (repeat (first | (with_reducible exact Below.refl _ _) | (with_reducible refine Below.drew ?_) | (with_reducible refine Below.alloc ?_ (by first | exact Nat.le_refl _ | exact hb8.size | (simp; done) | (simp; omega)) _)))) hg8 (by first | exact Nat.le_refl _ | (simp; done) | (simp; omega)) (fun k hk => by cases hk; simp)
        have hP8 := HP7.out.below hb8 HP7.out.lt
        refine hK.out _ _ hP8 (fun hHeld => ?_)
        clear hK K
        try simp only [Act.put, List.setIfInBounds_toArray, List.set_cons_zero, List.set_cons_succ]
        refine wpAnyH_ready (rs := [5]) (by kernel_rfl) (by simp) ?_
        refine AllReadyH.cons (o := { dst := some 68, op := Op.buildSlice 40 1 #[(0, Operand.tmp 67)], type := 40, pos := "law.go:204", after := #[{ on := 4, ground := Ground.data }], guard := none }) rfl (fun K hK => ?_) ?_
        · go_simp
          try rw [fold_all DP _ (by rw [HO.out.1]; rfl)]
          refine hK.out _ _ (by (repeat (first | (with_reducible exact HP7.out) | (with_reducible exact hP8) | (with_reducible refine Blk.drew ?_) | (with_reducible refine Blk.alloc ?_ _)))) (fun hHeld => ?_)
          clear hK K
          try simp only [Act.put, List.setIfInBounds_toArray, List.set_cons_zero, List.set_cons_succ]
          refine wpAnyH_ready (rs := [6]) (by kernel_rfl) (by simp) ?_
          refine AllReadyH.cons (o := { dst := some 69, op := Op.call { callee := Callee.builtin Builtin.append, args := #[Operand.tmp 66, Operand.tmp 68], argTypes := #[40, 40] }, type := 40, pos := "law.go:204", after := #[{ on := 3, ground := Ground.data }, { on := 5, ground := Ground.data }, { on := 3, ground := Ground.chain }], guard := none }) rfl (fun K hK => ?_) ?_
          · refine step_app_rows rfl (.tmp 66) (.tmp 68) 40 rfl w7.heap.size 26 iu _ 32 32 Tryd.underlying40 hiu hu0 hu1 hu2 rfl (by omega) g8 (m - 1) cap8 ([] ++ P1) rfl (by (repeat (first | (with_reducible exact hown8) | (with_reducible refine own_drew ?_) | (with_reducible refine World.ownsRow.alloc ?_ _)))) (some ⟨_, 0, none⟩) 1 1 DP rfl (by rw [HO.out.1]) (fun ad had j u hu => by cases had; rw [Addr.add_mid]; exact (Blk.range (t := 26) (by (repeat (first | (with_reducible exact blk_at _ _ _ _ (by simp)) | (with_reducible refine Blk.drew ?_) | (with_reducible refine hk8 _ _ _ ?_ (by simp)) | (with_reducible refine Blk.alloc ?_ _))))) j u hu) (fun h => by cases h) HO.out.2 m (by omega) (by unfold maxLen; omega) (by omega) (by have := hb8.size; first | exact this | (simp; omega)) ?_
            intro g9 cap9 w9 hown9 hg9
            have hb9 : Below w7.heap.size w7 w9 := Below.grown (by (repeat (first | (with_reducible exact hb8) | (with_reducible refine Below.drew ?_) | (with_reducible refine Below.alloc ?_ (by first | exact Nat.le_refl _ | exact hb8.size | (simp; done) | (simp; omega)) _)))) hg9 (by have := hb8.size; first | exact this | (simp; omega)) (fun k hk => by cases hk; exact (hown8.lt _ rfl).1)
            have hP9 := HP7.out.below hb9 HP7.out.lt
            have hS9 := HS7.out.below hb9 HS7.out.lt
            refine hK.out _ _ hP9 (fun hHeld => ?_)
            clear hK K
            try simp only [Act.put, List.setIfInBounds_toArray, List.set_cons_zero, List.set_cons_succ]
            refine wpAnyH_take (i := 7) (oi := { dst := some 70, op := Op.fieldAddr 42 (Operand.tmp 12) 2, type := 0, pos := "law.go:204", after := #[{ on := 0, ground := Ground.phase }, { on := 1, ground := Ground.phase }, { on := 2, ground := Ground.phase }, { on := 3, ground := Ground.phase }, { on := 4, ground := Ground.phase }, { on := 5, ground := Ground.phase }, { on := 6, ground := Ground.phase }], guard := none }) (v := ?_) rfl (by kernel_rfl) (by kernel_rfl) (by kernel_rfl) (fun _ _ _ h => h) (Or.inl ⟨by rfl, ?_⟩) hHeld ?_
            rotate_left
            · intro W hSw
              clear hSw
              go_simp
              try with_reducible rfl
            try simp only [Act.put, List.setIfInBounds_toArray, List.set_cons_zero, List.set_cons_succ]
            clear i0 i1 i2 j0 j1 j2
            obtain ⟨i0, i1, i2, j0, j1, j2⟩ := cells3 hS9
            refine wpAnyH_ready (rs := [8]) (by kernel_rfl) (by simp) ?_
            refine AllReadyH.cons (o := { dst := none, op := Op.store 40 (Operand.tmp 70) (Operand.tmp 69), type := 0, pos := "law.go:204", after := #[{ on := 7, ground := Ground.data }, { on := 6, ground := Ground.data }, { on := 6, ground := Ground.chain }, { on := 0, ground := Ground.phase }, { on := 1, ground := Ground.phase }, { on := 2, ground := Ground.phase }, { on := 3, ground := Ground.phase }, { on := 4, ground := Ground.phase }, { on := 5, ground := Ground.phase }, { on := 6, ground := Ground.phase }], guard := none }) rfl (fun K hK => ?_) AllReadyH.nil
            go_simp
            refine hK.out _ _ (Blk.far (by (repeat (first | (with_reducible exact hP9) | (with_reducible refine Blk.drew ?_)))) (show w4.heap.size ≠ w6.heap.size + 1 from Hne.out) _) (fun hHeld => ?_)
            clear hK K
            try simp only [Act.put, List.setIfInBounds_toArray, List.set_cons_zero, List.set_cons_succ]
            refine wpAnyH_done (by kernel_rfl) ?_ _
            have Hh := Lib.hid hHeld
            have Hbs := Lib.hid ((Hb7.out.trans (hb9.mono Hb7.out.size)).setCell (p := ⟨w6.heap.size + 1, 2, none⟩) Hnk.out (.slice (some ⟨g9, 0, none⟩) m cap9))
            have Hos := Lib.hid (own_cell_ne (own_next Ho7.out hb9) (p := ⟨w6.heap.size + 1, 2, none⟩) (fun h => Hga.out (Option.some.inj h)) (.slice (some ⟨g9, 0, none⟩) m cap9))
            clear hHeld hb8 hb9 hP8 hP9 hg8 hg9 hk8 hown8 hown9
            go_wp2_with (first
              | (refine wpList_load_row rfl 26 _ rfl w4.heap.size rfl 26 DP.toArray (0, 0) _ Hh.out Tryd.underlying26 rfl (by rw [List.size_toArray, HO.out.1]; exact infoDg) ?_)
              | (refine (HVl.out _ _ _ _ _ Hbs.out Hos.out).mono ?_
                 rintro e w8 ⟨rfl, hb8⟩
                 have Hb8 := Lib.hid (Hbs.out.trans (hb8.mono Hbs.out.size))
                 clear hb8))
            go_ret
            exact ⟨rfl, Hb8.out⟩
          exact AllReadyH.nil
        exact AllReadyH.nil
      refine AllReadyH.cons (o := { dst := some 68, op := Op.buildSlice 40 1 #[(0, Operand.tmp 67)], type := 40, pos := "law.go:204", after := #[{ on := 4, ground := Ground.data }], guard := none }) rfl (fun K hK => ?_) ?_
      · go_simp
        try rw [fold_all DP _ (by rw [HO.out.1]; rfl)]
        refine hK.out _ _ (by (repeat (first | (with_reducible exact HP7.out) | (with_reducible exact hP8) | (with_reducible refine Blk.drew ?_) | (with_reducible refine Blk.alloc ?_ _)))) (fun hHeld => ?_)
        clear hK K
        try simp only [Act.put, List.setIfInBounds_toArray, List.set_cons_zero, List.set_cons_succ]
        refine wpAnyH_ready (rs := [3]) (by kernel_rfl) (by simp) ?_
        refine AllReadyH.cons (o := { dst := some 66, op := Op.call { callee := Callee.builtin Builtin.append, args := #[Operand.tmp 63, Operand.tmp 65], argTypes := #[40, 40] }, type := 40, pos := "law.go:204", after := #[{ on := 0, ground := Ground.data }, { on := 2, ground := Ground.data }], guard := none }) rfl (fun K hK => ?_) ?_
        · refine step_app_rows rfl (.tmp 63) (.tmp 65) 40 rfl w7.heap.size 26 iu _ 32 32 Tryd.underlying40 hiu hu0 hu1 hu2 rfl (by omega) _ 0 0 [] rfl (own_emptyAt _ _ _ (by simp) _ _ (by (repeat (first | (with_reducible exact blk_at _ _ _ _ (by simp)) | (with_reducible refine Blk.drew ?_) | (with_reducible refine Blk.alloc ?_ _))))) p1 (m - 1) d2 P1 rfl Hq7.out.1 (own_src (own_next Hq7.out (by (repeat (first | (with_reducible exact Below.refl _ _) | (with_reducible refine Below.drew ?_) | (with_reducible refine Below.alloc ?_ (by first | exact Nat.le_refl _ | exact hb8.size | (simp; done) | (simp; omega)) _)))))).1 (own_src Hq7.out).2 HoP.out (m - 1) (by omega) (by unfold maxLen; omega) (by omega) (by first | exact Nat.le_refl _ | (simp; done) | (simp; omega)) ?_
          intro g8 cap8 w8 hown8 hg8
          have hk8 := fun (g : Nat) (t : TypeId) (cs : Array Value) hB hne => blk_grown (g := g) (t := t) (cs := cs) hB hg8 hne
          have hb8 : Below w7.heap.size w7 w8 := Below.grown (by (repeat (first | (with_reducible exact Below.refl _ _) | (with_reducible refine Below.drew ?_) | (with_reducible refine Below.alloc ?_ (by first | exact Nat.le_refl _ | exact hb8.size | (simp; done) | (simp; omega)) _)))) hg8 (by first | exact Nat.le_refl _ | (simp; done) | (simp; omega)) (fun k hk => by cases hk; simp)
          have hP8 := HP7.out.below hb8 HP7.out.lt
          refine hK.out _ _ hP8 (fun hHeld => ?_)
          clear hK K
          try simp only [Act.put, List.setIfInBounds_toArray, List.set_cons_zero, List.set_cons_succ]
          refine wpAnyH_ready (rs := [6]) (by kernel_rfl) (by simp) ?_
          refine AllReadyH.cons (o := { dst := some 69, op := Op.call { callee := Callee.builtin Builtin.append, args := #[Operand.tmp 66, Operand.tmp 68], argTypes := #[40, 40] }, type := 40, pos := "law.go:204", after := #[{ on := 3, ground := Ground.data }, { on := 5, ground := Ground.data }, { on := 3, ground := Ground.chain }], guard := none }) rfl (fun K hK => ?_) ?_
          · refine step_app_rows rfl (.tmp 66) (.tmp 68) 40 rfl w7.heap.size 26 iu _ 32 32 Tryd.underlying40 hiu hu0 hu1 hu2 rfl (by omega) g8 (m - 1) cap8 ([] ++ P1) rfl (by (repeat (first | (with_reducible exact hown8) | (with_reducible refine own_drew ?_) | (with_reducible refine World.ownsRow.alloc ?_ _)))) (some ⟨_, 0, none⟩) 1 1 DP rfl (by rw [HO.out.1]) (fun ad had j u hu => by cases had; rw [Addr.add_mid]; exact (Blk.range (t := 26) (by (repeat (first | (with_reducible exact blk_at _ _ _ _ (by simp)) | (with_reducible refine Blk.drew ?_) | (with_reducible refine hk8 _ _ _ ?_ (by simp)) | (with_reducible refine Blk.alloc ?_ _))))) j u hu) (fun h => by cases h) HO.out.2 m (by omega) (by unfold maxLen; omega) (by omega) (by have := hb8.size; first | exact this | (simp; omega)) ?_
            intro g9 cap9 w9 hown9 hg9
            have hb9 : Below w7.heap.size w7 w9 := Below.grown (by (repeat (first | (with_reducible exact hb8) | (with_reducible refine Below.drew ?_) | (with_reducible refine Below.alloc ?_ (by first | exact Nat.le_refl _ | exact hb8.size | (simp; done) | (simp; omega)) _)))) hg9 (by have := hb8.size; first | exact this | (simp; omega)) (fun k hk => by cases hk; exact (hown8.lt _ rfl).1)
            have hP9 := HP7.out.below hb9 HP7.out.lt
            have hS9 := HS7.out.below hb9 HS7.out.lt
            refine hK.out _ _ hP9 (fun hHeld => ?_)
            clear hK K
            try simp only [Act.put, List.setIfInBounds_toArray, List.set_cons_zero, List.set_cons_succ]
            refine wpAnyH_take (i := 7) (oi := { dst := some 70, op := Op.fieldAddr 42 (Operand.tmp 12) 2, type := 0, pos := "law.go:204", after := #[{ on := 0, ground := Ground.phase }, { on := 1, ground := Ground.phase }, { on := 2, ground := Ground.phase }, { on := 3, ground := Ground.phase }, { on := 4, ground := Ground.phase }, { on := 5, ground := Ground.phase }, { on := 6, ground := Ground.phase }], guard := none }) (v := ?_) rfl (by kernel_rfl) (by kernel_rfl) (by kernel_rfl) (fun _ _ _ h => h) (Or.inl ⟨by rfl, ?_⟩) hHeld ?_
            rotate_left
            · intro W hSw
              clear hSw
              go_simp
              try with_reducible rfl
            try simp only [Act.put, List.setIfInBounds_toArray, List.set_cons_zero, List.set_cons_succ]
            clear i0 i1 i2 j0 j1 j2
            obtain ⟨i0, i1, i2, j0, j1, j2⟩ := cells3 hS9
            refine wpAnyH_ready (rs := [8]) (by kernel_rfl) (by simp) ?_
            refine AllReadyH.cons (o := { dst := none, op := Op.store 40 (Operand.tmp 70) (Operand.tmp 69), type := 0, pos := "law.go:204", after := #[{ on := 7, ground := Ground.data }, { on := 6, ground := Ground.data }, { on := 6, ground := Ground.chain }, { on := 0, ground := Ground.phase }, { on := 1, ground := Ground.phase }, { on := 2, ground := Ground.phase }, { on := 3, ground := Ground.phase }, { on := 4, ground := Ground.phase }, { on := 5, ground := Ground.phase }, { on := 6, ground := Ground.phase }], guard := none }) rfl (fun K hK => ?_) AllReadyH.nil
            go_simp
            refine hK.out _ _ (Blk.far (by (repeat (first | (with_reducible exact hP9) | (with_reducible refine Blk.drew ?_)))) (show w4.heap.size ≠ w6.heap.size + 1 from Hne.out) _) (fun hHeld => ?_)
            clear hK K
            try simp only [Act.put, List.setIfInBounds_toArray, List.set_cons_zero, List.set_cons_succ]
            refine wpAnyH_done (by kernel_rfl) ?_ _
            have Hh := Lib.hid hHeld
            have Hbs := Lib.hid ((Hb7.out.trans (hb9.mono Hb7.out.size)).setCell (p := ⟨w6.heap.size + 1, 2, none⟩) Hnk.out (.slice (some ⟨g9, 0, none⟩) m cap9))
            have Hos := Lib.hid (own_cell_ne (own_next Ho7.out hb9) (p := ⟨w6.heap.size + 1, 2, none⟩) (fun h => Hga.out (Option.some.inj h)) (.slice (some ⟨g9, 0, none⟩) m cap9))
            clear hHeld hb8 hb9 hP8 hP9 hg8 hg9 hk8 hown8 hown9
            go_wp2_with (first
              | (refine wpList_load_row rfl 26 _ rfl w4.heap.size rfl 26 DP.toArray (0, 0) _ Hh.out Tryd.underlying26 rfl (by rw [List.size_toArray, HO.out.1]; exact infoDg) ?_)
              | (refine (HVl.out _ _ _ _ _ Hbs.out Hos.out).mono ?_
                 rintro e w8 ⟨rfl, hb8⟩
                 have Hb8 := Lib.hid (Hbs.out.trans (hb8.mono Hbs.out.size))
                 clear hb8))
            go_ret
            exact ⟨rfl, Hb8.out⟩
          exact AllReadyH.nil
        exact AllReadyH.nil
      exact AllReadyH.nil
    refine AllReadyH.cons (o := { dst := some 68, op := Op.buildSlice 40 1 #[(0, Operand.tmp 67)], type := 40, pos := "law.go:204", after := #[{ on := 4, ground := Ground.data }], guard := none }) rfl (fun K hK => ?_) ?_
    · go_simp
      try rw [fold_all DP _ (by rw [HO.out.1]; rfl)]
      refine hK.out _ _ (by (repeat (first | (with_reducible exact HP7.out) | (with_reducible exact hP8) | (with_reducible refine Blk.drew ?_) | (with_reducible refine Blk.alloc ?_ _)))) (fun hHeld => ?_)
      clear hK K
      try simp only [Act.put, List.setIfInBounds_toArray, List.set_cons_zero, List.set_cons_succ]
      refine wpAnyH_ready (rs := [2]) (by kernel_rfl) (by simp) ?_
      refine AllReadyH.cons (o := { dst := some 65, op := Op.load 40 (Operand.tmp 64), type := 40, pos := "law.go:204", after := #[{ on := 1, ground := Ground.data }], guard := none }) rfl (fun K hK => ?_) ?_
      · go_simp
        refine hK.out _ _ (by (repeat (first | (with_reducible exact HP7.out) | (with_reducible exact hP8) | (with_reducible refine Blk.drew ?_) | (with_reducible refine Blk.alloc ?_ _)))) (fun hHeld => ?_)
        clear hK K
        try simp only [Act.put, List.setIfInBounds_toArray, List.set_cons_zero, List.set_cons_succ]
        refine wpAnyH_ready (rs := [3]) (by kernel_rfl) (by simp) ?_
        refine AllReadyH.cons (o := { dst := some 66, op := Op.call { callee := Callee.builtin Builtin.append, args := #[Operand.tmp 63, Operand.tmp 65], argTypes := #[40, 40] }, type := 40, pos := "law.go:204", after := #[{ on := 0, ground := Ground.data }, { on := 2, ground := Ground.data }], guard := none }) rfl (fun K hK => ?_) ?_
        · refine step_app_rows rfl (.tmp 63) (.tmp 65) 40 rfl w7.heap.size 26 iu _ 32 32 Tryd.underlying40 hiu hu0 hu1 hu2 rfl (by omega) _ 0 0 [] rfl (own_emptyAt _ _ _ (by simp) _ _ (by (repeat (first | (with_reducible exact blk_at _ _ _ _ (by simp)) | (with_reducible refine Blk.drew ?_) | (with_reducible refine Blk.alloc ?_ _))))) p1 (m - 1) d2 P1 rfl Hq7.out.1 (own_src (own_next Hq7.out (by (repeat (first | (with_reducible exact Below.refl _ _) | (with_reducible refine Below.drew ?_) | (with_reducible refine Below.alloc ?_ (by first | exact Nat.le_refl _ | exact hb8.size | (simp; done) | (simp; omega)) _)))))).1 (own_src Hq7.out).2 HoP.out (m - 1) (by omega) (by unfold maxLen; omega) (by omega) (by first | exact Nat.le_refl _ | (simp; done) | (simp; omega)) ?_
          intro g8 cap8 w8 hown8 hg8
          have hk8 := fun (g : Nat) (t : TypeId) (cs : Array Value) hB hne => blk_grown (g := g) (t := t) (cs := cs) hB hg8 hne
          have hb8 : Below w7.heap.size w7 w8 := Below.grown (by (repeat (first | (with_reducible exact Below.refl _ _) | (with_reducible refine Below.drew ?_) | (with_reducible refine Below.alloc ?_ (by first | exact Nat.le_refl _ | exact hb8.size | (simp; done) | (simp; omega)) _)))) hg8 (by first | exact Nat.le_refl _ | (simp; done) | (simp; omega)) (fun k hk => by cases hk; simp)
          have hP8 := HP7.out.below hb8 HP7.out.lt
          refine hK.out _ _ hP8 (fun hHeld => ?_)
          clear hK K
          try simp only [Act.put, List.setIfInBounds_toArray, List.set_cons_zero, List.set_cons_succ]
          refine wpAnyH_ready (rs := [6]) (by kernel_rfl) (by simp) ?_
          refine AllReadyH.cons (o := { dst := some 69, op := Op.call { callee := Callee.builtin Builtin.append, args := #[Operand.tmp 66, Operand.tmp 68], argTypes := #[40, 40] }, type := 40, pos := "law.go:204", after := #[{ on := 3, ground := Ground.data }, { on := 5, ground := Ground.data }, { on := 3, ground := Ground.chain }], guard := none }) rfl (fun K hK => ?_) ?_
          · refine step_app_rows rfl (.tmp 66) (.tmp 68) 40 rfl w7.heap.size 26 iu _ 32 32 Tryd.underlying40 hiu hu0 hu1 hu2 rfl (by omega) g8 (m - 1) cap8 ([] ++ P1) rfl (by (repeat (first | (with_reducible exact hown8) | (with_reducible refine own_drew ?_) | (with_reducible refine World.ownsRow.alloc ?_ _)))) (some ⟨_, 0, none⟩) 1 1 DP rfl (by rw [HO.out.1]) (fun ad had j u hu => by cases had; rw [Addr.add_mid]; exact (Blk.range (t := 26) (by (repeat (first | (with_reducible exact blk_at _ _ _ _ (by simp)) | (with_reducible refine Blk.drew ?_) | (with_reducible refine hk8 _ _ _ ?_ (by simp)) | (with_reducible refine Blk.alloc ?_ _))))) j u hu) (fun h => by cases h) HO.out.2 m (by omega) (by unfold maxLen; omega) (by omega) (by have := hb8.size; first | exact this | (simp; omega)) ?_
            intro g9 cap9 w9 hown9 hg9
            have hb9 : Below w7.heap.size w7 w9 := Below.grown (by (repeat (first | (with_reducible exact hb8) | (with_reducible refine Below.drew ?_) | (with_reducible refine Below.alloc ?_ (by first | exact Nat.le_refl _ | exact hb8.size | (simp; done) | (simp; omega)) _)))) hg9 (by have := hb8.size; first | exact this | (simp; omega)) (fun k hk => by cases hk; exact (hown8.lt _ rfl).1)
            have hP9 := HP7.out.below hb9 HP7.out.lt
            have hS9 := HS7.out.below hb9 HS7.out.lt
            refine hK.out _ _ hP9 (fun hHeld => ?_)
            clear hK K
            try simp only [Act.put, List.setIfInBounds_toArray, List.set_cons_zero, List.set_cons_succ]
            refine wpAnyH_take (i := 7) (oi := { dst := some 70, op := Op.fieldAddr 42 (Operand.tmp 12) 2, type := 0, pos := "law.go:204", after := #[{ on := 0, ground := Ground.phase }, { on := 1, ground := Ground.phase }, { on := 2, ground := Ground.phase }, { on := 3, ground := Ground.phase }, { on := 4, ground := Ground.phase }, { on := 5, ground := Ground.phase }, { on := 6, ground := Ground.phase }], guard := none }) (v := ?_) rfl (by kernel_rfl) (by kernel_rfl) (by kernel_rfl) (fun _ _ _ h => h) (Or.inl ⟨by rfl, ?_⟩) hHeld ?_
            rotate_left
            · intro W hSw
              clear hSw
              go_simp
              try with_reducible rfl
            try simp only [Act.put, List.setIfInBounds_toArray, List.set_cons_zero, List.set_cons_succ]
            clear i0 i1 i2 j0 j1 j2
            obtain ⟨i0, i1, i2, j0, j1, j2⟩ := cells3 hS9
            refine wpAnyH_ready (rs := [8]) (by kernel_rfl) (by simp) ?_
            refine AllReadyH.cons (o := { dst := none, op := Op.store 40 (Operand.tmp 70) (Operand.tmp 69), type := 0, pos := "law.go:204", after := #[{ on := 7, ground := Ground.data }, { on := 6, ground := Ground.data }, { on := 6, ground := Ground.chain }, { on := 0, ground := Ground.phase }, { on := 1, ground := Ground.phase }, { on := 2, ground := Ground.phase }, { on := 3, ground := Ground.phase }, { on := 4, ground := Ground.phase }, { on := 5, ground := Ground.phase }, { on := 6, ground := Ground.phase }], guard := none }) rfl (fun K hK => ?_) AllReadyH.nil
            go_simp
            refine hK.out _ _ (Blk.far (by (repeat (first | (with_reducible exact hP9) | (with_reducible refine Blk.drew ?_)))) (show w4.heap.size ≠ w6.heap.size + 1 from Hne.out) _) (fun hHeld => ?_)
            clear hK K
            try simp only [Act.put, List.setIfInBounds_toArray, List.set_cons_zero, List.set_cons_succ]
            refine wpAnyH_done (by kernel_rfl) ?_ _
            have Hh := Lib.hid hHeld
            have Hbs := Lib.hid ((Hb7.out.trans (hb9.mono Hb7.out.size)).setCell (p := ⟨w6.heap.size + 1, 2, none⟩) Hnk.out (.slice (some ⟨g9, 0, none⟩) m cap9))
            have Hos := Lib.hid (own_cell_ne (own_next Ho7.out hb9) (p := ⟨w6.heap.size + 1, 2, none⟩) (fun h => Hga.out (Option.some.inj h)) (.slice (some ⟨g9, 0, none⟩) m cap9))
            clear hHeld hb8 hb9 hP8 hP9 hg8 hg9 hk8 hown8 hown9
            go_wp2_with (first
              | (refine wpList_load_row rfl 26 _ rfl w4.heap.size rfl 26 DP.toArray (0, 0) _ Hh.out Tryd.underlying26 rfl (by rw [List.size_toArray, HO.out.1]; exact infoDg) ?_)
              | (refine (HVl.out _ _ _ _ _ Hbs.out Hos.out).mono ?_
                 rintro e w8 ⟨rfl, hb8⟩
                 have Hb8 := Lib.hid (Hbs.out.trans (hb8.mono Hbs.out.size))
                 clear hb8))
            go_ret
            exact ⟨rfl, Hb8.out⟩
          exact AllReadyH.nil
        exact AllReadyH.nil
      exact AllReadyH.nil
    exact AllReadyH.nil
  refine AllReadyH.cons (o := { dst := some 65, op := Op.load 40 (Operand.tmp 64), type := 40, pos := "law.go:204", after := #[{ on := 1, ground := Ground.data }], guard := none }) rfl (fun K hK => ?_) ?_
  · go_simp
    refine hK.out _ _ (by (repeat (first | (with_reducible exact HP7.out) | (with_reducible exact hP8) | (with_reducible refine Blk.drew ?_) | (with_reducible refine Blk.alloc ?_ _)))) (fun hHeld => ?_)
    clear hK K
    try simp only [Act.put, List.setIfInBounds_toArray, List.set_cons_zero, List.set_cons_succ]
    refine wpAnyH_ready (rs := [0, 5]) (by kernel_rfl) (by simp) ?_
    refine AllReadyH.cons (o := { dst := some 63, op := Op.buildSlice 40 0 #[], type := 40, pos := "law.go:204", after := #[], guard := none }) rfl (fun K hK => ?_) ?_
    · go_simp
      refine hK.out _ _ (by (repeat (first | (with_reducible exact HP7.out) | (with_reducible exact hP8) | (with_reducible refine Blk.drew ?_) | (with_reducible refine Blk.alloc ?_ _)))) (fun hHeld => ?_)
      clear hK K
      try simp only [Act.put, List.setIfInBounds_toArray, List.set_cons_zero, List.set_cons_succ]
      refine wpAnyH_ready (rs := [3, 5]) (by kernel_rfl) (by simp) ?_
      refine AllReadyH.cons (o := { dst := some 66, op := Op.call { callee := Callee.builtin Builtin.append, args := #[Operand.tmp 63, Operand.tmp 65], argTypes := #[40, 40] }, type := 40, pos := "law.go:204", after := #[{ on := 0, ground := Ground.data }, { on := 2, ground := Ground.data }], guard := none }) rfl (fun K hK => ?_) ?_
      · refine step_app_rows rfl (.tmp 63) (.tmp 65) 40 rfl w7.heap.size 26 iu _ 32 32 Tryd.underlying40 hiu hu0 hu1 hu2 rfl (by omega) _ 0 0 [] rfl (own_emptyAt _ _ _ (by simp) _ _ (by (repeat (first | (with_reducible exact blk_at _ _ _ _ (by simp)) | (with_reducible refine Blk.drew ?_) | (with_reducible refine Blk.alloc ?_ _))))) p1 (m - 1) d2 P1 rfl Hq7.out.1 (own_src (own_next Hq7.out (by (repeat (first | (with_reducible exact Below.refl _ _) | (with_reducible refine Below.drew ?_) | (with_reducible refine Below.alloc ?_ (by first | exact Nat.le_refl _ | exact hb8.size | (simp; done) | (simp; omega)) _)))))).1 (own_src Hq7.out).2 HoP.out (m - 1) (by omega) (by unfold maxLen; omega) (by omega) (by first | exact Nat.le_refl _ | (simp; done) | (simp; omega)) ?_
        intro g8 cap8 w8 hown8 hg8
        have hk8 := fun (g : Nat) (t : TypeId) (cs : Array Value) hB hne => blk_grown (g := g) (t := t) (cs := cs) hB hg8 hne
        have hb8 : Below w7.heap.size w7 w8 := Below.grown (by (repeat (first | (with_reducible exact Below.refl _ _) | (with_reducible refine Below.drew ?_) | (with_reducible refine Below.alloc ?_ (by first | exact Nat.le_refl _ | exact hb8.size | (simp; done) | (simp; omega)) _)))) hg8 (by first | exact Nat.le_refl _ | (simp; done) | (simp; omega)) (fun k hk => by cases hk; simp)
        have hP8 := HP7.out.below hb8 HP7.out.lt
        refine hK.out _ _ hP8 (fun hHeld => ?_)
        clear hK K
        try simp only [Act.put, List.setIfInBounds_toArray, List.set_cons_zero, List.set_cons_succ]
        refine wpAnyH_ready (rs := [5]) (by kernel_rfl) (by simp) ?_
        refine AllReadyH.cons (o := { dst := some 68, op := Op.buildSlice 40 1 #[(0, Operand.tmp 67)], type := 40, pos := "law.go:204", after := #[{ on := 4, ground := Ground.data }], guard := none }) rfl (fun K hK => ?_) ?_
        · go_simp
          try rw [fold_all DP _ (by rw [HO.out.1]; rfl)]
          refine hK.out _ _ (by (repeat (first | (with_reducible exact HP7.out) | (with_reducible exact hP8) | (with_reducible refine Blk.drew ?_) | (with_reducible refine Blk.alloc ?_ _)))) (fun hHeld => ?_)
          clear hK K
          try simp only [Act.put, List.setIfInBounds_toArray, List.set_cons_zero, List.set_cons_succ]
          refine wpAnyH_ready (rs := [6]) (by kernel_rfl) (by simp) ?_
          refine AllReadyH.cons (o := { dst := some 69, op := Op.call { callee := Callee.builtin Builtin.append, args := #[Operand.tmp 66, Operand.tmp 68], argTypes := #[40, 40] }, type := 40, pos := "law.go:204", after := #[{ on := 3, ground := Ground.data }, { on := 5, ground := Ground.data }, { on := 3, ground := Ground.chain }], guard := none }) rfl (fun K hK => ?_) ?_
          · refine step_app_rows rfl (.tmp 66) (.tmp 68) 40 rfl w7.heap.size 26 iu _ 32 32 Tryd.underlying40 hiu hu0 hu1 hu2 rfl (by omega) g8 (m - 1) cap8 ([] ++ P1) rfl (by (repeat (first | (with_reducible exact hown8) | (with_reducible refine own_drew ?_) | (with_reducible refine World.ownsRow.alloc ?_ _)))) (some ⟨_, 0, none⟩) 1 1 DP rfl (by rw [HO.out.1]) (fun ad had j u hu => by cases had; rw [Addr.add_mid]; exact (Blk.range (t := 26) (by (repeat (first | (with_reducible exact blk_at _ _ _ _ (by simp)) | (with_reducible refine Blk.drew ?_) | (with_reducible refine hk8 _ _ _ ?_ (by simp)) | (with_reducible refine Blk.alloc ?_ _))))) j u hu) (fun h => by cases h) HO.out.2 m (by omega) (by unfold maxLen; omega) (by omega) (by have := hb8.size; first | exact this | (simp; omega)) ?_
            intro g9 cap9 w9 hown9 hg9
            have hb9 : Below w7.heap.size w7 w9 := Below.grown (by (repeat (first | (with_reducible exact hb8) | (with_reducible refine Below.drew ?_) | (with_reducible refine Below.alloc ?_ (by first | exact Nat.le_refl _ | exact hb8.size | (simp; done) | (simp; omega)) _)))) hg9 (by have := hb8.size; first | exact this | (simp; omega)) (fun k hk => by cases hk; exact (hown8.lt _ rfl).1)
            have hP9 := HP7.out.below hb9 HP7.out.lt
            have hS9 := HS7.out.below hb9 HS7.out.lt
            refine hK.out _ _ hP9 (fun hHeld => ?_)
            clear hK K
            try simp only [Act.put, List.setIfInBounds_toArray, List.set_cons_zero, List.set_cons_succ]
            refine wpAnyH_take (i := 7) (oi := { dst := some 70, op := Op.fieldAddr 42 (Operand.tmp 12) 2, type := 0, pos := "law.go:204", after := #[{ on := 0, ground := Ground.phase }, { on := 1, ground := Ground.phase }, { on := 2, ground := Ground.phase }, { on := 3, ground := Ground.phase }, { on := 4, ground := Ground.phase }, { on := 5, ground := Ground.phase }, { on := 6, ground := Ground.phase }], guard := none }) (v := ?_) rfl (by kernel_rfl) (by kernel_rfl) (by kernel_rfl) (fun _ _ _ h => h) (Or.inl ⟨by rfl, ?_⟩) hHeld ?_
            rotate_left
            · intro W hSw
              clear hSw
              go_simp
              try with_reducible rfl
            try simp only [Act.put, List.setIfInBounds_toArray, List.set_cons_zero, List.set_cons_succ]
            clear i0 i1 i2 j0 j1 j2
            obtain ⟨i0, i1, i2, j0, j1, j2⟩ := cells3 hS9
            refine wpAnyH_ready (rs := [8]) (by kernel_rfl) (by simp) ?_
            refine AllReadyH.cons (o := { dst := none, op := Op.store 40 (Operand.tmp 70) (Operand.tmp 69), type := 0, pos := "law.go:204", after := #[{ on := 7, ground := Ground.data }, { on := 6, ground := Ground.data }, { on := 6, ground := Ground.chain }, { on := 0, ground := Ground.phase }, { on := 1, ground := Ground.phase }, { on := 2, ground := Ground.phase }, { on := 3, ground := Ground.phase }, { on := 4, ground := Ground.phase }, { on := 5, ground := Ground.phase }, { on := 6, ground := Ground.phase }], guard := none }) rfl (fun K hK => ?_) AllReadyH.nil
            go_simp
            refine hK.out _ _ (Blk.far (by (repeat (first | (with_reducible exact hP9) | (with_reducible refine Blk.drew ?_)))) (show w4.heap.size ≠ w6.heap.size + 1 from Hne.out) _) (fun hHeld => ?_)
            clear hK K
            try simp only [Act.put, List.setIfInBounds_toArray, List.set_cons_zero, List.set_cons_succ]
            refine wpAnyH_done (by kernel_rfl) ?_ _
            have Hh := Lib.hid hHeld
            have Hbs := Lib.hid ((Hb7.out.trans (hb9.mono Hb7.out.size)).setCell (p := ⟨w6.heap.size + 1, 2, none⟩) Hnk.out (.slice (some ⟨g9, 0, none⟩) m cap9))
            have Hos := Lib.hid (own_cell_ne (own_next Ho7.out hb9) (p := ⟨w6.heap.size + 1, 2, none⟩) (fun h => Hga.out (Option.some.inj h)) (.slice (some ⟨g9, 0, none⟩) m cap9))
            clear hHeld hb8 hb9 hP8 hP9 hg8 hg9 hk8 hown8 hown9
            go_wp2_with (first
              | (refine wpList_load_row rfl 26 _ rfl w4.heap.size rfl 26 DP.toArray (0, 0) _ Hh.out Tryd.underlying26 rfl (by rw [List.size_toArray, HO.out.1]; exact infoDg) ?_)
              | (refine (HVl.out _ _ _ _ _ Hbs.out Hos.out).mono ?_
                 rintro e w8 ⟨rfl, hb8⟩
                 have Hb8 := Lib.hid (Hbs.out.trans (hb8.mono Hbs.out.size))
                 clear hb8))
            go_ret
            exact ⟨rfl, Hb8.out⟩
          exact AllReadyH.nil
        exact AllReadyH.nil
      refine AllReadyH.cons (o := { dst := some 68, op := Op.buildSlice 40 1 #[(0, Operand.tmp 67)], type := 40, pos := "law.go:204", after := #[{ on := 4, ground := Ground.data }], guard := none }) rfl (fun K hK => ?_) ?_
      · go_simp
        try rw [fold_all DP _ (by rw [HO.out.1]; rfl)]
        refine hK.out _ _ (by (repeat (first | (with_reducible exact HP7.out) | (with_reducible exact hP8) | (with_reducible refine Blk.drew ?_) | (with_reducible refine Blk.alloc ?_ _)))) (fun hHeld => ?_)
        clear hK K
        try simp only [Act.put, List.setIfInBounds_toArray, List.set_cons_zero, List.set_cons_succ]
        refine wpAnyH_ready (rs := [3]) (by kernel_rfl) (by simp) ?_
        refine AllReadyH.cons (o := { dst := some 66, op := Op.call { callee := Callee.builtin Builtin.append, args := #[Operand.tmp 63, Operand.tmp 65], argTypes := #[40, 40] }, type := 40, pos := "law.go:204", after := #[{ on := 0, ground := Ground.data }, { on := 2, ground := Ground.data }], guard := none }) rfl (fun K hK => ?_) ?_
        · refine step_app_rows rfl (.tmp 63) (.tmp 65) 40 rfl w7.heap.size 26 iu _ 32 32 Tryd.underlying40 hiu hu0 hu1 hu2 rfl (by omega) _ 0 0 [] rfl (own_emptyAt _ _ _ (by simp) _ _ (by (repeat (first | (with_reducible exact blk_at _ _ _ _ (by simp)) | (with_reducible refine Blk.drew ?_) | (with_reducible refine Blk.alloc ?_ _))))) p1 (m - 1) d2 P1 rfl Hq7.out.1 (own_src (own_next Hq7.out (by (repeat (first | (with_reducible exact Below.refl _ _) | (with_reducible refine Below.drew ?_) | (with_reducible refine Below.alloc ?_ (by first | exact Nat.le_refl _ | exact hb8.size | (simp; done) | (simp; omega)) _)))))).1 (own_src Hq7.out).2 HoP.out (m - 1) (by omega) (by unfold maxLen; omega) (by omega) (by first | exact Nat.le_refl _ | (simp; done) | (simp; omega)) ?_
          intro g8 cap8 w8 hown8 hg8
          have hk8 := fun (g : Nat) (t : TypeId) (cs : Array Value) hB hne => blk_grown (g := g) (t := t) (cs := cs) hB hg8 hne
          have hb8 : Below w7.heap.size w7 w8 := Below.grown (by (repeat (first | (with_reducible exact Below.refl _ _) | (with_reducible refine Below.drew ?_) | (with_reducible refine Below.alloc ?_ (by first | exact Nat.le_refl _ | exact hb8.size | (simp; done) | (simp; omega)) _)))) hg8 (by first | exact Nat.le_refl _ | (simp; done) | (simp; omega)) (fun k hk => by cases hk; simp)
          have hP8 := HP7.out.below hb8 HP7.out.lt
          refine hK.out _ _ hP8 (fun hHeld => ?_)
          clear hK K
          try simp only [Act.put, List.setIfInBounds_toArray, List.set_cons_zero, List.set_cons_succ]
          refine wpAnyH_ready (rs := [6]) (by kernel_rfl) (by simp) ?_
          refine AllReadyH.cons (o := { dst := some 69, op := Op.call { callee := Callee.builtin Builtin.append, args := #[Operand.tmp 66, Operand.tmp 68], argTypes := #[40, 40] }, type := 40, pos := "law.go:204", after := #[{ on := 3, ground := Ground.data }, { on := 5, ground := Ground.data }, { on := 3, ground := Ground.chain }], guard := none }) rfl (fun K hK => ?_) ?_
          · refine step_app_rows rfl (.tmp 66) (.tmp 68) 40 rfl w7.heap.size 26 iu _ 32 32 Tryd.underlying40 hiu hu0 hu1 hu2 rfl (by omega) g8 (m - 1) cap8 ([] ++ P1) rfl (by (repeat (first | (with_reducible exact hown8) | (with_reducible refine own_drew ?_) | (with_reducible refine World.ownsRow.alloc ?_ _)))) (some ⟨_, 0, none⟩) 1 1 DP rfl (by rw [HO.out.1]) (fun ad had j u hu => by cases had; rw [Addr.add_mid]; exact (Blk.range (t := 26) (by (repeat (first | (with_reducible exact blk_at _ _ _ _ (by simp)) | (with_reducible refine Blk.drew ?_) | (with_reducible refine hk8 _ _ _ ?_ (by simp)) | (with_reducible refine Blk.alloc ?_ _))))) j u hu) (fun h => by cases h) HO.out.2 m (by omega) (by unfold maxLen; omega) (by omega) (by have := hb8.size; first | exact this | (simp; omega)) ?_
            intro g9 cap9 w9 hown9 hg9
            have hb9 : Below w7.heap.size w7 w9 := Below.grown (by (repeat (first | (with_reducible exact hb8) | (with_reducible refine Below.drew ?_) | (with_reducible refine Below.alloc ?_ (by first | exact Nat.le_refl _ | exact hb8.size | (simp; done) | (simp; omega)) _)))) hg9 (by have := hb8.size; first | exact this | (simp; omega)) (fun k hk => by cases hk; exact (hown8.lt _ rfl).1)
            have hP9 := HP7.out.below hb9 HP7.out.lt
            have hS9 := HS7.out.below hb9 HS7.out.lt
            refine hK.out _ _ hP9 (fun hHeld => ?_)
            clear hK K
            try simp only [Act.put, List.setIfInBounds_toArray, List.set_cons_zero, List.set_cons_succ]
            refine wpAnyH_take (i := 7) (oi := { dst := some 70, op := Op.fieldAddr 42 (Operand.tmp 12) 2, type := 0, pos := "law.go:204", after := #[{ on := 0, ground := Ground.phase }, { on := 1, ground := Ground.phase }, { on := 2, ground := Ground.phase }, { on := 3, ground := Ground.phase }, { on := 4, ground := Ground.phase }, { on := 5, ground := Ground.phase }, { on := 6, ground := Ground.phase }], guard := none }) (v := ?_) rfl (by kernel_rfl) (by kernel_rfl) (by kernel_rfl) (fun _ _ _ h => h) (Or.inl ⟨by rfl, ?_⟩) hHeld ?_
            rotate_left
            · intro W hSw
              clear hSw
              go_simp
              try with_reducible rfl
            try simp only [Act.put, List.setIfInBounds_toArray, List.set_cons_zero, List.set_cons_succ]
            clear i0 i1 i2 j0 j1 j2
            obtain ⟨i0, i1, i2, j0, j1, j2⟩ := cells3 hS9
            refine wpAnyH_ready (rs := [8]) (by kernel_rfl) (by simp) ?_
            refine AllReadyH.cons (o := { dst := none, op := Op.store 40 (Operand.tmp 70) (Operand.tmp 69), type := 0, pos := "law.go:204", after := #[{ on := 7, ground := Ground.data }, { on := 6, ground := Ground.data }, { on := 6, ground := Ground.chain }, { on := 0, ground := Ground.phase }, { on := 1, ground := Ground.phase }, { on := 2, ground := Ground.phase }, { on := 3, ground := Ground.phase }, { on := 4, ground := Ground.phase }, { on := 5, ground := Ground.phase }, { on := 6, ground := Ground.phase }], guard := none }) rfl (fun K hK => ?_) AllReadyH.nil
            go_simp
            refine hK.out _ _ (Blk.far (by (repeat (first | (with_reducible exact hP9) | (with_reducible refine Blk.drew ?_)))) (show w4.heap.size ≠ w6.heap.size + 1 from Hne.out) _) (fun hHeld => ?_)
            clear hK K
            try simp only [Act.put, List.setIfInBounds_toArray, List.set_cons_zero, List.set_cons_succ]
            refine wpAnyH_done (by kernel_rfl) ?_ _
            have Hh := Lib.hid hHeld
            have Hbs := Lib.hid ((Hb7.out.trans (hb9.mono Hb7.out.size)).setCell (p := ⟨w6.heap.size + 1, 2, none⟩) Hnk.out (.slice (some ⟨g9, 0, none⟩) m cap9))
            have Hos := Lib.hid (own_cell_ne (own_next Ho7.out hb9) (p := ⟨w6.heap.size + 1, 2, none⟩) (fun h => Hga.out (Option.some.inj h)) (.slice (some ⟨g9, 0, none⟩) m cap9))
            clear hHeld hb8 hb9 hP8 hP9 hg8 hg9 hk8 hown8 hown9
            go_wp2_with (first
              | (refine wpList_load_row rfl 26 _ rfl w4.heap.size rfl 26 DP.toArray (0, 0) _ Hh.out Tryd.underlying26 rfl (by rw [List.size_toArray, HO.out.1]; exact infoDg) ?_)
              | (refine (HVl.out _ _ _ _ _ Hbs.out Hos.out).mono ?_
                 rintro e w8 ⟨rfl, hb8⟩
                 have Hb8 := Lib.hid (Hbs.out.trans (hb8.mono Hbs.out.size))
                 clear hb8))
            go_ret
            exact ⟨rfl, Hb8.out⟩
          exact AllReadyH.nil
        exact AllReadyH.nil
      exact AllReadyH.nil
    refine AllReadyH.cons (o := { dst := some 68, op := Op.buildSlice 40 1 #[(0, Operand.tmp 67)], type := 40, pos := "law.go:204", after := #[{ on := 4, ground := Ground.data }], guard := none }) rfl (fun K hK => ?_) ?_
    · go_simp
      try rw [fold_all DP _ (by rw [HO.out.1]; rfl)]
      refine hK.out _ _ (by (repeat (first | (with_reducible exact HP7.out) | (with_reducible exact hP8) | (with_reducible refine Blk.drew ?_) | (with_reducible refine Blk.alloc ?_ _)))) (fun hHeld => ?_)
      clear hK K
      try simp only [Act.put, List.setIfInBounds_toArray, List.set_cons_zero, List.set_cons_succ]
      refine wpAnyH_ready (rs := [0]) (by kernel_rfl) (by simp) ?_
      refine AllReadyH.cons (o := { dst := some 63, op := Op.buildSlice 40 0 #[], type := 40, pos := "law.go:204", after := #[], guard := none }) rfl (fun K hK => ?_) ?_
      · go_simp
        refine hK.out _ _ (by (repeat (first | (with_reducible exact HP7.out) | (with_reducible exact hP8) | (with_reducible refine Blk.drew ?_) | (with_reducible refine Blk.alloc ?_ _)))) (fun hHeld => ?_)
        clear hK K
        try simp only [Act.put, List.setIfInBounds_toArray, List.set_cons_zero, List.set_cons_succ]
        refine wpAnyH_ready (rs := [3]) (by kernel_rfl) (by simp) ?_
        refine AllReadyH.cons (o := { dst := some 66, op := Op.call { callee := Callee.builtin Builtin.append, args := #[Operand.tmp 63, Operand.tmp 65], argTypes := #[40, 40] }, type := 40, pos := "law.go:204", after := #[{ on := 0, ground := Ground.data }, { on := 2, ground := Ground.data }], guard := none }) rfl (fun K hK => ?_) ?_
        · refine step_app_rows rfl (.tmp 63) (.tmp 65) 40 rfl w7.heap.size 26 iu _ 32 32 Tryd.underlying40 hiu hu0 hu1 hu2 rfl (by omega) _ 0 0 [] rfl (own_emptyAt _ _ _ (by simp) _ _ (by (repeat (first | (with_reducible exact blk_at _ _ _ _ (by simp)) | (with_reducible refine Blk.drew ?_) | (with_reducible refine Blk.alloc ?_ _))))) p1 (m - 1) d2 P1 rfl Hq7.out.1 (own_src (own_next Hq7.out (by (repeat (first | (with_reducible exact Below.refl _ _) | (with_reducible refine Below.drew ?_) | (with_reducible refine Below.alloc ?_ (by first | exact Nat.le_refl _ | exact hb8.size | (simp; done) | (simp; omega)) _)))))).1 (own_src Hq7.out).2 HoP.out (m - 1) (by omega) (by unfold maxLen; omega) (by omega) (by first | exact Nat.le_refl _ | (simp; done) | (simp; omega)) ?_
          intro g8 cap8 w8 hown8 hg8
          have hk8 := fun (g : Nat) (t : TypeId) (cs : Array Value) hB hne => blk_grown (g := g) (t := t) (cs := cs) hB hg8 hne
          have hb8 : Below w7.heap.size w7 w8 := Below.grown (by (repeat (first | (with_reducible exact Below.refl _ _) | (with_reducible refine Below.drew ?_) | (with_reducible refine Below.alloc ?_ (by first | exact Nat.le_refl _ | exact hb8.size | (simp; done) | (simp; omega)) _)))) hg8 (by first | exact Nat.le_refl _ | (simp; done) | (simp; omega)) (fun k hk => by cases hk; simp)
          have hP8 := HP7.out.below hb8 HP7.out.lt
          refine hK.out _ _ hP8 (fun hHeld => ?_)
          clear hK K
          try simp only [Act.put, List.setIfInBounds_toArray, List.set_cons_zero, List.set_cons_succ]
          refine wpAnyH_ready (rs := [6]) (by kernel_rfl) (by simp) ?_
          refine AllReadyH.cons (o := { dst := some 69, op := Op.call { callee := Callee.builtin Builtin.append, args := #[Operand.tmp 66, Operand.tmp 68], argTypes := #[40, 40] }, type := 40, pos := "law.go:204", after := #[{ on := 3, ground := Ground.data }, { on := 5, ground := Ground.data }, { on := 3, ground := Ground.chain }], guard := none }) rfl (fun K hK => ?_) ?_
          · refine step_app_rows rfl (.tmp 66) (.tmp 68) 40 rfl w7.heap.size 26 iu _ 32 32 Tryd.underlying40 hiu hu0 hu1 hu2 rfl (by omega) g8 (m - 1) cap8 ([] ++ P1) rfl (by (repeat (first | (with_reducible exact hown8) | (with_reducible refine own_drew ?_) | (with_reducible refine World.ownsRow.alloc ?_ _)))) (some ⟨_, 0, none⟩) 1 1 DP rfl (by rw [HO.out.1]) (fun ad had j u hu => by cases had; rw [Addr.add_mid]; exact (Blk.range (t := 26) (by (repeat (first | (with_reducible exact blk_at _ _ _ _ (by simp)) | (with_reducible refine Blk.drew ?_) | (with_reducible refine hk8 _ _ _ ?_ (by simp)) | (with_reducible refine Blk.alloc ?_ _))))) j u hu) (fun h => by cases h) HO.out.2 m (by omega) (by unfold maxLen; omega) (by omega) (by have := hb8.size; first | exact this | (simp; omega)) ?_
            intro g9 cap9 w9 hown9 hg9
            have hb9 : Below w7.heap.size w7 w9 := Below.grown (by (repeat (first | (with_reducible exact hb8) | (with_reducible refine Below.drew ?_) | (with_reducible refine Below.alloc ?_ (by first | exact Nat.le_refl _ | exact hb8.size | (simp; done) | (simp; omega)) _)))) hg9 (by have := hb8.size; first | exact this | (simp; omega)) (fun k hk => by cases hk; exact (hown8.lt _ rfl).1)
            have hP9 := HP7.out.below hb9 HP7.out.lt
            have hS9 := HS7.out.below hb9 HS7.out.lt
            refine hK.out _ _ hP9 (fun hHeld => ?_)
            clear hK K
            try simp only [Act.put, List.setIfInBounds_toArray, List.set_cons_zero, List.set_cons_succ]
            refine wpAnyH_take (i := 7) (oi := { dst := some 70, op := Op.fieldAddr 42 (Operand.tmp 12) 2, type := 0, pos := "law.go:204", after := #[{ on := 0, ground := Ground.phase }, { on := 1, ground := Ground.phase }, { on := 2, ground := Ground.phase }, { on := 3, ground := Ground.phase }, { on := 4, ground := Ground.phase }, { on := 5, ground := Ground.phase }, { on := 6, ground := Ground.phase }], guard := none }) (v := ?_) rfl (by kernel_rfl) (by kernel_rfl) (by kernel_rfl) (fun _ _ _ h => h) (Or.inl ⟨by rfl, ?_⟩) hHeld ?_
            rotate_left
            · intro W hSw
              clear hSw
              go_simp
              try with_reducible rfl
            try simp only [Act.put, List.setIfInBounds_toArray, List.set_cons_zero, List.set_cons_succ]
            clear i0 i1 i2 j0 j1 j2
            obtain ⟨i0, i1, i2, j0, j1, j2⟩ := cells3 hS9
            refine wpAnyH_ready (rs := [8]) (by kernel_rfl) (by simp) ?_
            refine AllReadyH.cons (o := { dst := none, op := Op.store 40 (Operand.tmp 70) (Operand.tmp 69), type := 0, pos := "law.go:204", after := #[{ on := 7, ground := Ground.data }, { on := 6, ground := Ground.data }, { on := 6, ground := Ground.chain }, { on := 0, ground := Ground.phase }, { on := 1, ground := Ground.phase }, { on := 2, ground := Ground.phase }, { on := 3, ground := Ground.phase }, { on := 4, ground := Ground.phase }, { on := 5, ground := Ground.phase }, { on := 6, ground := Ground.phase }], guard := none }) rfl (fun K hK => ?_) AllReadyH.nil
            go_simp
            refine hK.out _ _ (Blk.far (by (repeat (first | (with_reducible exact hP9) | (with_reducible refine Blk.drew ?_)))) (show w4.heap.size ≠ w6.heap.size + 1 from Hne.out) _) (fun hHeld => ?_)
            clear hK K
            try simp only [Act.put, List.setIfInBounds_toArray, List.set_cons_zero, List.set_cons_succ]
            refine wpAnyH_done (by kernel_rfl) ?_ _
            have Hh := Lib.hid hHeld
            have Hbs := Lib.hid ((Hb7.out.trans (hb9.mono Hb7.out.size)).setCell (p := ⟨w6.heap.size + 1, 2, none⟩) Hnk.out (.slice (some ⟨g9, 0, none⟩) m cap9))
            have Hos := Lib.hid (own_cell_ne (own_next Ho7.out hb9) (p := ⟨w6.heap.size + 1, 2, none⟩) (fun h => Hga.out (Option.some.inj h)) (.slice (some ⟨g9, 0, none⟩) m cap9))
            clear hHeld hb8 hb9 hP8 hP9 hg8 hg9 hk8 hown8 hown9
            go_wp2_with (first
              | (refine wpList_load_row rfl 26 _ rfl w4.heap.size rfl 26 DP.toArray (0, 0) _ Hh.out Tryd.underlying26 rfl (by rw [List.size_toArray, HO.out.1]; exact infoDg) ?_)
              | (refine (HVl.out _ _ _ _ _ Hbs.out Hos.out).mono ?_
                 rintro e w8 ⟨rfl, hb8⟩
                 have Hb8 := Lib.hid (Hbs.out.trans (hb8.mono Hbs.out.size))
                 clear hb8))
            go_ret
            exact ⟨rfl, Hb8.out⟩
          exact AllReadyH.nil
        exact AllReadyH.nil
      exact AllReadyH.nil
    exact AllReadyH.nil
  refine AllReadyH.cons (o := { dst := some 68, op := Op.buildSlice 40 1 #[(0, Operand.tmp 67)], type := 40, pos := "law.go:204", after := #[{ on := 4, ground := Ground.data }], guard := none }) rfl (fun K hK => ?_) ?_
  · go_simp
    try rw [fold_all DP _ (by rw [HO.out.1]; rfl)]
    refine hK.out _ _ (by (repeat (first | (with_reducible exact HP7.out) | (with_reducible exact hP8) | (with_reducible refine Blk.drew ?_) | (with_reducible refine Blk.alloc ?_ _)))) (fun hHeld => ?_)
    clear hK K
    try simp only [Act.put, List.setIfInBounds_toArray, List.set_cons_zero, List.set_cons_succ]
    refine wpAnyH_ready (rs := [0, 2]) (by kernel_rfl) (by simp) ?_
    refine AllReadyH.cons (o := { dst := some 63, op := Op.buildSlice 40 0 #[], type := 40, pos := "law.go:204", after := #[], guard := none }) rfl (fun K hK => ?_) ?_
    · go_simp
      refine hK.out _ _ (by (repeat (first | (with_reducible exact HP7.out) | (with_reducible exact hP8) | (with_reducible refine Blk.drew ?_) | (with_reducible refine Blk.alloc ?_ _)))) (fun hHeld => ?_)
      clear hK K
      try simp only [Act.put, List.setIfInBounds_toArray, List.set_cons_zero, List.set_cons_succ]
      refine wpAnyH_ready (rs := [2]) (by kernel_rfl) (by simp) ?_
      refine AllReadyH.cons (o := { dst := some 65, op := Op.load 40 (Operand.tmp 64), type := 40, pos := "law.go:204", after := #[{ on := 1, ground := Ground.data }], guard := none }) rfl (fun K hK => ?_) ?_
      · go_simp
        refine hK.out _ _ (by (repeat (first | (with_reducible exact HP7.out) | (with_reducible exact hP8) | (with_reducible refine Blk.drew ?_) | (with_reducible refine Blk.alloc ?_ _)))) (fun hHeld => ?_)
        clear hK K
        try simp only [Act.put, List.setIfInBounds_toArray, List.set_cons_zero, List.set_cons_succ]
        refine wpAnyH_ready (rs := [3]) (by kernel_rfl) (by simp) ?_
        refine AllReadyH.cons (o := { dst := some 66, op := Op.call { callee := Callee.builtin Builtin.append, args := #[Operand.tmp 63, Operand.tmp 65], argTypes := #[40, 40] }, type := 40, pos := "law.go:204", after := #[{ on := 0, ground := Ground.data }, { on := 2, ground := Ground.data }], guard := none }) rfl (fun K hK => ?_) ?_
        · refine step_app_rows rfl (.tmp 63) (.tmp 65) 40 rfl w7.heap.size 26 iu _ 32 32 Tryd.underlying40 hiu hu0 hu1 hu2 rfl (by omega) _ 0 0 [] rfl (own_emptyAt _ _ _ (by simp) _ _ (by (repeat (first | (with_reducible exact blk_at _ _ _ _ (by simp)) | (with_reducible refine Blk.drew ?_) | (with_reducible refine Blk.alloc ?_ _))))) p1 (m - 1) d2 P1 rfl Hq7.out.1 (own_src (own_next Hq7.out (by (repeat (first | (with_reducible exact Below.refl _ _) | (with_reducible refine Below.drew ?_) | (with_reducible refine Below.alloc ?_ (by first | exact Nat.le_refl _ | exact hb8.size | (simp; done) | (simp; omega)) _)))))).1 (own_src Hq7.out).2 HoP.out (m - 1) (by omega) (by unfold maxLen; omega) (by omega) (by first | exact Nat.le_refl _ | (simp; done) | (simp; omega)) ?_
          intro g8 cap8 w8 hown8 hg8
          have hk8 := fun (g : Nat) (t : TypeId) (cs : Array Value) hB hne => blk_grown (g := g) (t := t) (cs := cs) hB hg8 hne
          have hb8 : Below w7.heap.size w7 w8 := Below.grown (by (repeat (first | (with_reducible exact Below.refl _ _) | (with_reducible refine Below.drew ?_) | (with_reducible refine Below.alloc ?_ (by first | exact Nat.le_refl _ | exact hb8.size | (simp; done) | (simp; omega)) _)))) hg8 (by first | exact Nat.le_refl _ | (simp; done) | (simp; omega)) (fun k hk => by cases hk; simp)
          have hP8 := HP7.out.below hb8 HP7.out.lt
          refine hK.out _ _ hP8 (fun hHeld => ?_)
          clear hK K
          try simp only [Act.put, List.setIfInBounds_toArray, List.set_cons_zero, List.set_cons_succ]
          refine wpAnyH_ready (rs := [6]) (by kernel_rfl) (by simp) ?_
          refine AllReadyH.cons (o := { dst := some 69, op := Op.call { callee := Callee.builtin Builtin.append, args := #[Operand.tmp 66, Operand.tmp 68], argTypes := #[40, 40] }, type := 40, pos := "law.go:204", after := #[{ on := 3, ground := Ground.data }, { on := 5, ground := Ground.data }, { on := 3, ground := Ground.chain }], guard := none }) rfl (fun K hK => ?_) ?_
          · refine step_app_rows rfl (.tmp 66) (.tmp 68) 40 rfl w7.heap.size 26 iu _ 32 32 Tryd.underlying40 hiu hu0 hu1 hu2 rfl (by omega) g8 (m - 1) cap8 ([] ++ P1) rfl (by (repeat (first | (with_reducible exact hown8) | (with_reducible refine own_drew ?_) | (with_reducible refine World.ownsRow.alloc ?_ _)))) (some ⟨_, 0, none⟩) 1 1 DP rfl (by rw [HO.out.1]) (fun ad had j u hu => by cases had; rw [Addr.add_mid]; exact (Blk.range (t := 26) (by (repeat (first | (with_reducible exact blk_at _ _ _ _ (by simp)) | (with_reducible refine Blk.drew ?_) | (with_reducible refine hk8 _ _ _ ?_ (by simp)) | (with_reducible refine Blk.alloc ?_ _))))) j u hu) (fun h => by cases h) HO.out.2 m (by omega) (by unfold maxLen; omega) (by omega) (by have := hb8.size; first | exact this | (simp; omega)) ?_
            intro g9 cap9 w9 hown9 hg9
            have hb9 : Below w7.heap.size w7 w9 := Below.grown (by (repeat (first | (with_reducible exact hb8) | (with_reducible refine Below.drew ?_) | (with_reducible refine Below.alloc ?_ (by first | exact Nat.le_refl _ | exact hb8.size | (simp; done) | (simp; omega)) _)))) hg9 (by have := hb8.size; first | exact this | (simp; omega)) (fun k hk => by cases hk; exact (hown8.lt _ rfl).1)
            have hP9 := HP7.out.below hb9 HP7.out.lt
            have hS9 := HS7.out.below hb9 HS7.out.lt
            refine hK.out _ _ hP9 (fun hHeld => ?_)
            clear hK K
            try simp only [Act.put, List.setIfInBounds_toArray, List.set_cons_zero, List.set_cons_succ]
            refine wpAnyH_take (i := 7) (oi := { dst := some 70, op := Op.fieldAddr 42 (Operand.tmp 12) 2, type := 0, pos := "law.go:204", after := #[{ on := 0, ground := Ground.phase }, { on := 1, ground := Ground.phase }, { on := 2, ground := Ground.phase }, { on := 3, ground := Ground.phase }, { on := 4, ground := Ground.phase }, { on := 5, ground := Ground.phase }, { on := 6, ground := Ground.phase }], guard := none }) (v := ?_) rfl (by kernel_rfl) (by kernel_rfl) (by kernel_rfl) (fun _ _ _ h => h) (Or.inl ⟨by rfl, ?_⟩) hHeld ?_
            rotate_left
            · intro W hSw
              clear hSw
              go_simp
              try with_reducible rfl
            try simp only [Act.put, List.setIfInBounds_toArray, List.set_cons_zero, List.set_cons_succ]
            clear i0 i1 i2 j0 j1 j2
            obtain ⟨i0, i1, i2, j0, j1, j2⟩ := cells3 hS9
            refine wpAnyH_ready (rs := [8]) (by kernel_rfl) (by simp) ?_
            refine AllReadyH.cons (o := { dst := none, op := Op.store 40 (Operand.tmp 70) (Operand.tmp 69), type := 0, pos := "law.go:204", after := #[{ on := 7, ground := Ground.data }, { on := 6, ground := Ground.data }, { on := 6, ground := Ground.chain }, { on := 0, ground := Ground.phase }, { on := 1, ground := Ground.phase }, { on := 2, ground := Ground.phase }, { on := 3, ground := Ground.phase }, { on := 4, ground := Ground.phase }, { on := 5, ground := Ground.phase }, { on := 6, ground := Ground.phase }], guard := none }) rfl (fun K hK => ?_) AllReadyH.nil
            go_simp
            refine hK.out _ _ (Blk.far (by (repeat (first | (with_reducible exact hP9) | (with_reducible refine Blk.drew ?_)))) (show w4.heap.size ≠ w6.heap.size + 1 from Hne.out) _) (fun hHeld => ?_)
            clear hK K
            try simp only [Act.put, List.setIfInBounds_toArray, List.set_cons_zero, List.set_cons_succ]
            refine wpAnyH_done (by kernel_rfl) ?_ _
            have Hh := Lib.hid hHeld
            have Hbs := Lib.hid ((Hb7.out.trans (hb9.mono Hb7.out.size)).setCell (p := ⟨w6.heap.size + 1, 2, none⟩) Hnk.out (.slice (some ⟨g9, 0, none⟩) m cap9))
            have Hos := Lib.hid (own_cell_ne (own_next Ho7.out hb9) (p := ⟨w6.heap.size + 1, 2, none⟩) (fun h => Hga.out (Option.some.inj h)) (.slice (some ⟨g9, 0, none⟩) m cap9))
            clear hHeld hb8 hb9 hP8 hP9 hg8 hg9 hk8 hown8 hown9
            go_wp2_with (first
              | (refine wpList_load_row rfl 26 _ rfl w4.heap.size rfl 26 DP.toArray (0, 0) _ Hh.out Tryd.underlying26 rfl (by rw [List.size_toArray, HO.out.1]; exact infoDg) ?_)
              | (refine (HVl.out _ _ _ _ _ Hbs.out Hos.out).mono ?_
                 rintro e w8 ⟨rfl, hb8⟩
                 have Hb8 := Lib.hid (Hbs.out.trans (hb8.mono Hbs.out.size))
                 clear hb8))
            go_ret
            exact ⟨rfl, Hb8.out⟩
          exact AllReadyH.nil
        exact AllReadyH.nil
      exact AllReadyH.nil
    refine AllReadyH.cons (o := { dst := some 65, op := Op.load 40 (Operand.tmp 64), type := 40, pos := "law.go:204", after := #[{ on := 1, ground := Ground.data }], guard := none }) rfl (fun K hK => ?_) ?_
    · go_simp
      refine hK.out _ _ (by (repeat (first | (with_reducible exact HP7.out) | (with_reducible exact hP8) | (with_reducible refine Blk.drew ?_) | (with_reducible refine Blk.alloc ?_ _)))) (fun hHeld => ?_)
      clear hK K
      try simp only [Act.put, List.setIfInBounds_toArray, List.set_cons_zero, List.set_cons_succ]
      refine wpAnyH_ready (rs := [0]) (by kernel_rfl) (by simp) ?_
      refine AllReadyH.cons (o := { dst := some 63, op := Op.buildSlice 40 0 #[], type := 40, pos := "law.go:204", after := #[], guard := none }) rfl (fun K hK => ?_) ?_
      · go_simp
        refine hK.out _ _ (by (repeat (first | (with_reducible exact HP7.out) | (with_reducible exact hP8) | (with_reducible refine Blk.drew ?_) | (with_reducible refine Blk.alloc ?_ _)))) (fun hHeld => ?_)
        clear hK K
        try simp only [Act.put, List.setIfInBounds_toArray, List.set_cons_zero, List.set_cons_succ]
        refine wpAnyH_ready (rs := [3]) (by kernel_rfl) (by simp) ?_
        refine AllReadyH.cons (o := { dst := some 66, op := Op.call { callee := Callee.builtin Builtin.append, args := #[Operand.tmp 63, Operand.tmp 65], argTypes := #[40, 40] }, type := 40, pos := "law.go:204", after := #[{ on := 0, ground := Ground.data }, { on := 2, ground := Ground.data }], guard := none }) rfl (fun K hK => ?_) ?_
        · refine step_app_rows rfl (.tmp 63) (.tmp 65) 40 rfl w7.heap.size 26 iu _ 32 32 Tryd.underlying40 hiu hu0 hu1 hu2 rfl (by omega) _ 0 0 [] rfl (own_emptyAt _ _ _ (by simp) _ _ (by (repeat (first | (with_reducible exact blk_at _ _ _ _ (by simp)) | (with_reducible refine Blk.drew ?_) | (with_reducible refine Blk.alloc ?_ _))))) p1 (m - 1) d2 P1 rfl Hq7.out.1 (own_src (own_next Hq7.out (by (repeat (first | (with_reducible exact Below.refl _ _) | (with_reducible refine Below.drew ?_) | (with_reducible refine Below.alloc ?_ (by first | exact Nat.le_refl _ | exact hb8.size | (simp; done) | (simp; omega)) _)))))).1 (own_src Hq7.out).2 HoP.out (m - 1) (by omega) (by unfold maxLen; omega) (by omega) (by first | exact Nat.le_refl _ | (simp; done) | (simp; omega)) ?_
          intro g8 cap8 w8 hown8 hg8
          have hk8 := fun (g : Nat) (t : TypeId) (cs : Array Value) hB hne => blk_grown (g := g) (t := t) (cs := cs) hB hg8 hne
          have hb8 : Below w7.heap.size w7 w8 := Below.grown (by (repeat (first | (with_reducible exact Below.refl _ _) | (with_reducible refine Below.drew ?_) | (with_reducible refine Below.alloc ?_ (by first | exact Nat.le_refl _ | exact hb8.size | (simp; done) | (simp; omega)) _)))) hg8 (by first | exact Nat.le_refl _ | (simp; done) | (simp; omega)) (fun k hk => by cases hk; simp)
          have hP8 := HP7.out.below hb8 HP7.out.lt
          refine hK.out _ _ hP8 (fun hHeld => ?_)
          clear hK K
          try simp only [Act.put, List.setIfInBounds_toArray, List.set_cons_zero, List.set_cons_succ]
          refine wpAnyH_ready (rs := [6]) (by kernel_rfl) (by simp) ?_
          refine AllReadyH.cons (o := { dst := some 69, op := Op.call { callee := Callee.builtin Builtin.append, args := #[Operand.tmp 66, Operand.tmp 68], argTypes := #[40, 40] }, type := 40, pos := "law.go:204", after := #[{ on := 3, ground := Ground.data }, { on := 5, ground := Ground.data }, { on := 3, ground := Ground.chain }], guard := none }) rfl (fun K hK => ?_) ?_
          · refine step_app_rows rfl (.tmp 66) (.tmp 68) 40 rfl w7.heap.size 26 iu _ 32 32 Tryd.underlying40 hiu hu0 hu1 hu2 rfl (by omega) g8 (m - 1) cap8 ([] ++ P1) rfl (by (repeat (first | (with_reducible exact hown8) | (with_reducible refine own_drew ?_) | (with_reducible refine World.ownsRow.alloc ?_ _)))) (some ⟨_, 0, none⟩) 1 1 DP rfl (by rw [HO.out.1]) (fun ad had j u hu => by cases had; rw [Addr.add_mid]; exact (Blk.range (t := 26) (by (repeat (first | (with_reducible exact blk_at _ _ _ _ (by simp)) | (with_reducible refine Blk.drew ?_) | (with_reducible refine hk8 _ _ _ ?_ (by simp)) | (with_reducible refine Blk.alloc ?_ _))))) j u hu) (fun h => by cases h) HO.out.2 m (by omega) (by unfold maxLen; omega) (by omega) (by have := hb8.size; first | exact this | (simp; omega)) ?_
            intro g9 cap9 w9 hown9 hg9
            have hb9 : Below w7.heap.size w7 w9 := Below.grown (by (repeat (first | (with_reducible exact hb8) | (with_reducible refine Below.drew ?_) | (with_reducible refine Below.alloc ?_ (by first | exact Nat.le_refl _ | exact hb8.size | (simp; done) | (simp; omega)) _)))) hg9 (by have := hb8.size; first | exact this | (simp; omega)) (fun k hk => by cases hk; exact (hown8.lt _ rfl).1)
            have hP9 := HP7.out.below hb9 HP7.out.lt
            have hS9 := HS7.out.below hb9 HS7.out.lt
            refine hK.out _ _ hP9 (fun hHeld => ?_)
            clear hK K
            try simp only [Act.put, List.setIfInBounds_toArray, List.set_cons_zero, List.set_cons_succ]
            refine wpAnyH_take (i := 7) (oi := { dst := some 70, op := Op.fieldAddr 42 (Operand.tmp 12) 2, type := 0, pos := "law.go:204", after := #[{ on := 0, ground := Ground.phase }, { on := 1, ground := Ground.phase }, { on := 2, ground := Ground.phase }, { on := 3, ground := Ground.phase }, { on := 4, ground := Ground.phase }, { on := 5, ground := Ground.phase }, { on := 6, ground := Ground.phase }], guard := none }) (v := ?_) rfl (by kernel_rfl) (by kernel_rfl) (by kernel_rfl) (fun _ _ _ h => h) (Or.inl ⟨by rfl, ?_⟩) hHeld ?_
            rotate_left
            · intro W hSw
              clear hSw
              go_simp
              try with_reducible rfl
            try simp only [Act.put, List.setIfInBounds_toArray, List.set_cons_zero, List.set_cons_succ]
            clear i0 i1 i2 j0 j1 j2
            obtain ⟨i0, i1, i2, j0, j1, j2⟩ := cells3 hS9
            refine wpAnyH_ready (rs := [8]) (by kernel_rfl) (by simp) ?_
            refine AllReadyH.cons (o := { dst := none, op := Op.store 40 (Operand.tmp 70) (Operand.tmp 69), type := 0, pos := "law.go:204", after := #[{ on := 7, ground := Ground.data }, { on := 6, ground := Ground.data }, { on := 6, ground := Ground.chain }, { on := 0, ground := Ground.phase }, { on := 1, ground := Ground.phase }, { on := 2, ground := Ground.phase }, { on := 3, ground := Ground.phase }, { on := 4, ground := Ground.phase }, { on := 5, ground := Ground.phase }, { on := 6, ground := Ground.phase }], guard := none }) rfl (fun K hK => ?_) AllReadyH.nil
            go_simp
            refine hK.out _ _ (Blk.far (by (repeat (first | (with_reducible exact hP9) | (with_reducible refine Blk.drew ?_)))) (show w4.heap.size ≠ w6.heap.size + 1 from Hne.out) _) (fun hHeld => ?_)
            clear hK K
            try simp only [Act.put, List.setIfInBounds_toArray, List.set_cons_zero, List.set_cons_succ]
            refine wpAnyH_done (by kernel_rfl) ?_ _
            have Hh := Lib.hid hHeld
            have Hbs := Lib.hid ((Hb7.out.trans (hb9.mono Hb7.out.size)).setCell (p := ⟨w6.heap.size + 1, 2, none⟩) Hnk.out (.slice (some ⟨g9, 0, none⟩) m cap9))
            have Hos := Lib.hid (own_cell_ne (own_next Ho7.out hb9) (p := ⟨w6.heap.size + 1, 2, none⟩) (fun h => Hga.out (Option.some.inj h)) (.slice (some ⟨g9, 0, none⟩) m cap9))
            clear hHeld hb8 hb9 hP8 hP9 hg8 hg9 hk8 hown8 hown9
            go_wp2_with (first
              | (refine wpList_load_row rfl 26 _ rfl w4.heap.size rfl 26 DP.toArray (0, 0) _ Hh.out Tryd.underlying26 rfl (by rw [List.size_toArray, HO.out.1]; exact infoDg) ?_)
              | (refine (HVl.out _ _ _ _ _ Hbs.out Hos.out).mono ?_
                 rintro e w8 ⟨rfl, hb8⟩
                 have Hb8 := Lib.hid (Hbs.out.trans (hb8.mono Hbs.out.size))
                 clear hb8))
            go_ret
            exact ⟨rfl, Hb8.out⟩
          exact AllReadyH.nil
        exact AllReadyH.nil
      exact AllReadyH.nil
    exact AllReadyH.nil
  exact AllReadyH.nil
end Go.Proofs.YtiloaheaglcpbaaDoor
