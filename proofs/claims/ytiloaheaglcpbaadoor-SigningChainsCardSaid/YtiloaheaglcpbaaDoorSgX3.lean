/- Signing: the statement SigningChains, the walks. -/
import Derived.Test.YtiloaheaglcpbaaDoorSgX2
import Derived.Test.YtiloaheaglcpbaaDoorSgX1
import Derived.Test.YtiloaheaglcpbaaDoorSgV2
namespace Go.Proofs.YtiloaheaglcpbaaDoor
open Go.RowKit

/-- a load of a whole row inside a block under a guard that holds -/
theorem wpList_load_mid_g {P : Program} {ops : Array Oper} {rest : List Oper} {op : Oper} {a : Act} {w : World} {Q : Exit → Act → World → Prop} (hw : Region.wanted op (yielded ops a.tmps) = true) (ty : TypeId) (x : Operand) (ho : op.op = .load ty x)
    (b o : Nat) (hx : a.eval x = .pointer (some ⟨b, o, none⟩)) (cs : List Value) (d : TypeDesc) (hc : w.rangeAt b o cs)
    (hu : P.underlying ty = some d) (hd : d.isRow = true) (hi : (P.info? ty).map (·.size) = some cs.length)
    (h : wpList P ops Q rest (a.put op.dst (.agg cs.toArray)) w) : wpList P ops Q (op :: rest) a w := by
  unfold wpList
  rw [if_pos hw]
  exact .inl (wp_load_mid ty x ho b o hx cs d hc hu hd hi h)
theorem chain_parts (seed : List UInt8) (ix : Nat) (A B : List UInt8) (j : Nat) (h : dig A j ≤ dig B j) : flw ix j (prt seed ix A j) (dig A j) (dig B j - dig A j) = prt seed ix B j := by
  unfold prt vlu
  rw [flw_add, show dig A j + (dig B j - dig A j) = dig B j by omega]
theorem prC_cell (seed : List UInt8) (ix : Nat) (A : List UInt8) : ∃ u, (prC seed ix A 67)[0]? = some u := by
  have h : 0 < (prC seed ix A 67).length := by rw [prC, bc_len, ends_len _ (prt_len seed ix A)]; omega
  exact ⟨_, List.getElem?_eq_getElem h⟩
theorem World.block_lt_of_rangeAt {w : World} {g o : Nat} {xs : List Value} (h : w.rangeAt g o xs) (hu : ∃ u, xs[0]? = some u) : g < w.heap.size := by
  obtain ⟨u, hu⟩ := hu
  exact World.block_lt_of_cell? w _ (h 0 u hu)
theorem chFacts {W W' : World} {gx gy sA sB ga gb k : Nat} {dA dB : List UInt8} {A0 A1 A2 B0 B1 B2 : Value} {DA DB : List Value} (hX : Blk W gx 55 (digC dA)) (hY : Blk W gy 55 (digC dB)) (hA : Blk W sA 42 #[A0, A1, A2]) (hB : Blk W sB 42 #[B0, B1, B2])
    (ra : W.rangeAt ga (k * 32) DA) (rb : W.rangeAt gb (k * 32) DB) (hk : k < 67) (la : ga < W.heap.size) (lb : gb < W.heap.size) (hb : Below W.heap.size W W') :
    W'.cell? ⟨gx, k, none⟩ = some (.int .i64 (dig dA k : Int)) ∧ W'.cell? ⟨gy, k, none⟩ = some (.int .i64 (dig dB k : Int)) ∧ W'.cell? ⟨sA, 0, none⟩ = some A0 ∧ W'.cell? ⟨sA, 1, none⟩ = some A1 ∧ W'.cell? ⟨sB, 0, none⟩ = some B0 ∧ W'.cell? ⟨sB, 1, none⟩ = some B1 ∧ W'.rangeAt ga (k * 32) DA ∧ W'.rangeAt gb (k * 32) DB :=
  ⟨by rw [(hX.below hb hX.lt).cell, digC_at dA k hk], by rw [(hY.below hb hY.lt).cell, digC_at dB k hk], (cells3 (hA.below hb hA.lt)).1, (cells3 (hA.below hb hA.lt)).2.1, (cells3 (hB.below hb hB.lt)).1, (cells3 (hB.below hb hB.lt)).2.1, rangeAt_below ra hb la, rangeAt_below rb hb lb⟩

set_option maxRecDepth 100000 in
set_option maxHeartbeats 1000000 in
theorem ch_few (sa : Option Addr) (n scap : Nat) (many used : Int) (aa : Option Addr) (qa acap : Nat) (ba : Option Addr) (qb bcap : Nat) (hf : decide (many ≤ 2 ∧ n ≤ 100 ∧ qa ≤ 300) = false) (w : World) :
    Calls Tryd.prog 9 #[.agg #[.slice sa n scap, .int .i64 many, .int .i64 used], .slice aa qa acap, .slice ba qb bcap] w fun e w' => e = .returned (.bool true) ∧ Below w.heap.size w w' := by
  have HSane := Lib.hid (fun W => sane_any W)
  have HFa := Lib.hid (fun W => few_any sa n scap many used aa qa acap W)
  have HFb := Lib.hid (fun W => few_any sa n scap many used ba qb bcap W)
  rw [hf] at HFa
  clear hf HFb
  have H0 := Lib.hid (Blk.new w 24 #[.slice sa n scap, .int .i64 many, .int .i64 used])
  have Hb := Lib.hid (below_alloc w (.cells #[.slice sa n scap, .int .i64 many, .int .i64 used] 24))
  go_enter Tryd.func9, Tryd.ntmps9
  go_wp2_with (first
    | (refine (HSane.out _).mono ?_
       rintro e w1 ⟨rfl, hb1⟩
       obtain ⟨c0, c1, c2, f0, f1, f2⟩ := cells3 (H0.out.below hb1 H0.out.lt)
       have HK1 := Lib.hid (H0.out.below hb1 H0.out.lt)
       have Hb1 := Lib.hid (Hb.out.trans (hb1.mono Hb.out.size))
       clear hb1)
    | (with_reducible refine Calls.mono (HFa.out _) ?_
       rintro e w2 ⟨rfl, hb2⟩
       clear c0 c1 c2 f0 f1 f2
       obtain ⟨c0, c1, c2, f0, f1, f2⟩ := cells3 (HK1.out.below hb2 HK1.out.lt)
       have HK2 := Lib.hid (HK1.out.below hb2 HK1.out.lt)
       have Hb2 := Lib.hid (Hb1.out.trans (hb2.mono Hb1.out.size))
       clear hb2))
  go_ret
  exact ⟨rfl, Hb2.out⟩

set_option maxRecDepth 100000 in
set_option maxHeartbeats 1000000 in
theorem ch_fewb (sa : Option Addr) (n scap : Nat) (many used : Int) (aa : Option Addr) (qa acap : Nat) (ba : Option Addr) (qb bcap : Nat) (hf : decide (many ≤ 2 ∧ n ≤ 100 ∧ qa ≤ 300) = true) (hg : decide (many ≤ 2 ∧ n ≤ 100 ∧ qb ≤ 300) = false) (w : World) :
    Calls Tryd.prog 9 #[.agg #[.slice sa n scap, .int .i64 many, .int .i64 used], .slice aa qa acap, .slice ba qb bcap] w fun e w' => e = .returned (.bool true) ∧ Below w.heap.size w w' := by
  have HSane := Lib.hid (fun W => sane_any W)
  have HFa := Lib.hid (fun W => few_any sa n scap many used aa qa acap W)
  have HFb := Lib.hid (fun W => few_any sa n scap many used ba qb bcap W)
  rw [hf] at HFa
  rw [hg] at HFb
  clear hf hg
  have H0 := Lib.hid (Blk.new w 24 #[.slice sa n scap, .int .i64 many, .int .i64 used])
  have Hb := Lib.hid (below_alloc w (.cells #[.slice sa n scap, .int .i64 many, .int .i64 used] 24))
  go_enter Tryd.func9, Tryd.ntmps9
  go_wp2_with (first
    | (refine (HSane.out _).mono ?_
       rintro e w1 ⟨rfl, hb1⟩
       obtain ⟨c0, c1, c2, f0, f1, f2⟩ := cells3 (H0.out.below hb1 H0.out.lt)
       have HK1 := Lib.hid (H0.out.below hb1 H0.out.lt)
       have Hb1 := Lib.hid (Hb.out.trans (hb1.mono Hb.out.size))
       clear hb1)
    | (with_reducible refine Calls.mono (HFa.out _) ?_
       rintro e w2 ⟨rfl, hb2⟩
       clear c0 c1 c2 f0 f1 f2
       obtain ⟨c0, c1, c2, f0, f1, f2⟩ := cells3 (HK1.out.below hb2 HK1.out.lt)
       have HK2 := Lib.hid (HK1.out.below hb2 HK1.out.lt)
       have Hb2 := Lib.hid (Hb1.out.trans (hb2.mono Hb1.out.size))
       clear hb2)
    | (with_reducible refine Calls.mono (HFb.out _) ?_
       rintro e w3 ⟨rfl, hb3⟩
       clear c0 c1 c2 f0 f1 f2
       obtain ⟨c0, c1, c2, f0, f1, f2⟩ := cells3 (HK2.out.below hb3 HK2.out.lt)
       have HK3 := Lib.hid (HK2.out.below hb3 HK2.out.lt)
       have Hb3 := Lib.hid (Hb2.out.trans (hb3.mono Hb2.out.size))
       clear hb3))
  go_ret
  exact ⟨rfl, Hb3.out⟩

set_option maxRecDepth 100000 in
set_option maxHeartbeats 1000000 in
theorem ch_bad (sa : Option Addr) (n scap : Nat) (many used : Int) (aa : Option Addr) (qa acap : Nat) (ba : Option Addr) (qb bcap : Nat) (hf : decide (many ≤ 2 ∧ n ≤ 100 ∧ qa ≤ 300) = true) (hg : decide (many ≤ 2 ∧ n ≤ 100 ∧ qb ≤ 300) = true) (hk : isKeyB n many used = false) (w : World) :
    Calls Tryd.prog 9 #[.agg #[.slice sa n scap, .int .i64 many, .int .i64 used], .slice aa qa acap, .slice ba qb bcap] w fun e w' => e = .returned (.bool true) ∧ Below w.heap.size w w' := by
  have hEa : signE n many used qa = 320 := by simp only [signE, hk]; rfl
  have hEb : signE n many used qb = 320 := by simp only [signE, hk]; rfl
  have HSane := Lib.hid (fun W => sane_any W)
  have HFa := Lib.hid (fun W => few_any sa n scap many used aa qa acap W)
  have HFb := Lib.hid (fun W => few_any sa n scap many used ba qb bcap W)
  rw [hf] at HFa
  rw [hg] at HFb
  have HSa : Hid (∀ W, Calls Tryd.prog 22 #[.agg #[.slice sa n scap, .int .i64 many, .int .i64 used], .slice aa qa acap] W fun e w' => e = .returned (.tuple #[.agg #[.slice none 0 0, .int .i64 0, .int .i64 0], .agg #[.int .i64 0, .slice none 0 0, .slice none 0 0], .int .i64 320]) ∧ Below W.heap.size W w') :=
    Lib.hid (fun W => by have := sign_bad sa n scap many used aa qa acap W (by rw [hEa]; decide); rw [hEa] at this; exact this)
  have HSb : Hid (∀ W, Calls Tryd.prog 22 #[.agg #[.slice sa n scap, .int .i64 many, .int .i64 used], .slice ba qb bcap] W fun e w' => e = .returned (.tuple #[.agg #[.slice none 0 0, .int .i64 0, .int .i64 0], .agg #[.int .i64 0, .slice none 0 0, .slice none 0 0], .int .i64 320]) ∧ Below W.heap.size W w') :=
    Lib.hid (fun W => by have := sign_bad sa n scap many used ba qb bcap W (by rw [hEb]; decide); rw [hEb] at this; exact this)
  obtain ⟨DP, hDP⟩ : ∃ DP : List Value, [.int .u8 0, .int .u8 0, .int .u8 0, .int .u8 0, .int .u8 0, .int .u8 0, .int .u8 0, .int .u8 0, .int .u8 0, .int .u8 0, .int .u8 0, .int .u8 0, .int .u8 0, .int .u8 0, .int .u8 0, .int .u8 0, .int .u8 0, .int .u8 0, .int .u8 0, .int .u8 0, .int .u8 0, .int .u8 0, .int .u8 0, .int .u8 0, .int .u8 0, .int .u8 0, .int .u8 0, .int .u8 0, .int .u8 0, .int .u8 0, .int .u8 0, .int .u8 0] = DP := ⟨_, rfl⟩
  have HO := Lib.hid (show DP.length = 32 ∧ ∀ u ∈ DP, u.oneCell' = true by subst hDP; exact ⟨rfl, by decide +kernel⟩)
  have HPub : Hid (∀ W, Below w.heap.size w W → Calls Tryd.prog 20 #[.agg #[.slice sa n scap, .int .i64 many, .int .i64 used]] W fun e w' => e = .returned (.tuple #[.agg DP.toArray, .int .i64 320]) ∧ Below W.heap.size W w') :=
    Lib.hid (fun W _ => by subst hDP; exact public_bad sa n scap many used hk W)
  have H0 := Lib.hid (Blk.new w 24 #[.slice sa n scap, .int .i64 many, .int .i64 used])
  have Hb := Lib.hid (below_alloc w (.cells #[.slice sa n scap, .int .i64 many, .int .i64 used] 24))
  clear hf hg hk hEa hEb hDP
  go_enter Tryd.func9, Tryd.ntmps9
  go_wp2_with (first
    | (refine (HSane.out _).mono ?_
       rintro e w1 ⟨rfl, hb1⟩
       obtain ⟨c0, c1, c2, f0, f1, f2⟩ := cells3 (H0.out.below hb1 H0.out.lt)
       have HK1 := Lib.hid (H0.out.below hb1 H0.out.lt)
       have Hb1 := Lib.hid (Hb.out.trans (hb1.mono Hb.out.size))
       clear hb1)
    | (with_reducible refine Calls.mono (HFa.out _) ?_
       rintro e w2 ⟨rfl, hb2⟩
       clear c0 c1 c2 f0 f1 f2
       obtain ⟨c0, c1, c2, f0, f1, f2⟩ := cells3 (HK1.out.below hb2 HK1.out.lt)
       have HK2 := Lib.hid (HK1.out.below hb2 HK1.out.lt)
       have Hb2 := Lib.hid (Hb1.out.trans (hb2.mono Hb1.out.size))
       clear hb2)
    | (with_reducible refine Calls.mono (HFb.out _) ?_
       rintro e w3 ⟨rfl, hb3⟩
       clear c0 c1 c2 f0 f1 f2
       obtain ⟨c0, c1, c2, f0, f1, f2⟩ := cells3 (HK2.out.below hb3 HK2.out.lt)
       have HK3 := Lib.hid (HK2.out.below hb3 HK2.out.lt)
       have Hb3 := Lib.hid (Hb2.out.trans (hb3.mono Hb2.out.size))
       clear hb3)
    | (with_reducible refine Calls.mono (HPub.out _ Hb3.out) ?_
       rintro e w4 ⟨rfl, hb4⟩
       have hbb := Hb3.out.trans (hb4.mono Hb3.out.size)
       have hB := Blk.new w4 26 #[.int .u8 0, .int .u8 0, .int .u8 0, .int .u8 0, .int .u8 0, .int .u8 0, .int .u8 0, .int .u8 0, .int .u8 0, .int .u8 0, .int .u8 0, .int .u8 0, .int .u8 0, .int .u8 0, .int .u8 0, .int .u8 0, .int .u8 0, .int .u8 0, .int .u8 0, .int .u8 0, .int .u8 0, .int .u8 0, .int .u8 0, .int .u8 0, .int .u8 0, .int .u8 0, .int .u8 0, .int .u8 0, .int .u8 0, .int .u8 0, .int .u8 0, .int .u8 0]
       have hxK := (HK3.out.below hb4 HK3.out.lt)
       have hlK := hxK.lt
       have hyK := (hxK.alloc (.cells #[.int .u8 0, .int .u8 0, .int .u8 0, .int .u8 0, .int .u8 0, .int .u8 0, .int .u8 0, .int .u8 0, .int .u8 0, .int .u8 0, .int .u8 0, .int .u8 0, .int .u8 0, .int .u8 0, .int .u8 0, .int .u8 0, .int .u8 0, .int .u8 0, .int .u8 0, .int .u8 0, .int .u8 0, .int .u8 0, .int .u8 0, .int .u8 0, .int .u8 0, .int .u8 0, .int .u8 0, .int .u8 0, .int .u8 0, .int .u8 0, .int .u8 0, .int .u8 0] 26)).farRow (show w.heap.size ≠ w4.heap.size by omega) DP.toArray
       have hBr := hB.setRow DP.toArray
       have hbc := setRow_below (g := w4.heap.size) (hbb.alloc hbb.size (.cells #[.int .u8 0, .int .u8 0, .int .u8 0, .int .u8 0, .int .u8 0, .int .u8 0, .int .u8 0, .int .u8 0, .int .u8 0, .int .u8 0, .int .u8 0, .int .u8 0, .int .u8 0, .int .u8 0, .int .u8 0, .int .u8 0, .int .u8 0, .int .u8 0, .int .u8 0, .int .u8 0, .int .u8 0, .int .u8 0, .int .u8 0, .int .u8 0, .int .u8 0, .int .u8 0, .int .u8 0, .int .u8 0, .int .u8 0, .int .u8 0, .int .u8 0, .int .u8 0] 26)) hbb.size DP.toArray
       have hbd := setRow_below (g := w4.heap.size) (hb4.alloc hb4.size (.cells #[.int .u8 0, .int .u8 0, .int .u8 0, .int .u8 0, .int .u8 0, .int .u8 0, .int .u8 0, .int .u8 0, .int .u8 0, .int .u8 0, .int .u8 0, .int .u8 0, .int .u8 0, .int .u8 0, .int .u8 0, .int .u8 0, .int .u8 0, .int .u8 0, .int .u8 0, .int .u8 0, .int .u8 0, .int .u8 0, .int .u8 0, .int .u8 0, .int .u8 0, .int .u8 0, .int .u8 0, .int .u8 0, .int .u8 0, .int .u8 0, .int .u8 0, .int .u8 0] 26)) hb4.size DP.toArray
       obtain ⟨w5, hw5⟩ : ∃ w5, (w4.alloc (.cells #[.int .u8 0, .int .u8 0, .int .u8 0, .int .u8 0, .int .u8 0, .int .u8 0, .int .u8 0, .int .u8 0, .int .u8 0, .int .u8 0, .int .u8 0, .int .u8 0, .int .u8 0, .int .u8 0, .int .u8 0, .int .u8 0, .int .u8 0, .int .u8 0, .int .u8 0, .int .u8 0, .int .u8 0, .int .u8 0, .int .u8 0, .int .u8 0, .int .u8 0, .int .u8 0, .int .u8 0, .int .u8 0, .int .u8 0, .int .u8 0, .int .u8 0, .int .u8 0] 26)).setRow w4.heap.size DP.toArray = w5 := ⟨_, rfl⟩
       rw [hw5] at hBr hbc hbd hyK
       have HW5 := Lib.hid hw5
       have HB5 := Lib.hid hB
       have HP5 := Lib.hid hBr
       have Hb5 := Lib.hid hbc
       have Hs5 := Lib.hid hbd
       have HK5 := Lib.hid hyK
       clear hb4 hbb hB hBr hbc hbd hw5 hxK hlK hyK
       clear c0 c1 c2 f0 f1 f2
       obtain ⟨c0, c1, c2, f0, f1, f2⟩ := cells3 HK5.out)
    | (refine wpList_store_row rfl 26 _ _ rfl w4.heap.size DP.toArray rfl rfl 26 _ HB5.out (by rw [List.size_toArray, HO.out.1]; exact infoDg) (show 32 = DP.length from HO.out.1.symm) (all_oneCell_toArray HO.out.2) ?_; rw [HW5.out])
    | (with_reducible refine Calls.mono (HSa.out _) ?_
       rintro e w6 ⟨rfl, hb6⟩
       have hbb := Hb5.out.trans (hb6.mono Hb5.out.size)
       have h2 := two_b w6 #[.slice none 0 0, .int .i64 0, .int .i64 0] #[.int .i64 0, .slice none 0 0, .slice none 0 0]
       have hk7 := two_k w6 #[.slice none 0 0, .int .i64 0, .int .i64 0] #[.int .i64 0, .slice none 0 0, .slice none 0 0]
       have hs7 := two_s w6 #[.slice none 0 0, .int .i64 0, .int .i64 0] #[.int .i64 0, .slice none 0 0, .slice none 0 0]
       obtain ⟨w7, hw7⟩ : ∃ w7, two w6 #[.slice none 0 0, .int .i64 0, .int .i64 0] #[.int .i64 0, .slice none 0 0, .slice none 0 0] = w7 := ⟨_, rfl⟩
       rw [hw7] at h2 hk7 hs7
       unfold two at hw7
       have HW7 := Lib.hid hw7
       have HK7 := Lib.hid ((HK5.out.below hb6 HK5.out.lt).below h2 (HK5.out.below hb6 HK5.out.lt).lt)
       have Hb7 := Lib.hid (hbb.trans (h2.mono hbb.size))
       have HX7 := Lib.hid hk7
       have HS7 := Lib.hid hs7
       clear hb6 hbb h2 hw7 hk7 hs7 c0 c1 c2 f0 f1 f2
       obtain ⟨c0, c1, c2, f0, f1, f2⟩ := cells3 HK7.out)
    | (refine wpList_store_row rfl 24 _ _ rfl w6.heap.size #[.slice none 0 0, .int .i64 0, .int .i64 0] rfl rfl 24 _ (two_0 w6) infoKey rfl (one3 rfl rfl rfl) ?_)
    | (refine wpList_store_row rfl 42 _ _ rfl (w6.heap.size + 1) #[.int .i64 0, .slice none 0 0, .slice none 0 0] rfl rfl 42 _ (two_1 w6 #[.slice none 0 0, .int .i64 0, .int .i64 0]) infoSig rfl (one3 rfl rfl rfl) ?_; rw [HW7.out])
    | (with_reducible refine Calls.mono (HSb.out _) ?_
       rintro e w8 ⟨rfl, hb8⟩
       have hbb := Hb7.out.trans (hb8.mono Hb7.out.size)
       have h2 := two_b w8 #[.slice none 0 0, .int .i64 0, .int .i64 0] #[.int .i64 0, .slice none 0 0, .slice none 0 0]
       have hk7 := two_k w8 #[.slice none 0 0, .int .i64 0, .int .i64 0] #[.int .i64 0, .slice none 0 0, .slice none 0 0]
       have hs7 := two_s w8 #[.slice none 0 0, .int .i64 0, .int .i64 0] #[.int .i64 0, .slice none 0 0, .slice none 0 0]
       obtain ⟨w9, hw9⟩ : ∃ w9, two w8 #[.slice none 0 0, .int .i64 0, .int .i64 0] #[.int .i64 0, .slice none 0 0, .slice none 0 0] = w9 := ⟨_, rfl⟩
       rw [hw9] at h2 hk7 hs7
       unfold two at hw9
       have HW9 := Lib.hid hw9
       have HK9 := Lib.hid ((HK7.out.below hb8 HK7.out.lt).below h2 (HK7.out.below hb8 HK7.out.lt).lt)
       have Hb9 := Lib.hid (hbb.trans (h2.mono hbb.size))
       have HX9 := Lib.hid hk7
       have HS9 := Lib.hid hs7
       clear hb8 hbb h2 hw9 hk7 hs7 c0 c1 c2 f0 f1 f2
       obtain ⟨c0, c1, c2, f0, f1, f2⟩ := cells3 HK9.out)
    | (refine wpList_store_row rfl 24 _ _ rfl w8.heap.size #[.slice none 0 0, .int .i64 0, .int .i64 0] rfl rfl 24 _ (two_0 w8) infoKey rfl (one3 rfl rfl rfl) ?_)
    | (refine wpList_store_row rfl 42 _ _ rfl (w8.heap.size + 1) #[.int .i64 0, .slice none 0 0, .slice none 0 0] rfl rfl 42 _ (two_1 w8 #[.slice none 0 0, .int .i64 0, .int .i64 0]) infoSig rfl (one3 rfl rfl rfl) ?_; rw [HW9.out]))
  go_ret
  exact ⟨rfl, Hb9.out⟩

set_option maxRecDepth 100000 in
set_option maxHeartbeats 1000000 in
theorem ch_used (seed : List UInt8) (sa : Option Addr) (n scap : Nat) (hn : seed.length = n) (many used : Int) (aa : Option Addr) (qa acap : Nat) (ba : Option Addr) (qb bcap : Nat) (m : Nat) (hm : m = 1 ∨ m = 2) (hM : many = (m : Int)) (hu : used = many) (hk : isKeyB n many used = true)
    (hqa : qa ≤ 300) (hqb : qb ≤ 300) (w : World) (hs : Sl w 1 (.slice sa n scap) n (bc seed)) (hT : Tabs w) :
    Calls Tryd.prog 9 #[.agg #[.slice sa n scap, .int .i64 many, .int .i64 used], .slice aa qa acap, .slice ba qb bcap] w fun e w' => e = .returned (.bool true) ∧ Below w.heap.size w w' := by
  have hk9 := isKeyB_t hk
  have hEa : signE n many used qa = 320 := by
    simp only [signE, hk]; rw [if_neg (by simp), if_neg (by omega), if_pos hu]
  have hEb : signE n many used qb = 320 := by
    simp only [signE, hk]; rw [if_neg (by simp), if_neg (by omega), if_pos hu]
  have HSane := Lib.hid (fun W => sane_any W)
  have HFa := Lib.hid (fun W => few_any sa n scap many used aa qa acap W)
  have HFb := Lib.hid (fun W => few_any sa n scap many used ba qb bcap W)
  rw [decide_eq_true (show many ≤ 2 ∧ n ≤ 100 ∧ qa ≤ 300 by omega)] at HFa
  rw [decide_eq_true (show many ≤ 2 ∧ n ≤ 100 ∧ qb ≤ 300 by omega)] at HFb
  have HSa : Hid (∀ W, Calls Tryd.prog 22 #[.agg #[.slice sa n scap, .int .i64 many, .int .i64 used], .slice aa qa acap] W fun e w' => e = .returned (.tuple #[.agg #[.slice none 0 0, .int .i64 0, .int .i64 0], .agg #[.int .i64 0, .slice none 0 0, .slice none 0 0], .int .i64 320]) ∧ Below W.heap.size W w') :=
    Lib.hid (fun W => by have := sign_bad sa n scap many used aa qa acap W (by rw [hEa]; decide); rw [hEa] at this; exact this)
  have HSb : Hid (∀ W, Calls Tryd.prog 22 #[.agg #[.slice sa n scap, .int .i64 many, .int .i64 used], .slice ba qb bcap] W fun e w' => e = .returned (.tuple #[.agg #[.slice none 0 0, .int .i64 0, .int .i64 0], .agg #[.int .i64 0, .slice none 0 0, .slice none 0 0], .int .i64 320]) ∧ Below W.heap.size W w') :=
    Lib.hid (fun W => by have := sign_bad sa n scap many used ba qb bcap W (by rw [hEb]; decide); rw [hEb] at this; exact this)
  have HO := Lib.hid (And.intro (show (bc (pub seed m)).length = 32 by rw [bc_len, pub_len]) (bc_one (pub seed m)))
  have HPub : Hid (∀ W, Below w.heap.size w W → Calls Tryd.prog 20 #[.agg #[.slice sa n scap, .int .i64 many, .int .i64 used]] W fun e w' => e = .returned (.tuple #[arrV (pub seed m), .int .i64 0]) ∧ Below W.heap.size W w') :=
    Lib.hid (fun W hb => by subst hM; exact public_ok seed n hn sa scap m hm used hk W (hs.next hb) (hT.next hb))
  unfold arrV at HPub
  obtain ⟨DP, hDP⟩ : ∃ DP, bc (pub seed m) = DP := ⟨_, rfl⟩
  rw [hDP] at HPub HO
  have H0 := Lib.hid (Blk.new w 24 #[.slice sa n scap, .int .i64 many, .int .i64 used])
  have Hb := Lib.hid (below_alloc w (.cells #[.slice sa n scap, .int .i64 many, .int .i64 used] 24))
  clear hs hT hn hk hk9 hEa hEb hDP hM hu
  go_enter Tryd.func9, Tryd.ntmps9
  go_wp2_with (first
    | (refine (HSane.out _).mono ?_
       rintro e w1 ⟨rfl, hb1⟩
       obtain ⟨c0, c1, c2, f0, f1, f2⟩ := cells3 (H0.out.below hb1 H0.out.lt)
       have HK1 := Lib.hid (H0.out.below hb1 H0.out.lt)
       have Hb1 := Lib.hid (Hb.out.trans (hb1.mono Hb.out.size))
       clear hb1)
    | (with_reducible refine Calls.mono (HFa.out _) ?_
       rintro e w2 ⟨rfl, hb2⟩
       clear c0 c1 c2 f0 f1 f2
       obtain ⟨c0, c1, c2, f0, f1, f2⟩ := cells3 (HK1.out.below hb2 HK1.out.lt)
       have HK2 := Lib.hid (HK1.out.below hb2 HK1.out.lt)
       have Hb2 := Lib.hid (Hb1.out.trans (hb2.mono Hb1.out.size))
       clear hb2)
    | (with_reducible refine Calls.mono (HFb.out _) ?_
       rintro e w3 ⟨rfl, hb3⟩
       clear c0 c1 c2 f0 f1 f2
       obtain ⟨c0, c1, c2, f0, f1, f2⟩ := cells3 (HK2.out.below hb3 HK2.out.lt)
       have HK3 := Lib.hid (HK2.out.below hb3 HK2.out.lt)
       have Hb3 := Lib.hid (Hb2.out.trans (hb3.mono Hb2.out.size))
       clear hb3)
    | (with_reducible refine Calls.mono (HPub.out _ Hb3.out) ?_
       rintro e w4 ⟨rfl, hb4⟩
       have hbb := Hb3.out.trans (hb4.mono Hb3.out.size)
       have hB := Blk.new w4 26 #[.int .u8 0, .int .u8 0, .int .u8 0, .int .u8 0, .int .u8 0, .int .u8 0, .int .u8 0, .int .u8 0, .int .u8 0, .int .u8 0, .int .u8 0, .int .u8 0, .int .u8 0, .int .u8 0, .int .u8 0, .int .u8 0, .int .u8 0, .int .u8 0, .int .u8 0, .int .u8 0, .int .u8 0, .int .u8 0, .int .u8 0, .int .u8 0, .int .u8 0, .int .u8 0, .int .u8 0, .int .u8 0, .int .u8 0, .int .u8 0, .int .u8 0, .int .u8 0]
       have hxK := (HK3.out.below hb4 HK3.out.lt)
       have hlK := hxK.lt
       have hyK := (hxK.alloc (.cells #[.int .u8 0, .int .u8 0, .int .u8 0, .int .u8 0, .int .u8 0, .int .u8 0, .int .u8 0, .int .u8 0, .int .u8 0, .int .u8 0, .int .u8 0, .int .u8 0, .int .u8 0, .int .u8 0, .int .u8 0, .int .u8 0, .int .u8 0, .int .u8 0, .int .u8 0, .int .u8 0, .int .u8 0, .int .u8 0, .int .u8 0, .int .u8 0, .int .u8 0, .int .u8 0, .int .u8 0, .int .u8 0, .int .u8 0, .int .u8 0, .int .u8 0, .int .u8 0] 26)).farRow (show w.heap.size ≠ w4.heap.size by omega) DP.toArray
       have hBr := hB.setRow DP.toArray
       have hbc := setRow_below (g := w4.heap.size) (hbb.alloc hbb.size (.cells #[.int .u8 0, .int .u8 0, .int .u8 0, .int .u8 0, .int .u8 0, .int .u8 0, .int .u8 0, .int .u8 0, .int .u8 0, .int .u8 0, .int .u8 0, .int .u8 0, .int .u8 0, .int .u8 0, .int .u8 0, .int .u8 0, .int .u8 0, .int .u8 0, .int .u8 0, .int .u8 0, .int .u8 0, .int .u8 0, .int .u8 0, .int .u8 0, .int .u8 0, .int .u8 0, .int .u8 0, .int .u8 0, .int .u8 0, .int .u8 0, .int .u8 0, .int .u8 0] 26)) hbb.size DP.toArray
       have hbd := setRow_below (g := w4.heap.size) (hb4.alloc hb4.size (.cells #[.int .u8 0, .int .u8 0, .int .u8 0, .int .u8 0, .int .u8 0, .int .u8 0, .int .u8 0, .int .u8 0, .int .u8 0, .int .u8 0, .int .u8 0, .int .u8 0, .int .u8 0, .int .u8 0, .int .u8 0, .int .u8 0, .int .u8 0, .int .u8 0, .int .u8 0, .int .u8 0, .int .u8 0, .int .u8 0, .int .u8 0, .int .u8 0, .int .u8 0, .int .u8 0, .int .u8 0, .int .u8 0, .int .u8 0, .int .u8 0, .int .u8 0, .int .u8 0] 26)) hb4.size DP.toArray
       obtain ⟨w5, hw5⟩ : ∃ w5, (w4.alloc (.cells #[.int .u8 0, .int .u8 0, .int .u8 0, .int .u8 0, .int .u8 0, .int .u8 0, .int .u8 0, .int .u8 0, .int .u8 0, .int .u8 0, .int .u8 0, .int .u8 0, .int .u8 0, .int .u8 0, .int .u8 0, .int .u8 0, .int .u8 0, .int .u8 0, .int .u8 0, .int .u8 0, .int .u8 0, .int .u8 0, .int .u8 0, .int .u8 0, .int .u8 0, .int .u8 0, .int .u8 0, .int .u8 0, .int .u8 0, .int .u8 0, .int .u8 0, .int .u8 0] 26)).setRow w4.heap.size DP.toArray = w5 := ⟨_, rfl⟩
       rw [hw5] at hBr hbc hbd hyK
       have HW5 := Lib.hid hw5
       have HB5 := Lib.hid hB
       have HP5 := Lib.hid hBr
       have Hb5 := Lib.hid hbc
       have Hs5 := Lib.hid hbd
       have HK5 := Lib.hid hyK
       clear hb4 hbb hB hBr hbc hbd hw5 hxK hlK hyK
       clear c0 c1 c2 f0 f1 f2
       obtain ⟨c0, c1, c2, f0, f1, f2⟩ := cells3 HK5.out)
    | (refine wpList_store_row rfl 26 _ _ rfl w4.heap.size DP.toArray rfl rfl 26 _ HB5.out (by rw [List.size_toArray, HO.out.1]; exact infoDg) (show 32 = DP.length from HO.out.1.symm) (all_oneCell_toArray HO.out.2) ?_; rw [HW5.out])
    | (with_reducible refine Calls.mono (HSa.out _) ?_
       rintro e w6 ⟨rfl, hb6⟩
       have hbb := Hb5.out.trans (hb6.mono Hb5.out.size)
       have h2 := two_b w6 #[.slice none 0 0, .int .i64 0, .int .i64 0] #[.int .i64 0, .slice none 0 0, .slice none 0 0]
       have hk7 := two_k w6 #[.slice none 0 0, .int .i64 0, .int .i64 0] #[.int .i64 0, .slice none 0 0, .slice none 0 0]
       have hs7 := two_s w6 #[.slice none 0 0, .int .i64 0, .int .i64 0] #[.int .i64 0, .slice none 0 0, .slice none 0 0]
       obtain ⟨w7, hw7⟩ : ∃ w7, two w6 #[.slice none 0 0, .int .i64 0, .int .i64 0] #[.int .i64 0, .slice none 0 0, .slice none 0 0] = w7 := ⟨_, rfl⟩
       rw [hw7] at h2 hk7 hs7
       unfold two at hw7
       have HW7 := Lib.hid hw7
       have HK7 := Lib.hid ((HK5.out.below hb6 HK5.out.lt).below h2 (HK5.out.below hb6 HK5.out.lt).lt)
       have Hb7 := Lib.hid (hbb.trans (h2.mono hbb.size))
       have HX7 := Lib.hid hk7
       have HS7 := Lib.hid hs7
       clear hb6 hbb h2 hw7 hk7 hs7 c0 c1 c2 f0 f1 f2
       obtain ⟨c0, c1, c2, f0, f1, f2⟩ := cells3 HK7.out)
    | (refine wpList_store_row rfl 24 _ _ rfl w6.heap.size #[.slice none 0 0, .int .i64 0, .int .i64 0] rfl rfl 24 _ (two_0 w6) infoKey rfl (one3 rfl rfl rfl) ?_)
    | (refine wpList_store_row rfl 42 _ _ rfl (w6.heap.size + 1) #[.int .i64 0, .slice none 0 0, .slice none 0 0] rfl rfl 42 _ (two_1 w6 #[.slice none 0 0, .int .i64 0, .int .i64 0]) infoSig rfl (one3 rfl rfl rfl) ?_; rw [HW7.out])
    | (with_reducible refine Calls.mono (HSb.out _) ?_
       rintro e w8 ⟨rfl, hb8⟩
       have hbb := Hb7.out.trans (hb8.mono Hb7.out.size)
       have h2 := two_b w8 #[.slice none 0 0, .int .i64 0, .int .i64 0] #[.int .i64 0, .slice none 0 0, .slice none 0 0]
       have hk7 := two_k w8 #[.slice none 0 0, .int .i64 0, .int .i64 0] #[.int .i64 0, .slice none 0 0, .slice none 0 0]
       have hs7 := two_s w8 #[.slice none 0 0, .int .i64 0, .int .i64 0] #[.int .i64 0, .slice none 0 0, .slice none 0 0]
       obtain ⟨w9, hw9⟩ : ∃ w9, two w8 #[.slice none 0 0, .int .i64 0, .int .i64 0] #[.int .i64 0, .slice none 0 0, .slice none 0 0] = w9 := ⟨_, rfl⟩
       rw [hw9] at h2 hk7 hs7
       unfold two at hw9
       have HW9 := Lib.hid hw9
       have HK9 := Lib.hid ((HK7.out.below hb8 HK7.out.lt).below h2 (HK7.out.below hb8 HK7.out.lt).lt)
       have Hb9 := Lib.hid (hbb.trans (h2.mono hbb.size))
       have HX9 := Lib.hid hk7
       have HS9 := Lib.hid hs7
       clear hb8 hbb h2 hw9 hk7 hs7 c0 c1 c2 f0 f1 f2
       obtain ⟨c0, c1, c2, f0, f1, f2⟩ := cells3 HK9.out)
    | (refine wpList_store_row rfl 24 _ _ rfl w8.heap.size #[.slice none 0 0, .int .i64 0, .int .i64 0] rfl rfl 24 _ (two_0 w8) infoKey rfl (one3 rfl rfl rfl) ?_)
    | (refine wpList_store_row rfl 42 _ _ rfl (w8.heap.size + 1) #[.int .i64 0, .slice none 0 0, .slice none 0 0] rfl rfl 42 _ (two_1 w8 #[.slice none 0 0, .int .i64 0, .int .i64 0]) infoSig rfl (one3 rfl rfl rfl) ?_; rw [HW9.out]))
  go_ret
  exact ⟨rfl, Hb9.out⟩
end Go.Proofs.YtiloaheaglcpbaaDoor
