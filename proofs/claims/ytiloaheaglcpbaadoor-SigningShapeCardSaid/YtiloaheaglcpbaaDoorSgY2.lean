/- Signing: the statement SigningShape, the walks but that of a longer path. -/
import Derived.Test.YtiloaheaglcpbaaDoorSgY1
import Derived.Test.YtiloaheaglcpbaaDoorSgV2
namespace Go.Proofs.YtiloaheaglcpbaaDoor
open Go.RowKit

set_option maxRecDepth 100000 in
set_option maxHeartbeats 1000000 in
theorem sh_few (sa : Option Addr) (n scap : Nat) (many used : Int) (am : Option Addr) (q capm : Nat) (how z : Int) (hf : decide (many ≤ 2 ∧ n ≤ 100 ∧ q ≤ 300) = false) (w : World) :
    Calls Tryd.prog 10 #[.agg #[.slice sa n scap, .int .i64 many, .int .i64 used], .slice am q capm, .int .i64 how, .int .i64 z] w fun e w' => e = .returned (.bool true) ∧ Below w.heap.size w w' := by
  have HSane := Lib.hid (fun W => sane_any W)
  have HF := Lib.hid (fun W => few_any sa n scap many used am q capm W)
  rw [hf] at HF
  clear hf
  have H0 := Lib.hid (Blk.new w 24 #[.slice sa n scap, .int .i64 many, .int .i64 used])
  have Hb := Lib.hid (below_alloc w (.cells #[.slice sa n scap, .int .i64 many, .int .i64 used] 24))
  go_enter Tryd.func10, Tryd.ntmps10
  go_wp2_with (first
    | (refine (HSane.out _).mono ?_
       rintro e w1 ⟨rfl, hb1⟩
       obtain ⟨c0, c1, c2, f0, f1, f2⟩ := cells3 (H0.out.below hb1 H0.out.lt)
       have HK1 := Lib.hid (H0.out.below hb1 H0.out.lt)
       have Hb1 := Lib.hid (Hb.out.trans (hb1.mono Hb.out.size))
       clear hb1)
    | (refine (HF.out _).mono ?_
       rintro e w2 ⟨rfl, hb2⟩
       clear c0 c1 c2 f0 f1 f2
       obtain ⟨c0, c1, c2, f0, f1, f2⟩ := cells3 (HK1.out.below hb2 HK1.out.lt)
       have HK2 := Lib.hid (HK1.out.below hb2 HK1.out.lt)
       have Hb2 := Lib.hid (Hb1.out.trans (hb2.mono Hb1.out.size))
       clear hb2))
  go_ret
  exact ⟨rfl, Hb2.out⟩

set_option maxRecDepth 100000 in
set_option maxHeartbeats 1000000 in
theorem sh_bad (sa : Option Addr) (n scap : Nat) (many used : Int) (am : Option Addr) (q capm : Nat) (how z : Int) (hf : decide (many ≤ 2 ∧ n ≤ 100 ∧ q ≤ 300) = true) (hk : isKeyB n many used = false) (w : World) :
    Calls Tryd.prog 10 #[.agg #[.slice sa n scap, .int .i64 many, .int .i64 used], .slice am q capm, .int .i64 how, .int .i64 z] w fun e w' => e = .returned (.bool true) ∧ Below w.heap.size w w' := by
  have hE : signE n many used q = 320 := by simp only [signE, hk]; rfl
  have HSane := Lib.hid (fun W => sane_any W)
  have HF := Lib.hid (fun W => few_any sa n scap many used am q capm W)
  rw [hf] at HF
  have HS : Hid (∀ W, Calls Tryd.prog 22 #[.agg #[.slice sa n scap, .int .i64 many, .int .i64 used], .slice am q capm] W fun e w' => e = .returned (.tuple #[.agg #[.slice none 0 0, .int .i64 0, .int .i64 0], .agg #[.int .i64 0, .slice none 0 0, .slice none 0 0], .int .i64 320]) ∧ Below W.heap.size W w') :=
    Lib.hid (fun W => by have := sign_bad sa n scap many used am q capm W (by rw [hE]; decide); rw [hE] at this; exact this)
  obtain ⟨DP, hDP⟩ : ∃ DP : List Value, [.int .u8 0, .int .u8 0, .int .u8 0, .int .u8 0, .int .u8 0, .int .u8 0, .int .u8 0, .int .u8 0, .int .u8 0, .int .u8 0, .int .u8 0, .int .u8 0, .int .u8 0, .int .u8 0, .int .u8 0, .int .u8 0, .int .u8 0, .int .u8 0, .int .u8 0, .int .u8 0, .int .u8 0, .int .u8 0, .int .u8 0, .int .u8 0, .int .u8 0, .int .u8 0, .int .u8 0, .int .u8 0, .int .u8 0, .int .u8 0, .int .u8 0, .int .u8 0] = DP := ⟨_, rfl⟩
  have HO := Lib.hid (show DP.length = 32 ∧ ∀ u ∈ DP, u.oneCell' = true by subst hDP; exact ⟨rfl, by decide +kernel⟩)
  have HPub : Hid (∀ W, Below w.heap.size w W → Calls Tryd.prog 20 #[.agg #[.slice sa n scap, .int .i64 many, .int .i64 used]] W fun e w' => e = .returned (.tuple #[.agg DP.toArray, .int .i64 320]) ∧ Below W.heap.size W w') :=
    Lib.hid (fun W _ => by subst hDP; exact public_bad sa n scap many used hk W)
  have H0 := Lib.hid (Blk.new w 24 #[.slice sa n scap, .int .i64 many, .int .i64 used])
  have Hb := Lib.hid (below_alloc w (.cells #[.slice sa n scap, .int .i64 many, .int .i64 used] 24))
  clear hf hk hE hDP
  go_enter Tryd.func10, Tryd.ntmps10
  go_wp2_with (first
    | (refine (HSane.out _).mono ?_
       rintro e w1 ⟨rfl, hb1⟩
       obtain ⟨c0, c1, c2, f0, f1, f2⟩ := cells3 (H0.out.below hb1 H0.out.lt)
       have HK1 := Lib.hid (H0.out.below hb1 H0.out.lt)
       have Hb1 := Lib.hid (Hb.out.trans (hb1.mono Hb.out.size))
       clear hb1)
    | (refine (HF.out _).mono ?_
       rintro e w2 ⟨rfl, hb2⟩
       clear c0 c1 c2 f0 f1 f2
       obtain ⟨c0, c1, c2, f0, f1, f2⟩ := cells3 (HK1.out.below hb2 HK1.out.lt)
       have HK2 := Lib.hid (HK1.out.below hb2 HK1.out.lt)
       have Hb2 := Lib.hid (Hb1.out.trans (hb2.mono Hb1.out.size))
       clear hb2)
    | (with_reducible refine Calls.mono (HPub.out _ Hb2.out) ?_
       rintro e w4 ⟨rfl, hb4⟩
       have hbb := Hb2.out.trans (hb4.mono Hb2.out.size)
       have hB := Blk.new w4 26 #[.int .u8 0, .int .u8 0, .int .u8 0, .int .u8 0, .int .u8 0, .int .u8 0, .int .u8 0, .int .u8 0, .int .u8 0, .int .u8 0, .int .u8 0, .int .u8 0, .int .u8 0, .int .u8 0, .int .u8 0, .int .u8 0, .int .u8 0, .int .u8 0, .int .u8 0, .int .u8 0, .int .u8 0, .int .u8 0, .int .u8 0, .int .u8 0, .int .u8 0, .int .u8 0, .int .u8 0, .int .u8 0, .int .u8 0, .int .u8 0, .int .u8 0, .int .u8 0]
       have hxK := (HK2.out.below hb4 HK2.out.lt)
       have hlK := hxK.lt
       have hyK := (hxK.alloc (.cells #[.int .u8 0, .int .u8 0, .int .u8 0, .int .u8 0, .int .u8 0, .int .u8 0, .int .u8 0, .int .u8 0, .int .u8 0, .int .u8 0, .int .u8 0, .int .u8 0, .int .u8 0, .int .u8 0, .int .u8 0, .int .u8 0, .int .u8 0, .int .u8 0, .int .u8 0, .int .u8 0, .int .u8 0, .int .u8 0, .int .u8 0, .int .u8 0, .int .u8 0, .int .u8 0, .int .u8 0, .int .u8 0, .int .u8 0, .int .u8 0, .int .u8 0, .int .u8 0] 26)).farRow (show w.heap.size ≠ w4.heap.size by omega) DP.toArray
       have hBr := hB.setRow DP.toArray
       have hbc := setRow_below (g := w4.heap.size) (hbb.alloc hbb.size (.cells #[.int .u8 0, .int .u8 0, .int .u8 0, .int .u8 0, .int .u8 0, .int .u8 0, .int .u8 0, .int .u8 0, .int .u8 0, .int .u8 0, .int .u8 0, .int .u8 0, .int .u8 0, .int .u8 0, .int .u8 0, .int .u8 0, .int .u8 0, .int .u8 0, .int .u8 0, .int .u8 0, .int .u8 0, .int .u8 0, .int .u8 0, .int .u8 0, .int .u8 0, .int .u8 0, .int .u8 0, .int .u8 0, .int .u8 0, .int .u8 0, .int .u8 0, .int .u8 0] 26)) hbb.size DP.toArray
       have hbd := setRow_below (g := w4.heap.size) (hb4.alloc hb4.size (.cells #[.int .u8 0, .int .u8 0, .int .u8 0, .int .u8 0, .int .u8 0, .int .u8 0, .int .u8 0, .int .u8 0, .int .u8 0, .int .u8 0, .int .u8 0, .int .u8 0, .int .u8 0, .int .u8 0, .int .u8 0, .int .u8 0, .int .u8 0, .int .u8 0, .int .u8 0, .int .u8 0, .int .u8 0, .int .u8 0, .int .u8 0, .int .u8 0, .int .u8 0, .int .u8 0, .int .u8 0, .int .u8 0, .int .u8 0, .int .u8 0, .int .u8 0, .int .u8 0] 26)) hb4.size DP.toArray
       obtain ⟨w5, hw5⟩ : ∃ w5, (w4.alloc (.cells #[.int .u8 0, .int .u8 0, .int .u8 0, .int .u8 0, .int .u8 0, .int .u8 0, .int .u8 0, .int .u8 0, .int .u8 0, .int .u8 0, .int .u8 0, .int .u8 0, .int .u8 0, .int .u8 0, .int .u8 0, .int .u8 0, .int .u8 0, .int .u8 0, .int .u8 0, .int .u8 0, .int .u8 0, .int .u8 0, .int .u8 0, .int .u8 0, .int .u8 0, .int .u8 0, .int .u8 0, .int .u8 0, .int .u8 0, .int .u8 0, .int .u8 0, .int .u8 0] 26)).setRow w4.heap.size DP.toArray = w5 := ⟨_, rfl⟩
       rw [hw5] at hBr hbc hbd hyK
       have HW5 := Lib.hid hw5
       have HB5 := Lib.hid hB
       have HP5 := Lib.hid hBr
       have Hb5 := Lib.hid hbc
       have Hs5 := Lib.hid hbd
       have HK5 := Lib.hid hyK
       clear hb4 hbb hB hBr hbc hbd hw5 hxK hlK hyK
       clear c0 c1 c2 f0 f1 f2
       obtain ⟨c0, c1, c2, f0, f1, f2⟩ := cells3 HK5.out)
    | (refine wpList_store_row rfl 26 _ _ rfl w4.heap.size DP.toArray rfl rfl 26 _ HB5.out (by rw [List.size_toArray, HO.out.1]; exact infoDg) (show 32 = DP.length from HO.out.1.symm) (all_oneCell_toArray HO.out.2) ?_; rw [HW5.out])
    | (with_reducible refine Calls.mono (HS.out _) ?_
       rintro e w6 ⟨rfl, hb6⟩
       have hbb := Hb5.out.trans (hb6.mono Hb5.out.size)
       have h2 := two_b w6 #[.slice none 0 0, .int .i64 0, .int .i64 0] #[.int .i64 0, .slice none 0 0, .slice none 0 0]
       have hk7 := two_k w6 #[.slice none 0 0, .int .i64 0, .int .i64 0] #[.int .i64 0, .slice none 0 0, .slice none 0 0]
       have hs7 := two_s w6 #[.slice none 0 0, .int .i64 0, .int .i64 0] #[.int .i64 0, .slice none 0 0, .slice none 0 0]
       obtain ⟨w7, hw7⟩ : ∃ w7, two w6 #[.slice none 0 0, .int .i64 0, .int .i64 0] #[.int .i64 0, .slice none 0 0, .slice none 0 0] = w7 := ⟨_, rfl⟩
       rw [hw7] at h2 hk7 hs7
       unfold two at hw7
       have HW7 := Lib.hid hw7
       have HK7 := Lib.hid ((HK5.out.below hb6 HK5.out.lt).below h2 (HK5.out.below hb6 HK5.out.lt).lt)
       have Hb7 := Lib.hid (hbb.trans (h2.mono hbb.size))
       have HX7 := Lib.hid hk7
       have HS7 := Lib.hid hs7
       clear hb6 hbb h2 hw7 hk7 hs7 c0 c1 c2 f0 f1 f2
       obtain ⟨c0, c1, c2, f0, f1, f2⟩ := cells3 HK7.out)
    | (refine wpList_store_row rfl 24 _ _ rfl w6.heap.size #[.slice none 0 0, .int .i64 0, .int .i64 0] rfl rfl 24 _ (two_0 w6) infoKey rfl (one3 rfl rfl rfl) ?_)
    | (refine wpList_store_row rfl 42 _ _ rfl (w6.heap.size + 1) #[.int .i64 0, .slice none 0 0, .slice none 0 0] rfl rfl 42 _ (two_1 w6 #[.slice none 0 0, .int .i64 0, .int .i64 0]) infoSig rfl (one3 rfl rfl rfl) ?_; rw [HW7.out]))
  go_ret
  exact ⟨rfl, Hb7.out⟩

set_option maxRecDepth 100000 in
set_option maxHeartbeats 1000000 in
theorem sh_used (seed : List UInt8) (n : Nat) (hn : seed.length = n) (sa : Option Addr) (scap : Nat) (many used : Int) (m : Nat) (hm : m = 1 ∨ m = 2) (hM : many = (m : Int)) (hu : used = many) (hk : isKeyB n many used = true)
    (am : Option Addr) (q capm : Nat) (how z : Int) (hq9 : q ≤ 300) (w : World) (hs : Sl w 1 (.slice sa n scap) n (bc seed)) (hT : Tabs w) :
    Calls Tryd.prog 10 #[.agg #[.slice sa n scap, .int .i64 many, .int .i64 used], .slice am q capm, .int .i64 how, .int .i64 z] w fun e w' => e = .returned (.bool true) ∧ Below w.heap.size w w' := by
  have hk9 := isKeyB_t hk
  have hE : signE n many used q = 320 := by
    simp only [signE, hk]; rw [if_neg (by simp), if_neg (by omega), if_pos hu]
  have HSane := Lib.hid (fun W => sane_any W)
  have HF := Lib.hid (fun W => few_any sa n scap many used am q capm W)
  rw [decide_eq_true (show many ≤ 2 ∧ n ≤ 100 ∧ q ≤ 300 by omega)] at HF
  have HS : Hid (∀ W, Calls Tryd.prog 22 #[.agg #[.slice sa n scap, .int .i64 many, .int .i64 used], .slice am q capm] W fun e w' => e = .returned (.tuple #[.agg #[.slice none 0 0, .int .i64 0, .int .i64 0], .agg #[.int .i64 0, .slice none 0 0, .slice none 0 0], .int .i64 320]) ∧ Below W.heap.size W w') :=
    Lib.hid (fun W => by have := sign_bad sa n scap many used am q capm W (by rw [hE]; decide); rw [hE] at this; exact this)
  have HO := Lib.hid (And.intro (show (bc (pub seed m)).length = 32 by rw [bc_len, pub_len]) (bc_one (pub seed m)))
  have HPub : Hid (∀ W, Below w.heap.size w W → Calls Tryd.prog 20 #[.agg #[.slice sa n scap, .int .i64 many, .int .i64 used]] W fun e w' => e = .returned (.tuple #[arrV (pub seed m), .int .i64 0]) ∧ Below W.heap.size W w') :=
    Lib.hid (fun W hb => by subst hM; exact public_ok seed n hn sa scap m hm used hk W (hs.next hb) (hT.next hb))
  unfold arrV at HPub
  obtain ⟨DP, hDP⟩ : ∃ DP, bc (pub seed m) = DP := ⟨_, rfl⟩
  rw [hDP] at HPub HO
  have H0 := Lib.hid (Blk.new w 24 #[.slice sa n scap, .int .i64 many, .int .i64 used])
  have Hb := Lib.hid (below_alloc w (.cells #[.slice sa n scap, .int .i64 many, .int .i64 used] 24))
  clear hs hT hn hk hk9 hE hDP hM hu
  go_enter Tryd.func10, Tryd.ntmps10
  go_wp2_with (first
    | (refine (HSane.out _).mono ?_
       rintro e w1 ⟨rfl, hb1⟩
       obtain ⟨c0, c1, c2, f0, f1, f2⟩ := cells3 (H0.out.below hb1 H0.out.lt)
       have HK1 := Lib.hid (H0.out.below hb1 H0.out.lt)
       have Hb1 := Lib.hid (Hb.out.trans (hb1.mono Hb.out.size))
       clear hb1)
    | (refine (HF.out _).mono ?_
       rintro e w2 ⟨rfl, hb2⟩
       clear c0 c1 c2 f0 f1 f2
       obtain ⟨c0, c1, c2, f0, f1, f2⟩ := cells3 (HK1.out.below hb2 HK1.out.lt)
       have HK2 := Lib.hid (HK1.out.below hb2 HK1.out.lt)
       have Hb2 := Lib.hid (Hb1.out.trans (hb2.mono Hb1.out.size))
       clear hb2)
    | (with_reducible refine Calls.mono (HPub.out _ Hb2.out) ?_
       rintro e w4 ⟨rfl, hb4⟩
       have hbb := Hb2.out.trans (hb4.mono Hb2.out.size)
       have hB := Blk.new w4 26 #[.int .u8 0, .int .u8 0, .int .u8 0, .int .u8 0, .int .u8 0, .int .u8 0, .int .u8 0, .int .u8 0, .int .u8 0, .int .u8 0, .int .u8 0, .int .u8 0, .int .u8 0, .int .u8 0, .int .u8 0, .int .u8 0, .int .u8 0, .int .u8 0, .int .u8 0, .int .u8 0, .int .u8 0, .int .u8 0, .int .u8 0, .int .u8 0, .int .u8 0, .int .u8 0, .int .u8 0, .int .u8 0, .int .u8 0, .int .u8 0, .int .u8 0, .int .u8 0]
       have hxK := (HK2.out.below hb4 HK2.out.lt)
       have hlK := hxK.lt
       have hyK := (hxK.alloc (.cells #[.int .u8 0, .int .u8 0, .int .u8 0, .int .u8 0, .int .u8 0, .int .u8 0, .int .u8 0, .int .u8 0, .int .u8 0, .int .u8 0, .int .u8 0, .int .u8 0, .int .u8 0, .int .u8 0, .int .u8 0, .int .u8 0, .int .u8 0, .int .u8 0, .int .u8 0, .int .u8 0, .int .u8 0, .int .u8 0, .int .u8 0, .int .u8 0, .int .u8 0, .int .u8 0, .int .u8 0, .int .u8 0, .int .u8 0, .int .u8 0, .int .u8 0, .int .u8 0] 26)).farRow (show w.heap.size ≠ w4.heap.size by omega) DP.toArray
       have hBr := hB.setRow DP.toArray
       have hbc := setRow_below (g := w4.heap.size) (hbb.alloc hbb.size (.cells #[.int .u8 0, .int .u8 0, .int .u8 0, .int .u8 0, .int .u8 0, .int .u8 0, .int .u8 0, .int .u8 0, .int .u8 0, .int .u8 0, .int .u8 0, .int .u8 0, .int .u8 0, .int .u8 0, .int .u8 0, .int .u8 0, .int .u8 0, .int .u8 0, .int .u8 0, .int .u8 0, .int .u8 0, .int .u8 0, .int .u8 0, .int .u8 0, .int .u8 0, .int .u8 0, .int .u8 0, .int .u8 0, .int .u8 0, .int .u8 0, .int .u8 0, .int .u8 0] 26)) hbb.size DP.toArray
       have hbd := setRow_below (g := w4.heap.size) (hb4.alloc hb4.size (.cells #[.int .u8 0, .int .u8 0, .int .u8 0, .int .u8 0, .int .u8 0, .int .u8 0, .int .u8 0, .int .u8 0, .int .u8 0, .int .u8 0, .int .u8 0, .int .u8 0, .int .u8 0, .int .u8 0, .int .u8 0, .int .u8 0, .int .u8 0, .int .u8 0, .int .u8 0, .int .u8 0, .int .u8 0, .int .u8 0, .int .u8 0, .int .u8 0, .int .u8 0, .int .u8 0, .int .u8 0, .int .u8 0, .int .u8 0, .int .u8 0, .int .u8 0, .int .u8 0] 26)) hb4.size DP.toArray
       obtain ⟨w5, hw5⟩ : ∃ w5, (w4.alloc (.cells #[.int .u8 0, .int .u8 0, .int .u8 0, .int .u8 0, .int .u8 0, .int .u8 0, .int .u8 0, .int .u8 0, .int .u8 0, .int .u8 0, .int .u8 0, .int .u8 0, .int .u8 0, .int .u8 0, .int .u8 0, .int .u8 0, .int .u8 0, .int .u8 0, .int .u8 0, .int .u8 0, .int .u8 0, .int .u8 0, .int .u8 0, .int .u8 0, .int .u8 0, .int .u8 0, .int .u8 0, .int .u8 0, .int .u8 0, .int .u8 0, .int .u8 0, .int .u8 0] 26)).setRow w4.heap.size DP.toArray = w5 := ⟨_, rfl⟩
       rw [hw5] at hBr hbc hbd hyK
       have HW5 := Lib.hid hw5
       have HB5 := Lib.hid hB
       have HP5 := Lib.hid hBr
       have Hb5 := Lib.hid hbc
       have Hs5 := Lib.hid hbd
       have HK5 := Lib.hid hyK
       clear hb4 hbb hB hBr hbc hbd hw5 hxK hlK hyK
       clear c0 c1 c2 f0 f1 f2
       obtain ⟨c0, c1, c2, f0, f1, f2⟩ := cells3 HK5.out)
    | (refine wpList_store_row rfl 26 _ _ rfl w4.heap.size DP.toArray rfl rfl 26 _ HB5.out (by rw [List.size_toArray, HO.out.1]; exact infoDg) (show 32 = DP.length from HO.out.1.symm) (all_oneCell_toArray HO.out.2) ?_; rw [HW5.out])
    | (with_reducible refine Calls.mono (HS.out _) ?_
       rintro e w6 ⟨rfl, hb6⟩
       have hbb := Hb5.out.trans (hb6.mono Hb5.out.size)
       have h2 := two_b w6 #[.slice none 0 0, .int .i64 0, .int .i64 0] #[.int .i64 0, .slice none 0 0, .slice none 0 0]
       have hk7 := two_k w6 #[.slice none 0 0, .int .i64 0, .int .i64 0] #[.int .i64 0, .slice none 0 0, .slice none 0 0]
       have hs7 := two_s w6 #[.slice none 0 0, .int .i64 0, .int .i64 0] #[.int .i64 0, .slice none 0 0, .slice none 0 0]
       obtain ⟨w7, hw7⟩ : ∃ w7, two w6 #[.slice none 0 0, .int .i64 0, .int .i64 0] #[.int .i64 0, .slice none 0 0, .slice none 0 0] = w7 := ⟨_, rfl⟩
       rw [hw7] at h2 hk7 hs7
       unfold two at hw7
       have HW7 := Lib.hid hw7
       have HK7 := Lib.hid ((HK5.out.below hb6 HK5.out.lt).below h2 (HK5.out.below hb6 HK5.out.lt).lt)
       have Hb7 := Lib.hid (hbb.trans (h2.mono hbb.size))
       have HX7 := Lib.hid hk7
       have HS7 := Lib.hid hs7
       clear hb6 hbb h2 hw7 hk7 hs7 c0 c1 c2 f0 f1 f2
       obtain ⟨c0, c1, c2, f0, f1, f2⟩ := cells3 HK7.out)
    | (refine wpList_store_row rfl 24 _ _ rfl w6.heap.size #[.slice none 0 0, .int .i64 0, .int .i64 0] rfl rfl 24 _ (two_0 w6) infoKey rfl (one3 rfl rfl rfl) ?_)
    | (refine wpList_store_row rfl 42 _ _ rfl (w6.heap.size + 1) #[.int .i64 0, .slice none 0 0, .slice none 0 0] rfl rfl 42 _ (two_1 w6 #[.slice none 0 0, .int .i64 0, .int .i64 0]) infoSig rfl (one3 rfl rfl rfl) ?_; rw [HW7.out]))
  go_ret
  exact ⟨rfl, Hb7.out⟩

theorem pick_any (z : Int) (w : World) : Calls Tryd.prog 30 #[.int .i64 z] w fun e w' => (∃ r : Int, e = .returned (.int .i64 r) ∧ ¬ (1 ≤ r ∧ r ≤ 256)) ∧ w = w' := by
  go_enter Tryd.func30, Tryd.ntmps30
  by_cases h : 1 ≤ z ∧ z ≤ 256
  · obtain ⟨h1, h2⟩ := h
    have h3 : IntKind.i64.wrap (256 + z) = 256 + z := by rw [IntKind.wrap_i64]; omega
    go_wp2_with fail
    go_ret
    exact ⟨⟨256 + z, rfl, by omega⟩, rfl⟩
  · by_cases h1 : 1 ≤ z
    · have h2 : ¬ z ≤ 256 := by omega
      go_wp2_with fail
      go_ret
      exact ⟨⟨z, rfl, by omega⟩, rfl⟩
    · go_wp2_with fail
      go_ret
      exact ⟨⟨z, rfl, by omega⟩, rfl⟩

set_option maxRecDepth 100000 in
set_option maxHeartbeats 1000000 in
theorem sh_0 (seed : List UInt8) (n : Nat) (hn : seed.length = n) (sa : Option Addr) (scap : Nat) (m : Nat) (hm : m = 1 ∨ m = 2) (ix : Nat) (hix : ix < m) (hk : isKeyB n (m : Int) (ix : Int) = true)
    (msg : List UInt8) (q : Nat) (hq : msg.length = q) (hq9 : q ≤ 300) (am : Option Addr) (capm : Nat) (z : Int) (w : World) (hs : Sl w 1 (.slice sa n scap) n (bc seed)) (hy : Sl w 1 (.slice am q capm) q (bc msg)) (hT : Tabs w) :
    Calls Tryd.prog 10 #[.agg #[.slice sa n scap, .int .i64 (m : Int), .int .i64 (ix : Int)], .slice am q capm, .int .i64 0, .int .i64 z] w fun e w' => e = .returned (.bool true) ∧ Below w.heap.size w w' := by
  have hk9 := isKeyB_t hk
  have HSane := Lib.hid (fun W => sane_any W)
  have HF := Lib.hid (fun W => few_any sa n scap (m : Int) (ix : Int) am q capm W)
  rw [few_t hm (by omega) hq9] at HF
  have HPub : Hid (∀ W, Below w.heap.size w W → Calls Tryd.prog 20 #[.agg #[.slice sa n scap, .int .i64 (m : Int), .int .i64 (ix : Int)]] W fun e w' => e = .returned (.tuple #[arrV (pub seed m), .int .i64 0]) ∧ Below W.heap.size W w') :=
    Lib.hid (fun W hb => public_ok seed n hn sa scap m hm ix hk W (hs.next hb) (hT.next hb))
  have HS : Hid (∀ W, Below w.heap.size w W → Calls Tryd.prog 22 #[.agg #[.slice sa n scap, .int .i64 (m : Int), .int .i64 (ix : Int)], .slice am q capm] W fun e w' => ∃ v p, e = .returned (.tuple #[.agg #[.slice sa n scap, .int .i64 (m : Int), .int .i64 (ix + 1 : Int)], .agg #[.int .i64 (ix : Int), v, p], .int .i64 0])
      ∧ w'.ownsRow W.heap.size 26 32 v 67 (prC seed ix (mh (pub seed m) ix msg) 67) ∧ w'.ownsRow W.heap.size 26 32 p (m - 1) (ptC seed m ix) ∧ Below W.heap.size W w') :=
    Lib.hid (fun W hb => sign_ok seed n hn sa scap m hm ix hix hk msg q hq (by omega) am capm W (hs.next hb) (hy.next hb) (hT.next hb))
  have HV : Hid (∀ v p B B' W, Below w.heap.size w W → W.ownsRow B 26 32 v 67 (prC seed ix (mh (pub seed m) ix msg) 67) → W.ownsRow B' 26 32 p (m - 1) (ptC seed m ix) → Calls Tryd.prog 25 #[arrV (pub seed m), .int .i64 (m : Int), .slice am q capm, .agg #[.int .i64 (ix : Int), v, p]] W fun e w' => e = .returned (.bool true) ∧ Below W.heap.size W w') :=
    Lib.hid (fun v p B B' W hb hv hp => verify_signed seed m hm ix hix msg q hq (by omega) am capm v p B B' W (hy.next hb) hv hp (hT.next hb))
  have HVb : Hid (∀ (D : Array Value) (mm idx : Int) ap np cp aq nq cq W, vfyB mm idx np q = false → Calls Tryd.prog 25 #[.agg D, .int .i64 mm, .slice am q capm, .agg #[.int .i64 idx, .slice ap np cp, .slice aq nq cq]] W fun e w' => e = .returned (.bool false) ∧ Below W.heap.size W w') :=
    Lib.hid (fun D mm idx ap np cp aq nq cq W h => verify_bad D mm idx am q capm ap np cp aq nq cq W h)
  have HVl : Hid (∀ v B pa pcap W, Below w.heap.size w W → W.ownsRow B 26 32 v 67 (prC seed ix (mh (pub seed m) ix msg) 67) → Calls Tryd.prog 25 #[arrV (pub seed m), .int .i64 (m : Int), .slice am q capm, .agg #[.int .i64 (ix : Int), v, .slice pa m pcap]] W fun e w' => e = .returned (.bool false) ∧ Below W.heap.size W w') :=
    Lib.hid (fun v B pa pcap W hb hv => verify_long seed m hm ix hix msg q hq (by omega) am capm v B pa pcap W (hy.next hb) hv (hT.next hb))
  have HO := Lib.hid (And.intro (show (bc (pub seed m)).length = 32 by rw [bc_len, pub_len]) (bc_one (pub seed m)))
  have HB := Lib.hid (show vfyB (m : Int) (ix : Int) 66 q = false from decide_eq_false (by omega))
  unfold arrV at HPub HV HVl
  obtain ⟨DP, hDP⟩ : ∃ DP, bc (pub seed m) = DP := ⟨_, rfl⟩
  rw [hDP] at HPub HO
  simp only [hDP] at HV HVl
  obtain ⟨C1, hC1⟩ : ∃ C, prC seed ix (mh (pub seed m) ix msg) 67 = C := ⟨_, rfl⟩
  obtain ⟨P1, hP1⟩ : ∃ C, ptC seed m ix = C := ⟨_, rfl⟩
  simp only [hC1, hP1] at HS HV HVl
  have H0 := Lib.hid (Blk.new w 24 #[.slice sa n scap, .int .i64 (m : Int), .int .i64 (ix : Int)])
  have Hb := Lib.hid (below_alloc w (.cells #[.slice sa n scap, .int .i64 (m : Int), .int .i64 (ix : Int)] 24))
  clear hs hy hT hn hq hk hDP hC1 hP1 hk9
  go_enter Tryd.func10, Tryd.ntmps10
  go_wp2_with (first
    | (refine (HSane.out _).mono ?_
       rintro e w1 ⟨rfl, hb1⟩
       obtain ⟨c0, c1, c2, f0, f1, f2⟩ := cells3 (H0.out.below hb1 H0.out.lt)
       have HK1 := Lib.hid (H0.out.below hb1 H0.out.lt)
       have Hb1 := Lib.hid (Hb.out.trans (hb1.mono Hb.out.size))
       clear hb1)
    | (refine (HF.out _).mono ?_
       rintro e w2 ⟨rfl, hb2⟩
       clear c0 c1 c2 f0 f1 f2
       obtain ⟨c0, c1, c2, f0, f1, f2⟩ := cells3 (HK1.out.below hb2 HK1.out.lt)
       have HK2 := Lib.hid (HK1.out.below hb2 HK1.out.lt)
       have Hb2 := Lib.hid (Hb1.out.trans (hb2.mono Hb1.out.size))
       clear hb2)
    | (with_reducible refine Calls.mono (HPub.out _ Hb2.out) ?_
       rintro e w4 ⟨rfl, hb4⟩
       have hbb := Hb2.out.trans (hb4.mono Hb2.out.size)
       have hB := Blk.new w4 26 #[.int .u8 0, .int .u8 0, .int .u8 0, .int .u8 0, .int .u8 0, .int .u8 0, .int .u8 0, .int .u8 0, .int .u8 0, .int .u8 0, .int .u8 0, .int .u8 0, .int .u8 0, .int .u8 0, .int .u8 0, .int .u8 0, .int .u8 0, .int .u8 0, .int .u8 0, .int .u8 0, .int .u8 0, .int .u8 0, .int .u8 0, .int .u8 0, .int .u8 0, .int .u8 0, .int .u8 0, .int .u8 0, .int .u8 0, .int .u8 0, .int .u8 0, .int .u8 0]
       have hxK := (HK2.out.below hb4 HK2.out.lt)
       have hlK := hxK.lt
       have hyK := (hxK.alloc (.cells #[.int .u8 0, .int .u8 0, .int .u8 0, .int .u8 0, .int .u8 0, .int .u8 0, .int .u8 0, .int .u8 0, .int .u8 0, .int .u8 0, .int .u8 0, .int .u8 0, .int .u8 0, .int .u8 0, .int .u8 0, .int .u8 0, .int .u8 0, .int .u8 0, .int .u8 0, .int .u8 0, .int .u8 0, .int .u8 0, .int .u8 0, .int .u8 0, .int .u8 0, .int .u8 0, .int .u8 0, .int .u8 0, .int .u8 0, .int .u8 0, .int .u8 0, .int .u8 0] 26)).farRow (show w.heap.size ≠ w4.heap.size by omega) DP.toArray
       have hBr := hB.setRow DP.toArray
       have hbc := setRow_below (g := w4.heap.size) (hbb.alloc hbb.size (.cells #[.int .u8 0, .int .u8 0, .int .u8 0, .int .u8 0, .int .u8 0, .int .u8 0, .int .u8 0, .int .u8 0, .int .u8 0, .int .u8 0, .int .u8 0, .int .u8 0, .int .u8 0, .int .u8 0, .int .u8 0, .int .u8 0, .int .u8 0, .int .u8 0, .int .u8 0, .int .u8 0, .int .u8 0, .int .u8 0, .int .u8 0, .int .u8 0, .int .u8 0, .int .u8 0, .int .u8 0, .int .u8 0, .int .u8 0, .int .u8 0, .int .u8 0, .int .u8 0] 26)) hbb.size DP.toArray
       have hbd := setRow_below (g := w4.heap.size) (hb4.alloc hb4.size (.cells #[.int .u8 0, .int .u8 0, .int .u8 0, .int .u8 0, .int .u8 0, .int .u8 0, .int .u8 0, .int .u8 0, .int .u8 0, .int .u8 0, .int .u8 0, .int .u8 0, .int .u8 0, .int .u8 0, .int .u8 0, .int .u8 0, .int .u8 0, .int .u8 0, .int .u8 0, .int .u8 0, .int .u8 0, .int .u8 0, .int .u8 0, .int .u8 0, .int .u8 0, .int .u8 0, .int .u8 0, .int .u8 0, .int .u8 0, .int .u8 0, .int .u8 0, .int .u8 0] 26)) hb4.size DP.toArray
       obtain ⟨w5, hw5⟩ : ∃ w5, (w4.alloc (.cells #[.int .u8 0, .int .u8 0, .int .u8 0, .int .u8 0, .int .u8 0, .int .u8 0, .int .u8 0, .int .u8 0, .int .u8 0, .int .u8 0, .int .u8 0, .int .u8 0, .int .u8 0, .int .u8 0, .int .u8 0, .int .u8 0, .int .u8 0, .int .u8 0, .int .u8 0, .int .u8 0, .int .u8 0, .int .u8 0, .int .u8 0, .int .u8 0, .int .u8 0, .int .u8 0, .int .u8 0, .int .u8 0, .int .u8 0, .int .u8 0, .int .u8 0, .int .u8 0] 26)).setRow w4.heap.size DP.toArray = w5 := ⟨_, rfl⟩
       rw [hw5] at hBr hbc hbd hyK
       have HW5 := Lib.hid hw5
       have HB5 := Lib.hid hB
       have HP5 := Lib.hid hBr
       have Hb5 := Lib.hid hbc
       have Hs5 := Lib.hid hbd
       have HK5 := Lib.hid hyK
       clear hb4 hbb hB hBr hbc hbd hw5 hxK hlK hyK
       clear c0 c1 c2 f0 f1 f2
       obtain ⟨c0, c1, c2, f0, f1, f2⟩ := cells3 HK5.out)
    | (refine wpList_store_row rfl 26 _ _ rfl w4.heap.size DP.toArray rfl rfl 26 _ HB5.out (by rw [List.size_toArray, HO.out.1]; exact infoDg) (show 32 = DP.length from HO.out.1.symm) (all_oneCell_toArray HO.out.2) ?_; rw [HW5.out])
    | (with_reducible refine Calls.mono (HS.out _ Hb5.out) ?_
       rintro e w6 ⟨v1, p1, rfl, ho1, hq1, hb6⟩
       obtain ⟨ga, d1, rfl, hd1, hr1⟩ := own_range ho1 (by omega)
       obtain ⟨p1, d2, rfl⟩ := (Sl.of_own hq1).form
       have hbb := Hb5.out.trans (hb6.mono Hb5.out.size)
       have h2 := two_b w6 #[.slice sa n scap, .int .i64 (m : Int), .int .i64 (ix + 1 : Int)] #[.int .i64 (ix : Int), .slice (some ⟨ga, 0, none⟩) 67 d1, .slice p1 (m - 1) d2]
       have hk7 := two_k w6 #[.slice sa n scap, .int .i64 (m : Int), .int .i64 (ix + 1 : Int)] #[.int .i64 (ix : Int), .slice (some ⟨ga, 0, none⟩) 67 d1, .slice p1 (m - 1) d2]
       have hs7 := two_s w6 #[.slice sa n scap, .int .i64 (m : Int), .int .i64 (ix + 1 : Int)] #[.int .i64 (ix : Int), .slice (some ⟨ga, 0, none⟩) 67 d1, .slice p1 (m - 1) d2]
       obtain ⟨w7, hw7⟩ : ∃ w7, two w6 #[.slice sa n scap, .int .i64 (m : Int), .int .i64 (ix + 1 : Int)] #[.int .i64 (ix : Int), .slice (some ⟨ga, 0, none⟩) 67 d1, .slice p1 (m - 1) d2] = w7 := ⟨_, rfl⟩
       rw [hw7] at h2 hk7 hs7
       unfold two at hw7
       have HW7 := Lib.hid hw7
       have HK7 := Lib.hid ((HK5.out.below hb6 HK5.out.lt).below h2 (HK5.out.below hb6 HK5.out.lt).lt)
       have HP7 := Lib.hid ((HP5.out.below hb6 HP5.out.lt).below h2 (HP5.out.below hb6 HP5.out.lt).lt)
       have Hb7 := Lib.hid (hbb.trans (h2.mono hbb.size))
       have HX7 := Lib.hid hk7
       have HS7 := Lib.hid hs7
       have Ho7 := Lib.hid (own_next ho1 h2)
       have Hq7 := Lib.hid (own_next hq1 h2)
       have Hne := Lib.hid (show w4.heap.size ≠ w6.heap.size + 1 by have := HP5.out.lt; have := hb6.size; omega)
       have Hnk := Lib.hid (show w.heap.size ≤ w6.heap.size + 1 by have := Hb5.out.size; have := hb6.size; omega)
       have k1 : (66 : Int) ≤ (d1 : Int) := by omega
       have Hga := Lib.hid (show ga ≠ w6.heap.size + 1 by have := (ho1.lt ga (by simp [Value.ownBlock])).2; omega)
       obtain ⟨i0, i1, i2, j0, j1, j2⟩ := cells3 hs7
       clear ho1 hq1 hr1
       clear hb6 hbb h2 hw7 hk7 hs7 c0 c1 c2 f0 f1 f2
       obtain ⟨c0, c1, c2, f0, f1, f2⟩ := cells3 HK7.out)
    | (refine wpList_store_row rfl 24 _ _ rfl w6.heap.size #[.slice sa n scap, .int .i64 (m : Int), .int .i64 (ix + 1 : Int)] rfl rfl 24 _ (two_0 w6) infoKey rfl (one3 rfl rfl rfl) ?_)
    | (refine wpList_store_row rfl 42 _ _ rfl (w6.heap.size + 1) #[.int .i64 (ix : Int), .slice (some ⟨ga, 0, none⟩) 67 d1, .slice p1 (m - 1) d2] rfl rfl 42 _ (two_1 w6 #[.slice sa n scap, .int .i64 (m : Int), .int .i64 (ix + 1 : Int)]) infoSig rfl (one3 rfl rfl rfl) ?_; rw [HW7.out])
    | (refine wpList_load_row rfl 26 _ rfl w4.heap.size rfl 26 DP.toArray (0, 0) _ (by first | exact HP7.out | exact HP7.out.far Hne.out _) Tryd.underlying26 rfl (by rw [List.size_toArray, HO.out.1]; exact infoDg) ?_)
    | (refine (HVb.out _ _ _ _ _ _ _ _ _ _ HB.out).mono ?_
       rintro e w8 ⟨rfl, hb8⟩
       have Hb8 := Lib.hid (Below.trans (Hb7.out.setCell (p := ⟨w6.heap.size + 1, 1, none⟩) Hnk.out _) (hb8.mono (Below.size (Hb7.out.setCell (p := ⟨w6.heap.size + 1, 1, none⟩) Hnk.out _))))
       clear hb8))
  go_ret
  exact ⟨rfl, Hb8.out⟩

set_option maxRecDepth 100000 in
set_option maxHeartbeats 1000000 in
theorem sh_4 (seed : List UInt8) (n : Nat) (hn : seed.length = n) (sa : Option Addr) (scap : Nat) (m : Nat) (hm : m = 1 ∨ m = 2) (ix : Nat) (hix : ix < m) (hk : isKeyB n (m : Int) (ix : Int) = true)
    (msg : List UInt8) (q : Nat) (hq : msg.length = q) (hq9 : q ≤ 300) (am : Option Addr) (capm : Nat) (z : Int) (w : World) (hs : Sl w 1 (.slice sa n scap) n (bc seed)) (hy : Sl w 1 (.slice am q capm) q (bc msg)) (hT : Tabs w) :
    Calls Tryd.prog 10 #[.agg #[.slice sa n scap, .int .i64 (m : Int), .int .i64 (ix : Int)], .slice am q capm, .int .i64 4, .int .i64 z] w fun e w' => e = .returned (.bool true) ∧ Below w.heap.size w w' := by
  have hk9 := isKeyB_t hk
  have HSane := Lib.hid (fun W => sane_any W)
  have HF := Lib.hid (fun W => few_any sa n scap (m : Int) (ix : Int) am q capm W)
  rw [few_t hm (by omega) hq9] at HF
  have HPub : Hid (∀ W, Below w.heap.size w W → Calls Tryd.prog 20 #[.agg #[.slice sa n scap, .int .i64 (m : Int), .int .i64 (ix : Int)]] W fun e w' => e = .returned (.tuple #[arrV (pub seed m), .int .i64 0]) ∧ Below W.heap.size W w') :=
    Lib.hid (fun W hb => public_ok seed n hn sa scap m hm ix hk W (hs.next hb) (hT.next hb))
  have HS : Hid (∀ W, Below w.heap.size w W → Calls Tryd.prog 22 #[.agg #[.slice sa n scap, .int .i64 (m : Int), .int .i64 (ix : Int)], .slice am q capm] W fun e w' => ∃ v p, e = .returned (.tuple #[.agg #[.slice sa n scap, .int .i64 (m : Int), .int .i64 (ix + 1 : Int)], .agg #[.int .i64 (ix : Int), v, p], .int .i64 0])
      ∧ w'.ownsRow W.heap.size 26 32 v 67 (prC seed ix (mh (pub seed m) ix msg) 67) ∧ w'.ownsRow W.heap.size 26 32 p (m - 1) (ptC seed m ix) ∧ Below W.heap.size W w') :=
    Lib.hid (fun W hb => sign_ok seed n hn sa scap m hm ix hix hk msg q hq (by omega) am capm W (hs.next hb) (hy.next hb) (hT.next hb))
  have HV : Hid (∀ v p B B' W, Below w.heap.size w W → W.ownsRow B 26 32 v 67 (prC seed ix (mh (pub seed m) ix msg) 67) → W.ownsRow B' 26 32 p (m - 1) (ptC seed m ix) → Calls Tryd.prog 25 #[arrV (pub seed m), .int .i64 (m : Int), .slice am q capm, .agg #[.int .i64 (ix : Int), v, p]] W fun e w' => e = .returned (.bool true) ∧ Below W.heap.size W w') :=
    Lib.hid (fun v p B B' W hb hv hp => verify_signed seed m hm ix hix msg q hq (by omega) am capm v p B B' W (hy.next hb) hv hp (hT.next hb))
  have HVb : Hid (∀ (D : Array Value) (mm idx : Int) ap np cp aq nq cq W, vfyB mm idx np q = false → Calls Tryd.prog 25 #[.agg D, .int .i64 mm, .slice am q capm, .agg #[.int .i64 idx, .slice ap np cp, .slice aq nq cq]] W fun e w' => e = .returned (.bool false) ∧ Below W.heap.size W w') :=
    Lib.hid (fun D mm idx ap np cp aq nq cq W h => verify_bad D mm idx am q capm ap np cp aq nq cq W h)
  have HVl : Hid (∀ v B pa pcap W, Below w.heap.size w W → W.ownsRow B 26 32 v 67 (prC seed ix (mh (pub seed m) ix msg) 67) → Calls Tryd.prog 25 #[arrV (pub seed m), .int .i64 (m : Int), .slice am q capm, .agg #[.int .i64 (ix : Int), v, .slice pa m pcap]] W fun e w' => e = .returned (.bool false) ∧ Below W.heap.size W w') :=
    Lib.hid (fun v B pa pcap W hb hv => verify_long seed m hm ix hix msg q hq (by omega) am capm v B pa pcap W (hy.next hb) hv (hT.next hb))
  have HO := Lib.hid (And.intro (show (bc (pub seed m)).length = 32 by rw [bc_len, pub_len]) (bc_one (pub seed m)))
  have HPick := Lib.hid (fun W => pick_any z W)
  unfold arrV at HPub HV HVl
  obtain ⟨DP, hDP⟩ : ∃ DP, bc (pub seed m) = DP := ⟨_, rfl⟩
  rw [hDP] at HPub HO
  simp only [hDP] at HV HVl
  obtain ⟨C1, hC1⟩ : ∃ C, prC seed ix (mh (pub seed m) ix msg) 67 = C := ⟨_, rfl⟩
  obtain ⟨P1, hP1⟩ : ∃ C, ptC seed m ix = C := ⟨_, rfl⟩
  simp only [hC1, hP1] at HS HV HVl
  have H0 := Lib.hid (Blk.new w 24 #[.slice sa n scap, .int .i64 (m : Int), .int .i64 (ix : Int)])
  have Hb := Lib.hid (below_alloc w (.cells #[.slice sa n scap, .int .i64 (m : Int), .int .i64 (ix : Int)] 24))
  clear hs hy hT hn hq hk hDP hC1 hP1 hk9
  go_enter Tryd.func10, Tryd.ntmps10
  go_wp2_with (first
    | (refine (HSane.out _).mono ?_
       rintro e w1 ⟨rfl, hb1⟩
       obtain ⟨c0, c1, c2, f0, f1, f2⟩ := cells3 (H0.out.below hb1 H0.out.lt)
       have HK1 := Lib.hid (H0.out.below hb1 H0.out.lt)
       have Hb1 := Lib.hid (Hb.out.trans (hb1.mono Hb.out.size))
       clear hb1)
    | (refine (HF.out _).mono ?_
       rintro e w2 ⟨rfl, hb2⟩
       clear c0 c1 c2 f0 f1 f2
       obtain ⟨c0, c1, c2, f0, f1, f2⟩ := cells3 (HK1.out.below hb2 HK1.out.lt)
       have HK2 := Lib.hid (HK1.out.below hb2 HK1.out.lt)
       have Hb2 := Lib.hid (Hb1.out.trans (hb2.mono Hb1.out.size))
       clear hb2)
    | (with_reducible refine Calls.mono (HPub.out _ Hb2.out) ?_
       rintro e w4 ⟨rfl, hb4⟩
       have hbb := Hb2.out.trans (hb4.mono Hb2.out.size)
       have hB := Blk.new w4 26 #[.int .u8 0, .int .u8 0, .int .u8 0, .int .u8 0, .int .u8 0, .int .u8 0, .int .u8 0, .int .u8 0, .int .u8 0, .int .u8 0, .int .u8 0, .int .u8 0, .int .u8 0, .int .u8 0, .int .u8 0, .int .u8 0, .int .u8 0, .int .u8 0, .int .u8 0, .int .u8 0, .int .u8 0, .int .u8 0, .int .u8 0, .int .u8 0, .int .u8 0, .int .u8 0, .int .u8 0, .int .u8 0, .int .u8 0, .int .u8 0, .int .u8 0, .int .u8 0]
       have hxK := (HK2.out.below hb4 HK2.out.lt)
       have hlK := hxK.lt
       have hyK := (hxK.alloc (.cells #[.int .u8 0, .int .u8 0, .int .u8 0, .int .u8 0, .int .u8 0, .int .u8 0, .int .u8 0, .int .u8 0, .int .u8 0, .int .u8 0, .int .u8 0, .int .u8 0, .int .u8 0, .int .u8 0, .int .u8 0, .int .u8 0, .int .u8 0, .int .u8 0, .int .u8 0, .int .u8 0, .int .u8 0, .int .u8 0, .int .u8 0, .int .u8 0, .int .u8 0, .int .u8 0, .int .u8 0, .int .u8 0, .int .u8 0, .int .u8 0, .int .u8 0, .int .u8 0] 26)).farRow (show w.heap.size ≠ w4.heap.size by omega) DP.toArray
       have hBr := hB.setRow DP.toArray
       have hbc := setRow_below (g := w4.heap.size) (hbb.alloc hbb.size (.cells #[.int .u8 0, .int .u8 0, .int .u8 0, .int .u8 0, .int .u8 0, .int .u8 0, .int .u8 0, .int .u8 0, .int .u8 0, .int .u8 0, .int .u8 0, .int .u8 0, .int .u8 0, .int .u8 0, .int .u8 0, .int .u8 0, .int .u8 0, .int .u8 0, .int .u8 0, .int .u8 0, .int .u8 0, .int .u8 0, .int .u8 0, .int .u8 0, .int .u8 0, .int .u8 0, .int .u8 0, .int .u8 0, .int .u8 0, .int .u8 0, .int .u8 0, .int .u8 0] 26)) hbb.size DP.toArray
       have hbd := setRow_below (g := w4.heap.size) (hb4.alloc hb4.size (.cells #[.int .u8 0, .int .u8 0, .int .u8 0, .int .u8 0, .int .u8 0, .int .u8 0, .int .u8 0, .int .u8 0, .int .u8 0, .int .u8 0, .int .u8 0, .int .u8 0, .int .u8 0, .int .u8 0, .int .u8 0, .int .u8 0, .int .u8 0, .int .u8 0, .int .u8 0, .int .u8 0, .int .u8 0, .int .u8 0, .int .u8 0, .int .u8 0, .int .u8 0, .int .u8 0, .int .u8 0, .int .u8 0, .int .u8 0, .int .u8 0, .int .u8 0, .int .u8 0] 26)) hb4.size DP.toArray
       obtain ⟨w5, hw5⟩ : ∃ w5, (w4.alloc (.cells #[.int .u8 0, .int .u8 0, .int .u8 0, .int .u8 0, .int .u8 0, .int .u8 0, .int .u8 0, .int .u8 0, .int .u8 0, .int .u8 0, .int .u8 0, .int .u8 0, .int .u8 0, .int .u8 0, .int .u8 0, .int .u8 0, .int .u8 0, .int .u8 0, .int .u8 0, .int .u8 0, .int .u8 0, .int .u8 0, .int .u8 0, .int .u8 0, .int .u8 0, .int .u8 0, .int .u8 0, .int .u8 0, .int .u8 0, .int .u8 0, .int .u8 0, .int .u8 0] 26)).setRow w4.heap.size DP.toArray = w5 := ⟨_, rfl⟩
       rw [hw5] at hBr hbc hbd hyK
       have HW5 := Lib.hid hw5
       have HB5 := Lib.hid hB
       have HP5 := Lib.hid hBr
       have Hb5 := Lib.hid hbc
       have Hs5 := Lib.hid hbd
       have HK5 := Lib.hid hyK
       clear hb4 hbb hB hBr hbc hbd hw5 hxK hlK hyK
       clear c0 c1 c2 f0 f1 f2
       obtain ⟨c0, c1, c2, f0, f1, f2⟩ := cells3 HK5.out)
    | (refine wpList_store_row rfl 26 _ _ rfl w4.heap.size DP.toArray rfl rfl 26 _ HB5.out (by rw [List.size_toArray, HO.out.1]; exact infoDg) (show 32 = DP.length from HO.out.1.symm) (all_oneCell_toArray HO.out.2) ?_; rw [HW5.out])
    | (with_reducible refine Calls.mono (HS.out _ Hb5.out) ?_
       rintro e w6 ⟨v1, p1, rfl, ho1, hq1, hb6⟩
       obtain ⟨ga, d1, rfl, hd1, hr1⟩ := own_range ho1 (by omega)
       obtain ⟨p1, d2, rfl⟩ := (Sl.of_own hq1).form
       have hbb := Hb5.out.trans (hb6.mono Hb5.out.size)
       have h2 := two_b w6 #[.slice sa n scap, .int .i64 (m : Int), .int .i64 (ix + 1 : Int)] #[.int .i64 (ix : Int), .slice (some ⟨ga, 0, none⟩) 67 d1, .slice p1 (m - 1) d2]
       have hk7 := two_k w6 #[.slice sa n scap, .int .i64 (m : Int), .int .i64 (ix + 1 : Int)] #[.int .i64 (ix : Int), .slice (some ⟨ga, 0, none⟩) 67 d1, .slice p1 (m - 1) d2]
       have hs7 := two_s w6 #[.slice sa n scap, .int .i64 (m : Int), .int .i64 (ix + 1 : Int)] #[.int .i64 (ix : Int), .slice (some ⟨ga, 0, none⟩) 67 d1, .slice p1 (m - 1) d2]
       obtain ⟨w7, hw7⟩ : ∃ w7, two w6 #[.slice sa n scap, .int .i64 (m : Int), .int .i64 (ix + 1 : Int)] #[.int .i64 (ix : Int), .slice (some ⟨ga, 0, none⟩) 67 d1, .slice p1 (m - 1) d2] = w7 := ⟨_, rfl⟩
       rw [hw7] at h2 hk7 hs7
       unfold two at hw7
       have HW7 := Lib.hid hw7
       have HK7 := Lib.hid ((HK5.out.below hb6 HK5.out.lt).below h2 (HK5.out.below hb6 HK5.out.lt).lt)
       have HP7 := Lib.hid ((HP5.out.below hb6 HP5.out.lt).below h2 (HP5.out.below hb6 HP5.out.lt).lt)
       have Hb7 := Lib.hid (hbb.trans (h2.mono hbb.size))
       have HX7 := Lib.hid hk7
       have HS7 := Lib.hid hs7
       have Ho7 := Lib.hid (own_next ho1 h2)
       have Hq7 := Lib.hid (own_next hq1 h2)
       have Hne := Lib.hid (show w4.heap.size ≠ w6.heap.size + 1 by have := HP5.out.lt; have := hb6.size; omega)
       have Hnk := Lib.hid (show w.heap.size ≤ w6.heap.size + 1 by have := Hb5.out.size; have := hb6.size; omega)
       have k1 : (66 : Int) ≤ (d1 : Int) := by omega
       have Hga := Lib.hid (show ga ≠ w6.heap.size + 1 by have := (ho1.lt ga (by simp [Value.ownBlock])).2; omega)
       obtain ⟨i0, i1, i2, j0, j1, j2⟩ := cells3 hs7
       clear ho1 hq1 hr1
       clear hb6 hbb h2 hw7 hk7 hs7 c0 c1 c2 f0 f1 f2
       obtain ⟨c0, c1, c2, f0, f1, f2⟩ := cells3 HK7.out)
    | (refine wpList_store_row rfl 24 _ _ rfl w6.heap.size #[.slice sa n scap, .int .i64 (m : Int), .int .i64 (ix + 1 : Int)] rfl rfl 24 _ (two_0 w6) infoKey rfl (one3 rfl rfl rfl) ?_)
    | (refine wpList_store_row rfl 42 _ _ rfl (w6.heap.size + 1) #[.int .i64 (ix : Int), .slice (some ⟨ga, 0, none⟩) 67 d1, .slice p1 (m - 1) d2] rfl rfl 42 _ (two_1 w6 #[.slice sa n scap, .int .i64 (m : Int), .int .i64 (ix + 1 : Int)]) infoSig rfl (one3 rfl rfl rfl) ?_; rw [HW7.out])
    | (refine wpList_load_row rfl 26 _ rfl w4.heap.size rfl 26 DP.toArray (0, 0) _ (by first | exact HP7.out | exact HP7.out.far Hne.out _) Tryd.underlying26 rfl (by rw [List.size_toArray, HO.out.1]; exact infoDg) ?_)
    | (refine (HPick.out _).mono ?_
       rintro e wp ⟨⟨r, rfl, hr⟩, rfl⟩)
    | (refine (HVb.out _ _ _ _ _ _ _ _ _ _ (decide_eq_false (by omega))).mono ?_
       rintro e w8 ⟨rfl, hb8⟩
       have Hb8 := Lib.hid (Below.trans Hb7.out (hb8.mono (Below.size Hb7.out)))
       clear hb8))
  go_ret
  exact ⟨rfl, Hb8.out⟩

set_option maxRecDepth 100000 in
set_option maxHeartbeats 1000000 in
theorem sh_d (seed : List UInt8) (n : Nat) (hn : seed.length = n) (sa : Option Addr) (scap : Nat) (m : Nat) (hm : m = 1 ∨ m = 2) (ix : Nat) (hix : ix < m) (hk : isKeyB n (m : Int) (ix : Int) = true)
    (msg : List UInt8) (q : Nat) (hq : msg.length = q) (hq9 : q ≤ 300) (am : Option Addr) (capm : Nat) (how z : Int) (e0 : ¬ how = 0) (e1 : ¬ how = 1) (e2 : ¬ how = 2) (e3 : ¬ how = 3) (e4 : ¬ how = 4) (w : World) (hs : Sl w 1 (.slice sa n scap) n (bc seed)) (hy : Sl w 1 (.slice am q capm) q (bc msg)) (hT : Tabs w) :
    Calls Tryd.prog 10 #[.agg #[.slice sa n scap, .int .i64 (m : Int), .int .i64 (ix : Int)], .slice am q capm, .int .i64 how, .int .i64 z] w fun e w' => e = .returned (.bool true) ∧ Below w.heap.size w w' := by
  have hk9 := isKeyB_t hk
  have HSane := Lib.hid (fun W => sane_any W)
  have HF := Lib.hid (fun W => few_any sa n scap (m : Int) (ix : Int) am q capm W)
  rw [few_t hm (by omega) hq9] at HF
  have HPub : Hid (∀ W, Below w.heap.size w W → Calls Tryd.prog 20 #[.agg #[.slice sa n scap, .int .i64 (m : Int), .int .i64 (ix : Int)]] W fun e w' => e = .returned (.tuple #[arrV (pub seed m), .int .i64 0]) ∧ Below W.heap.size W w') :=
    Lib.hid (fun W hb => public_ok seed n hn sa scap m hm ix hk W (hs.next hb) (hT.next hb))
  have HS : Hid (∀ W, Below w.heap.size w W → Calls Tryd.prog 22 #[.agg #[.slice sa n scap, .int .i64 (m : Int), .int .i64 (ix : Int)], .slice am q capm] W fun e w' => ∃ v p, e = .returned (.tuple #[.agg #[.slice sa n scap, .int .i64 (m : Int), .int .i64 (ix + 1 : Int)], .agg #[.int .i64 (ix : Int), v, p], .int .i64 0])
      ∧ w'.ownsRow W.heap.size 26 32 v 67 (prC seed ix (mh (pub seed m) ix msg) 67) ∧ w'.ownsRow W.heap.size 26 32 p (m - 1) (ptC seed m ix) ∧ Below W.heap.size W w') :=
    Lib.hid (fun W hb => sign_ok seed n hn sa scap m hm ix hix hk msg q hq (by omega) am capm W (hs.next hb) (hy.next hb) (hT.next hb))
  have HV : Hid (∀ v p B B' W, Below w.heap.size w W → W.ownsRow B 26 32 v 67 (prC seed ix (mh (pub seed m) ix msg) 67) → W.ownsRow B' 26 32 p (m - 1) (ptC seed m ix) → Calls Tryd.prog 25 #[arrV (pub seed m), .int .i64 (m : Int), .slice am q capm, .agg #[.int .i64 (ix : Int), v, p]] W fun e w' => e = .returned (.bool true) ∧ Below W.heap.size W w') :=
    Lib.hid (fun v p B B' W hb hv hp => verify_signed seed m hm ix hix msg q hq (by omega) am capm v p B B' W (hy.next hb) hv hp (hT.next hb))
  have HVb : Hid (∀ (D : Array Value) (mm idx : Int) ap np cp aq nq cq W, vfyB mm idx np q = false → Calls Tryd.prog 25 #[.agg D, .int .i64 mm, .slice am q capm, .agg #[.int .i64 idx, .slice ap np cp, .slice aq nq cq]] W fun e w' => e = .returned (.bool false) ∧ Below W.heap.size W w') :=
    Lib.hid (fun D mm idx ap np cp aq nq cq W h => verify_bad D mm idx am q capm ap np cp aq nq cq W h)
  have HVl : Hid (∀ v B pa pcap W, Below w.heap.size w W → W.ownsRow B 26 32 v 67 (prC seed ix (mh (pub seed m) ix msg) 67) → Calls Tryd.prog 25 #[arrV (pub seed m), .int .i64 (m : Int), .slice am q capm, .agg #[.int .i64 (ix : Int), v, .slice pa m pcap]] W fun e w' => e = .returned (.bool false) ∧ Below W.heap.size W w') :=
    Lib.hid (fun v B pa pcap W hb hv => verify_long seed m hm ix hix msg q hq (by omega) am capm v B pa pcap W (hy.next hb) hv (hT.next hb))
  have HO := Lib.hid (And.intro (show (bc (pub seed m)).length = 32 by rw [bc_len, pub_len]) (bc_one (pub seed m)))
  have q0 : (how == 0) = false := by simpa using e0
  have q1 : (how == 1) = false := by simpa using e1
  have q2 : (how == 2) = false := by simpa using e2
  have q3 : (how == 3) = false := by simpa using e3
  have q4 : (how == 4) = false := by simpa using e4
  unfold arrV at HPub HV HVl
  obtain ⟨DP, hDP⟩ : ∃ DP, bc (pub seed m) = DP := ⟨_, rfl⟩
  rw [hDP] at HPub HO
  simp only [hDP] at HV HVl
  obtain ⟨C1, hC1⟩ : ∃ C, prC seed ix (mh (pub seed m) ix msg) 67 = C := ⟨_, rfl⟩
  obtain ⟨P1, hP1⟩ : ∃ C, ptC seed m ix = C := ⟨_, rfl⟩
  simp only [hC1, hP1] at HS HV HVl
  have H0 := Lib.hid (Blk.new w 24 #[.slice sa n scap, .int .i64 (m : Int), .int .i64 (ix : Int)])
  have Hb := Lib.hid (below_alloc w (.cells #[.slice sa n scap, .int .i64 (m : Int), .int .i64 (ix : Int)] 24))
  clear hs hy hT hn hq hk hDP hC1 hP1 hk9
  go_enter Tryd.func10, Tryd.ntmps10
  go_wp2_with (first
    | (refine (HSane.out _).mono ?_
       rintro e w1 ⟨rfl, hb1⟩
       obtain ⟨c0, c1, c2, f0, f1, f2⟩ := cells3 (H0.out.below hb1 H0.out.lt)
       have HK1 := Lib.hid (H0.out.below hb1 H0.out.lt)
       have Hb1 := Lib.hid (Hb.out.trans (hb1.mono Hb.out.size))
       clear hb1)
    | (refine (HF.out _).mono ?_
       rintro e w2 ⟨rfl, hb2⟩
       clear c0 c1 c2 f0 f1 f2
       obtain ⟨c0, c1, c2, f0, f1, f2⟩ := cells3 (HK1.out.below hb2 HK1.out.lt)
       have HK2 := Lib.hid (HK1.out.below hb2 HK1.out.lt)
       have Hb2 := Lib.hid (Hb1.out.trans (hb2.mono Hb1.out.size))
       clear hb2)
    | (with_reducible refine Calls.mono (HPub.out _ Hb2.out) ?_
       rintro e w4 ⟨rfl, hb4⟩
       have hbb := Hb2.out.trans (hb4.mono Hb2.out.size)
       have hB := Blk.new w4 26 #[.int .u8 0, .int .u8 0, .int .u8 0, .int .u8 0, .int .u8 0, .int .u8 0, .int .u8 0, .int .u8 0, .int .u8 0, .int .u8 0, .int .u8 0, .int .u8 0, .int .u8 0, .int .u8 0, .int .u8 0, .int .u8 0, .int .u8 0, .int .u8 0, .int .u8 0, .int .u8 0, .int .u8 0, .int .u8 0, .int .u8 0, .int .u8 0, .int .u8 0, .int .u8 0, .int .u8 0, .int .u8 0, .int .u8 0, .int .u8 0, .int .u8 0, .int .u8 0]
       have hxK := (HK2.out.below hb4 HK2.out.lt)
       have hlK := hxK.lt
       have hyK := (hxK.alloc (.cells #[.int .u8 0, .int .u8 0, .int .u8 0, .int .u8 0, .int .u8 0, .int .u8 0, .int .u8 0, .int .u8 0, .int .u8 0, .int .u8 0, .int .u8 0, .int .u8 0, .int .u8 0, .int .u8 0, .int .u8 0, .int .u8 0, .int .u8 0, .int .u8 0, .int .u8 0, .int .u8 0, .int .u8 0, .int .u8 0, .int .u8 0, .int .u8 0, .int .u8 0, .int .u8 0, .int .u8 0, .int .u8 0, .int .u8 0, .int .u8 0, .int .u8 0, .int .u8 0] 26)).farRow (show w.heap.size ≠ w4.heap.size by omega) DP.toArray
       have hBr := hB.setRow DP.toArray
       have hbc := setRow_below (g := w4.heap.size) (hbb.alloc hbb.size (.cells #[.int .u8 0, .int .u8 0, .int .u8 0, .int .u8 0, .int .u8 0, .int .u8 0, .int .u8 0, .int .u8 0, .int .u8 0, .int .u8 0, .int .u8 0, .int .u8 0, .int .u8 0, .int .u8 0, .int .u8 0, .int .u8 0, .int .u8 0, .int .u8 0, .int .u8 0, .int .u8 0, .int .u8 0, .int .u8 0, .int .u8 0, .int .u8 0, .int .u8 0, .int .u8 0, .int .u8 0, .int .u8 0, .int .u8 0, .int .u8 0, .int .u8 0, .int .u8 0] 26)) hbb.size DP.toArray
       have hbd := setRow_below (g := w4.heap.size) (hb4.alloc hb4.size (.cells #[.int .u8 0, .int .u8 0, .int .u8 0, .int .u8 0, .int .u8 0, .int .u8 0, .int .u8 0, .int .u8 0, .int .u8 0, .int .u8 0, .int .u8 0, .int .u8 0, .int .u8 0, .int .u8 0, .int .u8 0, .int .u8 0, .int .u8 0, .int .u8 0, .int .u8 0, .int .u8 0, .int .u8 0, .int .u8 0, .int .u8 0, .int .u8 0, .int .u8 0, .int .u8 0, .int .u8 0, .int .u8 0, .int .u8 0, .int .u8 0, .int .u8 0, .int .u8 0] 26)) hb4.size DP.toArray
       obtain ⟨w5, hw5⟩ : ∃ w5, (w4.alloc (.cells #[.int .u8 0, .int .u8 0, .int .u8 0, .int .u8 0, .int .u8 0, .int .u8 0, .int .u8 0, .int .u8 0, .int .u8 0, .int .u8 0, .int .u8 0, .int .u8 0, .int .u8 0, .int .u8 0, .int .u8 0, .int .u8 0, .int .u8 0, .int .u8 0, .int .u8 0, .int .u8 0, .int .u8 0, .int .u8 0, .int .u8 0, .int .u8 0, .int .u8 0, .int .u8 0, .int .u8 0, .int .u8 0, .int .u8 0, .int .u8 0, .int .u8 0, .int .u8 0] 26)).setRow w4.heap.size DP.toArray = w5 := ⟨_, rfl⟩
       rw [hw5] at hBr hbc hbd hyK
       have HW5 := Lib.hid hw5
       have HB5 := Lib.hid hB
       have HP5 := Lib.hid hBr
       have Hb5 := Lib.hid hbc
       have Hs5 := Lib.hid hbd
       have HK5 := Lib.hid hyK
       clear hb4 hbb hB hBr hbc hbd hw5 hxK hlK hyK
       clear c0 c1 c2 f0 f1 f2
       obtain ⟨c0, c1, c2, f0, f1, f2⟩ := cells3 HK5.out)
    | (refine wpList_store_row rfl 26 _ _ rfl w4.heap.size DP.toArray rfl rfl 26 _ HB5.out (by rw [List.size_toArray, HO.out.1]; exact infoDg) (show 32 = DP.length from HO.out.1.symm) (all_oneCell_toArray HO.out.2) ?_; rw [HW5.out])
    | (with_reducible refine Calls.mono (HS.out _ Hb5.out) ?_
       rintro e w6 ⟨v1, p1, rfl, ho1, hq1, hb6⟩
       obtain ⟨ga, d1, rfl, hd1, hr1⟩ := own_range ho1 (by omega)
       obtain ⟨p1, d2, rfl⟩ := (Sl.of_own hq1).form
       have hbb := Hb5.out.trans (hb6.mono Hb5.out.size)
       have h2 := two_b w6 #[.slice sa n scap, .int .i64 (m : Int), .int .i64 (ix + 1 : Int)] #[.int .i64 (ix : Int), .slice (some ⟨ga, 0, none⟩) 67 d1, .slice p1 (m - 1) d2]
       have hk7 := two_k w6 #[.slice sa n scap, .int .i64 (m : Int), .int .i64 (ix + 1 : Int)] #[.int .i64 (ix : Int), .slice (some ⟨ga, 0, none⟩) 67 d1, .slice p1 (m - 1) d2]
       have hs7 := two_s w6 #[.slice sa n scap, .int .i64 (m : Int), .int .i64 (ix + 1 : Int)] #[.int .i64 (ix : Int), .slice (some ⟨ga, 0, none⟩) 67 d1, .slice p1 (m - 1) d2]
       obtain ⟨w7, hw7⟩ : ∃ w7, two w6 #[.slice sa n scap, .int .i64 (m : Int), .int .i64 (ix + 1 : Int)] #[.int .i64 (ix : Int), .slice (some ⟨ga, 0, none⟩) 67 d1, .slice p1 (m - 1) d2] = w7 := ⟨_, rfl⟩
       rw [hw7] at h2 hk7 hs7
       unfold two at hw7
       have HW7 := Lib.hid hw7
       have HK7 := Lib.hid ((HK5.out.below hb6 HK5.out.lt).below h2 (HK5.out.below hb6 HK5.out.lt).lt)
       have HP7 := Lib.hid ((HP5.out.below hb6 HP5.out.lt).below h2 (HP5.out.below hb6 HP5.out.lt).lt)
       have Hb7 := Lib.hid (hbb.trans (h2.mono hbb.size))
       have HX7 := Lib.hid hk7
       have HS7 := Lib.hid hs7
       have Ho7 := Lib.hid (own_next ho1 h2)
       have Hq7 := Lib.hid (own_next hq1 h2)
       have Hne := Lib.hid (show w4.heap.size ≠ w6.heap.size + 1 by have := HP5.out.lt; have := hb6.size; omega)
       have Hnk := Lib.hid (show w.heap.size ≤ w6.heap.size + 1 by have := Hb5.out.size; have := hb6.size; omega)
       have k1 : (66 : Int) ≤ (d1 : Int) := by omega
       have Hga := Lib.hid (show ga ≠ w6.heap.size + 1 by have := (ho1.lt ga (by simp [Value.ownBlock])).2; omega)
       obtain ⟨i0, i1, i2, j0, j1, j2⟩ := cells3 hs7
       clear ho1 hq1 hr1
       clear hb6 hbb h2 hw7 hk7 hs7 c0 c1 c2 f0 f1 f2
       obtain ⟨c0, c1, c2, f0, f1, f2⟩ := cells3 HK7.out)
    | (refine wpList_store_row rfl 24 _ _ rfl w6.heap.size #[.slice sa n scap, .int .i64 (m : Int), .int .i64 (ix + 1 : Int)] rfl rfl 24 _ (two_0 w6) infoKey rfl (one3 rfl rfl rfl) ?_)
    | (refine wpList_store_row rfl 42 _ _ rfl (w6.heap.size + 1) #[.int .i64 (ix : Int), .slice (some ⟨ga, 0, none⟩) 67 d1, .slice p1 (m - 1) d2] rfl rfl 42 _ (two_1 w6 #[.slice sa n scap, .int .i64 (m : Int), .int .i64 (ix + 1 : Int)]) infoSig rfl (one3 rfl rfl rfl) ?_; rw [HW7.out])
    | (refine wpList_load_row rfl 26 _ rfl w4.heap.size rfl 26 DP.toArray (0, 0) _ (by first | exact HP7.out | exact HP7.out.far Hne.out _) Tryd.underlying26 rfl (by rw [List.size_toArray, HO.out.1]; exact infoDg) ?_)
    | (with_reducible refine Calls.mono (HV.out _ _ _ _ _ Hb7.out Ho7.out Hq7.out) ?_
       rintro e w8 ⟨rfl, hb8⟩
       have Hb8 := Lib.hid (Hb7.out.trans (hb8.mono Hb7.out.size))
       clear hb8))
  go_ret
  exact ⟨rfl, Hb8.out⟩
end Go.Proofs.YtiloaheaglcpbaaDoor
