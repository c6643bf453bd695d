/- Signing: the statement SigningVerifies, the walks. -/
import Derived.Test.YtiloaheaglcpbaaDoorSgH1
import Derived.Test.YtiloaheaglcpbaaDoorSgV1
import Derived.Test.YtiloaheaglcpbaaDoorSgC
namespace Go.Proofs.YtiloaheaglcpbaaDoor
open Go.RowKit

theorem few_t {m : Nat} {n q : Nat} (hm : m = 1 ∨ m = 2) (hn : n ≤ 100) (hq : q ≤ 300) : decide (((m : Nat) : Int) ≤ 2 ∧ n ≤ 100 ∧ q ≤ 300) = true := decide_eq_true (by omega)

set_option maxRecDepth 100000 in
set_option maxHeartbeats 1000000 in
theorem vf_few (sa : Option Addr) (n scap : Nat) (many used : Int) (am : Option Addr) (q capm : Nat) (hf : decide (many ≤ 2 ∧ n ≤ 100 ∧ q ≤ 300) = false) (w : World) :
    Calls Tryd.prog 6 #[.agg #[.slice sa n scap, .int .i64 many, .int .i64 used], .slice am q capm] w fun e w' => e = .returned (.bool true) ∧ Below w.heap.size w w' := by
  have HSane := Lib.hid (fun W => sane_any W)
  have HF := Lib.hid (fun W => few_any sa n scap many used am q capm W)
  rw [hf] at HF
  clear hf
  have H0 := Lib.hid (Blk.new w 24 #[.slice sa n scap, .int .i64 many, .int .i64 used])
  have Hb := Lib.hid (below_alloc w (.cells #[.slice sa n scap, .int .i64 many, .int .i64 used] 24))
  go_enter Tryd.func6, Tryd.ntmps6
  go_wp2_with (first
    | (refine (HSane.out _).mono ?_
       rintro e w1 ⟨rfl, hb1⟩
       obtain ⟨c0, c1, c2, f0, f1, f2⟩ := cells3 (H0.out.below hb1 H0.out.lt)
       have Hb1 := Lib.hid (Hb.out.trans (hb1.mono Hb.out.size))
       clear hb1)
    | (refine (HF.out _).mono ?_
       rintro e w2 ⟨rfl, hb2⟩
       have Hb2 := Lib.hid (Hb1.out.trans (hb2.mono Hb1.out.size))
       clear hb2))
  go_ret
  exact ⟨rfl, Hb2.out⟩

set_option maxRecDepth 100000 in
set_option maxHeartbeats 1000000 in
theorem vf_bad (sa : Option Addr) (n scap : Nat) (many used : Int) (am : Option Addr) (q capm : Nat) (hf : decide (many ≤ 2 ∧ n ≤ 100 ∧ q ≤ 300) = true) (hk : isKeyB n many used = false) (w : World) :
    Calls Tryd.prog 6 #[.agg #[.slice sa n scap, .int .i64 many, .int .i64 used], .slice am q capm] w fun e w' => e = .returned (.bool true) ∧ Below w.heap.size w w' := by
  have hE : signE n many used q = 320 := by simp only [signE, hk]; rfl
  have HSane := Lib.hid (fun W => sane_any W)
  have HF := Lib.hid (fun W => few_any sa n scap many used am q capm W)
  rw [hf] at HF
  have HS : Hid (∀ W, Calls Tryd.prog 22 #[.agg #[.slice sa n scap, .int .i64 many, .int .i64 used], .slice am q capm] W fun e w' => e = .returned (.tuple #[.agg #[.slice none 0 0, .int .i64 0, .int .i64 0], .agg #[.int .i64 0, .slice none 0 0, .slice none 0 0], .int .i64 320]) ∧ Below W.heap.size W w') :=
    Lib.hid (fun W => by have := sign_bad sa n scap many used am q capm W (by rw [hE]; decide); rw [hE] at this; exact this)
  obtain ⟨DP, hDP⟩ : ∃ DP : List Value, [.int .u8 0, .int .u8 0, .int .u8 0, .int .u8 0, .int .u8 0, .int .u8 0, .int .u8 0, .int .u8 0, .int .u8 0, .int .u8 0, .int .u8 0, .int .u8 0, .int .u8 0, .int .u8 0, .int .u8 0, .int .u8 0, .int .u8 0, .int .u8 0, .int .u8 0, .int .u8 0, .int .u8 0, .int .u8 0, .int .u8 0, .int .u8 0, .int .u8 0, .int .u8 0, .int .u8 0, .int .u8 0, .int .u8 0, .int .u8 0, .int .u8 0, .int .u8 0] = DP := ⟨_, rfl⟩
  have HO := Lib.hid (show DP.length = 32 ∧ ∀ u ∈ DP, u.oneCell' = true by subst hDP; exact ⟨rfl, by decide +kernel⟩)
  have HPub : Hid (∀ W, Below w.heap.size w W → Calls Tryd.prog 20 #[.agg #[.slice sa n scap, .int .i64 many, .int .i64 used]] W fun e w' => e = .returned (.tuple #[.agg DP.toArray, .int .i64 320]) ∧ Below W.heap.size W w') :=
    Lib.hid (fun W _ => by subst hDP; exact public_bad sa n scap many used hk W)
  have H0 := Lib.hid (Blk.new w 24 #[.slice sa n scap, .int .i64 many, .int .i64 used])
  have Hb := Lib.hid (below_alloc w (.cells #[.slice sa n scap, .int .i64 many, .int .i64 used] 24))
  clear hf hk hE hDP
  go_enter Tryd.func6, Tryd.ntmps6
  go_wp2_with (first
    | (refine (HSane.out _).mono ?_
       rintro e w1 ⟨rfl, hb1⟩
       obtain ⟨c0, c1, c2, f0, f1, f2⟩ := cells3 (H0.out.below hb1 H0.out.lt)
       have HK1 := Lib.hid (H0.out.below hb1 H0.out.lt)
       have Hb1 := Lib.hid (Hb.out.trans (hb1.mono Hb.out.size))
       clear hb1)
    | (refine (HF.out _).mono ?_
       rintro e w2 ⟨rfl, hb2⟩
       clear c0 c1 c2 f0 f1 f2
       obtain ⟨c0, c1, c2, f0, f1, f2⟩ := cells3 (HK1.out.below hb2 HK1.out.lt)
       have HK2 := Lib.hid (HK1.out.below hb2 HK1.out.lt)
       have Hb2 := Lib.hid (Hb1.out.trans (hb2.mono Hb1.out.size))
       clear hb2)
    | (with_reducible refine Calls.mono (HPub.out _ Hb2.out) ?_
       rintro e w4 ⟨rfl, hb4⟩
       have hbb := Hb2.out.trans (hb4.mono Hb2.out.size)
       have hB := Blk.new w4 26 #[.int .u8 0, .int .u8 0, .int .u8 0, .int .u8 0, .int .u8 0, .int .u8 0, .int .u8 0, .int .u8 0, .int .u8 0, .int .u8 0, .int .u8 0, .int .u8 0, .int .u8 0, .int .u8 0, .int .u8 0, .int .u8 0, .int .u8 0, .int .u8 0, .int .u8 0, .int .u8 0, .int .u8 0, .int .u8 0, .int .u8 0, .int .u8 0, .int .u8 0, .int .u8 0, .int .u8 0, .int .u8 0, .int .u8 0, .int .u8 0, .int .u8 0, .int .u8 0]
       have hxK := (HK2.out.below hb4 HK2.out.lt)
       have hlK := hxK.lt
       have hyK := (hxK.alloc (.cells #[.int .u8 0, .int .u8 0, .int .u8 0, .int .u8 0, .int .u8 0, .int .u8 0, .int .u8 0, .int .u8 0, .int .u8 0, .int .u8 0, .int .u8 0, .int .u8 0, .int .u8 0, .int .u8 0, .int .u8 0, .int .u8 0, .int .u8 0, .int .u8 0, .int .u8 0, .int .u8 0, .int .u8 0, .int .u8 0, .int .u8 0, .int .u8 0, .int .u8 0, .int .u8 0, .int .u8 0, .int .u8 0, .int .u8 0, .int .u8 0, .int .u8 0, .int .u8 0] 26)).farRow (show w.heap.size ≠ w4.heap.size by omega) DP.toArray
       have hBr := hB.setRow DP.toArray
       have hbc := setRow_below (g := w4.heap.size) (hbb.alloc hbb.size (.cells #[.int .u8 0, .int .u8 0, .int .u8 0, .int .u8 0, .int .u8 0, .int .u8 0, .int .u8 0, .int .u8 0, .int .u8 0, .int .u8 0, .int .u8 0, .int .u8 0, .int .u8 0, .int .u8 0, .int .u8 0, .int .u8 0, .int .u8 0, .int .u8 0, .int .u8 0, .int .u8 0, .int .u8 0, .int .u8 0, .int .u8 0, .int .u8 0, .int .u8 0, .int .u8 0, .int .u8 0, .int .u8 0, .int .u8 0, .int .u8 0, .int .u8 0, .int .u8 0] 26)) hbb.size DP.toArray
       have hbd := setRow_below (g := w4.heap.size) (hb4.alloc hb4.size (.cells #[.int .u8 0, .int .u8 0, .int .u8 0, .int .u8 0, .int .u8 0, .int .u8 0, .int .u8 0, .int .u8 0, .int .u8 0, .int .u8 0, .int .u8 0, .int .u8 0, .int .u8 0, .int .u8 0, .int .u8 0, .int .u8 0, .int .u8 0, .int .u8 0, .int .u8 0, .int .u8 0, .int .u8 0, .int .u8 0, .int .u8 0, .int .u8 0, .int .u8 0, .int .u8 0, .int .u8 0, .int .u8 0, .int .u8 0, .int .u8 0, .int .u8 0, .int .u8 0] 26)) hb4.size DP.toArray
       obtain ⟨w5, hw5⟩ : ∃ w5, (w4.alloc (.cells #[.int .u8 0, .int .u8 0, .int .u8 0, .int .u8 0, .int .u8 0, .int .u8 0, .int .u8 0, .int .u8 0, .int .u8 0, .int .u8 0, .int .u8 0, .int .u8 0, .int .u8 0, .int .u8 0, .int .u8 0, .int .u8 0, .int .u8 0, .int .u8 0, .int .u8 0, .int .u8 0, .int .u8 0, .int .u8 0, .int .u8 0, .int .u8 0, .int .u8 0, .int .u8 0, .int .u8 0, .int .u8 0, .int .u8 0, .int .u8 0, .int .u8 0, .int .u8 0] 26)).setRow w4.heap.size DP.toArray = w5 := ⟨_, rfl⟩
       rw [hw5] at hBr hbc hbd hyK
       have HW5 := Lib.hid hw5
       have HB5 := Lib.hid hB
       have HP5 := Lib.hid hBr
       have Hb5 := Lib.hid hbc
       have Hs5 := Lib.hid hbd
       have HK5 := Lib.hid hyK
       clear hb4 hbb hB hBr hbc hbd hw5 hxK hlK hyK
       clear c0 c1 c2 f0 f1 f2
       obtain ⟨c0, c1, c2, f0, f1, f2⟩ := cells3 HK5.out)
    | (refine wpList_store_row rfl 26 _ _ rfl w4.heap.size DP.toArray rfl rfl 26 _ HB5.out (by rw [List.size_toArray, HO.out.1]; exact infoDg) (show 32 = DP.length from HO.out.1.symm) (all_oneCell_toArray HO.out.2) ?_; rw [HW5.out])
    | (with_reducible refine Calls.mono (HS.out _) ?_
       rintro e w6 ⟨rfl, hb6⟩
       have hb6' := Hb5.out.trans (hb6.mono Hb5.out.size)
       have h2 := two_b w6 #[.slice none 0 0, .int .i64 0, .int .i64 0] #[.int .i64 0, .slice none 0 0, .slice none 0 0]
       have hk7 := two_k w6 #[.slice none 0 0, .int .i64 0, .int .i64 0] #[.int .i64 0, .slice none 0 0, .slice none 0 0]
       have hs7 := two_s w6 #[.slice none 0 0, .int .i64 0, .int .i64 0] #[.int .i64 0, .slice none 0 0, .slice none 0 0]
       obtain ⟨w7, hw7⟩ : ∃ w7, two w6 #[.slice none 0 0, .int .i64 0, .int .i64 0] #[.int .i64 0, .slice none 0 0, .slice none 0 0] = w7 := ⟨_, rfl⟩
       rw [hw7] at h2 hk7 hs7
       unfold two at hw7
       have HW7 := Lib.hid hw7
       have Hb7 := Lib.hid (hb6'.trans (h2.mono hb6'.size))
       clear hb6 hb6' h2 hw7 c0 c1 c2 f0 f1 f2
       obtain ⟨c0, c1, c2, f0, f1, f2⟩ := cells3 hk7
       obtain ⟨g0, g1, g2, _, _, _⟩ := cells3 hs7
       clear hk7 hs7)
    | (refine wpList_store_row rfl 24 _ _ rfl w6.heap.size #[.slice none 0 0, .int .i64 0, .int .i64 0] rfl rfl 24 _ (two_0 w6) infoKey rfl (one3 rfl rfl rfl) ?_)
    | (refine wpList_store_row rfl 42 _ _ rfl (w6.heap.size + 1) #[.int .i64 0, .slice none 0 0, .slice none 0 0] rfl rfl 42 _ (two_1 w6 #[.slice none 0 0, .int .i64 0, .int .i64 0]) infoSig rfl (one3 rfl rfl rfl) ?_; rw [HW7.out]))
  go_ret
  exact ⟨rfl, Hb7.out⟩

set_option maxRecDepth 100000 in
set_option maxHeartbeats 1000000 in
theorem vf_used (seed : List UInt8) (n : Nat) (hn : seed.length = n) (sa : Option Addr) (scap : Nat) (many used : Int) (m : Nat) (hm : m = 1 ∨ m = 2) (hM : many = (m : Int)) (hu : used = many) (hk : isKeyB n many used = true)
    (am : Option Addr) (q capm : Nat) (hq9 : q ≤ 300) (w : World) (hs : Sl w 1 (.slice sa n scap) n (bc seed)) (hT : Tabs w) :
    Calls Tryd.prog 6 #[.agg #[.slice sa n scap, .int .i64 many, .int .i64 used], .slice am q capm] w fun e w' => e = .returned (.bool true) ∧ Below w.heap.size w w' := by
  have hk9 := isKeyB_t hk
  have hE : signE n many used q = 320 := by
    simp only [signE, hk]; rw [if_neg (by simp), if_neg (by omega), if_pos hu]
  have HSane := Lib.hid (fun W => sane_any W)
  have HF := Lib.hid (fun W => few_any sa n scap many used am q capm W)
  rw [decide_eq_true (show many ≤ 2 ∧ n ≤ 100 ∧ q ≤ 300 by omega)] at HF
  have HS : Hid (∀ W, Calls Tryd.prog 22 #[.agg #[.slice sa n scap, .int .i64 many, .int .i64 used], .slice am q capm] W fun e w' => e = .returned (.tuple #[.agg #[.slice none 0 0, .int .i64 0, .int .i64 0], .agg #[.int .i64 0, .slice none 0 0, .slice none 0 0], .int .i64 320]) ∧ Below W.heap.size W w') :=
    Lib.hid (fun W => by have := sign_bad sa n scap many used am q capm W (by rw [hE]; decide); rw [hE] at this; exact this)
  have HO := Lib.hid (And.intro (show (bc (pub seed m)).length = 32 by rw [bc_len, pub_len]) (bc_one (pub seed m)))
  have HPub : Hid (∀ W, Below w.heap.size w W → Calls Tryd.prog 20 #[.agg #[.slice sa n scap, .int .i64 many, .int .i64 used]] W fun e w' => e = .returned (.tuple #[arrV (pub seed m), .int .i64 0]) ∧ Below W.heap.size W w') :=
    Lib.hid (fun W hb => by subst hM; exact public_ok seed n hn sa scap m hm used hk W (hs.next hb) (hT.next hb))
  unfold arrV at HPub
  obtain ⟨DP, hDP⟩ : ∃ DP, bc (pub seed m) = DP := ⟨_, rfl⟩
  rw [hDP] at HPub HO
  have H0 := Lib.hid (Blk.new w 24 #[.slice sa n scap, .int .i64 many, .int .i64 used])
  have Hb := Lib.hid (below_alloc w (.cells #[.slice sa n scap, .int .i64 many, .int .i64 used] 24))
  clear hs hT hn hk hk9 hE hDP hM hu
  go_enter Tryd.func6, Tryd.ntmps6
  go_wp2_with (first
    | (refine (HSane.out _).mono ?_
       rintro e w1 ⟨rfl, hb1⟩
       obtain ⟨c0, c1, c2, f0, f1, f2⟩ := cells3 (H0.out.below hb1 H0.out.lt)
       have HK1 := Lib.hid (H0.out.below hb1 H0.out.lt)
       have Hb1 := Lib.hid (Hb.out.trans (hb1.mono Hb.out.size))
       clear hb1)
    | (refine (HF.out _).mono ?_
       rintro e w2 ⟨rfl, hb2⟩
       clear c0 c1 c2 f0 f1 f2
       obtain ⟨c0, c1, c2, f0, f1, f2⟩ := cells3 (HK1.out.below hb2 HK1.out.lt)
       have HK2 := Lib.hid (HK1.out.below hb2 HK1.out.lt)
       have Hb2 := Lib.hid (Hb1.out.trans (hb2.mono Hb1.out.size))
       clear hb2)
    | (with_reducible refine Calls.mono (HPub.out _ Hb2.out) ?_
       rintro e w4 ⟨rfl, hb4⟩
       have hbb := Hb2.out.trans (hb4.mono Hb2.out.size)
       have hB := Blk.new w4 26 #[.int .u8 0, .int .u8 0, .int .u8 0, .int .u8 0, .int .u8 0, .int .u8 0, .int .u8 0, .int .u8 0, .int .u8 0, .int .u8 0, .int .u8 0, .int .u8 0, .int .u8 0, .int .u8 0, .int .u8 0, .int .u8 0, .int .u8 0, .int .u8 0, .int .u8 0, .int .u8 0, .int .u8 0, .int .u8 0, .int .u8 0, .int .u8 0, .int .u8 0, .int .u8 0, .int .u8 0, .int .u8 0, .int .u8 0, .int .u8 0, .int .u8 0, .int .u8 0]
       have hxK := (HK2.out.below hb4 HK2.out.lt)
       have hlK := hxK.lt
       have hyK := (hxK.alloc (.cells #[.int .u8 0, .int .u8 0, .int .u8 0, .int .u8 0, .int .u8 0, .int .u8 0, .int .u8 0, .int .u8 0, .int .u8 0, .int .u8 0, .int .u8 0, .int .u8 0, .int .u8 0, .int .u8 0, .int .u8 0, .int .u8 0, .int .u8 0, .int .u8 0, .int .u8 0, .int .u8 0, .int .u8 0, .int .u8 0, .int .u8 0, .int .u8 0, .int .u8 0, .int .u8 0, .int .u8 0, .int .u8 0, .int .u8 0, .int .u8 0, .int .u8 0, .int .u8 0] 26)).farRow (show w.heap.size ≠ w4.heap.size by omega) DP.toArray
       have hBr := hB.setRow DP.toArray
       have hbc := setRow_below (g := w4.heap.size) (hbb.alloc hbb.size (.cells #[.int .u8 0, .int .u8 0, .int .u8 0, .int .u8 0, .int .u8 0, .int .u8 0, .int .u8 0, .int .u8 0, .int .u8 0, .int .u8 0, .int .u8 0, .int .u8 0, .int .u8 0, .int .u8 0, .int .u8 0, .int .u8 0, .int .u8 0, .int .u8 0, .int .u8 0, .int .u8 0, .int .u8 0, .int .u8 0, .int .u8 0, .int .u8 0, .int .u8 0, .int .u8 0, .int .u8 0, .int .u8 0, .int .u8 0, .int .u8 0, .int .u8 0, .int .u8 0] 26)) hbb.size DP.toArray
       have hbd := setRow_below (g := w4.heap.size) (hb4.alloc hb4.size (.cells #[.int .u8 0, .int .u8 0, .int .u8 0, .int .u8 0, .int .u8 0, .int .u8 0, .int .u8 0, .int .u8 0, .int .u8 0, .int .u8 0, .int .u8 0, .int .u8 0, .int .u8 0, .int .u8 0, .int .u8 0, .int .u8 0, .int .u8 0, .int .u8 0, .int .u8 0, .int .u8 0, .int .u8 0, .int .u8 0, .int .u8 0, .int .u8 0, .int .u8 0, .int .u8 0, .int .u8 0, .int .u8 0, .int .u8 0, .int .u8 0, .int .u8 0, .int .u8 0] 26)) hb4.size DP.toArray
       obtain ⟨w5, hw5⟩ : ∃ w5, (w4.alloc (.cells #[.int .u8 0, .int .u8 0, .int .u8 0, .int .u8 0, .int .u8 0, .int .u8 0, .int .u8 0, .int .u8 0, .int .u8 0, .int .u8 0, .int .u8 0, .int .u8 0, .int .u8 0, .int .u8 0, .int .u8 0, .int .u8 0, .int .u8 0, .int .u8 0, .int .u8 0, .int .u8 0, .int .u8 0, .int .u8 0, .int .u8 0, .int .u8 0, .int .u8 0, .int .u8 0, .int .u8 0, .int .u8 0, .int .u8 0, .int .u8 0, .int .u8 0, .int .u8 0] 26)).setRow w4.heap.size DP.toArray = w5 := ⟨_, rfl⟩
       rw [hw5] at hBr hbc hbd hyK
       have HW5 := Lib.hid hw5
       have HB5 := Lib.hid hB
       have HP5 := Lib.hid hBr
       have Hb5 := Lib.hid hbc
       have Hs5 := Lib.hid hbd
       have HK5 := Lib.hid hyK
       clear hb4 hbb hB hBr hbc hbd hw5 hxK hlK hyK
       clear c0 c1 c2 f0 f1 f2
       obtain ⟨c0, c1, c2, f0, f1, f2⟩ := cells3 HK5.out)
    | (refine wpList_store_row rfl 26 _ _ rfl w4.heap.size DP.toArray rfl rfl 26 _ HB5.out (by rw [List.size_toArray, HO.out.1]; exact infoDg) (show 32 = DP.length from HO.out.1.symm) (all_oneCell_toArray HO.out.2) ?_; rw [HW5.out])
    | (with_reducible refine Calls.mono (HS.out _) ?_
       rintro e w6 ⟨rfl, hb6⟩
       have hb6' := Hb5.out.trans (hb6.mono Hb5.out.size)
       have h2 := two_b w6 #[.slice none 0 0, .int .i64 0, .int .i64 0] #[.int .i64 0, .slice none 0 0, .slice none 0 0]
       have hk7 := two_k w6 #[.slice none 0 0, .int .i64 0, .int .i64 0] #[.int .i64 0, .slice none 0 0, .slice none 0 0]
       have hs7 := two_s w6 #[.slice none 0 0, .int .i64 0, .int .i64 0] #[.int .i64 0, .slice none 0 0, .slice none 0 0]
       obtain ⟨w7, hw7⟩ : ∃ w7, two w6 #[.slice none 0 0, .int .i64 0, .int .i64 0] #[.int .i64 0, .slice none 0 0, .slice none 0 0] = w7 := ⟨_, rfl⟩
       rw [hw7] at h2 hk7 hs7
       unfold two at hw7
       have HW7 := Lib.hid hw7
       have Hb7 := Lib.hid (hb6'.trans (h2.mono hb6'.size))
       clear hb6 hb6' h2 hw7 c0 c1 c2 f0 f1 f2
       obtain ⟨c0, c1, c2, f0, f1, f2⟩ := cells3 hk7
       obtain ⟨g0, g1, g2, _, _, _⟩ := cells3 hs7
       clear hk7 hs7)
    | (refine wpList_store_row rfl 24 _ _ rfl w6.heap.size #[.slice none 0 0, .int .i64 0, .int .i64 0] rfl rfl 24 _ (two_0 w6) infoKey rfl (one3 rfl rfl rfl) ?_)
    | (refine wpList_store_row rfl 42 _ _ rfl (w6.heap.size + 1) #[.int .i64 0, .slice none 0 0, .slice none 0 0] rfl rfl 42 _ (two_1 w6 #[.slice none 0 0, .int .i64 0, .int .i64 0]) infoSig rfl (one3 rfl rfl rfl) ?_; rw [HW7.out]))
  go_ret
  exact ⟨rfl, Hb7.out⟩

set_option maxRecDepth 100000 in
set_option maxHeartbeats 1000000 in
theorem vf_main (seed : List UInt8) (n : Nat) (hn : seed.length = n) (sa : Option Addr) (scap : Nat) (m : Nat) (hm : m = 1 ∨ m = 2) (ix : Nat) (hix : ix < m) (hk : isKeyB n (m : Int) (ix : Int) = true)
    (msg : List UInt8) (q : Nat) (hq : msg.length = q) (hq9 : q ≤ 300) (am : Option Addr) (capm : Nat) (w : World) (hs : Sl w 1 (.slice sa n scap) n (bc seed)) (hy : Sl w 1 (.slice am q capm) q (bc msg)) (hT : Tabs w) :
    Calls Tryd.prog 6 #[.agg #[.slice sa n scap, .int .i64 (m : Int), .int .i64 (ix : Int)], .slice am q capm] w fun e w' => e = .returned (.bool true) ∧ Below w.heap.size w w' := by
  have hk9 := isKeyB_t hk
  have hk1 : isKeyB n (m : Int) (ix + 1 : Int) = true := decide_eq_true (by omega)
  have HSane := Lib.hid (fun W => sane_any W)
  have HF := Lib.hid (fun W => few_any sa n scap (m : Int) (ix : Int) am q capm W)
  rw [few_t hm (by omega) hq9] at HF
  have HPub : Hid (∀ W, Below w.heap.size w W → Calls Tryd.prog 20 #[.agg #[.slice sa n scap, .int .i64 (m : Int), .int .i64 (ix : Int)]] W fun e w' => e = .returned (.tuple #[arrV (pub seed m), .int .i64 0]) ∧ Below W.heap.size W w') :=
    Lib.hid (fun W hb => public_ok seed n hn sa scap m hm ix hk W (hs.next hb) (hT.next hb))
  have HPubX : Hid (∀ W, Below w.heap.size w W → Calls Tryd.prog 20 #[.agg #[.slice sa n scap, .int .i64 (m : Int), .int .i64 (ix + 1 : Int)]] W fun e w' => e = .returned (.tuple #[arrV (pub seed m), .int .i64 0]) ∧ Below W.heap.size W w') :=
    Lib.hid (fun W hb => public_ok seed n hn sa scap m hm _ hk1 W (hs.next hb) (hT.next hb))
  have HS : Hid (∀ W, Below w.heap.size w W → Calls Tryd.prog 22 #[.agg #[.slice sa n scap, .int .i64 (m : Int), .int .i64 (ix : Int)], .slice am q capm] W fun e w' => ∃ v p, e = .returned (.tuple #[.agg #[.slice sa n scap, .int .i64 (m : Int), .int .i64 (ix + 1 : Int)], .agg #[.int .i64 (ix : Int), v, p], .int .i64 0])
      ∧ w'.ownsRow W.heap.size 26 32 v 67 (prC seed ix (mh (pub seed m) ix msg) 67) ∧ w'.ownsRow W.heap.size 26 32 p (m - 1) (ptC seed m ix) ∧ Below W.heap.size W w') :=
    Lib.hid (fun W hb => sign_ok seed n hn sa scap m hm ix hix hk msg q hq (by omega) am capm W (hs.next hb) (hy.next hb) (hT.next hb))
  have HV : Hid (∀ v p B B' W, Below w.heap.size w W → W.ownsRow B 26 32 v 67 (prC seed ix (mh (pub seed m) ix msg) 67) → W.ownsRow B' 26 32 p (m - 1) (ptC seed m ix) → Calls Tryd.prog 25 #[arrV (pub seed m), .int .i64 (m : Int), .slice am q capm, .agg #[.int .i64 (ix : Int), v, p]] W fun e w' => e = .returned (.bool true) ∧ Below W.heap.size W w') :=
    Lib.hid (fun v p B B' W hb hv hp => verify_signed seed m hm ix hix msg q hq (by omega) am capm v p B B' W (hy.next hb) hv hp (hT.next hb))
  have HO := Lib.hid (And.intro (show (bc (pub seed m)).length = 32 by rw [bc_len, pub_len]) (bc_one (pub seed m)))
  have heq := Lib.hid (fun W => eq_dg W (pub seed m) (pub seed m) (pub_len seed m) (pub_len seed m))
  have hi1 : IntKind.i64.wrap ((ix : Int) + 1) = (ix : Int) + 1 := by rw [IntKind.wrap_i64]; omega
  unfold arrV at HPub HPubX HV
  obtain ⟨DP, hDP⟩ : ∃ DP, bc (pub seed m) = DP := ⟨_, rfl⟩
  rw [hDP] at HPub HPubX HO
  simp only [hDP] at HV heq
  obtain ⟨C1, hC1⟩ : ∃ C, prC seed ix (mh (pub seed m) ix msg) 67 = C := ⟨_, rfl⟩
  obtain ⟨P1, hP1⟩ : ∃ C, ptC seed m ix = C := ⟨_, rfl⟩
  simp only [hC1, hP1] at HS HV
  have H0 := Lib.hid (Blk.new w 24 #[.slice sa n scap, .int .i64 (m : Int), .int .i64 (ix : Int)])
  have Hb := Lib.hid (below_alloc w (.cells #[.slice sa n scap, .int .i64 (m : Int), .int .i64 (ix : Int)] 24))
  clear hs hy hT hn hq hk hk1 hDP hC1 hP1 hk9
  go_enter Tryd.func6, Tryd.ntmps6
  go_wp2_with (first
    | (refine (HSane.out _).mono ?_
       rintro e w1 ⟨rfl, hb1⟩
       obtain ⟨c0, c1, c2, f0, f1, f2⟩ := cells3 (H0.out.below hb1 H0.out.lt)
       have HK1 := Lib.hid (H0.out.below hb1 H0.out.lt)
       have Hb1 := Lib.hid (Hb.out.trans (hb1.mono Hb.out.size))
       clear hb1)
    | (refine (HF.out _).mono ?_
       rintro e w2 ⟨rfl, hb2⟩
       clear c0 c1 c2 f0 f1 f2
       obtain ⟨c0, c1, c2, f0, f1, f2⟩ := cells3 (HK1.out.below hb2 HK1.out.lt)
       have HK2 := Lib.hid (HK1.out.below hb2 HK1.out.lt)
       have Hb2 := Lib.hid (Hb1.out.trans (hb2.mono Hb1.out.size))
       clear hb2)
    | (with_reducible refine Calls.mono (HPub.out _ Hb2.out) ?_
       rintro e w4 ⟨rfl, hb4⟩
       have hbb := Hb2.out.trans (hb4.mono Hb2.out.size)
       have hB := Blk.new w4 26 #[.int .u8 0, .int .u8 0, .int .u8 0, .int .u8 0, .int .u8 0, .int .u8 0, .int .u8 0, .int .u8 0, .int .u8 0, .int .u8 0, .int .u8 0, .int .u8 0, .int .u8 0, .int .u8 0, .int .u8 0, .int .u8 0, .int .u8 0, .int .u8 0, .int .u8 0, .int .u8 0, .int .u8 0, .int .u8 0, .int .u8 0, .int .u8 0, .int .u8 0, .int .u8 0, .int .u8 0, .int .u8 0, .int .u8 0, .int .u8 0, .int .u8 0, .int .u8 0]
       have hxK := (HK2.out.below hb4 HK2.out.lt)
       have hlK := hxK.lt
       have hyK := (hxK.alloc (.cells #[.int .u8 0, .int .u8 0, .int .u8 0, .int .u8 0, .int .u8 0, .int .u8 0, .int .u8 0, .int .u8 0, .int .u8 0, .int .u8 0, .int .u8 0, .int .u8 0, .int .u8 0, .int .u8 0, .int .u8 0, .int .u8 0, .int .u8 0, .int .u8 0, .int .u8 0, .int .u8 0, .int .u8 0, .int .u8 0, .int .u8 0, .int .u8 0, .int .u8 0, .int .u8 0, .int .u8 0, .int .u8 0, .int .u8 0, .int .u8 0, .int .u8 0, .int .u8 0] 26)).farRow (show w.heap.size ≠ w4.heap.size by omega) DP.toArray
       have hBr := hB.setRow DP.toArray
       have hbc := setRow_below (g := w4.heap.size) (hbb.alloc hbb.size (.cells #[.int .u8 0, .int .u8 0, .int .u8 0, .int .u8 0, .int .u8 0, .int .u8 0, .int .u8 0, .int .u8 0, .int .u8 0, .int .u8 0, .int .u8 0, .int .u8 0, .int .u8 0, .int .u8 0, .int .u8 0, .int .u8 0, .int .u8 0, .int .u8 0, .int .u8 0, .int .u8 0, .int .u8 0, .int .u8 0, .int .u8 0, .int .u8 0, .int .u8 0, .int .u8 0, .int .u8 0, .int .u8 0, .int .u8 0, .int .u8 0, .int .u8 0, .int .u8 0] 26)) hbb.size DP.toArray
       have hbd := setRow_below (g := w4.heap.size) (hb4.alloc hb4.size (.cells #[.int .u8 0, .int .u8 0, .int .u8 0, .int .u8 0, .int .u8 0, .int .u8 0, .int .u8 0, .int .u8 0, .int .u8 0, .int .u8 0, .int .u8 0, .int .u8 0, .int .u8 0, .int .u8 0, .int .u8 0, .int .u8 0, .int .u8 0, .int .u8 0, .int .u8 0, .int .u8 0, .int .u8 0, .int .u8 0, .int .u8 0, .int .u8 0, .int .u8 0, .int .u8 0, .int .u8 0, .int .u8 0, .int .u8 0, .int .u8 0, .int .u8 0, .int .u8 0] 26)) hb4.size DP.toArray
       obtain ⟨w5, hw5⟩ : ∃ w5, (w4.alloc (.cells #[.int .u8 0, .int .u8 0, .int .u8 0, .int .u8 0, .int .u8 0, .int .u8 0, .int .u8 0, .int .u8 0, .int .u8 0, .int .u8 0, .int .u8 0, .int .u8 0, .int .u8 0, .int .u8 0, .int .u8 0, .int .u8 0, .int .u8 0, .int .u8 0, .int .u8 0, .int .u8 0, .int .u8 0, .int .u8 0, .int .u8 0, .int .u8 0, .int .u8 0, .int .u8 0, .int .u8 0, .int .u8 0, .int .u8 0, .int .u8 0, .int .u8 0, .int .u8 0] 26)).setRow w4.heap.size DP.toArray = w5 := ⟨_, rfl⟩
       rw [hw5] at hBr hbc hbd hyK
       have HW5 := Lib.hid hw5
       have HB5 := Lib.hid hB
       have HP5 := Lib.hid hBr
       have Hb5 := Lib.hid hbc
       have Hs5 := Lib.hid hbd
       have HK5 := Lib.hid hyK
       clear hb4 hbb hB hBr hbc hbd hw5 hxK hlK hyK
       clear c0 c1 c2 f0 f1 f2
       obtain ⟨c0, c1, c2, f0, f1, f2⟩ := cells3 HK5.out)
    | (refine wpList_store_row rfl 26 _ _ rfl w4.heap.size DP.toArray rfl rfl 26 _ HB5.out (by rw [List.size_toArray, HO.out.1]; exact infoDg) (show 32 = DP.length from HO.out.1.symm) (all_oneCell_toArray HO.out.2) ?_; rw [HW5.out])
    | (with_reducible refine Calls.mono (HS.out _ Hb5.out) ?_
       rintro e w6 ⟨v1, p1, rfl, ho1, hq1, hb6⟩
       obtain ⟨v1, d1, rfl⟩ := (Sl.of_own ho1).form
       obtain ⟨p1, d2, rfl⟩ := (Sl.of_own hq1).form
       have hb6' := Hb5.out.trans (hb6.mono Hb5.out.size)
       have h2 := two_b w6 #[.slice sa n scap, .int .i64 (m : Int), .int .i64 (ix + 1 : Int)] #[.int .i64 (ix : Int), .slice v1 67 d1, .slice p1 (m - 1) d2]
       have hk7 := two_k w6 #[.slice sa n scap, .int .i64 (m : Int), .int .i64 (ix + 1 : Int)] #[.int .i64 (ix : Int), .slice v1 67 d1, .slice p1 (m - 1) d2]
       have hs7 := two_s w6 #[.slice sa n scap, .int .i64 (m : Int), .int .i64 (ix + 1 : Int)] #[.int .i64 (ix : Int), .slice v1 67 d1, .slice p1 (m - 1) d2]
       obtain ⟨w7, hw7⟩ : ∃ w7, two w6 #[.slice sa n scap, .int .i64 (m : Int), .int .i64 (ix + 1 : Int)] #[.int .i64 (ix : Int), .slice v1 67 d1, .slice p1 (m - 1) d2] = w7 := ⟨_, rfl⟩
       rw [hw7] at h2 hk7 hs7
       unfold two at hw7
       have HW7 := Lib.hid hw7
       have HP7 := Lib.hid ((HP5.out.below hb6 HP5.out.lt).below h2 (HP5.out.below hb6 HP5.out.lt).lt)
       have HK7 := Lib.hid ((HK5.out.below hb6 HK5.out.lt).below h2 (HK5.out.below hb6 HK5.out.lt).lt)
       have Ho7 := Lib.hid (own_next ho1 h2)
       have Hq7 := Lib.hid (own_next hq1 h2)
       have Hb7 := Lib.hid (hb6'.trans (h2.mono hb6'.size))
       have HS7 := Lib.hid hs7
       have HX7 := Lib.hid hk7
       clear ho1 hq1 hb6 hb6' h2 hw7 hs7 hk7 c0 c1 c2 f0 f1 f2
       obtain ⟨c0, c1, c2, f0, f1, f2⟩ := cells3 HX7.out)
    | (refine wpList_store_row rfl 24 _ _ rfl w6.heap.size #[.slice sa n scap, .int .i64 (m : Int), .int .i64 (ix + 1 : Int)] rfl rfl 24 _ (two_0 w6) infoKey rfl (one3 rfl rfl rfl) ?_)
    | (refine wpList_store_row rfl 42 _ _ rfl (w6.heap.size + 1) #[.int .i64 (ix : Int), .slice v1 67 d1, .slice p1 (m - 1) d2] rfl rfl 42 _ (two_1 w6 #[.slice sa n scap, .int .i64 (m : Int), .int .i64 (ix + 1 : Int)]) infoSig rfl (one3 rfl rfl rfl) ?_; rw [HW7.out])
    | (with_reducible refine Calls.mono (HPubX.out _ Hb7.out) ?_
       rintro e w8 ⟨rfl, hb8⟩
       have hbb := Hb7.out.trans (hb8.mono Hb7.out.size)
       have hB := Blk.new w8 26 #[.int .u8 0, .int .u8 0, .int .u8 0, .int .u8 0, .int .u8 0, .int .u8 0, .int .u8 0, .int .u8 0, .int .u8 0, .int .u8 0, .int .u8 0, .int .u8 0, .int .u8 0, .int .u8 0, .int .u8 0, .int .u8 0, .int .u8 0, .int .u8 0, .int .u8 0, .int .u8 0, .int .u8 0, .int .u8 0, .int .u8 0, .int .u8 0, .int .u8 0, .int .u8 0, .int .u8 0, .int .u8 0, .int .u8 0, .int .u8 0, .int .u8 0, .int .u8 0]
       have hxK := (HK7.out.below hb8 HK7.out.lt)
       have hlK := hxK.lt
       have hyK := (hxK.alloc (.cells #[.int .u8 0, .int .u8 0, .int .u8 0, .int .u8 0, .int .u8 0, .int .u8 0, .int .u8 0, .int .u8 0, .int .u8 0, .int .u8 0, .int .u8 0, .int .u8 0, .int .u8 0, .int .u8 0, .int .u8 0, .int .u8 0, .int .u8 0, .int .u8 0, .int .u8 0, .int .u8 0, .int .u8 0, .int .u8 0, .int .u8 0, .int .u8 0, .int .u8 0, .int .u8 0, .int .u8 0, .int .u8 0, .int .u8 0, .int .u8 0, .int .u8 0, .int .u8 0] 26)).farRow (show w.heap.size ≠ w8.heap.size by omega) DP.toArray
       have hxX := (HX7.out.below hb8 HX7.out.lt)
       have hlX := hxX.lt
       have hyX := (hxX.alloc (.cells #[.int .u8 0, .int .u8 0, .int .u8 0, .int .u8 0, .int .u8 0, .int .u8 0, .int .u8 0, .int .u8 0, .int .u8 0, .int .u8 0, .int .u8 0, .int .u8 0, .int .u8 0, .int .u8 0, .int .u8 0, .int .u8 0, .int .u8 0, .int .u8 0, .int .u8 0, .int .u8 0, .int .u8 0, .int .u8 0, .int .u8 0, .int .u8 0, .int .u8 0, .int .u8 0, .int .u8 0, .int .u8 0, .int .u8 0, .int .u8 0, .int .u8 0, .int .u8 0] 26)).farRow (show w6.heap.size ≠ w8.heap.size by omega) DP.toArray
       have hxS := (HS7.out.below hb8 HS7.out.lt)
       have hlS := hxS.lt
       have hyS := (hxS.alloc (.cells #[.int .u8 0, .int .u8 0, .int .u8 0, .int .u8 0, .int .u8 0, .int .u8 0, .int .u8 0, .int .u8 0, .int .u8 0, .int .u8 0, .int .u8 0, .int .u8 0, .int .u8 0, .int .u8 0, .int .u8 0, .int .u8 0, .int .u8 0, .int .u8 0, .int .u8 0, .int .u8 0, .int .u8 0, .int .u8 0, .int .u8 0, .int .u8 0, .int .u8 0, .int .u8 0, .int .u8 0, .int .u8 0, .int .u8 0, .int .u8 0, .int .u8 0, .int .u8 0] 26)).farRow (show w6.heap.size + 1 ≠ w8.heap.size by omega) DP.toArray
       have hxP := (HP7.out.below hb8 HP7.out.lt)
       have hlP := hxP.lt
       have hyP := (hxP.alloc (.cells #[.int .u8 0, .int .u8 0, .int .u8 0, .int .u8 0, .int .u8 0, .int .u8 0, .int .u8 0, .int .u8 0, .int .u8 0, .int .u8 0, .int .u8 0, .int .u8 0, .int .u8 0, .int .u8 0, .int .u8 0, .int .u8 0, .int .u8 0, .int .u8 0, .int .u8 0, .int .u8 0, .int .u8 0, .int .u8 0, .int .u8 0, .int .u8 0, .int .u8 0, .int .u8 0, .int .u8 0, .int .u8 0, .int .u8 0, .int .u8 0, .int .u8 0, .int .u8 0] 26)).farRow (show w4.heap.size ≠ w8.heap.size by omega) DP.toArray
       have hBr := hB.setRow DP.toArray
       have hbc := setRow_below (g := w8.heap.size) (hbb.alloc hbb.size (.cells #[.int .u8 0, .int .u8 0, .int .u8 0, .int .u8 0, .int .u8 0, .int .u8 0, .int .u8 0, .int .u8 0, .int .u8 0, .int .u8 0, .int .u8 0, .int .u8 0, .int .u8 0, .int .u8 0, .int .u8 0, .int .u8 0, .int .u8 0, .int .u8 0, .int .u8 0, .int .u8 0, .int .u8 0, .int .u8 0, .int .u8 0, .int .u8 0, .int .u8 0, .int .u8 0, .int .u8 0, .int .u8 0, .int .u8 0, .int .u8 0, .int .u8 0, .int .u8 0] 26)) hbb.size DP.toArray
       have hbd := setRow_below (g := w8.heap.size) (hb8.alloc hb8.size (.cells #[.int .u8 0, .int .u8 0, .int .u8 0, .int .u8 0, .int .u8 0, .int .u8 0, .int .u8 0, .int .u8 0, .int .u8 0, .int .u8 0, .int .u8 0, .int .u8 0, .int .u8 0, .int .u8 0, .int .u8 0, .int .u8 0, .int .u8 0, .int .u8 0, .int .u8 0, .int .u8 0, .int .u8 0, .int .u8 0, .int .u8 0, .int .u8 0, .int .u8 0, .int .u8 0, .int .u8 0, .int .u8 0, .int .u8 0, .int .u8 0, .int .u8 0, .int .u8 0] 26)) hb8.size DP.toArray
       obtain ⟨w9, hw9⟩ : ∃ w9, (w8.alloc (.cells #[.int .u8 0, .int .u8 0, .int .u8 0, .int .u8 0, .int .u8 0, .int .u8 0, .int .u8 0, .int .u8 0, .int .u8 0, .int .u8 0, .int .u8 0, .int .u8 0, .int .u8 0, .int .u8 0, .int .u8 0, .int .u8 0, .int .u8 0, .int .u8 0, .int .u8 0, .int .u8 0, .int .u8 0, .int .u8 0, .int .u8 0, .int .u8 0, .int .u8 0, .int .u8 0, .int .u8 0, .int .u8 0, .int .u8 0, .int .u8 0, .int .u8 0, .int .u8 0] 26)).setRow w8.heap.size DP.toArray = w9 := ⟨_, rfl⟩
       rw [hw9] at hBr hbc hbd hyK hyX hyS hyP
       have HW9 := Lib.hid hw9
       have HB9 := Lib.hid hB
       have HC9 := Lib.hid hBr
       have Hb9 := Lib.hid hbc
       have Hs9 := Lib.hid hbd
       have HK9 := Lib.hid hyK
       have HX9 := Lib.hid hyX
       have HS9 := Lib.hid hyS
       have HP9 := Lib.hid hyP
       clear hb8 hbb hB hBr hbc hbd hw9 hxK hlK hyK hxX hlX hyX hxS hlS hyS hxP hlP hyP
       have Ho9 := Lib.hid (own_next Ho7.out Hs9.out)
       have Hq9 := Lib.hid (own_next Hq7.out Hs9.out)
       have heq9 := heq.out w9
       clear c0 c1 c2 f0 f1 f2
       obtain ⟨c0, c1, c2, f0, f1, f2⟩ := cells3 HK9.out
       obtain ⟨g0, g1, g2, _, _, _⟩ := cells3 HX9.out
       obtain ⟨i0, i1, i2, _, _, _⟩ := cells3 HS9.out)
    | (refine wpList_store_row rfl 26 _ _ rfl w8.heap.size DP.toArray rfl rfl 26 _ HB9.out (by rw [List.size_toArray, HO.out.1]; exact infoDg) (show 32 = DP.length from HO.out.1.symm) (all_oneCell_toArray HO.out.2) ?_; rw [HW9.out])
    | (refine wpList_load_row_g (by first | rfl | simp [Region.wanted, yielded]) 26 _ rfl w8.heap.size rfl 26 DP.toArray (0, 0) _ HC9.out Tryd.underlying26 rfl (by rw [List.size_toArray, HO.out.1]; exact infoDg) ?_)
    | (refine wpList_load_row_g (by first | rfl | simp [Region.wanted, yielded]) 26 _ rfl w4.heap.size rfl 26 DP.toArray (0, 0) _ HP9.out Tryd.underlying26 rfl (by rw [List.size_toArray, HO.out.1]; exact infoDg) ?_)
    | (with_reducible refine Calls.mono (HV.out _ _ _ _ _ Hb9.out Ho9.out Hq9.out) ?_
       rintro e w12 ⟨rfl, hb12⟩
       have Hb12 := Lib.hid (Hb9.out.trans (hb12.mono Hb9.out.size))
       clear hb12))
  go_ret
  exact ⟨rfl, Hb12.out⟩
end Go.Proofs.YtiloaheaglcpbaaDoor
