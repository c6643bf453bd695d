/- Signing: the statement SigningChains, the walk of the good case. -/
import Derived.Test.YtiloaheaglcpbaaDoorSgX3
namespace Go.Proofs.YtiloaheaglcpbaaDoor
open Go.RowKit

set_option maxRecDepth 100000 in
set_option maxHeartbeats 4000000 in
theorem ch_main (seed : List UInt8) (n : Nat) (hn : seed.length = n) (sa : Option Addr) (scap : Nat) (m : Nat) (hm : m = 1 ∨ m = 2) (ix : Nat) (hix : ix < m) (hk : isKeyB n (m : Int) (ix : Int) = true)
    (a : List UInt8) (qa : Nat) (ha : a.length = qa) (hqa : qa ≤ 300) (aa : Option Addr) (acap : Nat) (b : List UInt8) (qb : Nat) (hb' : b.length = qb) (hqb : qb ≤ 300) (ba : Option Addr) (bcap : Nat)
    (w : World) (hs : Sl w 1 (.slice sa n scap) n (bc seed)) (hya : Sl w 1 (.slice aa qa acap) qa (bc a)) (hyb : Sl w 1 (.slice ba qb bcap) qb (bc b)) (hT : Tabs w) :
    Calls Tryd.prog 9 #[.agg #[.slice sa n scap, .int .i64 (m : Int), .int .i64 (ix : Int)], .slice aa qa acap, .slice ba qb bcap] w fun e w' => e = .returned (.bool true) ∧ Below w.heap.size w w' := by
  have hk9 := isKeyB_t hk
  have HSane := Lib.hid (fun W => sane_any W)
  have HFa := Lib.hid (fun W => few_any sa n scap (m : Int) (ix : Int) aa qa acap W)
  have HFb := Lib.hid (fun W => few_any sa n scap (m : Int) (ix : Int) ba qb bcap W)
  rw [few_t hm (by omega) hqa] at HFa
  rw [few_t hm (by omega) hqb] at HFb
  have HPub : Hid (∀ W, Below w.heap.size w W → Calls Tryd.prog 20 #[.agg #[.slice sa n scap, .int .i64 (m : Int), .int .i64 (ix : Int)]] W fun e w' => e = .returned (.tuple #[arrV (pub seed m), .int .i64 0]) ∧ Below W.heap.size W w') :=
    Lib.hid (fun W hb => public_ok seed n hn sa scap m hm ix hk W (hs.next hb) (hT.next hb))
  have HSa : Hid (∀ W, Below w.heap.size w W → Calls Tryd.prog 22 #[.agg #[.slice sa n scap, .int .i64 (m : Int), .int .i64 (ix : Int)], .slice aa qa acap] W fun e w' => ∃ v p, e = .returned (.tuple #[.agg #[.slice sa n scap, .int .i64 (m : Int), .int .i64 (ix + 1 : Int)], .agg #[.int .i64 (ix : Int), v, p], .int .i64 0])
      ∧ w'.ownsRow W.heap.size 26 32 v 67 (prC seed ix (mh (pub seed m) ix a) 67) ∧ w'.ownsRow W.heap.size 26 32 p (m - 1) (ptC seed m ix) ∧ Below W.heap.size W w') :=
    Lib.hid (fun W hb => sign_ok seed n hn sa scap m hm ix hix hk a qa ha (by omega) aa acap W (hs.next hb) (hya.next hb) (hT.next hb))
  have HSb : Hid (∀ W, Below w.heap.size w W → Calls Tryd.prog 22 #[.agg #[.slice sa n scap, .int .i64 (m : Int), .int .i64 (ix : Int)], .slice ba qb bcap] W fun e w' => ∃ v p, e = .returned (.tuple #[.agg #[.slice sa n scap, .int .i64 (m : Int), .int .i64 (ix + 1 : Int)], .agg #[.int .i64 (ix : Int), v, p], .int .i64 0])
      ∧ w'.ownsRow W.heap.size 26 32 v 67 (prC seed ix (mh (pub seed m) ix b) 67) ∧ w'.ownsRow W.heap.size 26 32 p (m - 1) (ptC seed m ix) ∧ Below W.heap.size W w') :=
    Lib.hid (fun W hb => sign_ok seed n hn sa scap m hm ix hix hk b qb hb' (by omega) ba bcap W (hs.next hb) (hyb.next hb) (hT.next hb))
  have HHa : Hid (∀ g1 g2 v p W, Below w.heap.size w W → Blk W g1 26 (bc (pub seed m)).toArray → Blk W g2 42 #[.int .i64 (ix : Int), v, p] → Calls Tryd.prog 27 #[.slice aa qa acap, .pointer (some ⟨g1, 0, none⟩), .pointer (some ⟨g2, 0, none⟩)] W fun e w' => RetDig (mh (pub seed m) ix a) W e w') :=
    Lib.hid (fun g1 g2 v p W hb h1 h2 => hash_any (pub seed m) (pub_len seed m) ix (by omega) a qa ha (by omega) aa acap g1 g2 v p W h1 h2 (hya.next hb) (hT.next hb))
  have HHb : Hid (∀ g1 g2 v p W, Below w.heap.size w W → Blk W g1 26 (bc (pub seed m)).toArray → Blk W g2 42 #[.int .i64 (ix : Int), v, p] → Calls Tryd.prog 27 #[.slice ba qb bcap, .pointer (some ⟨g1, 0, none⟩), .pointer (some ⟨g2, 0, none⟩)] W fun e w' => RetDig (mh (pub seed m) ix b) W e w') :=
    Lib.hid (fun g1 g2 v p W hb h1 h2 => hash_any (pub seed m) (pub_len seed m) ix (by omega) b qb hb' (by omega) ba bcap g1 g2 v p W h1 h2 (hyb.next hb) (hT.next hb))
  have HO := Lib.hid (And.intro (show (bc (pub seed m)).length = 32 by rw [bc_len, pub_len]) (bc_one (pub seed m)))
  obtain ⟨dA, hdA⟩ : ∃ d, mh (pub seed m) ix a = d := ⟨_, rfl⟩
  obtain ⟨dB, hdB⟩ : ∃ d, mh (pub seed m) ix b = d := ⟨_, rfl⟩
  simp only [hdA] at HSa HHa
  simp only [hdB] at HSb HHb
  have hix9 : ix < 256 := by omega
  have HCa : Hid (∀ k W, k < 67 → dig dA k ≤ dig dB k → Below w.heap.size w W → Calls Tryd.prog 29 #[arrV (prt seed ix dA k), .int .i64 (ix : Int), .int .i64 (k : Int), .int .i64 (dig dA k : Int), .int .i64 (dig dB k : Int)] W fun e w' => e = .returned (arrV (prt seed ix dB k)) ∧ Below W.heap.size W w') :=
    Lib.hid (fun k W hk h hb => by
      have := chain_any (prt seed ix dA k) (prt_len _ _ _ _) ix k (dig dA k) (dig dB k) (by omega) (by omega) (by have := dig_lt dB k; omega) W (hT.next hb)
      rw [chain_parts seed ix dA dB k h] at this; exact this)
  have HCb : Hid (∀ k W, k < 67 → dig dB k ≤ dig dA k → Below w.heap.size w W → Calls Tryd.prog 29 #[arrV (prt seed ix dB k), .int .i64 (ix : Int), .int .i64 (k : Int), .int .i64 (dig dB k : Int), .int .i64 (dig dA k : Int)] W fun e w' => e = .returned (arrV (prt seed ix dA k)) ∧ Below W.heap.size W w') :=
    Lib.hid (fun k W hk h hb => by
      have := chain_any (prt seed ix dB k) (prt_len _ _ _ _) ix k (dig dB k) (dig dA k) (by omega) (by omega) (by have := dig_lt dA k; omega) W (hT.next hb)
      rw [chain_parts seed ix dB dA k h] at this; exact this)
  unfold arrV at HPub HCa HCb
  obtain ⟨DP, hDP⟩ : ∃ DP, bc (pub seed m) = DP := ⟨_, rfl⟩
  rw [hDP] at HPub HO
  simp only [hDP] at HHa HHb
  have H0 := Lib.hid (Blk.new w 24 #[.slice sa n scap, .int .i64 (m : Int), .int .i64 (ix : Int)])
  have Hb := Lib.hid (below_alloc w (.cells #[.slice sa n scap, .int .i64 (m : Int), .int .i64 (ix : Int)] 24))
  clear hs hya hyb hT hn ha hb' hk hDP hdA hdB hk9
  go_enter Tryd.func9, Tryd.ntmps9
  go_wp2_with (first
    | (refine (HSane.out _).mono ?_
       rintro e w1 ⟨rfl, hb1⟩
       obtain ⟨c0, c1, c2, f0, f1, f2⟩ := cells3 (H0.out.below hb1 H0.out.lt)
       have HK1 := Lib.hid (H0.out.below hb1 H0.out.lt)
       have Hb1 := Lib.hid (Hb.out.trans (hb1.mono Hb.out.size))
       clear hb1)
    | (with_reducible refine Calls.mono (HFa.out _) ?_
       rintro e w2 ⟨rfl, hb2⟩
       clear c0 c1 c2 f0 f1 f2
       obtain ⟨c0, c1, c2, f0, f1, f2⟩ := cells3 (HK1.out.below hb2 HK1.out.lt)
       have HK2 := Lib.hid (HK1.out.below hb2 HK1.out.lt)
       have Hb2 := Lib.hid (Hb1.out.trans (hb2.mono Hb1.out.size))
       clear hb2)
    | (with_reducible refine Calls.mono (HFb.out _) ?_
       rintro e w3 ⟨rfl, hb3⟩
       clear c0 c1 c2 f0 f1 f2
       obtain ⟨c0, c1, c2, f0, f1, f2⟩ := cells3 (HK2.out.below hb3 HK2.out.lt)
       have HK3 := Lib.hid (HK2.out.below hb3 HK2.out.lt)
       have Hb3 := Lib.hid (Hb2.out.trans (hb3.mono Hb2.out.size))
       clear hb3)
    | (with_reducible refine Calls.mono (HPub.out _ Hb3.out) ?_
       rintro e w4 ⟨rfl, hb4⟩
       have hbb := Hb3.out.trans (hb4.mono Hb3.out.size)
       have hB := Blk.new w4 26 #[.int .u8 0, .int .u8 0, .int .u8 0, .int .u8 0, .int .u8 0, .int .u8 0, .int .u8 0, .int .u8 0, .int .u8 0, .int .u8 0, .int .u8 0, .int .u8 0, .int .u8 0, .int .u8 0, .int .u8 0, .int .u8 0, .int .u8 0, .int .u8 0, .int .u8 0, .int .u8 0, .int .u8 0, .int .u8 0, .int .u8 0, .int .u8 0, .int .u8 0, .int .u8 0, .int .u8 0, .int .u8 0, .int .u8 0, .int .u8 0, .int .u8 0, .int .u8 0]
       have hxK := (HK3.out.below hb4 HK3.out.lt)
       have hlK := hxK.lt
       have hyK := (hxK.alloc (.cells #[.int .u8 0, .int .u8 0, .int .u8 0, .int .u8 0, .int .u8 0, .int .u8 0, .int .u8 0, .int .u8 0, .int .u8 0, .int .u8 0, .int .u8 0, .int .u8 0, .int .u8 0, .int .u8 0, .int .u8 0, .int .u8 0, .int .u8 0, .int .u8 0, .int .u8 0, .int .u8 0, .int .u8 0, .int .u8 0, .int .u8 0, .int .u8 0, .int .u8 0, .int .u8 0, .int .u8 0, .int .u8 0, .int .u8 0, .int .u8 0, .int .u8 0, .int .u8 0] 26)).farRow (show w.heap.size ≠ w4.heap.size by omega) DP.toArray
       have hBr := hB.setRow DP.toArray
       have hbc := setRow_below (g := w4.heap.size) (hbb.alloc hbb.size (.cells #[.int .u8 0, .int .u8 0, .int .u8 0, .int .u8 0, .int .u8 0, .int .u8 0, .int .u8 0, .int .u8 0, .int .u8 0, .int .u8 0, .int .u8 0, .int .u8 0, .int .u8 0, .int .u8 0, .int .u8 0, .int .u8 0, .int .u8 0, .int .u8 0, .int .u8 0, .int .u8 0, .int .u8 0, .int .u8 0, .int .u8 0, .int .u8 0, .int .u8 0, .int .u8 0, .int .u8 0, .int .u8 0, .int .u8 0, .int .u8 0, .int .u8 0, .int .u8 0] 26)) hbb.size DP.toArray
       have hbd := setRow_below (g := w4.heap.size) (hb4.alloc hb4.size (.cells #[.int .u8 0, .int .u8 0, .int .u8 0, .int .u8 0, .int .u8 0, .int .u8 0, .int .u8 0, .int .u8 0, .int .u8 0, .int .u8 0, .int .u8 0, .int .u8 0, .int .u8 0, .int .u8 0, .int .u8 0, .int .u8 0, .int .u8 0, .int .u8 0, .int .u8 0, .int .u8 0, .int .u8 0, .int .u8 0, .int .u8 0, .int .u8 0, .int .u8 0, .int .u8 0, .int .u8 0, .int .u8 0, .int .u8 0, .int .u8 0, .int .u8 0, .int .u8 0] 26)) hb4.size DP.toArray
       obtain ⟨w5, hw5⟩ : ∃ w5, (w4.alloc (.cells #[.int .u8 0, .int .u8 0, .int .u8 0, .int .u8 0, .int .u8 0, .int .u8 0, .int .u8 0, .int .u8 0, .int .u8 0, .int .u8 0, .int .u8 0, .int .u8 0, .int .u8 0, .int .u8 0, .int .u8 0, .int .u8 0, .int .u8 0, .int .u8 0, .int .u8 0, .int .u8 0, .int .u8 0, .int .u8 0, .int .u8 0, .int .u8 0, .int .u8 0, .int .u8 0, .int .u8 0, .int .u8 0, .int .u8 0, .int .u8 0, .int .u8 0, .int .u8 0] 26)).setRow w4.heap.size DP.toArray = w5 := ⟨_, rfl⟩
       rw [hw5] at hBr hbc hbd hyK
       have HW5 := Lib.hid hw5
       have HB5 := Lib.hid hB
       have HP5 := Lib.hid hBr
       have Hb5 := Lib.hid hbc
       have Hs5 := Lib.hid hbd
       have HK5 := Lib.hid hyK
       clear hb4 hbb hB hBr hbc hbd hw5 hxK hlK hyK
       clear c0 c1 c2 f0 f1 f2
       obtain ⟨c0, c1, c2, f0, f1, f2⟩ := cells3 HK5.out)
    | (refine wpList_store_row rfl 26 _ _ rfl w4.heap.size DP.toArray rfl rfl 26 _ HB5.out (by rw [List.size_toArray, HO.out.1]; exact infoDg) (show 32 = DP.length from HO.out.1.symm) (all_oneCell_toArray HO.out.2) ?_; rw [HW5.out])
    | (with_reducible refine Calls.mono (HSa.out _ Hb5.out) ?_
       rintro e w6 ⟨v1, p1, rfl, ho1, hq1, hb6⟩
       obtain ⟨ga, d1, rfl, _, hr1⟩ := own_range ho1 (by omega)
       obtain ⟨p1, d2, rfl⟩ := (Sl.of_own hq1).form
       have hbb := Hb5.out.trans (hb6.mono Hb5.out.size)
       have h2 := two_b w6 #[.slice sa n scap, .int .i64 (m : Int), .int .i64 (ix + 1 : Int)] #[.int .i64 (ix : Int), .slice (some ⟨ga, 0, none⟩) 67 d1, .slice p1 (m - 1) d2]
       have hk7 := two_k w6 #[.slice sa n scap, .int .i64 (m : Int), .int .i64 (ix + 1 : Int)] #[.int .i64 (ix : Int), .slice (some ⟨ga, 0, none⟩) 67 d1, .slice p1 (m - 1) d2]
       have hs7 := two_s w6 #[.slice sa n scap, .int .i64 (m : Int), .int .i64 (ix + 1 : Int)] #[.int .i64 (ix : Int), .slice (some ⟨ga, 0, none⟩) 67 d1, .slice p1 (m - 1) d2]
       obtain ⟨w7, hw7⟩ : ∃ w7, two w6 #[.slice sa n scap, .int .i64 (m : Int), .int .i64 (ix + 1 : Int)] #[.int .i64 (ix : Int), .slice (some ⟨ga, 0, none⟩) 67 d1, .slice p1 (m - 1) d2] = w7 := ⟨_, rfl⟩
       rw [hw7] at h2 hk7 hs7
       unfold two at hw7
       have HW7 := Lib.hid hw7
       have HK7 := Lib.hid ((HK5.out.below hb6 HK5.out.lt).below h2 (HK5.out.below hb6 HK5.out.lt).lt)
       have HP7 := Lib.hid ((HP5.out.below hb6 HP5.out.lt).below h2 (HP5.out.below hb6 HP5.out.lt).lt)
       have Hb7 := Lib.hid (hbb.trans (h2.mono hbb.size))
       have HX7 := Lib.hid hk7
       have HS7 := Lib.hid hs7
       have Hra7 := Lib.hid (rangeAt_below hr1 h2 (World.block_lt_of_rangeAt hr1 (prC_cell seed ix dA)))
       clear ho1 hq1 hr1
       clear hb6 hbb h2 hw7 hk7 hs7 c0 c1 c2 f0 f1 f2
       obtain ⟨c0, c1, c2, f0, f1, f2⟩ := cells3 HK7.out)
    | (refine wpList_store_row rfl 24 _ _ rfl w6.heap.size #[.slice sa n scap, .int .i64 (m : Int), .int .i64 (ix + 1 : Int)] rfl rfl 24 _ (two_0 w6) infoKey rfl (one3 rfl rfl rfl) ?_)
    | (refine wpList_store_row rfl 42 _ _ rfl (w6.heap.size + 1) #[.int .i64 (ix : Int), .slice (some ⟨ga, 0, none⟩) 67 d1, .slice p1 (m - 1) d2] rfl rfl 42 _ (two_1 w6 #[.slice sa n scap, .int .i64 (m : Int), .int .i64 (ix + 1 : Int)]) infoSig rfl (one3 rfl rfl rfl) ?_; rw [HW7.out])
    | (with_reducible refine Calls.mono (HSb.out _ Hb7.out) ?_
       rintro e w8 ⟨v2, p2, rfl, ho2, hq2, hb8⟩
       obtain ⟨gb, d3, rfl, _, hr2⟩ := own_range ho2 (by omega)
       obtain ⟨p2, d4, rfl⟩ := (Sl.of_own hq2).form
       have hbb := Hb7.out.trans (hb8.mono Hb7.out.size)
       have h2 := two_b w8 #[.slice sa n scap, .int .i64 (m : Int), .int .i64 (ix + 1 : Int)] #[.int .i64 (ix : Int), .slice (some ⟨gb, 0, none⟩) 67 d3, .slice p2 (m - 1) d4]
       have hk7 := two_k w8 #[.slice sa n scap, .int .i64 (m : Int), .int .i64 (ix + 1 : Int)] #[.int .i64 (ix : Int), .slice (some ⟨gb, 0, none⟩) 67 d3, .slice p2 (m - 1) d4]
       have hs7 := two_s w8 #[.slice sa n scap, .int .i64 (m : Int), .int .i64 (ix + 1 : Int)] #[.int .i64 (ix : Int), .slice (some ⟨gb, 0, none⟩) 67 d3, .slice p2 (m - 1) d4]
       obtain ⟨w9, hw9⟩ : ∃ w9, two w8 #[.slice sa n scap, .int .i64 (m : Int), .int .i64 (ix + 1 : Int)] #[.int .i64 (ix : Int), .slice (some ⟨gb, 0, none⟩) 67 d3, .slice p2 (m - 1) d4] = w9 := ⟨_, rfl⟩
       rw [hw9] at h2 hk7 hs7
       unfold two at hw9
       have HW9 := Lib.hid hw9
       have HK9 := Lib.hid ((HK7.out.below hb8 HK7.out.lt).below h2 (HK7.out.below hb8 HK7.out.lt).lt)
       have HP9 := Lib.hid ((HP7.out.below hb8 HP7.out.lt).below h2 (HP7.out.below hb8 HP7.out.lt).lt)
       have Hb9 := Lib.hid (hbb.trans (h2.mono hbb.size))
       have HX9 := Lib.hid hk7
       have HS9 := Lib.hid hs7
       have hb79 := hb8.trans (h2.mono hb8.size)
       have hl7 := World.block_lt_of_rangeAt Hra7.out (prC_cell seed ix dA)
       have HSA9 := Lib.hid (HS7.out.below hb79 HS7.out.lt)
       have Hra9 := Lib.hid (rangeAt_below Hra7.out hb79 hl7)
       have Hrb9 := Lib.hid (rangeAt_below hr2 h2 (World.block_lt_of_rangeAt hr2 (prC_cell seed ix dB)))
       obtain ⟨a0, a1, _, _, _, _⟩ := cells3 HSA9.out
       obtain ⟨b0, b1, _, _, _, _⟩ := cells3 hs7
       clear ho2 hq2 hr2 hb79 hl7
       clear hb8 hbb h2 hw9 hk7 hs7 c0 c1 c2 f0 f1 f2
       obtain ⟨c0, c1, c2, f0, f1, f2⟩ := cells3 HK9.out)
    | (refine wpList_store_row rfl 24 _ _ rfl w8.heap.size #[.slice sa n scap, .int .i64 (m : Int), .int .i64 (ix + 1 : Int)] rfl rfl 24 _ (two_0 w8) infoKey rfl (one3 rfl rfl rfl) ?_)
    | (refine wpList_store_row rfl 42 _ _ rfl (w8.heap.size + 1) #[.int .i64 (ix : Int), .slice (some ⟨gb, 0, none⟩) 67 d3, .slice p2 (m - 1) d4] rfl rfl 42 _ (two_1 w8 #[.slice sa n scap, .int .i64 (m : Int), .int .i64 (ix + 1 : Int)]) infoSig rfl (one3 rfl rfl rfl) ?_; rw [HW9.out])
    | (with_reducible refine Calls.mono (HHa.out _ _ _ _ _ Hb9.out HP9.out HSA9.out) ?_
       rintro e w10 ⟨gx, rfl, hx, _, hb10⟩
       have HX10 := Lib.hid hx
       have HP10 := Lib.hid (HP9.out.below hb10 HP9.out.lt)
       have HSA10 := Lib.hid (HSA9.out.below hb10 HSA9.out.lt)
       have HSB10 := Lib.hid (HS9.out.below hb10 HS9.out.lt)
       have Hra10 := Lib.hid (rangeAt_below Hra9.out hb10 (World.block_lt_of_rangeAt Hra9.out (prC_cell seed ix dA)))
       have Hrb10 := Lib.hid (rangeAt_below Hrb9.out hb10 (World.block_lt_of_rangeAt Hrb9.out (prC_cell seed ix dB)))
       have Hb10 := Lib.hid (Hb9.out.trans (hb10.mono Hb9.out.size))
       clear hx hb10 a0 a1 b0 b1)
    | (with_reducible refine Calls.mono (HHb.out _ _ _ _ _ Hb10.out HP10.out HSA10.out) ?_
       rintro e w11 ⟨gy, rfl, hy, _, hb11⟩
       have HX := Lib.hid (HX10.out.below hb11 HX10.out.lt)
       have HY := Lib.hid hy
       have HSA := Lib.hid (HSA10.out.below hb11 HSA10.out.lt)
       have HSB := Lib.hid (HSB10.out.below hb11 HSB10.out.lt)
       have hra := rangeAt_below Hra10.out hb11 (World.block_lt_of_rangeAt Hra10.out (prC_cell seed ix dA))
       have hrb := rangeAt_below Hrb10.out hb11 (World.block_lt_of_rangeAt Hrb10.out (prC_cell seed ix dB))
       have HRA := Lib.hid (fun k hk => by have := ends_at (o := 0) _ (prt_len seed ix dA) 67 hra k hk; rwa [Nat.zero_add] at this : ∀ k, k < 67 → w11.rangeAt ga (k * 32) (bc (prt seed ix dA k)))
       have HRB := Lib.hid (fun k hk => by have := ends_at (o := 0) _ (prt_len seed ix dB) 67 hrb k hk; rwa [Nat.zero_add] at this : ∀ k, k < 67 → w11.rangeAt gb (k * 32) (bc (prt seed ix dB k)))
       have Lga := Lib.hid (World.block_lt_of_rangeAt hra (prC_cell seed ix dA))
       have Lgb := Lib.hid (World.block_lt_of_rangeAt hrb (prC_cell seed ix dB))
       have Lx := Lib.hid HX.out.lt
       have Ly := Lib.hid HY.out.lt
       have La := Lib.hid HSA.out.lt
       have Lb := Lib.hid HSB.out.lt
       have Hb11 := Lib.hid (Hb10.out.trans (hb11.mono Hb10.out.size))
       clear hy hb11 hra hrb))
  clear c0 c1 c2 f0 f1 f2
  go_loopw [18] (fun i wr => ∃ k : Nat, k ≤ 67 ∧ i = .int .i64 (k : Int) ∧ Below w11.heap.size w11 wr) (fun i _ => 67 - (intOf i).toNat)
  case atStart => exact ⟨0, by omega, rfl, Below.refl _ _⟩
  case round =>
    obtain ⟨k, hk, rfl, hbr⟩ := hrel
    have Hbr := Lib.hid hbr
    have Hbw := Lib.hid (Hb11.out.trans (hbr.mono Hb11.out.size))
    by_cases hlt : k < 67
    · obtain ⟨cx, cy, a0, a1, b0, b1, ra, rb⟩ := chFacts HX.out HY.out HSA.out HSB.out (HRA.out k hlt) (HRB.out k hlt) hlt Lga.out Lgb.out hbr
      have HlA := Lib.hid (show (bc (prt seed ix dA k)).length = 32 by rw [bc_len, prt_len])
      have HlB := Lib.hid (show (bc (prt seed ix dB k)).length = 32 by rw [bc_len, prt_len])
      have heA := Lib.hid (fun W => eq_dg W (prt seed ix dA k) (prt seed ix dA k) (prt_len _ _ _ _) (prt_len _ _ _ _))
      have heB := Lib.hid (fun W => eq_dg W (prt seed ix dB k) (prt seed ix dB k) (prt_len _ _ _ _) (prt_len _ _ _ _))
      have HCak := Lib.hid (fun h W => HCa.out k W hlt h)
      have HCbk := Lib.hid (fun h W => HCb.out k W hlt h)
      have Fc := Lib.hid (fun W (hb : Below w11.heap.size w11 W) => chFacts HX.out HY.out HSA.out HSB.out (HRA.out k hlt) (HRB.out k hlt) hlt Lga.out Lgb.out hb)
      clear hbr
      obtain ⟨x, hx⟩ : ∃ x, dig dA k = x := ⟨_, rfl⟩
      obtain ⟨y, hy⟩ : ∃ y, dig dB k = y := ⟨_, rfl⟩
      simp only [hx, hy] at cx cy HCak HCbk Fc
      obtain ⟨PA, hPA⟩ : ∃ D, bc (prt seed ix dA k) = D := ⟨_, rfl⟩
      obtain ⟨PB, hPB⟩ : ∃ D, bc (prt seed ix dB k) = D := ⟨_, rfl⟩
      rw [hPA] at ra HlA
      rw [hPB] at rb HlB
      simp only [hPA] at heA HCak HCbk Fc
      simp only [hPB] at heB HCak HCbk Fc
      clear hx hy hPA hPB
      have i1 : (0 : Int) ≤ (k : Int) := by omega
      have i2 : (k : Int) < 67 := by omega
      have hcs : (x < y) ∨ (x = y) ∨ (y < x) := by omega
      clear cx cy a0 a1 b0 b1 ra rb
      go_wp2_with fail
      rcases hcs with h | h | h
      · have j1 : (x : Int) ≤ (y : Int) := (by omega); have J1 := Lib.hid (show x ≤ y by omega)
        have j2 : ¬ (y : Int) ≤ (x : Int) := by omega
        clear h
        refine wp_region_held_drew (S := fun w' => Below w11.heap.size w11 w') (by kernel_rfl) (Hbr.out.drew) (fun hHeld => ?_)
        refine wpAnyH_take (i := 0) (oi := { dst := some 99, op := Op.move (Operand.tmp 16), type := 33, pos := "law.go:177", after := #[], guard := none }) (v := ?_) rfl (by kernel_rfl) (by kernel_rfl) (by kernel_rfl) (fun _ _ _ h => h) (Or.inl ⟨by rfl, ?_⟩) hHeld ?_
        rotate_left
        · intro W hSw
          clear hSw
          go_simp
          try with_reducible rfl
        try simp only [Act.put, List.setIfInBounds_toArray, List.set_cons_zero, List.set_cons_succ]
        refine wpAnyH_take (i := 1) (oi := { dst := some 100, op := Op.move (Operand.tmp 18), type := 3, pos := "law.go:177", after := #[], guard := none }) (v := ?_) rfl (by kernel_rfl) (by kernel_rfl) (by kernel_rfl) (fun _ _ _ h => h) (Or.inl ⟨by rfl, ?_⟩) hHeld ?_
        rotate_left
        · intro W hSw
          clear hSw
          go_simp
          try with_reducible rfl
        try simp only [Act.put, List.setIfInBounds_toArray, List.set_cons_zero, List.set_cons_succ]
        refine wpAnyH_take (i := 2) (oi := { dst := some 101, op := Op.indexAddr 33 (Operand.tmp 99) (Operand.tmp 100), type := 0, pos := "law.go:177", after := #[{ on := 0, ground := Ground.data }, { on := 1, ground := Ground.data }], guard := none }) (v := ?_) rfl (by kernel_rfl) (by kernel_rfl) (by kernel_rfl) (fun _ _ _ h => h) (Or.inl ⟨by rfl, ?_⟩) hHeld ?_
        rotate_left
        · intro W hSw
          clear hSw
          go_simp
          try with_reducible rfl
        try simp only [Act.put, List.setIfInBounds_toArray, List.set_cons_zero, List.set_cons_succ]
        refine wpAnyH_take (i := 3) (oi := { dst := some 102, op := Op.load 3 (Operand.tmp 101), type := 3, pos := "law.go:177", after := #[{ on := 2, ground := Ground.data }], guard := none }) (v := ?_) rfl (by kernel_rfl) (by kernel_rfl) (by kernel_rfl) (fun _ _ _ h => h) (Or.inl ⟨by rfl, ?_⟩) hHeld ?_
        rotate_left
        · intro W hSw
          obtain ⟨cx, cy, a0, a1, b0, b1, ra, rb⟩ := Fc.out W hSw
          go_simp
          try with_reducible rfl
        try simp only [Act.put, List.setIfInBounds_toArray, List.set_cons_zero, List.set_cons_succ]
        refine wpAnyH_take (i := 4) (oi := { dst := some 103, op := Op.move (Operand.tmp 17), type := 33, pos := "law.go:177", after := #[], guard := none }) (v := ?_) rfl (by kernel_rfl) (by kernel_rfl) (by kernel_rfl) (fun _ _ _ h => h) (Or.inl ⟨by rfl, ?_⟩) hHeld ?_
        rotate_left
        · intro W hSw
          clear hSw
          go_simp
          try with_reducible rfl
        try simp only [Act.put, List.setIfInBounds_toArray, List.set_cons_zero, List.set_cons_succ]
        refine wpAnyH_take (i := 5) (oi := { dst := some 104, op := Op.move (Operand.tmp 18), type := 3, pos := "law.go:177", after := #[], guard := none }) (v := ?_) rfl (by kernel_rfl) (by kernel_rfl) (by kernel_rfl) (fun _ _ _ h => h) (Or.inl ⟨by rfl, ?_⟩) hHeld ?_
        rotate_left
        · intro W hSw
          clear hSw
          go_simp
          try with_reducible rfl
        try simp only [Act.put, List.setIfInBounds_toArray, List.set_cons_zero, List.set_cons_succ]
        refine wpAnyH_take (i := 6) (oi := { dst := some 105, op := Op.indexAddr 33 (Operand.tmp 103) (Operand.tmp 104), type := 0, pos := "law.go:177", after := #[{ on := 4, ground := Ground.data }, { on := 5, ground := Ground.data }], guard := none }) (v := ?_) rfl (by kernel_rfl) (by kernel_rfl) (by kernel_rfl) (fun _ _ _ h => h) (Or.inl ⟨by rfl, ?_⟩) hHeld ?_
        rotate_left
        · intro W hSw
          clear hSw
          go_simp
          try with_reducible rfl
        try simp only [Act.put, List.setIfInBounds_toArray, List.set_cons_zero, List.set_cons_succ]
        refine wpAnyH_take (i := 7) (oi := { dst := some 106, op := Op.load 3 (Operand.tmp 105), type := 3, pos := "law.go:177", after := #[{ on := 6, ground := Ground.data }], guard := none }) (v := ?_) rfl (by kernel_rfl) (by kernel_rfl) (by kernel_rfl) (fun _ _ _ h => h) (Or.inl ⟨by rfl, ?_⟩) hHeld ?_
        rotate_left
        · intro W hSw
          obtain ⟨cx, cy, a0, a1, b0, b1, ra, rb⟩ := Fc.out W hSw
          go_simp
          try with_reducible rfl
        try simp only [Act.put, List.setIfInBounds_toArray, List.set_cons_zero, List.set_cons_succ]
        refine wpAnyH_take (i := 8) (oi := { dst := some 107, op := Op.binOp BinOp.leq 3 (Operand.tmp 102) (Operand.tmp 106) 3, type := 4, pos := "law.go:177", after := #[{ on := 3, ground := Ground.data }, { on := 7, ground := Ground.data }], guard := none }) (v := ?_) rfl (by kernel_rfl) (by kernel_rfl) (by kernel_rfl) (fun _ _ _ h => h) (Or.inl ⟨by rfl, ?_⟩) hHeld ?_
        rotate_left
        · intro W hSw
          clear hSw
          go_simp
          try with_reducible rfl
        try simp only [Act.put, List.setIfInBounds_toArray, List.set_cons_zero, List.set_cons_succ]
        refine wpAnyH_take (i := 9) (oi := { dst := some 108, op := Op.move (Operand.tmp 107), type := 4, pos := "law.go:177", after := #[{ on := 8, ground := Ground.data }], guard := none }) (v := ?_) rfl (by kernel_rfl) (by kernel_rfl) (by kernel_rfl) (fun _ _ _ h => h) (Or.inl ⟨by rfl, ?_⟩) hHeld ?_
        rotate_left
        · intro W hSw
          clear hSw
          go_simp
          try with_reducible rfl
        try simp only [Act.put, List.setIfInBounds_toArray, List.set_cons_zero, List.set_cons_succ]
        refine wpAnyH_take (i := 10) (oi := { dst := some 109, op := Op.fieldAddr 42 (Operand.tmp 10) 1, type := 0, pos := "law.go:177", after := #[{ on := 9, ground := Ground.guard }], guard := some (9, true) }) (v := ?_) rfl (by kernel_rfl) (by kernel_rfl) (by kernel_rfl) (fun _ _ _ h => h) (Or.inl ⟨by rfl, ?_⟩) hHeld ?_
        rotate_left
        · intro W hSw
          clear hSw
          go_simp
          try with_reducible rfl
        try simp only [Act.put, List.setIfInBounds_toArray, List.set_cons_zero, List.set_cons_succ]
        refine wpAnyH_take (i := 11) (oi := { dst := some 110, op := Op.load 40 (Operand.tmp 109), type := 40, pos := "law.go:177", after := #[{ on := 10, ground := Ground.data }, { on := 9, ground := Ground.guard }], guard := some (9, true) }) (v := ?_) rfl (by kernel_rfl) (by kernel_rfl) (by kernel_rfl) (fun _ _ _ h => h) (Or.inl ⟨by rfl, ?_⟩) hHeld ?_
        rotate_left
        · intro W hSw
          obtain ⟨cx, cy, a0, a1, b0, b1, ra, rb⟩ := Fc.out W hSw
          go_simp
          try with_reducible rfl
        try simp only [Act.put, List.setIfInBounds_toArray, List.set_cons_zero, List.set_cons_succ]
        refine wpAnyH_take (i := 12) (oi := { dst := some 111, op := Op.move (Operand.tmp 18), type := 3, pos := "law.go:177", after := #[{ on := 9, ground := Ground.guard }], guard := some (9, true) }) (v := ?_) rfl (by kernel_rfl) (by kernel_rfl) (by kernel_rfl) (fun _ _ _ h => h) (Or.inl ⟨by rfl, ?_⟩) hHeld ?_
        rotate_left
        · intro W hSw
          clear hSw
          go_simp
          try with_reducible rfl
        try simp only [Act.put, List.setIfInBounds_toArray, List.set_cons_zero, List.set_cons_succ]
        refine wpAnyH_take (i := 13) (oi := { dst := some 112, op := Op.indexAddr 40 (Operand.tmp 110) (Operand.tmp 111), type := 0, pos := "law.go:177", after := #[{ on := 11, ground := Ground.data }, { on := 12, ground := Ground.data }, { on := 9, ground := Ground.guard }], guard := some (9, true) }) (v := ?_) rfl (by kernel_rfl) (by kernel_rfl) (by kernel_rfl) (fun _ _ _ h => h) (Or.inl ⟨by rfl, ?_⟩) hHeld ?_
        rotate_left
        · intro W hSw
          clear hSw
          go_simp
          try with_reducible rfl
        try simp only [Act.put, List.setIfInBounds_toArray, List.set_cons_zero, List.set_cons_succ]
        refine wpAnyH_take (i := 14) (oi := { dst := some 113, op := Op.load 26 (Operand.tmp 112), type := 26, pos := "law.go:177", after := #[{ on := 13, ground := Ground.data }, { on := 9, ground := Ground.guard }], guard := some (9, true) }) rfl (by kernel_rfl) (by kernel_rfl) (by kernel_rfl) (fun _ _ _ h => h) (yieldsIf_load_mid (by rfl) _ _ rfl ga _ rfl PA _ (fun W h => (Fc.out W h).2.2.2.2.2.2.1) Tryd.underlying26 rfl (by rw [HlA.out]; exact infoDg)) hHeld ?_
        try simp only [Act.put, List.setIfInBounds_toArray, List.set_cons_zero, List.set_cons_succ]
        refine wpAnyH_take (i := 15) (oi := { dst := some 114, op := Op.fieldAddr 42 (Operand.tmp 10) 0, type := 0, pos := "law.go:177", after := #[{ on := 9, ground := Ground.guard }], guard := some (9, true) }) (v := ?_) rfl (by kernel_rfl) (by kernel_rfl) (by kernel_rfl) (fun _ _ _ h => h) (Or.inl ⟨by rfl, ?_⟩) hHeld ?_
        rotate_left
        · intro W hSw
          clear hSw
          go_simp
          try with_reducible rfl
        try simp only [Act.put, List.setIfInBounds_toArray, List.set_cons_zero, List.set_cons_succ]
        refine wpAnyH_take (i := 16) (oi := { dst := some 115, op := Op.load 3 (Operand.tmp 114), type := 3, pos := "law.go:177", after := #[{ on := 15, ground := Ground.data }, { on := 9, ground := Ground.guard }], guard := some (9, true) }) (v := ?_) rfl (by kernel_rfl) (by kernel_rfl) (by kernel_rfl) (fun _ _ _ h => h) (Or.inl ⟨by rfl, ?_⟩) hHeld ?_
        rotate_left
        · intro W hSw
          obtain ⟨cx, cy, a0, a1, b0, b1, ra, rb⟩ := Fc.out W hSw
          go_simp
          try with_reducible rfl
        try simp only [Act.put, List.setIfInBounds_toArray, List.set_cons_zero, List.set_cons_succ]
        refine wpAnyH_take (i := 17) (oi := { dst := some 116, op := Op.move (Operand.tmp 18), type := 3, pos := "law.go:177", after := #[{ on := 9, ground := Ground.guard }], guard := some (9, true) }) (v := ?_) rfl (by kernel_rfl) (by kernel_rfl) (by kernel_rfl) (fun _ _ _ h => h) (Or.inl ⟨by rfl, ?_⟩) hHeld ?_
        rotate_left
        · intro W hSw
          clear hSw
          go_simp
          try with_reducible rfl
        try simp only [Act.put, List.setIfInBounds_toArray, List.set_cons_zero, List.set_cons_succ]
        refine wpAnyH_take (i := 18) (oi := { dst := some 117, op := Op.move (Operand.tmp 16), type := 33, pos := "law.go:177", after := #[{ on := 9, ground := Ground.guard }], guard := some (9, true) }) (v := ?_) rfl (by kernel_rfl) (by kernel_rfl) (by kernel_rfl) (fun _ _ _ h => h) (Or.inl ⟨by rfl, ?_⟩) hHeld ?_
        rotate_left
        · intro W hSw
          clear hSw
          go_simp
          try with_reducible rfl
        try simp only [Act.put, List.setIfInBounds_toArray, List.set_cons_zero, List.set_cons_succ]
        refine wpAnyH_take (i := 19) (oi := { dst := some 118, op := Op.move (Operand.tmp 18), type := 3, pos := "law.go:177", after := #[{ on := 9, ground := Ground.guard }], guard := some (9, true) }) (v := ?_) rfl (by kernel_rfl) (by kernel_rfl) (by kernel_rfl) (fun _ _ _ h => h) (Or.inl ⟨by rfl, ?_⟩) hHeld ?_
        rotate_left
        · intro W hSw
          clear hSw
          go_simp
          try with_reducible rfl
        try simp only [Act.put, List.setIfInBounds_toArray, List.set_cons_zero, List.set_cons_succ]
        refine wpAnyH_take (i := 20) (oi := { dst := some 119, op := Op.indexAddr 33 (Operand.tmp 117) (Operand.tmp 118), type := 0, pos := "law.go:177", after := #[{ on := 18, ground := Ground.data }, { on := 19, ground := Ground.data }, { on := 9, ground := Ground.guard }], guard := some (9, true) }) (v := ?_) rfl (by kernel_rfl) (by kernel_rfl) (by kernel_rfl) (fun _ _ _ h => h) (Or.inl ⟨by rfl, ?_⟩) hHeld ?_
        rotate_left
        · intro W hSw
          clear hSw
          go_simp
          try with_reducible rfl
        try simp only [Act.put, List.setIfInBounds_toArray, List.set_cons_zero, List.set_cons_succ]
        refine wpAnyH_take (i := 21) (oi := { dst := some 120, op := Op.load 3 (Operand.tmp 119), type := 3, pos := "law.go:177", after := #[{ on := 20, ground := Ground.data }, { on := 9, ground := Ground.guard }], guard := some (9, true) }) (v := ?_) rfl (by kernel_rfl) (by kernel_rfl) (by kernel_rfl) (fun _ _ _ h => h) (Or.inl ⟨by rfl, ?_⟩) hHeld ?_
        rotate_left
        · intro W hSw
          obtain ⟨cx, cy, a0, a1, b0, b1, ra, rb⟩ := Fc.out W hSw
          go_simp
          try with_reducible rfl
        try simp only [Act.put, List.setIfInBounds_toArray, List.set_cons_zero, List.set_cons_succ]
        refine wpAnyH_take (i := 22) (oi := { dst := some 121, op := Op.move (Operand.tmp 17), type := 33, pos := "law.go:177", after := #[{ on := 9, ground := Ground.guard }], guard := some (9, true) }) (v := ?_) rfl (by kernel_rfl) (by kernel_rfl) (by kernel_rfl) (fun _ _ _ h => h) (Or.inl ⟨by rfl, ?_⟩) hHeld ?_
        rotate_left
        · intro W hSw
          clear hSw
          go_simp
          try with_reducible rfl
        try simp only [Act.put, List.setIfInBounds_toArray, List.set_cons_zero, List.set_cons_succ]
        refine wpAnyH_take (i := 23) (oi := { dst := some 122, op := Op.move (Operand.tmp 18), type := 3, pos := "law.go:177", after := #[{ on := 9, ground := Ground.guard }], guard := some (9, true) }) (v := ?_) rfl (by kernel_rfl) (by kernel_rfl) (by kernel_rfl) (fun _ _ _ h => h) (Or.inl ⟨by rfl, ?_⟩) hHeld ?_
        rotate_left
        · intro W hSw
          clear hSw
          go_simp
          try with_reducible rfl
        try simp only [Act.put, List.setIfInBounds_toArray, List.set_cons_zero, List.set_cons_succ]
        refine wpAnyH_take (i := 24) (oi := { dst := some 123, op := Op.indexAddr 33 (Operand.tmp 121) (Operand.tmp 122), type := 0, pos := "law.go:177", after := #[{ on := 22, ground := Ground.data }, { on := 23, ground := Ground.data }, { on := 9, ground := Ground.guard }], guard := some (9, true) }) (v := ?_) rfl (by kernel_rfl) (by kernel_rfl) (by kernel_rfl) (fun _ _ _ h => h) (Or.inl ⟨by rfl, ?_⟩) hHeld ?_
        rotate_left
        · intro W hSw
          clear hSw
          go_simp
          try with_reducible rfl
        try simp only [Act.put, List.setIfInBounds_toArray, List.set_cons_zero, List.set_cons_succ]
        refine wpAnyH_take (i := 25) (oi := { dst := some 124, op := Op.load 3 (Operand.tmp 123), type := 3, pos := "law.go:177", after := #[{ on := 24, ground := Ground.data }, { on := 9, ground := Ground.guard }], guard := some (9, true) }) (v := ?_) rfl (by kernel_rfl) (by kernel_rfl) (by kernel_rfl) (fun _ _ _ h => h) (Or.inl ⟨by rfl, ?_⟩) hHeld ?_
        rotate_left
        · intro W hSw
          obtain ⟨cx, cy, a0, a1, b0, b1, ra, rb⟩ := Fc.out W hSw
          go_simp
          try with_reducible rfl
        try simp only [Act.put, List.setIfInBounds_toArray, List.set_cons_zero, List.set_cons_succ]
        refine wpAnyH_take (i := 27) (oi := { dst := some 126, op := Op.fieldAddr 42 (Operand.tmp 13) 1, type := 0, pos := "law.go:177", after := #[{ on := 9, ground := Ground.guard }], guard := some (9, true) }) (v := ?_) rfl (by kernel_rfl) (by kernel_rfl) (by kernel_rfl) (fun _ _ _ h => h) (Or.inl ⟨by rfl, ?_⟩) hHeld ?_
        rotate_left
        · intro W hSw
          clear hSw
          go_simp
          try with_reducible rfl
        try simp only [Act.put, List.setIfInBounds_toArray, List.set_cons_zero, List.set_cons_succ]
        refine wpAnyH_take (i := 28) (oi := { dst := some 127, op := Op.load 40 (Operand.tmp 126), type := 40, pos := "law.go:177", after := #[{ on := 27, ground := Ground.data }, { on := 9, ground := Ground.guard }], guard := some (9, true) }) (v := ?_) rfl (by kernel_rfl) (by kernel_rfl) (by kernel_rfl) (fun _ _ _ h => h) (Or.inl ⟨by rfl, ?_⟩) hHeld ?_
        rotate_left
        · intro W hSw
          obtain ⟨cx, cy, a0, a1, b0, b1, ra, rb⟩ := Fc.out W hSw
          go_simp
          try with_reducible rfl
        try simp only [Act.put, List.setIfInBounds_toArray, List.set_cons_zero, List.set_cons_succ]
        refine wpAnyH_take (i := 29) (oi := { dst := some 128, op := Op.move (Operand.tmp 18), type := 3, pos := "law.go:177", after := #[{ on := 9, ground := Ground.guard }], guard := some (9, true) }) (v := ?_) rfl (by kernel_rfl) (by kernel_rfl) (by kernel_rfl) (fun _ _ _ h => h) (Or.inl ⟨by rfl, ?_⟩) hHeld ?_
        rotate_left
        · intro W hSw
          clear hSw
          go_simp
          try with_reducible rfl
        try simp only [Act.put, List.setIfInBounds_toArray, List.set_cons_zero, List.set_cons_succ]
        refine wpAnyH_take (i := 30) (oi := { dst := some 129, op := Op.indexAddr 40 (Operand.tmp 127) (Operand.tmp 128), type := 0, pos := "law.go:177", after := #[{ on := 28, ground := Ground.data }, { on := 29, ground := Ground.data }, { on := 9, ground := Ground.guard }], guard := some (9, true) }) (v := ?_) rfl (by kernel_rfl) (by kernel_rfl) (by kernel_rfl) (fun _ _ _ h => h) (Or.inl ⟨by rfl, ?_⟩) hHeld ?_
        rotate_left
        · intro W hSw
          clear hSw
          go_simp
          try with_reducible rfl
        try simp only [Act.put, List.setIfInBounds_toArray, List.set_cons_zero, List.set_cons_succ]
        refine wpAnyH_take (i := 31) (oi := { dst := some 130, op := Op.load 26 (Operand.tmp 129), type := 26, pos := "law.go:177", after := #[{ on := 30, ground := Ground.data }, { on := 9, ground := Ground.guard }], guard := some (9, true) }) rfl (by kernel_rfl) (by kernel_rfl) (by kernel_rfl) (fun _ _ _ h => h) (yieldsIf_load_mid (by rfl) _ _ rfl gb _ rfl PB _ (fun W h => (Fc.out W h).2.2.2.2.2.2.2) Tryd.underlying26 rfl (by rw [HlB.out]; exact infoDg)) hHeld ?_
        try simp only [Act.put, List.setIfInBounds_toArray, List.set_cons_zero, List.set_cons_succ]
        refine wpAnyH_ready (rs := [26]) (by kernel_rfl) (by simp) ?_
        refine AllReadyH.cons (o := { dst := some 125, op := Op.call { callee := Callee.value (Operand.func 29), args := #[Operand.tmp 113, Operand.tmp 115, Operand.tmp 116, Operand.tmp 120, Operand.tmp 124], argTypes := #[26, 3, 3, 3, 3] }, type := 26, pos := "law.go:177", after := #[{ on := 14, ground := Ground.data }, { on := 16, ground := Ground.data }, { on := 17, ground := Ground.data }, { on := 21, ground := Ground.data }, { on := 25, ground := Ground.data }, { on := 9, ground := Ground.chain }, { on := 9, ground := Ground.guard }], guard := some (9, true) }) rfl (fun K hK => ?_) AllReadyH.nil
        go_simp
        go_at_call 29
        refine (HCak.out J1.out _ (Hb11.out.trans (hHeld.mono Hb11.out.size))).mono ?_
        rintro e w12 ⟨rfl, hb12⟩
        have heq12 := heB.out
        simp only [decide_true] at heq12
        have hH12 : Below w11.heap.size w11 w12 := hHeld.trans (hb12.mono hHeld.size)
        refine hK.out _ _ hH12 (fun hHeld => ?_)
        clear hK K
        try simp only [Act.put, List.setIfInBounds_toArray, List.set_cons_zero, List.set_cons_succ]
        refine wpAnyH_take (i := 32) (oi := { dst := some 131, op := Op.binOp BinOp.neq 26 (Operand.tmp 125) (Operand.tmp 130) 26, type := 4, pos := "law.go:177", after := #[{ on := 26, ground := Ground.data }, { on := 31, ground := Ground.data }, { on := 9, ground := Ground.guard }], guard := some (9, true) }) (v := ?_) rfl (by kernel_rfl) (by kernel_rfl) (by kernel_rfl) (fun _ _ _ h => h) (Or.inl ⟨by rfl, ?_⟩) hHeld ?_
        rotate_left
        · intro W hSw
          clear hSw
          go_simp
          try with_reducible rfl
        try simp only [Act.put, List.setIfInBounds_toArray, List.set_cons_zero, List.set_cons_succ]
        refine wpAnyH_take (i := 33) (oi := { dst := some 132, op := Op.pick (Operand.tmp 108) (Operand.tmp 131) (Operand.const (Value.bool false)), type := 4, pos := "law.go:177", after := #[{ on := 9, ground := Ground.data }, { on := 32, ground := Ground.data }], guard := none }) (v := ?_) rfl (by kernel_rfl) (by kernel_rfl) (by kernel_rfl) (fun _ _ _ h => h) (Or.inl ⟨by rfl, ?_⟩) hHeld ?_
        rotate_left
        · intro W hSw
          clear hSw
          go_simp
          try with_reducible rfl
        try simp only [Act.put, List.setIfInBounds_toArray, List.set_cons_zero, List.set_cons_succ]
        refine wpAnyH_take (i := 34) (oi := { dst := some 133, op := Op.move (Operand.tmp 132), type := 4, pos := "law.go:177", after := #[{ on := 33, ground := Ground.data }, { on := 26, ground := Ground.chain }], guard := none }) (v := ?_) rfl (by kernel_rfl) (by kernel_rfl) (by kernel_rfl) (fun _ _ _ h => h) (Or.inl ⟨by rfl, ?_⟩) hHeld ?_
        rotate_left
        · intro W hSw
          clear hSw
          go_simp
          try with_reducible rfl
        try simp only [Act.put, List.setIfInBounds_toArray, List.set_cons_zero, List.set_cons_succ]
        refine wpAnyH_take (i := 35) (oi := { dst := some 134, op := Op.move (Operand.tmp 17), type := 33, pos := "law.go:177", after := #[{ on := 34, ground := Ground.guard }], guard := some (34, false) }) (v := ?_) rfl (by kernel_rfl) (by kernel_rfl) (by kernel_rfl) (fun _ _ _ h => h) (Or.inl ⟨by rfl, ?_⟩) hHeld ?_
        rotate_left
        · intro W hSw
          clear hSw
          go_simp
          try with_reducible rfl
        try simp only [Act.put, List.setIfInBounds_toArray, List.set_cons_zero, List.set_cons_succ]
        refine wpAnyH_take (i := 36) (oi := { dst := some 135, op := Op.move (Operand.tmp 18), type := 3, pos := "law.go:177", after := #[{ on := 34, ground := Ground.guard }], guard := some (34, false) }) (v := ?_) rfl (by kernel_rfl) (by kernel_rfl) (by kernel_rfl) (fun _ _ _ h => h) (Or.inl ⟨by rfl, ?_⟩) hHeld ?_
        rotate_left
        · intro W hSw
          clear hSw
          go_simp
          try with_reducible rfl
        try simp only [Act.put, List.setIfInBounds_toArray, List.set_cons_zero, List.set_cons_succ]
        refine wpAnyH_take (i := 37) (oi := { dst := some 136, op := Op.indexAddr 33 (Operand.tmp 134) (Operand.tmp 135), type := 0, pos := "law.go:177", after := #[{ on := 35, ground := Ground.data }, { on := 36, ground := Ground.data }, { on := 34, ground := Ground.guard }], guard := some (34, false) }) (v := ?_) rfl (by kernel_rfl) (by kernel_rfl) (by kernel_rfl) (fun _ _ _ h => h) (Or.inl ⟨by rfl, ?_⟩) hHeld ?_
        rotate_left
        · intro W hSw
          clear hSw
          go_simp
          try with_reducible rfl
        try simp only [Act.put, List.setIfInBounds_toArray, List.set_cons_zero, List.set_cons_succ]
        refine wpAnyH_take (i := 38) (oi := { dst := some 137, op := Op.load 3 (Operand.tmp 136), type := 3, pos := "law.go:177", after := #[{ on := 37, ground := Ground.data }, { on := 34, ground := Ground.guard }], guard := some (34, false) }) (v := ?_) rfl (by kernel_rfl) (by kernel_rfl) (by kernel_rfl) (fun _ _ _ h => h) (Or.inl ⟨by rfl, ?_⟩) hHeld ?_
        rotate_left
        · intro W hSw
          obtain ⟨cx, cy, a0, a1, b0, b1, ra, rb⟩ := Fc.out W hSw
          go_simp
          try with_reducible rfl
        try simp only [Act.put, List.setIfInBounds_toArray, List.set_cons_zero, List.set_cons_succ]
        refine wpAnyH_take (i := 39) (oi := { dst := some 138, op := Op.move (Operand.tmp 16), type := 33, pos := "law.go:177", after := #[{ on := 34, ground := Ground.guard }], guard := some (34, false) }) (v := ?_) rfl (by kernel_rfl) (by kernel_rfl) (by kernel_rfl) (fun _ _ _ h => h) (Or.inl ⟨by rfl, ?_⟩) hHeld ?_
        rotate_left
        · intro W hSw
          clear hSw
          go_simp
          try with_reducible rfl
        try simp only [Act.put, List.setIfInBounds_toArray, List.set_cons_zero, List.set_cons_succ]
        refine wpAnyH_take (i := 40) (oi := { dst := some 139, op := Op.move (Operand.tmp 18), type := 3, pos := "law.go:177", after := #[{ on := 34, ground := Ground.guard }], guard := some (34, false) }) (v := ?_) rfl (by kernel_rfl) (by kernel_rfl) (by kernel_rfl) (fun _ _ _ h => h) (Or.inl ⟨by rfl, ?_⟩) hHeld ?_
        rotate_left
        · intro W hSw
          clear hSw
          go_simp
          try with_reducible rfl
        try simp only [Act.put, List.setIfInBounds_toArray, List.set_cons_zero, List.set_cons_succ]
        refine wpAnyH_take (i := 41) (oi := { dst := some 140, op := Op.indexAddr 33 (Operand.tmp 138) (Operand.tmp 139), type := 0, pos := "law.go:177", after := #[{ on := 39, ground := Ground.data }, { on := 40, ground := Ground.data }, { on := 34, ground := Ground.guard }], guard := some (34, false) }) (v := ?_) rfl (by kernel_rfl) (by kernel_rfl) (by kernel_rfl) (fun _ _ _ h => h) (Or.inl ⟨by rfl, ?_⟩) hHeld ?_
        rotate_left
        · intro W hSw
          clear hSw
          go_simp
          try with_reducible rfl
        try simp only [Act.put, List.setIfInBounds_toArray, List.set_cons_zero, List.set_cons_succ]
        refine wpAnyH_take (i := 42) (oi := { dst := some 141, op := Op.load 3 (Operand.tmp 140), type := 3, pos := "law.go:177", after := #[{ on := 41, ground := Ground.data }, { on := 34, ground := Ground.guard }], guard := some (34, false) }) (v := ?_) rfl (by kernel_rfl) (by kernel_rfl) (by kernel_rfl) (fun _ _ _ h => h) (Or.inl ⟨by rfl, ?_⟩) hHeld ?_
        rotate_left
        · intro W hSw
          obtain ⟨cx, cy, a0, a1, b0, b1, ra, rb⟩ := Fc.out W hSw
          go_simp
          try with_reducible rfl
        try simp only [Act.put, List.setIfInBounds_toArray, List.set_cons_zero, List.set_cons_succ]
        refine wpAnyH_take (i := 43) (oi := { dst := some 142, op := Op.binOp BinOp.leq 3 (Operand.tmp 137) (Operand.tmp 141) 3, type := 4, pos := "law.go:177", after := #[{ on := 38, ground := Ground.data }, { on := 42, ground := Ground.data }, { on := 34, ground := Ground.guard }], guard := some (34, false) }) (v := ?_) rfl (by kernel_rfl) (by kernel_rfl) (by kernel_rfl) (fun _ _ _ h => h) (Or.inl ⟨by rfl, ?_⟩) hHeld ?_
        rotate_left
        · intro W hSw
          clear hSw
          go_simp
          try with_reducible rfl
        try simp only [Act.put, List.setIfInBounds_toArray, List.set_cons_zero, List.set_cons_succ]
        refine wpAnyH_take (i := 44) (oi := { dst := some 143, op := Op.move (Operand.tmp 142), type := 4, pos := "law.go:177", after := #[{ on := 43, ground := Ground.data }, { on := 34, ground := Ground.chain }, { on := 34, ground := Ground.guard }], guard := some (34, false) }) (v := ?_) rfl (by kernel_rfl) (by kernel_rfl) (by kernel_rfl) (fun _ _ _ h => h) (Or.inl ⟨by rfl, ?_⟩) hHeld ?_
        rotate_left
        · intro W hSw
          clear hSw
          go_simp
          try with_reducible rfl
        try simp only [Act.put, List.setIfInBounds_toArray, List.set_cons_zero, List.set_cons_succ]
        refine wpAnyH_take (i := 45) (oi := { dst := some 144, op := Op.fieldAddr 42 (Operand.tmp 13) 1, type := 0, pos := "law.go:177", after := #[{ on := 44, ground := Ground.guard }], guard := some (44, true) }) (v := undef) rfl (by kernel_rfl) (by kernel_rfl) (by kernel_rfl) (fun _ _ _ h => h) (Or.inr ⟨by rfl, rfl⟩) hHeld ?_
        try simp only [Act.put, List.setIfInBounds_toArray, List.set_cons_zero, List.set_cons_succ]
        refine wpAnyH_take (i := 46) (oi := { dst := some 145, op := Op.load 40 (Operand.tmp 144), type := 40, pos := "law.go:177", after := #[{ on := 45, ground := Ground.data }, { on := 44, ground := Ground.guard }], guard := some (44, true) }) (v := undef) rfl (by kernel_rfl) (by kernel_rfl) (by kernel_rfl) (fun _ _ _ h => h) (Or.inr ⟨by rfl, rfl⟩) hHeld ?_
        try simp only [Act.put, List.setIfInBounds_toArray, List.set_cons_zero, List.set_cons_succ]
        refine wpAnyH_take (i := 47) (oi := { dst := some 146, op := Op.move (Operand.tmp 18), type := 3, pos := "law.go:177", after := #[{ on := 44, ground := Ground.guard }], guard := some (44, true) }) (v := undef) rfl (by kernel_rfl) (by kernel_rfl) (by kernel_rfl) (fun _ _ _ h => h) (Or.inr ⟨by rfl, rfl⟩) hHeld ?_
        try simp only [Act.put, List.setIfInBounds_toArray, List.set_cons_zero, List.set_cons_succ]
        refine wpAnyH_take (i := 48) (oi := { dst := some 147, op := Op.indexAddr 40 (Operand.tmp 145) (Operand.tmp 146), type := 0, pos := "law.go:177", after := #[{ on := 46, ground := Ground.data }, { on := 47, ground := Ground.data }, { on := 44, ground := Ground.guard }], guard := some (44, true) }) (v := undef) rfl (by kernel_rfl) (by kernel_rfl) (by kernel_rfl) (fun _ _ _ h => h) (Or.inr ⟨by rfl, rfl⟩) hHeld ?_
        try simp only [Act.put, List.setIfInBounds_toArray, List.set_cons_zero, List.set_cons_succ]
        refine wpAnyH_take (i := 49) (oi := { dst := some 148, op := Op.load 26 (Operand.tmp 147), type := 26, pos := "law.go:177", after := #[{ on := 48, ground := Ground.data }, { on := 44, ground := Ground.guard }], guard := some (44, true) }) (v := undef) rfl (by kernel_rfl) (by kernel_rfl) (by kernel_rfl) (fun _ _ _ h => h) (Or.inr ⟨by rfl, rfl⟩) hHeld ?_
        try simp only [Act.put, List.setIfInBounds_toArray, List.set_cons_zero, List.set_cons_succ]
        refine wpAnyH_take (i := 50) (oi := { dst := some 149, op := Op.fieldAddr 42 (Operand.tmp 10) 0, type := 0, pos := "law.go:177", after := #[{ on := 44, ground := Ground.guard }], guard := some (44, true) }) (v := undef) rfl (by kernel_rfl) (by kernel_rfl) (by kernel_rfl) (fun _ _ _ h => h) (Or.inr ⟨by rfl, rfl⟩) hHeld ?_
        try simp only [Act.put, List.setIfInBounds_toArray, List.set_cons_zero, List.set_cons_succ]
        refine wpAnyH_take (i := 51) (oi := { dst := some 150, op := Op.load 3 (Operand.tmp 149), type := 3, pos := "law.go:177", after := #[{ on := 50, ground := Ground.data }, { on := 44, ground := Ground.guard }], guard := some (44, true) }) (v := undef) rfl (by kernel_rfl) (by kernel_rfl) (by kernel_rfl) (fun _ _ _ h => h) (Or.inr ⟨by rfl, rfl⟩) hHeld ?_
        try simp only [Act.put, List.setIfInBounds_toArray, List.set_cons_zero, List.set_cons_succ]
        refine wpAnyH_take (i := 52) (oi := { dst := some 151, op := Op.move (Operand.tmp 18), type := 3, pos := "law.go:177", after := #[{ on := 44, ground := Ground.guard }], guard := some (44, true) }) (v := undef) rfl (by kernel_rfl) (by kernel_rfl) (by kernel_rfl) (fun _ _ _ h => h) (Or.inr ⟨by rfl, rfl⟩) hHeld ?_
        try simp only [Act.put, List.setIfInBounds_toArray, List.set_cons_zero, List.set_cons_succ]
        refine wpAnyH_take (i := 53) (oi := { dst := some 152, op := Op.move (Operand.tmp 17), type := 33, pos := "law.go:177", after := #[{ on := 44, ground := Ground.guard }], guard := some (44, true) }) (v := undef) rfl (by kernel_rfl) (by kernel_rfl) (by kernel_rfl) (fun _ _ _ h => h) (Or.inr ⟨by rfl, rfl⟩) hHeld ?_
        try simp only [Act.put, List.setIfInBounds_toArray, List.set_cons_zero, List.set_cons_succ]
        refine wpAnyH_take (i := 54) (oi := { dst := some 153, op := Op.move (Operand.tmp 18), type := 3, pos := "law.go:177", after := #[{ on := 44, ground := Ground.guard }], guard := some (44, true) }) (v := undef) rfl (by kernel_rfl) (by kernel_rfl) (by kernel_rfl) (fun _ _ _ h => h) (Or.inr ⟨by rfl, rfl⟩) hHeld ?_
        try simp only [Act.put, List.setIfInBounds_toArray, List.set_cons_zero, List.set_cons_succ]
        refine wpAnyH_take (i := 55) (oi := { dst := some 154, op := Op.indexAddr 33 (Operand.tmp 152) (Operand.tmp 153), type := 0, pos := "law.go:177", after := #[{ on := 53, ground := Ground.data }, { on := 54, ground := Ground.data }, { on := 44, ground := Ground.guard }], guard := some (44, true) }) (v := undef) rfl (by kernel_rfl) (by kernel_rfl) (by kernel_rfl) (fun _ _ _ h => h) (Or.inr ⟨by rfl, rfl⟩) hHeld ?_
        try simp only [Act.put, List.setIfInBounds_toArray, List.set_cons_zero, List.set_cons_succ]
        refine wpAnyH_take (i := 56) (oi := { dst := some 155, op := Op.load 3 (Operand.tmp 154), type := 3, pos := "law.go:177", after := #[{ on := 55, ground := Ground.data }, { on := 44, ground := Ground.guard }], guard := some (44, true) }) (v := undef) rfl (by kernel_rfl) (by kernel_rfl) (by kernel_rfl) (fun _ _ _ h => h) (Or.inr ⟨by rfl, rfl⟩) hHeld ?_
        try simp only [Act.put, List.setIfInBounds_toArray, List.set_cons_zero, List.set_cons_succ]
        refine wpAnyH_take (i := 57) (oi := { dst := some 156, op := Op.move (Operand.tmp 16), type := 33, pos := "law.go:177", after := #[{ on := 44, ground := Ground.guard }], guard := some (44, true) }) (v := undef) rfl (by kernel_rfl) (by kernel_rfl) (by kernel_rfl) (fun _ _ _ h => h) (Or.inr ⟨by rfl, rfl⟩) hHeld ?_
        try simp only [Act.put, List.setIfInBounds_toArray, List.set_cons_zero, List.set_cons_succ]
        refine wpAnyH_take (i := 58) (oi := { dst := some 157, op := Op.move (Operand.tmp 18), type := 3, pos := "law.go:177", after := #[{ on := 44, ground := Ground.guard }], guard := some (44, true) }) (v := undef) rfl (by kernel_rfl) (by kernel_rfl) (by kernel_rfl) (fun _ _ _ h => h) (Or.inr ⟨by rfl, rfl⟩) hHeld ?_
        try simp only [Act.put, List.setIfInBounds_toArray, List.set_cons_zero, List.set_cons_succ]
        refine wpAnyH_take (i := 59) (oi := { dst := some 158, op := Op.indexAddr 33 (Operand.tmp 156) (Operand.tmp 157), type := 0, pos := "law.go:177", after := #[{ on := 57, ground := Ground.data }, { on := 58, ground := Ground.data }, { on := 44, ground := Ground.guard }], guard := some (44, true) }) (v := undef) rfl (by kernel_rfl) (by kernel_rfl) (by kernel_rfl) (fun _ _ _ h => h) (Or.inr ⟨by rfl, rfl⟩) hHeld ?_
        try simp only [Act.put, List.setIfInBounds_toArray, List.set_cons_zero, List.set_cons_succ]
        refine wpAnyH_take (i := 60) (oi := { dst := some 159, op := Op.load 3 (Operand.tmp 158), type := 3, pos := "law.go:177", after := #[{ on := 59, ground := Ground.data }, { on := 44, ground := Ground.guard }], guard := some (44, true) }) (v := undef) rfl (by kernel_rfl) (by kernel_rfl) (by kernel_rfl) (fun _ _ _ h => h) (Or.inr ⟨by rfl, rfl⟩) hHeld ?_
        try simp only [Act.put, List.setIfInBounds_toArray, List.set_cons_zero, List.set_cons_succ]
        refine wpAnyH_take (i := 62) (oi := { dst := some 161, op := Op.fieldAddr 42 (Operand.tmp 10) 1, type := 0, pos := "law.go:177", after := #[{ on := 44, ground := Ground.guard }], guard := some (44, true) }) (v := undef) rfl (by kernel_rfl) (by kernel_rfl) (by kernel_rfl) (fun _ _ _ h => h) (Or.inr ⟨by rfl, rfl⟩) hHeld ?_
        try simp only [Act.put, List.setIfInBounds_toArray, List.set_cons_zero, List.set_cons_succ]
        refine wpAnyH_take (i := 63) (oi := { dst := some 162, op := Op.load 40 (Operand.tmp 161), type := 40, pos := "law.go:177", after := #[{ on := 62, ground := Ground.data }, { on := 44, ground := Ground.guard }], guard := some (44, true) }) (v := undef) rfl (by kernel_rfl) (by kernel_rfl) (by kernel_rfl) (fun _ _ _ h => h) (Or.inr ⟨by rfl, rfl⟩) hHeld ?_
        try simp only [Act.put, List.setIfInBounds_toArray, List.set_cons_zero, List.set_cons_succ]
        refine wpAnyH_take (i := 64) (oi := { dst := some 163, op := Op.move (Operand.tmp 18), type := 3, pos := "law.go:177", after := #[{ on := 44, ground := Ground.guard }], guard := some (44, true) }) (v := undef) rfl (by kernel_rfl) (by kernel_rfl) (by kernel_rfl) (fun _ _ _ h => h) (Or.inr ⟨by rfl, rfl⟩) hHeld ?_
        try simp only [Act.put, List.setIfInBounds_toArray, List.set_cons_zero, List.set_cons_succ]
        refine wpAnyH_take (i := 65) (oi := { dst := some 164, op := Op.indexAddr 40 (Operand.tmp 162) (Operand.tmp 163), type := 0, pos := "law.go:177", after := #[{ on := 63, ground := Ground.data }, { on := 64, ground := Ground.data }, { on := 44, ground := Ground.guard }], guard := some (44, true) }) (v := undef) rfl (by kernel_rfl) (by kernel_rfl) (by kernel_rfl) (fun _ _ _ h => h) (Or.inr ⟨by rfl, rfl⟩) hHeld ?_
        try simp only [Act.put, List.setIfInBounds_toArray, List.set_cons_zero, List.set_cons_succ]
        refine wpAnyH_take (i := 66) (oi := { dst := some 165, op := Op.load 26 (Operand.tmp 164), type := 26, pos := "law.go:177", after := #[{ on := 65, ground := Ground.data }, { on := 44, ground := Ground.guard }], guard := some (44, true) }) (v := undef) rfl (by kernel_rfl) (by kernel_rfl) (by kernel_rfl) (fun _ _ _ h => h) (Or.inr ⟨by rfl, rfl⟩) hHeld ?_
        try simp only [Act.put, List.setIfInBounds_toArray, List.set_cons_zero, List.set_cons_succ]
        refine wpAnyH_take (i := 61) (oi := { dst := some 160, op := Op.call { callee := Callee.value (Operand.func 29), args := #[Operand.tmp 148, Operand.tmp 150, Operand.tmp 151, Operand.tmp 155, Operand.tmp 159], argTypes := #[26, 3, 3, 3, 3] }, type := 26, pos := "law.go:177", after := #[{ on := 49, ground := Ground.data }, { on := 51, ground := Ground.data }, { on := 52, ground := Ground.data }, { on := 56, ground := Ground.data }, { on := 60, ground := Ground.data }, { on := 44, ground := Ground.chain }, { on := 44, ground := Ground.guard }], guard := some (44, true) }) (v := undef) rfl (by kernel_rfl) (by kernel_rfl) (by kernel_rfl) (fun _ _ _ h => h) (Or.inr ⟨by rfl, rfl⟩) hHeld ?_
        try simp only [Act.put, List.setIfInBounds_toArray, List.set_cons_zero, List.set_cons_succ]
        refine wpAnyH_take (i := 67) (oi := { dst := some 166, op := Op.binOp BinOp.neq 26 (Operand.tmp 160) (Operand.tmp 165) 26, type := 4, pos := "law.go:177", after := #[{ on := 61, ground := Ground.data }, { on := 66, ground := Ground.data }, { on := 44, ground := Ground.guard }], guard := some (44, true) }) (v := undef) rfl (by kernel_rfl) (by kernel_rfl) (by kernel_rfl) (fun _ _ _ h => h) (Or.inr ⟨by rfl, rfl⟩) hHeld ?_
        try simp only [Act.put, List.setIfInBounds_toArray, List.set_cons_zero, List.set_cons_succ]
        refine wpAnyH_take (i := 68) (oi := { dst := some 167, op := Op.pick (Operand.tmp 143) (Operand.tmp 166) (Operand.const (Value.bool false)), type := 4, pos := "law.go:177", after := #[{ on := 44, ground := Ground.data }, { on := 67, ground := Ground.data }, { on := 34, ground := Ground.guard }], guard := some (34, false) }) (v := ?_) rfl (by kernel_rfl) (by kernel_rfl) (by kernel_rfl) (fun _ _ _ h => h) (Or.inl ⟨by rfl, ?_⟩) hHeld ?_
        rotate_left
        · intro W hSw
          clear hSw
          go_simp
          try with_reducible rfl
        try simp only [Act.put, List.setIfInBounds_toArray, List.set_cons_zero, List.set_cons_succ]
        refine wpAnyH_take (i := 69) (oi := { dst := some 168, op := Op.pick (Operand.tmp 133) (Operand.const (Value.bool true)) (Operand.tmp 167), type := 4, pos := "law.go:177", after := #[{ on := 34, ground := Ground.data }, { on := 68, ground := Ground.data }], guard := none }) (v := ?_) rfl (by kernel_rfl) (by kernel_rfl) (by kernel_rfl) (fun _ _ _ h => h) (Or.inl ⟨by rfl, ?_⟩) hHeld ?_
        rotate_left
        · intro W hSw
          clear hSw
          go_simp
          try with_reducible rfl
        try simp only [Act.put, List.setIfInBounds_toArray, List.set_cons_zero, List.set_cons_succ]
        refine wpAnyH_done (by kernel_rfl) ?_ _
        go_wp2_with fail
        go_roundw
        case rel => exact ⟨k + 1, by omega, by go_num, hHeld⟩
        case measure => simp [intOf]; omega
      · have j1 : (x : Int) ≤ (y : Int) := (by omega); have J1 := Lib.hid (show x ≤ y by omega)
        have j2 : (y : Int) ≤ (x : Int) := (by omega); have J2 := Lib.hid (show y ≤ x by omega)
        clear h
        refine wp_region_held_drew (S := fun w' => Below w11.heap.size w11 w') (by kernel_rfl) (Hbr.out.drew) (fun hHeld => ?_)
        refine wpAnyH_take (i := 0) (oi := { dst := some 99, op := Op.move (Operand.tmp 16), type := 33, pos := "law.go:177", after := #[], guard := none }) (v := ?_) rfl (by kernel_rfl) (by kernel_rfl) (by kernel_rfl) (fun _ _ _ h => h) (Or.inl ⟨by rfl, ?_⟩) hHeld ?_
        rotate_left
        · intro W hSw
          clear hSw
          go_simp
          try with_reducible rfl
        try simp only [Act.put, List.setIfInBounds_toArray, List.set_cons_zero, List.set_cons_succ]
        refine wpAnyH_take (i := 1) (oi := { dst := some 100, op := Op.move (Operand.tmp 18), type := 3, pos := "law.go:177", after := #[], guard := none }) (v := ?_) rfl (by kernel_rfl) (by kernel_rfl) (by kernel_rfl) (fun _ _ _ h => h) (Or.inl ⟨by rfl, ?_⟩) hHeld ?_
        rotate_left
        · intro W hSw
          clear hSw
          go_simp
          try with_reducible rfl
        try simp only [Act.put, List.setIfInBounds_toArray, List.set_cons_zero, List.set_cons_succ]
        refine wpAnyH_take (i := 2) (oi := { dst := some 101, op := Op.indexAddr 33 (Operand.tmp 99) (Operand.tmp 100), type := 0, pos := "law.go:177", after := #[{ on := 0, ground := Ground.data }, { on := 1, ground := Ground.data }], guard := none }) (v := ?_) rfl (by kernel_rfl) (by kernel_rfl) (by kernel_rfl) (fun _ _ _ h => h) (Or.inl ⟨by rfl, ?_⟩) hHeld ?_
        rotate_left
        · intro W hSw
          clear hSw
          go_simp
          try with_reducible rfl
        try simp only [Act.put, List.setIfInBounds_toArray, List.set_cons_zero, List.set_cons_succ]
        refine wpAnyH_take (i := 3) (oi := { dst := some 102, op := Op.load 3 (Operand.tmp 101), type := 3, pos := "law.go:177", after := #[{ on := 2, ground := Ground.data }], guard := none }) (v := ?_) rfl (by kernel_rfl) (by kernel_rfl) (by kernel_rfl) (fun _ _ _ h => h) (Or.inl ⟨by rfl, ?_⟩) hHeld ?_
        rotate_left
        · intro W hSw
          obtain ⟨cx, cy, a0, a1, b0, b1, ra, rb⟩ := Fc.out W hSw
          go_simp
          try with_reducible rfl
        try simp only [Act.put, List.setIfInBounds_toArray, List.set_cons_zero, List.set_cons_succ]
        refine wpAnyH_take (i := 4) (oi := { dst := some 103, op := Op.move (Operand.tmp 17), type := 33, pos := "law.go:177", after := #[], guard := none }) (v := ?_) rfl (by kernel_rfl) (by kernel_rfl) (by kernel_rfl) (fun _ _ _ h => h) (Or.inl ⟨by rfl, ?_⟩) hHeld ?_
        rotate_left
        · intro W hSw
          clear hSw
          go_simp
          try with_reducible rfl
        try simp only [Act.put, List.setIfInBounds_toArray, List.set_cons_zero, List.set_cons_succ]
        refine wpAnyH_take (i := 5) (oi := { dst := some 104, op := Op.move (Operand.tmp 18), type := 3, pos := "law.go:177", after := #[], guard := none }) (v := ?_) rfl (by kernel_rfl) (by kernel_rfl) (by kernel_rfl) (fun _ _ _ h => h) (Or.inl ⟨by rfl, ?_⟩) hHeld ?_
        rotate_left
        · intro W hSw
          clear hSw
          go_simp
          try with_reducible rfl
        try simp only [Act.put, List.setIfInBounds_toArray, List.set_cons_zero, List.set_cons_succ]
        refine wpAnyH_take (i := 6) (oi := { dst := some 105, op := Op.indexAddr 33 (Operand.tmp 103) (Operand.tmp 104), type := 0, pos := "law.go:177", after := #[{ on := 4, ground := Ground.data }, { on := 5, ground := Ground.data }], guard := none }) (v := ?_) rfl (by kernel_rfl) (by kernel_rfl) (by kernel_rfl) (fun _ _ _ h => h) (Or.inl ⟨by rfl, ?_⟩) hHeld ?_
        rotate_left
        · intro W hSw
          clear hSw
          go_simp
          try with_reducible rfl
        try simp only [Act.put, List.setIfInBounds_toArray, List.set_cons_zero, List.set_cons_succ]
        refine wpAnyH_take (i := 7) (oi := { dst := some 106, op := Op.load 3 (Operand.tmp 105), type := 3, pos := "law.go:177", after := #[{ on := 6, ground := Ground.data }], guard := none }) (v := ?_) rfl (by kernel_rfl) (by kernel_rfl) (by kernel_rfl) (fun _ _ _ h => h) (Or.inl ⟨by rfl, ?_⟩) hHeld ?_
        rotate_left
        · intro W hSw
          obtain ⟨cx, cy, a0, a1, b0, b1, ra, rb⟩ := Fc.out W hSw
          go_simp
          try with_reducible rfl
        try simp only [Act.put, List.setIfInBounds_toArray, List.set_cons_zero, List.set_cons_succ]
        refine wpAnyH_take (i := 8) (oi := { dst := some 107, op := Op.binOp BinOp.leq 3 (Operand.tmp 102) (Operand.tmp 106) 3, type := 4, pos := "law.go:177", after := #[{ on := 3, ground := Ground.data }, { on := 7, ground := Ground.data }], guard := none }) (v := ?_) rfl (by kernel_rfl) (by kernel_rfl) (by kernel_rfl) (fun _ _ _ h => h) (Or.inl ⟨by rfl, ?_⟩) hHeld ?_
        rotate_left
        · intro W hSw
          clear hSw
          go_simp
          try with_reducible rfl
        try simp only [Act.put, List.setIfInBounds_toArray, List.set_cons_zero, List.set_cons_succ]
        refine wpAnyH_take (i := 9) (oi := { dst := some 108, op := Op.move (Operand.tmp 107), type := 4, pos := "law.go:177", after := #[{ on := 8, ground := Ground.data }], guard := none }) (v := ?_) rfl (by kernel_rfl) (by kernel_rfl) (by kernel_rfl) (fun _ _ _ h => h) (Or.inl ⟨by rfl, ?_⟩) hHeld ?_
        rotate_left
        · intro W hSw
          clear hSw
          go_simp
          try with_reducible rfl
        try simp only [Act.put, List.setIfInBounds_toArray, List.set_cons_zero, List.set_cons_succ]
        refine wpAnyH_take (i := 10) (oi := { dst := some 109, op := Op.fieldAddr 42 (Operand.tmp 10) 1, type := 0, pos := "law.go:177", after := #[{ on := 9, ground := Ground.guard }], guard := some (9, true) }) (v := ?_) rfl (by kernel_rfl) (by kernel_rfl) (by kernel_rfl) (fun _ _ _ h => h) (Or.inl ⟨by rfl, ?_⟩) hHeld ?_
        rotate_left
        · intro W hSw
          clear hSw
          go_simp
          try with_reducible rfl
        try simp only [Act.put, List.setIfInBounds_toArray, List.set_cons_zero, List.set_cons_succ]
        refine wpAnyH_take (i := 11) (oi := { dst := some 110, op := Op.load 40 (Operand.tmp 109), type := 40, pos := "law.go:177", after := #[{ on := 10, ground := Ground.data }, { on := 9, ground := Ground.guard }], guard := some (9, true) }) (v := ?_) rfl (by kernel_rfl) (by kernel_rfl) (by kernel_rfl) (fun _ _ _ h => h) (Or.inl ⟨by rfl, ?_⟩) hHeld ?_
        rotate_left
        · intro W hSw
          obtain ⟨cx, cy, a0, a1, b0, b1, ra, rb⟩ := Fc.out W hSw
          go_simp
          try with_reducible rfl
        try simp only [Act.put, List.setIfInBounds_toArray, List.set_cons_zero, List.set_cons_succ]
        refine wpAnyH_take (i := 12) (oi := { dst := some 111, op := Op.move (Operand.tmp 18), type := 3, pos := "law.go:177", after := #[{ on := 9, ground := Ground.guard }], guard := some (9, true) }) (v := ?_) rfl (by kernel_rfl) (by kernel_rfl) (by kernel_rfl) (fun _ _ _ h => h) (Or.inl ⟨by rfl, ?_⟩) hHeld ?_
        rotate_left
        · intro W hSw
          clear hSw
          go_simp
          try with_reducible rfl
        try simp only [Act.put, List.setIfInBounds_toArray, List.set_cons_zero, List.set_cons_succ]
        refine wpAnyH_take (i := 13) (oi := { dst := some 112, op := Op.indexAddr 40 (Operand.tmp 110) (Operand.tmp 111), type := 0, pos := "law.go:177", after := #[{ on := 11, ground := Ground.data }, { on := 12, ground := Ground.data }, { on := 9, ground := Ground.guard }], guard := some (9, true) }) (v := ?_) rfl (by kernel_rfl) (by kernel_rfl) (by kernel_rfl) (fun _ _ _ h => h) (Or.inl ⟨by rfl, ?_⟩) hHeld ?_
        rotate_left
        · intro W hSw
          clear hSw
          go_simp
          try with_reducible rfl
        try simp only [Act.put, List.setIfInBounds_toArray, List.set_cons_zero, List.set_cons_succ]
        refine wpAnyH_take (i := 14) (oi := { dst := some 113, op := Op.load 26 (Operand.tmp 112), type := 26, pos := "law.go:177", after := #[{ on := 13, ground := Ground.data }, { on := 9, ground := Ground.guard }], guard := some (9, true) }) rfl (by kernel_rfl) (by kernel_rfl) (by kernel_rfl) (fun _ _ _ h => h) (yieldsIf_load_mid (by rfl) _ _ rfl ga _ rfl PA _ (fun W h => (Fc.out W h).2.2.2.2.2.2.1) Tryd.underlying26 rfl (by rw [HlA.out]; exact infoDg)) hHeld ?_
        try simp only [Act.put, List.setIfInBounds_toArray, List.set_cons_zero, List.set_cons_succ]
        refine wpAnyH_take (i := 15) (oi := { dst := some 114, op := Op.fieldAddr 42 (Operand.tmp 10) 0, type := 0, pos := "law.go:177", after := #[{ on := 9, ground := Ground.guard }], guard := some (9, true) }) (v := ?_) rfl (by kernel_rfl) (by kernel_rfl) (by kernel_rfl) (fun _ _ _ h => h) (Or.inl ⟨by rfl, ?_⟩) hHeld ?_
        rotate_left
        · intro W hSw
          clear hSw
          go_simp
          try with_reducible rfl
        try simp only [Act.put, List.setIfInBounds_toArray, List.set_cons_zero, List.set_cons_succ]
        refine wpAnyH_take (i := 16) (oi := { dst := some 115, op := Op.load 3 (Operand.tmp 114), type := 3, pos := "law.go:177", after := #[{ on := 15, ground := Ground.data }, { on := 9, ground := Ground.guard }], guard := some (9, true) }) (v := ?_) rfl (by kernel_rfl) (by kernel_rfl) (by kernel_rfl) (fun _ _ _ h => h) (Or.inl ⟨by rfl, ?_⟩) hHeld ?_
        rotate_left
        · intro W hSw
          obtain ⟨cx, cy, a0, a1, b0, b1, ra, rb⟩ := Fc.out W hSw
          go_simp
          try with_reducible rfl
        try simp only [Act.put, List.setIfInBounds_toArray, List.set_cons_zero, List.set_cons_succ]
        refine wpAnyH_take (i := 17) (oi := { dst := some 116, op := Op.move (Operand.tmp 18), type := 3, pos := "law.go:177", after := #[{ on := 9, ground := Ground.guard }], guard := some (9, true) }) (v := ?_) rfl (by kernel_rfl) (by kernel_rfl) (by kernel_rfl) (fun _ _ _ h => h) (Or.inl ⟨by rfl, ?_⟩) hHeld ?_
        rotate_left
        · intro W hSw
          clear hSw
          go_simp
          try with_reducible rfl
        try simp only [Act.put, List.setIfInBounds_toArray, List.set_cons_zero, List.set_cons_succ]
        refine wpAnyH_take (i := 18) (oi := { dst := some 117, op := Op.move (Operand.tmp 16), type := 33, pos := "law.go:177", after := #[{ on := 9, ground := Ground.guard }], guard := some (9, true) }) (v := ?_) rfl (by kernel_rfl) (by kernel_rfl) (by kernel_rfl) (fun _ _ _ h => h) (Or.inl ⟨by rfl, ?_⟩) hHeld ?_
        rotate_left
        · intro W hSw
          clear hSw
          go_simp
          try with_reducible rfl
        try simp only [Act.put, List.setIfInBounds_toArray, List.set_cons_zero, List.set_cons_succ]
        refine wpAnyH_take (i := 19) (oi := { dst := some 118, op := Op.move (Operand.tmp 18), type := 3, pos := "law.go:177", after := #[{ on := 9, ground := Ground.guard }], guard := some (9, true) }) (v := ?_) rfl (by kernel_rfl) (by kernel_rfl) (by kernel_rfl) (fun _ _ _ h => h) (Or.inl ⟨by rfl, ?_⟩) hHeld ?_
        rotate_left
        · intro W hSw
          clear hSw
          go_simp
          try with_reducible rfl
        try simp only [Act.put, List.setIfInBounds_toArray, List.set_cons_zero, List.set_cons_succ]
        refine wpAnyH_take (i := 20) (oi := { dst := some 119, op := Op.indexAddr 33 (Operand.tmp 117) (Operand.tmp 118), type := 0, pos := "law.go:177", after := #[{ on := 18, ground := Ground.data }, { on := 19, ground := Ground.data }, { on := 9, ground := Ground.guard }], guard := some (9, true) }) (v := ?_) rfl (by kernel_rfl) (by kernel_rfl) (by kernel_rfl) (fun _ _ _ h => h) (Or.inl ⟨by rfl, ?_⟩) hHeld ?_
        rotate_left
        · intro W hSw
          clear hSw
          go_simp
          try with_reducible rfl
        try simp only [Act.put, List.setIfInBounds_toArray, List.set_cons_zero, List.set_cons_succ]
        refine wpAnyH_take (i := 21) (oi := { dst := some 120, op := Op.load 3 (Operand.tmp 119), type := 3, pos := "law.go:177", after := #[{ on := 20, ground := Ground.data }, { on := 9, ground := Ground.guard }], guard := some (9, true) }) (v := ?_) rfl (by kernel_rfl) (by kernel_rfl) (by kernel_rfl) (fun _ _ _ h => h) (Or.inl ⟨by rfl, ?_⟩) hHeld ?_
        rotate_left
        · intro W hSw
          obtain ⟨cx, cy, a0, a1, b0, b1, ra, rb⟩ := Fc.out W hSw
          go_simp
          try with_reducible rfl
        try simp only [Act.put, List.setIfInBounds_toArray, List.set_cons_zero, List.set_cons_succ]
        refine wpAnyH_take (i := 22) (oi := { dst := some 121, op := Op.move (Operand.tmp 17), type := 33, pos := "law.go:177", after := #[{ on := 9, ground := Ground.guard }], guard := some (9, true) }) (v := ?_) rfl (by kernel_rfl) (by kernel_rfl) (by kernel_rfl) (fun _ _ _ h => h) (Or.inl ⟨by rfl, ?_⟩) hHeld ?_
        rotate_left
        · intro W hSw
          clear hSw
          go_simp
          try with_reducible rfl
        try simp only [Act.put, List.setIfInBounds_toArray, List.set_cons_zero, List.set_cons_succ]
        refine wpAnyH_take (i := 23) (oi := { dst := some 122, op := Op.move (Operand.tmp 18), type := 3, pos := "law.go:177", after := #[{ on := 9, ground := Ground.guard }], guard := some (9, true) }) (v := ?_) rfl (by kernel_rfl) (by kernel_rfl) (by kernel_rfl) (fun _ _ _ h => h) (Or.inl ⟨by rfl, ?_⟩) hHeld ?_
        rotate_left
        · intro W hSw
          clear hSw
          go_simp
          try with_reducible rfl
        try simp only [Act.put, List.setIfInBounds_toArray, List.set_cons_zero, List.set_cons_succ]
        refine wpAnyH_take (i := 24) (oi := { dst := some 123, op := Op.indexAddr 33 (Operand.tmp 121) (Operand.tmp 122), type := 0, pos := "law.go:177", after := #[{ on := 22, ground := Ground.data }, { on := 23, ground := Ground.data }, { on := 9, ground := Ground.guard }], guard := some (9, true) }) (v := ?_) rfl (by kernel_rfl) (by kernel_rfl) (by kernel_rfl) (fun _ _ _ h => h) (Or.inl ⟨by rfl, ?_⟩) hHeld ?_
        rotate_left
        · intro W hSw
          clear hSw
          go_simp
          try with_reducible rfl
        try simp only [Act.put, List.setIfInBounds_toArray, List.set_cons_zero, List.set_cons_succ]
        refine wpAnyH_take (i := 25) (oi := { dst := some 124, op := Op.load 3 (Operand.tmp 123), type := 3, pos := "law.go:177", after := #[{ on := 24, ground := Ground.data }, { on := 9, ground := Ground.guard }], guard := some (9, true) }) (v := ?_) rfl (by kernel_rfl) (by kernel_rfl) (by kernel_rfl) (fun _ _ _ h => h) (Or.inl ⟨by rfl, ?_⟩) hHeld ?_
        rotate_left
        · intro W hSw
          obtain ⟨cx, cy, a0, a1, b0, b1, ra, rb⟩ := Fc.out W hSw
          go_simp
          try with_reducible rfl
        try simp only [Act.put, List.setIfInBounds_toArray, List.set_cons_zero, List.set_cons_succ]
        refine wpAnyH_take (i := 27) (oi := { dst := some 126, op := Op.fieldAddr 42 (Operand.tmp 13) 1, type := 0, pos := "law.go:177", after := #[{ on := 9, ground := Ground.guard }], guard := some (9, true) }) (v := ?_) rfl (by kernel_rfl) (by kernel_rfl) (by kernel_rfl) (fun _ _ _ h => h) (Or.inl ⟨by rfl, ?_⟩) hHeld ?_
        rotate_left
        · intro W hSw
          clear hSw
          go_simp
          try with_reducible rfl
        try simp only [Act.put, List.setIfInBounds_toArray, List.set_cons_zero, List.set_cons_succ]
        refine wpAnyH_take (i := 28) (oi := { dst := some 127, op := Op.load 40 (Operand.tmp 126), type := 40, pos := "law.go:177", after := #[{ on := 27, ground := Ground.data }, { on := 9, ground := Ground.guard }], guard := some (9, true) }) (v := ?_) rfl (by kernel_rfl) (by kernel_rfl) (by kernel_rfl) (fun _ _ _ h => h) (Or.inl ⟨by rfl, ?_⟩) hHeld ?_
        rotate_left
        · intro W hSw
          obtain ⟨cx, cy, a0, a1, b0, b1, ra, rb⟩ := Fc.out W hSw
          go_simp
          try with_reducible rfl
        try simp only [Act.put, List.setIfInBounds_toArray, List.set_cons_zero, List.set_cons_succ]
        refine wpAnyH_take (i := 29) (oi := { dst := some 128, op := Op.move (Operand.tmp 18), type := 3, pos := "law.go:177", after := #[{ on := 9, ground := Ground.guard }], guard := some (9, true) }) (v := ?_) rfl (by kernel_rfl) (by kernel_rfl) (by kernel_rfl) (fun _ _ _ h => h) (Or.inl ⟨by rfl, ?_⟩) hHeld ?_
        rotate_left
        · intro W hSw
          clear hSw
          go_simp
          try with_reducible rfl
        try simp only [Act.put, List.setIfInBounds_toArray, List.set_cons_zero, List.set_cons_succ]
        refine wpAnyH_take (i := 30) (oi := { dst := some 129, op := Op.indexAddr 40 (Operand.tmp 127) (Operand.tmp 128), type := 0, pos := "law.go:177", after := #[{ on := 28, ground := Ground.data }, { on := 29, ground := Ground.data }, { on := 9, ground := Ground.guard }], guard := some (9, true) }) (v := ?_) rfl (by kernel_rfl) (by kernel_rfl) (by kernel_rfl) (fun _ _ _ h => h) (Or.inl ⟨by rfl, ?_⟩) hHeld ?_
        rotate_left
        · intro W hSw
          clear hSw
          go_simp
          try with_reducible rfl
        try simp only [Act.put, List.setIfInBounds_toArray, List.set_cons_zero, List.set_cons_succ]
        refine wpAnyH_take (i := 31) (oi := { dst := some 130, op := Op.load 26 (Operand.tmp 129), type := 26, pos := "law.go:177", after := #[{ on := 30, ground := Ground.data }, { on := 9, ground := Ground.guard }], guard := some (9, true) }) rfl (by kernel_rfl) (by kernel_rfl) (by kernel_rfl) (fun _ _ _ h => h) (yieldsIf_load_mid (by rfl) _ _ rfl gb _ rfl PB _ (fun W h => (Fc.out W h).2.2.2.2.2.2.2) Tryd.underlying26 rfl (by rw [HlB.out]; exact infoDg)) hHeld ?_
        try simp only [Act.put, List.setIfInBounds_toArray, List.set_cons_zero, List.set_cons_succ]
        refine wpAnyH_ready (rs := [26]) (by kernel_rfl) (by simp) ?_
        refine AllReadyH.cons (o := { dst := some 125, op := Op.call { callee := Callee.value (Operand.func 29), args := #[Operand.tmp 113, Operand.tmp 115, Operand.tmp 116, Operand.tmp 120, Operand.tmp 124], argTypes := #[26, 3, 3, 3, 3] }, type := 26, pos := "law.go:177", after := #[{ on := 14, ground := Ground.data }, { on := 16, ground := Ground.data }, { on := 17, ground := Ground.data }, { on := 21, ground := Ground.data }, { on := 25, ground := Ground.data }, { on := 9, ground := Ground.chain }, { on := 9, ground := Ground.guard }], guard := some (9, true) }) rfl (fun K hK => ?_) AllReadyH.nil
        go_simp
        go_at_call 29
        refine (HCak.out J1.out _ (Hb11.out.trans (hHeld.mono Hb11.out.size))).mono ?_
        rintro e w12 ⟨rfl, hb12⟩
        have heq12 := heB.out
        simp only [decide_true] at heq12
        have hH12 : Below w11.heap.size w11 w12 := hHeld.trans (hb12.mono hHeld.size)
        refine hK.out _ _ hH12 (fun hHeld => ?_)
        clear hK K
        try simp only [Act.put, List.setIfInBounds_toArray, List.set_cons_zero, List.set_cons_succ]
        refine wpAnyH_take (i := 32) (oi := { dst := some 131, op := Op.binOp BinOp.neq 26 (Operand.tmp 125) (Operand.tmp 130) 26, type := 4, pos := "law.go:177", after := #[{ on := 26, ground := Ground.data }, { on := 31, ground := Ground.data }, { on := 9, ground := Ground.guard }], guard := some (9, true) }) (v := ?_) rfl (by kernel_rfl) (by kernel_rfl) (by kernel_rfl) (fun _ _ _ h => h) (Or.inl ⟨by rfl, ?_⟩) hHeld ?_
        rotate_left
        · intro W hSw
          clear hSw
          go_simp
          try with_reducible rfl
        try simp only [Act.put, List.setIfInBounds_toArray, List.set_cons_zero, List.set_cons_succ]
        refine wpAnyH_take (i := 33) (oi := { dst := some 132, op := Op.pick (Operand.tmp 108) (Operand.tmp 131) (Operand.const (Value.bool false)), type := 4, pos := "law.go:177", after := #[{ on := 9, ground := Ground.data }, { on := 32, ground := Ground.data }], guard := none }) (v := ?_) rfl (by kernel_rfl) (by kernel_rfl) (by kernel_rfl) (fun _ _ _ h => h) (Or.inl ⟨by rfl, ?_⟩) hHeld ?_
        rotate_left
        · intro W hSw
          clear hSw
          go_simp
          try with_reducible rfl
        try simp only [Act.put, List.setIfInBounds_toArray, List.set_cons_zero, List.set_cons_succ]
        refine wpAnyH_take (i := 34) (oi := { dst := some 133, op := Op.move (Operand.tmp 132), type := 4, pos := "law.go:177", after := #[{ on := 33, ground := Ground.data }, { on := 26, ground := Ground.chain }], guard := none }) (v := ?_) rfl (by kernel_rfl) (by kernel_rfl) (by kernel_rfl) (fun _ _ _ h => h) (Or.inl ⟨by rfl, ?_⟩) hHeld ?_
        rotate_left
        · intro W hSw
          clear hSw
          go_simp
          try with_reducible rfl
        try simp only [Act.put, List.setIfInBounds_toArray, List.set_cons_zero, List.set_cons_succ]
        refine wpAnyH_take (i := 35) (oi := { dst := some 134, op := Op.move (Operand.tmp 17), type := 33, pos := "law.go:177", after := #[{ on := 34, ground := Ground.guard }], guard := some (34, false) }) (v := ?_) rfl (by kernel_rfl) (by kernel_rfl) (by kernel_rfl) (fun _ _ _ h => h) (Or.inl ⟨by rfl, ?_⟩) hHeld ?_
        rotate_left
        · intro W hSw
          clear hSw
          go_simp
          try with_reducible rfl
        try simp only [Act.put, List.setIfInBounds_toArray, List.set_cons_zero, List.set_cons_succ]
        refine wpAnyH_take (i := 36) (oi := { dst := some 135, op := Op.move (Operand.tmp 18), type := 3, pos := "law.go:177", after := #[{ on := 34, ground := Ground.guard }], guard := some (34, false) }) (v := ?_) rfl (by kernel_rfl) (by kernel_rfl) (by kernel_rfl) (fun _ _ _ h => h) (Or.inl ⟨by rfl, ?_⟩) hHeld ?_
        rotate_left
        · intro W hSw
          clear hSw
          go_simp
          try with_reducible rfl
        try simp only [Act.put, List.setIfInBounds_toArray, List.set_cons_zero, List.set_cons_succ]
        refine wpAnyH_take (i := 37) (oi := { dst := some 136, op := Op.indexAddr 33 (Operand.tmp 134) (Operand.tmp 135), type := 0, pos := "law.go:177", after := #[{ on := 35, ground := Ground.data }, { on := 36, ground := Ground.data }, { on := 34, ground := Ground.guard }], guard := some (34, false) }) (v := ?_) rfl (by kernel_rfl) (by kernel_rfl) (by kernel_rfl) (fun _ _ _ h => h) (Or.inl ⟨by rfl, ?_⟩) hHeld ?_
        rotate_left
        · intro W hSw
          clear hSw
          go_simp
          try with_reducible rfl
        try simp only [Act.put, List.setIfInBounds_toArray, List.set_cons_zero, List.set_cons_succ]
        refine wpAnyH_take (i := 38) (oi := { dst := some 137, op := Op.load 3 (Operand.tmp 136), type := 3, pos := "law.go:177", after := #[{ on := 37, ground := Ground.data }, { on := 34, ground := Ground.guard }], guard := some (34, false) }) (v := ?_) rfl (by kernel_rfl) (by kernel_rfl) (by kernel_rfl) (fun _ _ _ h => h) (Or.inl ⟨by rfl, ?_⟩) hHeld ?_
        rotate_left
        · intro W hSw
          obtain ⟨cx, cy, a0, a1, b0, b1, ra, rb⟩ := Fc.out W hSw
          go_simp
          try with_reducible rfl
        try simp only [Act.put, List.setIfInBounds_toArray, List.set_cons_zero, List.set_cons_succ]
        refine wpAnyH_take (i := 39) (oi := { dst := some 138, op := Op.move (Operand.tmp 16), type := 33, pos := "law.go:177", after := #[{ on := 34, ground := Ground.guard }], guard := some (34, false) }) (v := ?_) rfl (by kernel_rfl) (by kernel_rfl) (by kernel_rfl) (fun _ _ _ h => h) (Or.inl ⟨by rfl, ?_⟩) hHeld ?_
        rotate_left
        · intro W hSw
          clear hSw
          go_simp
          try with_reducible rfl
        try simp only [Act.put, List.setIfInBounds_toArray, List.set_cons_zero, List.set_cons_succ]
        refine wpAnyH_take (i := 40) (oi := { dst := some 139, op := Op.move (Operand.tmp 18), type := 3, pos := "law.go:177", after := #[{ on := 34, ground := Ground.guard }], guard := some (34, false) }) (v := ?_) rfl (by kernel_rfl) (by kernel_rfl) (by kernel_rfl) (fun _ _ _ h => h) (Or.inl ⟨by rfl, ?_⟩) hHeld ?_
        rotate_left
        · intro W hSw
          clear hSw
          go_simp
          try with_reducible rfl
        try simp only [Act.put, List.setIfInBounds_toArray, List.set_cons_zero, List.set_cons_succ]
        refine wpAnyH_take (i := 41) (oi := { dst := some 140, op := Op.indexAddr 33 (Operand.tmp 138) (Operand.tmp 139), type := 0, pos := "law.go:177", after := #[{ on := 39, ground := Ground.data }, { on := 40, ground := Ground.data }, { on := 34, ground := Ground.guard }], guard := some (34, false) }) (v := ?_) rfl (by kernel_rfl) (by kernel_rfl) (by kernel_rfl) (fun _ _ _ h => h) (Or.inl ⟨by rfl, ?_⟩) hHeld ?_
        rotate_left
        · intro W hSw
          clear hSw
          go_simp
          try with_reducible rfl
        try simp only [Act.put, List.setIfInBounds_toArray, List.set_cons_zero, List.set_cons_succ]
        refine wpAnyH_take (i := 42) (oi := { dst := some 141, op := Op.load 3 (Operand.tmp 140), type := 3, pos := "law.go:177", after := #[{ on := 41, ground := Ground.data }, { on := 34, ground := Ground.guard }], guard := some (34, false) }) (v := ?_) rfl (by kernel_rfl) (by kernel_rfl) (by kernel_rfl) (fun _ _ _ h => h) (Or.inl ⟨by rfl, ?_⟩) hHeld ?_
        rotate_left
        · intro W hSw
          obtain ⟨cx, cy, a0, a1, b0, b1, ra, rb⟩ := Fc.out W hSw
          go_simp
          try with_reducible rfl
        try simp only [Act.put, List.setIfInBounds_toArray, List.set_cons_zero, List.set_cons_succ]
        refine wpAnyH_take (i := 43) (oi := { dst := some 142, op := Op.binOp BinOp.leq 3 (Operand.tmp 137) (Operand.tmp 141) 3, type := 4, pos := "law.go:177", after := #[{ on := 38, ground := Ground.data }, { on := 42, ground := Ground.data }, { on := 34, ground := Ground.guard }], guard := some (34, false) }) (v := ?_) rfl (by kernel_rfl) (by kernel_rfl) (by kernel_rfl) (fun _ _ _ h => h) (Or.inl ⟨by rfl, ?_⟩) hHeld ?_
        rotate_left
        · intro W hSw
          clear hSw
          go_simp
          try with_reducible rfl
        try simp only [Act.put, List.setIfInBounds_toArray, List.set_cons_zero, List.set_cons_succ]
        refine wpAnyH_take (i := 44) (oi := { dst := some 143, op := Op.move (Operand.tmp 142), type := 4, pos := "law.go:177", after := #[{ on := 43, ground := Ground.data }, { on := 34, ground := Ground.chain }, { on := 34, ground := Ground.guard }], guard := some (34, false) }) (v := ?_) rfl (by kernel_rfl) (by kernel_rfl) (by kernel_rfl) (fun _ _ _ h => h) (Or.inl ⟨by rfl, ?_⟩) hHeld ?_
        rotate_left
        · intro W hSw
          clear hSw
          go_simp
          try with_reducible rfl
        try simp only [Act.put, List.setIfInBounds_toArray, List.set_cons_zero, List.set_cons_succ]
        refine wpAnyH_take (i := 45) (oi := { dst := some 144, op := Op.fieldAddr 42 (Operand.tmp 13) 1, type := 0, pos := "law.go:177", after := #[{ on := 44, ground := Ground.guard }], guard := some (44, true) }) (v := ?_) rfl (by kernel_rfl) (by kernel_rfl) (by kernel_rfl) (fun _ _ _ h => h) (Or.inl ⟨by rfl, ?_⟩) hHeld ?_
        rotate_left
        · intro W hSw
          clear hSw
          go_simp
          try with_reducible rfl
        try simp only [Act.put, List.setIfInBounds_toArray, List.set_cons_zero, List.set_cons_succ]
        refine wpAnyH_take (i := 46) (oi := { dst := some 145, op := Op.load 40 (Operand.tmp 144), type := 40, pos := "law.go:177", after := #[{ on := 45, ground := Ground.data }, { on := 44, ground := Ground.guard }], guard := some (44, true) }) (v := ?_) rfl (by kernel_rfl) (by kernel_rfl) (by kernel_rfl) (fun _ _ _ h => h) (Or.inl ⟨by rfl, ?_⟩) hHeld ?_
        rotate_left
        · intro W hSw
          obtain ⟨cx, cy, a0, a1, b0, b1, ra, rb⟩ := Fc.out W hSw
          go_simp
          try with_reducible rfl
        try simp only [Act.put, List.setIfInBounds_toArray, List.set_cons_zero, List.set_cons_succ]
        refine wpAnyH_take (i := 47) (oi := { dst := some 146, op := Op.move (Operand.tmp 18), type := 3, pos := "law.go:177", after := #[{ on := 44, ground := Ground.guard }], guard := some (44, true) }) (v := ?_) rfl (by kernel_rfl) (by kernel_rfl) (by kernel_rfl) (fun _ _ _ h => h) (Or.inl ⟨by rfl, ?_⟩) hHeld ?_
        rotate_left
        · intro W hSw
          clear hSw
          go_simp
          try with_reducible rfl
        try simp only [Act.put, List.setIfInBounds_toArray, List.set_cons_zero, List.set_cons_succ]
        refine wpAnyH_take (i := 48) (oi := { dst := some 147, op := Op.indexAddr 40 (Operand.tmp 145) (Operand.tmp 146), type := 0, pos := "law.go:177", after := #[{ on := 46, ground := Ground.data }, { on := 47, ground := Ground.data }, { on := 44, ground := Ground.guard }], guard := some (44, true) }) (v := ?_) rfl (by kernel_rfl) (by kernel_rfl) (by kernel_rfl) (fun _ _ _ h => h) (Or.inl ⟨by rfl, ?_⟩) hHeld ?_
        rotate_left
        · intro W hSw
          clear hSw
          go_simp
          try with_reducible rfl
        try simp only [Act.put, List.setIfInBounds_toArray, List.set_cons_zero, List.set_cons_succ]
        refine wpAnyH_take (i := 49) (oi := { dst := some 148, op := Op.load 26 (Operand.tmp 147), type := 26, pos := "law.go:177", after := #[{ on := 48, ground := Ground.data }, { on := 44, ground := Ground.guard }], guard := some (44, true) }) rfl (by kernel_rfl) (by kernel_rfl) (by kernel_rfl) (fun _ _ _ h => h) (yieldsIf_load_mid (by rfl) _ _ rfl gb _ rfl PB _ (fun W h => (Fc.out W h).2.2.2.2.2.2.2) Tryd.underlying26 rfl (by rw [HlB.out]; exact infoDg)) hHeld ?_
        try simp only [Act.put, List.setIfInBounds_toArray, List.set_cons_zero, List.set_cons_succ]
        refine wpAnyH_take (i := 50) (oi := { dst := some 149, op := Op.fieldAddr 42 (Operand.tmp 10) 0, type := 0, pos := "law.go:177", after := #[{ on := 44, ground := Ground.guard }], guard := some (44, true) }) (v := ?_) rfl (by kernel_rfl) (by kernel_rfl) (by kernel_rfl) (fun _ _ _ h => h) (Or.inl ⟨by rfl, ?_⟩) hHeld ?_
        rotate_left
        · intro W hSw
          clear hSw
          go_simp
          try with_reducible rfl
        try simp only [Act.put, List.setIfInBounds_toArray, List.set_cons_zero, List.set_cons_succ]
        refine wpAnyH_take (i := 51) (oi := { dst := some 150, op := Op.load 3 (Operand.tmp 149), type := 3, pos := "law.go:177", after := #[{ on := 50, ground := Ground.data }, { on := 44, ground := Ground.guard }], guard := some (44, true) }) (v := ?_) rfl (by kernel_rfl) (by kernel_rfl) (by kernel_rfl) (fun _ _ _ h => h) (Or.inl ⟨by rfl, ?_⟩) hHeld ?_
        rotate_left
        · intro W hSw
          obtain ⟨cx, cy, a0, a1, b0, b1, ra, rb⟩ := Fc.out W hSw
          go_simp
          try with_reducible rfl
        try simp only [Act.put, List.setIfInBounds_toArray, List.set_cons_zero, List.set_cons_succ]
        refine wpAnyH_take (i := 52) (oi := { dst := some 151, op := Op.move (Operand.tmp 18), type := 3, pos := "law.go:177", after := #[{ on := 44, ground := Ground.guard }], guard := some (44, true) }) (v := ?_) rfl (by kernel_rfl) (by kernel_rfl) (by kernel_rfl) (fun _ _ _ h => h) (Or.inl ⟨by rfl, ?_⟩) hHeld ?_
        rotate_left
        · intro W hSw
          clear hSw
          go_simp
          try with_reducible rfl
        try simp only [Act.put, List.setIfInBounds_toArray, List.set_cons_zero, List.set_cons_succ]
        refine wpAnyH_take (i := 53) (oi := { dst := some 152, op := Op.move (Operand.tmp 17), type := 33, pos := "law.go:177", after := #[{ on := 44, ground := Ground.guard }], guard := some (44, true) }) (v := ?_) rfl (by kernel_rfl) (by kernel_rfl) (by kernel_rfl) (fun _ _ _ h => h) (Or.inl ⟨by rfl, ?_⟩) hHeld ?_
        rotate_left
        · intro W hSw
          clear hSw
          go_simp
          try with_reducible rfl
        try simp only [Act.put, List.setIfInBounds_toArray, List.set_cons_zero, List.set_cons_succ]
        refine wpAnyH_take (i := 54) (oi := { dst := some 153, op := Op.move (Operand.tmp 18), type := 3, pos := "law.go:177", after := #[{ on := 44, ground := Ground.guard }], guard := some (44, true) }) (v := ?_) rfl (by kernel_rfl) (by kernel_rfl) (by kernel_rfl) (fun _ _ _ h => h) (Or.inl ⟨by rfl, ?_⟩) hHeld ?_
        rotate_left
        · intro W hSw
          clear hSw
          go_simp
          try with_reducible rfl
        try simp only [Act.put, List.setIfInBounds_toArray, List.set_cons_zero, List.set_cons_succ]
        refine wpAnyH_take (i := 55) (oi := { dst := some 154, op := Op.indexAddr 33 (Operand.tmp 152) (Operand.tmp 153), type := 0, pos := "law.go:177", after := #[{ on := 53, ground := Ground.data }, { on := 54, ground := Ground.data }, { on := 44, ground := Ground.guard }], guard := some (44, true) }) (v := ?_) rfl (by kernel_rfl) (by kernel_rfl) (by kernel_rfl) (fun _ _ _ h => h) (Or.inl ⟨by rfl, ?_⟩) hHeld ?_
        rotate_left
        · intro W hSw
          clear hSw
          go_simp
          try with_reducible rfl
        try simp only [Act.put, List.setIfInBounds_toArray, List.set_cons_zero, List.set_cons_succ]
        refine wpAnyH_take (i := 56) (oi := { dst := some 155, op := Op.load 3 (Operand.tmp 154), type := 3, pos := "law.go:177", after := #[{ on := 55, ground := Ground.data }, { on := 44, ground := Ground.guard }], guard := some (44, true) }) (v := ?_) rfl (by kernel_rfl) (by kernel_rfl) (by kernel_rfl) (fun _ _ _ h => h) (Or.inl ⟨by rfl, ?_⟩) hHeld ?_
        rotate_left
        · intro W hSw
          obtain ⟨cx, cy, a0, a1, b0, b1, ra, rb⟩ := Fc.out W hSw
          go_simp
          try with_reducible rfl
        try simp only [Act.put, List.setIfInBounds_toArray, List.set_cons_zero, List.set_cons_succ]
        refine wpAnyH_take (i := 57) (oi := { dst := some 156, op := Op.move (Operand.tmp 16), type := 33, pos := "law.go:177", after := #[{ on := 44, ground := Ground.guard }], guard := some (44, true) }) (v := ?_) rfl (by kernel_rfl) (by kernel_rfl) (by kernel_rfl) (fun _ _ _ h => h) (Or.inl ⟨by rfl, ?_⟩) hHeld ?_
        rotate_left
        · intro W hSw
          clear hSw
          go_simp
          try with_reducible rfl
        try simp only [Act.put, List.setIfInBounds_toArray, List.set_cons_zero, List.set_cons_succ]
        refine wpAnyH_take (i := 58) (oi := { dst := some 157, op := Op.move (Operand.tmp 18), type := 3, pos := "law.go:177", after := #[{ on := 44, ground := Ground.guard }], guard := some (44, true) }) (v := ?_) rfl (by kernel_rfl) (by kernel_rfl) (by kernel_rfl) (fun _ _ _ h => h) (Or.inl ⟨by rfl, ?_⟩) hHeld ?_
        rotate_left
        · intro W hSw
          clear hSw
          go_simp
          try with_reducible rfl
        try simp only [Act.put, List.setIfInBounds_toArray, List.set_cons_zero, List.set_cons_succ]
        refine wpAnyH_take (i := 59) (oi := { dst := some 158, op := Op.indexAddr 33 (Operand.tmp 156) (Operand.tmp 157), type := 0, pos := "law.go:177", after := #[{ on := 57, ground := Ground.data }, { on := 58, ground := Ground.data }, { on := 44, ground := Ground.guard }], guard := some (44, true) }) (v := ?_) rfl (by kernel_rfl) (by kernel_rfl) (by kernel_rfl) (fun _ _ _ h => h) (Or.inl ⟨by rfl, ?_⟩) hHeld ?_
        rotate_left
        · intro W hSw
          clear hSw
          go_simp
          try with_reducible rfl
        try simp only [Act.put, List.setIfInBounds_toArray, List.set_cons_zero, List.set_cons_succ]
        refine wpAnyH_take (i := 60) (oi := { dst := some 159, op := Op.load 3 (Operand.tmp 158), type := 3, pos := "law.go:177", after := #[{ on := 59, ground := Ground.data }, { on := 44, ground := Ground.guard }], guard := some (44, true) }) (v := ?_) rfl (by kernel_rfl) (by kernel_rfl) (by kernel_rfl) (fun _ _ _ h => h) (Or.inl ⟨by rfl, ?_⟩) hHeld ?_
        rotate_left
        · intro W hSw
          obtain ⟨cx, cy, a0, a1, b0, b1, ra, rb⟩ := Fc.out W hSw
          go_simp
          try with_reducible rfl
        try simp only [Act.put, List.setIfInBounds_toArray, List.set_cons_zero, List.set_cons_succ]
        refine wpAnyH_take (i := 62) (oi := { dst := some 161, op := Op.fieldAddr 42 (Operand.tmp 10) 1, type := 0, pos := "law.go:177", after := #[{ on := 44, ground := Ground.guard }], guard := some (44, true) }) (v := ?_) rfl (by kernel_rfl) (by kernel_rfl) (by kernel_rfl) (fun _ _ _ h => h) (Or.inl ⟨by rfl, ?_⟩) hHeld ?_
        rotate_left
        · intro W hSw
          clear hSw
          go_simp
          try with_reducible rfl
        try simp only [Act.put, List.setIfInBounds_toArray, List.set_cons_zero, List.set_cons_succ]
        refine wpAnyH_take (i := 63) (oi := { dst := some 162, op := Op.load 40 (Operand.tmp 161), type := 40, pos := "law.go:177", after := #[{ on := 62, ground := Ground.data }, { on := 44, ground := Ground.guard }], guard := some (44, true) }) (v := ?_) rfl (by kernel_rfl) (by kernel_rfl) (by kernel_rfl) (fun _ _ _ h => h) (Or.inl ⟨by rfl, ?_⟩) hHeld ?_
        rotate_left
        · intro W hSw
          obtain ⟨cx, cy, a0, a1, b0, b1, ra, rb⟩ := Fc.out W hSw
          go_simp
          try with_reducible rfl
        try simp only [Act.put, List.setIfInBounds_toArray, List.set_cons_zero, List.set_cons_succ]
        refine wpAnyH_take (i := 64) (oi := { dst := some 163, op := Op.move (Operand.tmp 18), type := 3, pos := "law.go:177", after := #[{ on := 44, ground := Ground.guard }], guard := some (44, true) }) (v := ?_) rfl (by kernel_rfl) (by kernel_rfl) (by kernel_rfl) (fun _ _ _ h => h) (Or.inl ⟨by rfl, ?_⟩) hHeld ?_
        rotate_left
        · intro W hSw
          clear hSw
          go_simp
          try with_reducible rfl
        try simp only [Act.put, List.setIfInBounds_toArray, List.set_cons_zero, List.set_cons_succ]
        refine wpAnyH_take (i := 65) (oi := { dst := some 164, op := Op.indexAddr 40 (Operand.tmp 162) (Operand.tmp 163), type := 0, pos := "law.go:177", after := #[{ on := 63, ground := Ground.data }, { on := 64, ground := Ground.data }, { on := 44, ground := Ground.guard }], guard := some (44, true) }) (v := ?_) rfl (by kernel_rfl) (by kernel_rfl) (by kernel_rfl) (fun _ _ _ h => h) (Or.inl ⟨by rfl, ?_⟩) hHeld ?_
        rotate_left
        · intro W hSw
          clear hSw
          go_simp
          try with_reducible rfl
        try simp only [Act.put, List.setIfInBounds_toArray, List.set_cons_zero, List.set_cons_succ]
        refine wpAnyH_take (i := 66) (oi := { dst := some 165, op := Op.load 26 (Operand.tmp 164), type := 26, pos := "law.go:177", after := #[{ on := 65, ground := Ground.data }, { on := 44, ground := Ground.guard }], guard := some (44, true) }) rfl (by kernel_rfl) (by kernel_rfl) (by kernel_rfl) (fun _ _ _ h => h) (yieldsIf_load_mid (by rfl) _ _ rfl ga _ rfl PA _ (fun W h => (Fc.out W h).2.2.2.2.2.2.1) Tryd.underlying26 rfl (by rw [HlA.out]; exact infoDg)) hHeld ?_
        try simp only [Act.put, List.setIfInBounds_toArray, List.set_cons_zero, List.set_cons_succ]
        refine wpAnyH_ready (rs := [61]) (by kernel_rfl) (by simp) ?_
        refine AllReadyH.cons (o := { dst := some 160, op := Op.call { callee := Callee.value (Operand.func 29), args := #[Operand.tmp 148, Operand.tmp 150, Operand.tmp 151, Operand.tmp 155, Operand.tmp 159], argTypes := #[26, 3, 3, 3, 3] }, type := 26, pos := "law.go:177", after := #[{ on := 49, ground := Ground.data }, { on := 51, ground := Ground.data }, { on := 52, ground := Ground.data }, { on := 56, ground := Ground.data }, { on := 60, ground := Ground.data }, { on := 44, ground := Ground.chain }, { on := 44, ground := Ground.guard }], guard := some (44, true) }) rfl (fun K hK => ?_) AllReadyH.nil
        go_simp
        go_at_call 29
        refine (HCbk.out J2.out _ (Hb11.out.trans (hHeld.mono Hb11.out.size))).mono ?_
        rintro e w13 ⟨rfl, hb13⟩
        have heq13 := heA.out
        simp only [decide_true] at heq13
        have hH13 : Below w11.heap.size w11 w13 := hHeld.trans (hb13.mono hHeld.size)
        refine hK.out _ _ hH13 (fun hHeld => ?_)
        clear hK K
        try simp only [Act.put, List.setIfInBounds_toArray, List.set_cons_zero, List.set_cons_succ]
        refine wpAnyH_take (i := 67) (oi := { dst := some 166, op := Op.binOp BinOp.neq 26 (Operand.tmp 160) (Operand.tmp 165) 26, type := 4, pos := "law.go:177", after := #[{ on := 61, ground := Ground.data }, { on := 66, ground := Ground.data }, { on := 44, ground := Ground.guard }], guard := some (44, true) }) (v := ?_) rfl (by kernel_rfl) (by kernel_rfl) (by kernel_rfl) (fun _ _ _ h => h) (Or.inl ⟨by rfl, ?_⟩) hHeld ?_
        rotate_left
        · intro W hSw
          clear hSw
          go_simp
          try with_reducible rfl
        try simp only [Act.put, List.setIfInBounds_toArray, List.set_cons_zero, List.set_cons_succ]
        refine wpAnyH_take (i := 68) (oi := { dst := some 167, op := Op.pick (Operand.tmp 143) (Operand.tmp 166) (Operand.const (Value.bool false)), type := 4, pos := "law.go:177", after := #[{ on := 44, ground := Ground.data }, { on := 67, ground := Ground.data }, { on := 34, ground := Ground.guard }], guard := some (34, false) }) (v := ?_) rfl (by kernel_rfl) (by kernel_rfl) (by kernel_rfl) (fun _ _ _ h => h) (Or.inl ⟨by rfl, ?_⟩) hHeld ?_
        rotate_left
        · intro W hSw
          clear hSw
          go_simp
          try with_reducible rfl
        try simp only [Act.put, List.setIfInBounds_toArray, List.set_cons_zero, List.set_cons_succ]
        refine wpAnyH_take (i := 69) (oi := { dst := some 168, op := Op.pick (Operand.tmp 133) (Operand.const (Value.bool true)) (Operand.tmp 167), type := 4, pos := "law.go:177", after := #[{ on := 34, ground := Ground.data }, { on := 68, ground := Ground.data }], guard := none }) (v := ?_) rfl (by kernel_rfl) (by kernel_rfl) (by kernel_rfl) (fun _ _ _ h => h) (Or.inl ⟨by rfl, ?_⟩) hHeld ?_
        rotate_left
        · intro W hSw
          clear hSw
          go_simp
          try with_reducible rfl
        try simp only [Act.put, List.setIfInBounds_toArray, List.set_cons_zero, List.set_cons_succ]
        refine wpAnyH_done (by kernel_rfl) ?_ _
        go_wp2_with fail
        go_roundw
        case rel => exact ⟨k + 1, by omega, by go_num, hHeld⟩
        case measure => simp [intOf]; omega
      · have j1 : ¬ (x : Int) ≤ (y : Int) := by omega
        have j2 : (y : Int) ≤ (x : Int) := (by omega); have J2 := Lib.hid (show y ≤ x by omega)
        clear h
        refine wp_region_held_drew (S := fun w' => Below w11.heap.size w11 w') (by kernel_rfl) (Hbr.out.drew) (fun hHeld => ?_)
        refine wpAnyH_take (i := 0) (oi := { dst := some 99, op := Op.move (Operand.tmp 16), type := 33, pos := "law.go:177", after := #[], guard := none }) (v := ?_) rfl (by kernel_rfl) (by kernel_rfl) (by kernel_rfl) (fun _ _ _ h => h) (Or.inl ⟨by rfl, ?_⟩) hHeld ?_
        rotate_left
        · intro W hSw
          clear hSw
          go_simp
          try with_reducible rfl
        try simp only [Act.put, List.setIfInBounds_toArray, List.set_cons_zero, List.set_cons_succ]
        refine wpAnyH_take (i := 1) (oi := { dst := some 100, op := Op.move (Operand.tmp 18), type := 3, pos := "law.go:177", after := #[], guard := none }) (v := ?_) rfl (by kernel_rfl) (by kernel_rfl) (by kernel_rfl) (fun _ _ _ h => h) (Or.inl ⟨by rfl, ?_⟩) hHeld ?_
        rotate_left
        · intro W hSw
          clear hSw
          go_simp
          try with_reducible rfl
        try simp only [Act.put, List.setIfInBounds_toArray, List.set_cons_zero, List.set_cons_succ]
        refine wpAnyH_take (i := 2) (oi := { dst := some 101, op := Op.indexAddr 33 (Operand.tmp 99) (Operand.tmp 100), type := 0, pos := "law.go:177", after := #[{ on := 0, ground := Ground.data }, { on := 1, ground := Ground.data }], guard := none }) (v := ?_) rfl (by kernel_rfl) (by kernel_rfl) (by kernel_rfl) (fun _ _ _ h => h) (Or.inl ⟨by rfl, ?_⟩) hHeld ?_
        rotate_left
        · intro W hSw
          clear hSw
          go_simp
          try with_reducible rfl
        try simp only [Act.put, List.setIfInBounds_toArray, List.set_cons_zero, List.set_cons_succ]
        refine wpAnyH_take (i := 3) (oi := { dst := some 102, op := Op.load 3 (Operand.tmp 101), type := 3, pos := "law.go:177", after := #[{ on := 2, ground := Ground.data }], guard := none }) (v := ?_) rfl (by kernel_rfl) (by kernel_rfl) (by kernel_rfl) (fun _ _ _ h => h) (Or.inl ⟨by rfl, ?_⟩) hHeld ?_
        rotate_left
        · intro W hSw
          obtain ⟨cx, cy, a0, a1, b0, b1, ra, rb⟩ := Fc.out W hSw
          go_simp
          try with_reducible rfl
        try simp only [Act.put, List.setIfInBounds_toArray, List.set_cons_zero, List.set_cons_succ]
        refine wpAnyH_take (i := 4) (oi := { dst := some 103, op := Op.move (Operand.tmp 17), type := 33, pos := "law.go:177", after := #[], guard := none }) (v := ?_) rfl (by kernel_rfl) (by kernel_rfl) (by kernel_rfl) (fun _ _ _ h => h) (Or.inl ⟨by rfl, ?_⟩) hHeld ?_
        rotate_left
        · intro W hSw
          clear hSw
          go_simp
          try with_reducible rfl
        try simp only [Act.put, List.setIfInBounds_toArray, List.set_cons_zero, List.set_cons_succ]
        refine wpAnyH_take (i := 5) (oi := { dst := some 104, op := Op.move (Operand.tmp 18), type := 3, pos := "law.go:177", after := #[], guard := none }) (v := ?_) rfl (by kernel_rfl) (by kernel_rfl) (by kernel_rfl) (fun _ _ _ h => h) (Or.inl ⟨by rfl, ?_⟩) hHeld ?_
        rotate_left
        · intro W hSw
          clear hSw
          go_simp
          try with_reducible rfl
        try simp only [Act.put, List.setIfInBounds_toArray, List.set_cons_zero, List.set_cons_succ]
        refine wpAnyH_take (i := 6) (oi := { dst := some 105, op := Op.indexAddr 33 (Operand.tmp 103) (Operand.tmp 104), type := 0, pos := "law.go:177", after := #[{ on := 4, ground := Ground.data }, { on := 5, ground := Ground.data }], guard := none }) (v := ?_) rfl (by kernel_rfl) (by kernel_rfl) (by kernel_rfl) (fun _ _ _ h => h) (Or.inl ⟨by rfl, ?_⟩) hHeld ?_
        rotate_left
        · intro W hSw
          clear hSw
          go_simp
          try with_reducible rfl
        try simp only [Act.put, List.setIfInBounds_toArray, List.set_cons_zero, List.set_cons_succ]
        refine wpAnyH_take (i := 7) (oi := { dst := some 106, op := Op.load 3 (Operand.tmp 105), type := 3, pos := "law.go:177", after := #[{ on := 6, ground := Ground.data }], guard := none }) (v := ?_) rfl (by kernel_rfl) (by kernel_rfl) (by kernel_rfl) (fun _ _ _ h => h) (Or.inl ⟨by rfl, ?_⟩) hHeld ?_
        rotate_left
        · intro W hSw
          obtain ⟨cx, cy, a0, a1, b0, b1, ra, rb⟩ := Fc.out W hSw
          go_simp
          try with_reducible rfl
        try simp only [Act.put, List.setIfInBounds_toArray, List.set_cons_zero, List.set_cons_succ]
        refine wpAnyH_take (i := 8) (oi := { dst := some 107, op := Op.binOp BinOp.leq 3 (Operand.tmp 102) (Operand.tmp 106) 3, type := 4, pos := "law.go:177", after := #[{ on := 3, ground := Ground.data }, { on := 7, ground := Ground.data }], guard := none }) (v := ?_) rfl (by kernel_rfl) (by kernel_rfl) (by kernel_rfl) (fun _ _ _ h => h) (Or.inl ⟨by rfl, ?_⟩) hHeld ?_
        rotate_left
        · intro W hSw
          clear hSw
          go_simp
          try with_reducible rfl
        try simp only [Act.put, List.setIfInBounds_toArray, List.set_cons_zero, List.set_cons_succ]
        refine wpAnyH_take (i := 9) (oi := { dst := some 108, op := Op.move (Operand.tmp 107), type := 4, pos := "law.go:177", after := #[{ on := 8, ground := Ground.data }], guard := none }) (v := ?_) rfl (by kernel_rfl) (by kernel_rfl) (by kernel_rfl) (fun _ _ _ h => h) (Or.inl ⟨by rfl, ?_⟩) hHeld ?_
        rotate_left
        · intro W hSw
          clear hSw
          go_simp
          try with_reducible rfl
        try simp only [Act.put, List.setIfInBounds_toArray, List.set_cons_zero, List.set_cons_succ]
        refine wpAnyH_take (i := 10) (oi := { dst := some 109, op := Op.fieldAddr 42 (Operand.tmp 10) 1, type := 0, pos := "law.go:177", after := #[{ on := 9, ground := Ground.guard }], guard := some (9, true) }) (v := undef) rfl (by kernel_rfl) (by kernel_rfl) (by kernel_rfl) (fun _ _ _ h => h) (Or.inr ⟨by rfl, rfl⟩) hHeld ?_
        try simp only [Act.put, List.setIfInBounds_toArray, List.set_cons_zero, List.set_cons_succ]
        refine wpAnyH_take (i := 11) (oi := { dst := some 110, op := Op.load 40 (Operand.tmp 109), type := 40, pos := "law.go:177", after := #[{ on := 10, ground := Ground.data }, { on := 9, ground := Ground.guard }], guard := some (9, true) }) (v := undef) rfl (by kernel_rfl) (by kernel_rfl) (by kernel_rfl) (fun _ _ _ h => h) (Or.inr ⟨by rfl, rfl⟩) hHeld ?_
        try simp only [Act.put, List.setIfInBounds_toArray, List.set_cons_zero, List.set_cons_succ]
        refine wpAnyH_take (i := 12) (oi := { dst := some 111, op := Op.move (Operand.tmp 18), type := 3, pos := "law.go:177", after := #[{ on := 9, ground := Ground.guard }], guard := some (9, true) }) (v := undef) rfl (by kernel_rfl) (by kernel_rfl) (by kernel_rfl) (fun _ _ _ h => h) (Or.inr ⟨by rfl, rfl⟩) hHeld ?_
        try simp only [Act.put, List.setIfInBounds_toArray, List.set_cons_zero, List.set_cons_succ]
        refine wpAnyH_take (i := 13) (oi := { dst := some 112, op := Op.indexAddr 40 (Operand.tmp 110) (Operand.tmp 111), type := 0, pos := "law.go:177", after := #[{ on := 11, ground := Ground.data }, { on := 12, ground := Ground.data }, { on := 9, ground := Ground.guard }], guard := some (9, true) }) (v := undef) rfl (by kernel_rfl) (by kernel_rfl) (by kernel_rfl) (fun _ _ _ h => h) (Or.inr ⟨by rfl, rfl⟩) hHeld ?_
        try simp only [Act.put, List.setIfInBounds_toArray, List.set_cons_zero, List.set_cons_succ]
        refine wpAnyH_take (i := 14) (oi := { dst := some 113, op := Op.load 26 (Operand.tmp 112), type := 26, pos := "law.go:177", after := #[{ on := 13, ground := Ground.data }, { on := 9, ground := Ground.guard }], guard := some (9, true) }) (v := undef) rfl (by kernel_rfl) (by kernel_rfl) (by kernel_rfl) (fun _ _ _ h => h) (Or.inr ⟨by rfl, rfl⟩) hHeld ?_
        try simp only [Act.put, List.setIfInBounds_toArray, List.set_cons_zero, List.set_cons_succ]
        refine wpAnyH_take (i := 15) (oi := { dst := some 114, op := Op.fieldAddr 42 (Operand.tmp 10) 0, type := 0, pos := "law.go:177", after := #[{ on := 9, ground := Ground.guard }], guard := some (9, true) }) (v := undef) rfl (by kernel_rfl) (by kernel_rfl) (by kernel_rfl) (fun _ _ _ h => h) (Or.inr ⟨by rfl, rfl⟩) hHeld ?_
        try simp only [Act.put, List.setIfInBounds_toArray, List.set_cons_zero, List.set_cons_succ]
        refine wpAnyH_take (i := 16) (oi := { dst := some 115, op := Op.load 3 (Operand.tmp 114), type := 3, pos := "law.go:177", after := #[{ on := 15, ground := Ground.data }, { on := 9, ground := Ground.guard }], guard := some (9, true) }) (v := undef) rfl (by kernel_rfl) (by kernel_rfl) (by kernel_rfl) (fun _ _ _ h => h) (Or.inr ⟨by rfl, rfl⟩) hHeld ?_
        try simp only [Act.put, List.setIfInBounds_toArray, List.set_cons_zero, List.set_cons_succ]
        refine wpAnyH_take (i := 17) (oi := { dst := some 116, op := Op.move (Operand.tmp 18), type := 3, pos := "law.go:177", after := #[{ on := 9, ground := Ground.guard }], guard := some (9, true) }) (v := undef) rfl (by kernel_rfl) (by kernel_rfl) (by kernel_rfl) (fun _ _ _ h => h) (Or.inr ⟨by rfl, rfl⟩) hHeld ?_
        try simp only [Act.put, List.setIfInBounds_toArray, List.set_cons_zero, List.set_cons_succ]
        refine wpAnyH_take (i := 18) (oi := { dst := some 117, op := Op.move (Operand.tmp 16), type := 33, pos := "law.go:177", after := #[{ on := 9, ground := Ground.guard }], guard := some (9, true) }) (v := undef) rfl (by kernel_rfl) (by kernel_rfl) (by kernel_rfl) (fun _ _ _ h => h) (Or.inr ⟨by rfl, rfl⟩) hHeld ?_
        try simp only [Act.put, List.setIfInBounds_toArray, List.set_cons_zero, List.set_cons_succ]
        refine wpAnyH_take (i := 19) (oi := { dst := some 118, op := Op.move (Operand.tmp 18), type := 3, pos := "law.go:177", after := #[{ on := 9, ground := Ground.guard }], guard := some (9, true) }) (v := undef) rfl (by kernel_rfl) (by kernel_rfl) (by kernel_rfl) (fun _ _ _ h => h) (Or.inr ⟨by rfl, rfl⟩) hHeld ?_
        try simp only [Act.put, List.setIfInBounds_toArray, List.set_cons_zero, List.set_cons_succ]
        refine wpAnyH_take (i := 20) (oi := { dst := some 119, op := Op.indexAddr 33 (Operand.tmp 117) (Operand.tmp 118), type := 0, pos := "law.go:177", after := #[{ on := 18, ground := Ground.data }, { on := 19, ground := Ground.data }, { on := 9, ground := Ground.guard }], guard := some (9, true) }) (v := undef) rfl (by kernel_rfl) (by kernel_rfl) (by kernel_rfl) (fun _ _ _ h => h) (Or.inr ⟨by rfl, rfl⟩) hHeld ?_
        try simp only [Act.put, List.setIfInBounds_toArray, List.set_cons_zero, List.set_cons_succ]
        refine wpAnyH_take (i := 21) (oi := { dst := some 120, op := Op.load 3 (Operand.tmp 119), type := 3, pos := "law.go:177", after := #[{ on := 20, ground := Ground.data }, { on := 9, ground := Ground.guard }], guard := some (9, true) }) (v := undef) rfl (by kernel_rfl) (by kernel_rfl) (by kernel_rfl) (fun _ _ _ h => h) (Or.inr ⟨by rfl, rfl⟩) hHeld ?_
        try simp only [Act.put, List.setIfInBounds_toArray, List.set_cons_zero, List.set_cons_succ]
        refine wpAnyH_take (i := 22) (oi := { dst := some 121, op := Op.move (Operand.tmp 17), type := 33, pos := "law.go:177", after := #[{ on := 9, ground := Ground.guard }], guard := some (9, true) }) (v := undef) rfl (by kernel_rfl) (by kernel_rfl) (by kernel_rfl) (fun _ _ _ h => h) (Or.inr ⟨by rfl, rfl⟩) hHeld ?_
        try simp only [Act.put, List.setIfInBounds_toArray, List.set_cons_zero, List.set_cons_succ]
        refine wpAnyH_take (i := 23) (oi := { dst := some 122, op := Op.move (Operand.tmp 18), type := 3, pos := "law.go:177", after := #[{ on := 9, ground := Ground.guard }], guard := some (9, true) }) (v := undef) rfl (by kernel_rfl) (by kernel_rfl) (by kernel_rfl) (fun _ _ _ h => h) (Or.inr ⟨by rfl, rfl⟩) hHeld ?_
        try simp only [Act.put, List.setIfInBounds_toArray, List.set_cons_zero, List.set_cons_succ]
        refine wpAnyH_take (i := 24) (oi := { dst := some 123, op := Op.indexAddr 33 (Operand.tmp 121) (Operand.tmp 122), type := 0, pos := "law.go:177", after := #[{ on := 22, ground := Ground.data }, { on := 23, ground := Ground.data }, { on := 9, ground := Ground.guard }], guard := some (9, true) }) (v := undef) rfl (by kernel_rfl) (by kernel_rfl) (by kernel_rfl) (fun _ _ _ h => h) (Or.inr ⟨by rfl, rfl⟩) hHeld ?_
        try simp only [Act.put, List.setIfInBounds_toArray, List.set_cons_zero, List.set_cons_succ]
        refine wpAnyH_take (i := 25) (oi := { dst := some 124, op := Op.load 3 (Operand.tmp 123), type := 3, pos := "law.go:177", after := #[{ on := 24, ground := Ground.data }, { on := 9, ground := Ground.guard }], guard := some (9, true) }) (v := undef) rfl (by kernel_rfl) (by kernel_rfl) (by kernel_rfl) (fun _ _ _ h => h) (Or.inr ⟨by rfl, rfl⟩) hHeld ?_
        try simp only [Act.put, List.setIfInBounds_toArray, List.set_cons_zero, List.set_cons_succ]
        refine wpAnyH_take (i := 27) (oi := { dst := some 126, op := Op.fieldAddr 42 (Operand.tmp 13) 1, type := 0, pos := "law.go:177", after := #[{ on := 9, ground := Ground.guard }], guard := some (9, true) }) (v := undef) rfl (by kernel_rfl) (by kernel_rfl) (by kernel_rfl) (fun _ _ _ h => h) (Or.inr ⟨by rfl, rfl⟩) hHeld ?_
        try simp only [Act.put, List.setIfInBounds_toArray, List.set_cons_zero, List.set_cons_succ]
        refine wpAnyH_take (i := 28) (oi := { dst := some 127, op := Op.load 40 (Operand.tmp 126), type := 40, pos := "law.go:177", after := #[{ on := 27, ground := Ground.data }, { on := 9, ground := Ground.guard }], guard := some (9, true) }) (v := undef) rfl (by kernel_rfl) (by kernel_rfl) (by kernel_rfl) (fun _ _ _ h => h) (Or.inr ⟨by rfl, rfl⟩) hHeld ?_
        try simp only [Act.put, List.setIfInBounds_toArray, List.set_cons_zero, List.set_cons_succ]
        refine wpAnyH_take (i := 29) (oi := { dst := some 128, op := Op.move (Operand.tmp 18), type := 3, pos := "law.go:177", after := #[{ on := 9, ground := Ground.guard }], guard := some (9, true) }) (v := undef) rfl (by kernel_rfl) (by kernel_rfl) (by kernel_rfl) (fun _ _ _ h => h) (Or.inr ⟨by rfl, rfl⟩) hHeld ?_
        try simp only [Act.put, List.setIfInBounds_toArray, List.set_cons_zero, List.set_cons_succ]
        refine wpAnyH_take (i := 30) (oi := { dst := some 129, op := Op.indexAddr 40 (Operand.tmp 127) (Operand.tmp 128), type := 0, pos := "law.go:177", after := #[{ on := 28, ground := Ground.data }, { on := 29, ground := Ground.data }, { on := 9, ground := Ground.guard }], guard := some (9, true) }) (v := undef) rfl (by kernel_rfl) (by kernel_rfl) (by kernel_rfl) (fun _ _ _ h => h) (Or.inr ⟨by rfl, rfl⟩) hHeld ?_
        try simp only [Act.put, List.setIfInBounds_toArray, List.set_cons_zero, List.set_cons_succ]
        refine wpAnyH_take (i := 31) (oi := { dst := some 130, op := Op.load 26 (Operand.tmp 129), type := 26, pos := "law.go:177", after := #[{ on := 30, ground := Ground.data }, { on := 9, ground := Ground.guard }], guard := some (9, true) }) (v := undef) rfl (by kernel_rfl) (by kernel_rfl) (by kernel_rfl) (fun _ _ _ h => h) (Or.inr ⟨by rfl, rfl⟩) hHeld ?_
        try simp only [Act.put, List.setIfInBounds_toArray, List.set_cons_zero, List.set_cons_succ]
        refine wpAnyH_take (i := 26) (oi := { dst := some 125, op := Op.call { callee := Callee.value (Operand.func 29), args := #[Operand.tmp 113, Operand.tmp 115, Operand.tmp 116, Operand.tmp 120, Operand.tmp 124], argTypes := #[26, 3, 3, 3, 3] }, type := 26, pos := "law.go:177", after := #[{ on := 14, ground := Ground.data }, { on := 16, ground := Ground.data }, { on := 17, ground := Ground.data }, { on := 21, ground := Ground.data }, { on := 25, ground := Ground.data }, { on := 9, ground := Ground.chain }, { on := 9, ground := Ground.guard }], guard := some (9, true) }) (v := undef) rfl (by kernel_rfl) (by kernel_rfl) (by kernel_rfl) (fun _ _ _ h => h) (Or.inr ⟨by rfl, rfl⟩) hHeld ?_
        try simp only [Act.put, List.setIfInBounds_toArray, List.set_cons_zero, List.set_cons_succ]
        refine wpAnyH_take (i := 32) (oi := { dst := some 131, op := Op.binOp BinOp.neq 26 (Operand.tmp 125) (Operand.tmp 130) 26, type := 4, pos := "law.go:177", after := #[{ on := 26, ground := Ground.data }, { on := 31, ground := Ground.data }, { on := 9, ground := Ground.guard }], guard := some (9, true) }) (v := undef) rfl (by kernel_rfl) (by kernel_rfl) (by kernel_rfl) (fun _ _ _ h => h) (Or.inr ⟨by rfl, rfl⟩) hHeld ?_
        try simp only [Act.put, List.setIfInBounds_toArray, List.set_cons_zero, List.set_cons_succ]
        refine wpAnyH_take (i := 33) (oi := { dst := some 132, op := Op.pick (Operand.tmp 108) (Operand.tmp 131) (Operand.const (Value.bool false)), type := 4, pos := "law.go:177", after := #[{ on := 9, ground := Ground.data }, { on := 32, ground := Ground.data }], guard := none }) (v := ?_) rfl (by kernel_rfl) (by kernel_rfl) (by kernel_rfl) (fun _ _ _ h => h) (Or.inl ⟨by rfl, ?_⟩) hHeld ?_
        rotate_left
        · intro W hSw
          clear hSw
          go_simp
          try with_reducible rfl
        try simp only [Act.put, List.setIfInBounds_toArray, List.set_cons_zero, List.set_cons_succ]
        refine wpAnyH_take (i := 34) (oi := { dst := some 133, op := Op.move (Operand.tmp 132), type := 4, pos := "law.go:177", after := #[{ on := 33, ground := Ground.data }, { on := 26, ground := Ground.chain }], guard := none }) (v := ?_) rfl (by kernel_rfl) (by kernel_rfl) (by kernel_rfl) (fun _ _ _ h => h) (Or.inl ⟨by rfl, ?_⟩) hHeld ?_
        rotate_left
        · intro W hSw
          clear hSw
          go_simp
          try with_reducible rfl
        try simp only [Act.put, List.setIfInBounds_toArray, List.set_cons_zero, List.set_cons_succ]
        refine wpAnyH_take (i := 35) (oi := { dst := some 134, op := Op.move (Operand.tmp 17), type := 33, pos := "law.go:177", after := #[{ on := 34, ground := Ground.guard }], guard := some (34, false) }) (v := ?_) rfl (by kernel_rfl) (by kernel_rfl) (by kernel_rfl) (fun _ _ _ h => h) (Or.inl ⟨by rfl, ?_⟩) hHeld ?_
        rotate_left
        · intro W hSw
          clear hSw
          go_simp
          try with_reducible rfl
        try simp only [Act.put, List.setIfInBounds_toArray, List.set_cons_zero, List.set_cons_succ]
        refine wpAnyH_take (i := 36) (oi := { dst := some 135, op := Op.move (Operand.tmp 18), type := 3, pos := "law.go:177", after := #[{ on := 34, ground := Ground.guard }], guard := some (34, false) }) (v := ?_) rfl (by kernel_rfl) (by kernel_rfl) (by kernel_rfl) (fun _ _ _ h => h) (Or.inl ⟨by rfl, ?_⟩) hHeld ?_
        rotate_left
        · intro W hSw
          clear hSw
          go_simp
          try with_reducible rfl
        try simp only [Act.put, List.setIfInBounds_toArray, List.set_cons_zero, List.set_cons_succ]
        refine wpAnyH_take (i := 37) (oi := { dst := some 136, op := Op.indexAddr 33 (Operand.tmp 134) (Operand.tmp 135), type := 0, pos := "law.go:177", after := #[{ on := 35, ground := Ground.data }, { on := 36, ground := Ground.data }, { on := 34, ground := Ground.guard }], guard := some (34, false) }) (v := ?_) rfl (by kernel_rfl) (by kernel_rfl) (by kernel_rfl) (fun _ _ _ h => h) (Or.inl ⟨by rfl, ?_⟩) hHeld ?_
        rotate_left
        · intro W hSw
          clear hSw
          go_simp
          try with_reducible rfl
        try simp only [Act.put, List.setIfInBounds_toArray, List.set_cons_zero, List.set_cons_succ]
        refine wpAnyH_take (i := 38) (oi := { dst := some 137, op := Op.load 3 (Operand.tmp 136), type := 3, pos := "law.go:177", after := #[{ on := 37, ground := Ground.data }, { on := 34, ground := Ground.guard }], guard := some (34, false) }) (v := ?_) rfl (by kernel_rfl) (by kernel_rfl) (by kernel_rfl) (fun _ _ _ h => h) (Or.inl ⟨by rfl, ?_⟩) hHeld ?_
        rotate_left
        · intro W hSw
          obtain ⟨cx, cy, a0, a1, b0, b1, ra, rb⟩ := Fc.out W hSw
          go_simp
          try with_reducible rfl
        try simp only [Act.put, List.setIfInBounds_toArray, List.set_cons_zero, List.set_cons_succ]
        refine wpAnyH_take (i := 39) (oi := { dst := some 138, op := Op.move (Operand.tmp 16), type := 33, pos := "law.go:177", after := #[{ on := 34, ground := Ground.guard }], guard := some (34, false) }) (v := ?_) rfl (by kernel_rfl) (by kernel_rfl) (by kernel_rfl) (fun _ _ _ h => h) (Or.inl ⟨by rfl, ?_⟩) hHeld ?_
        rotate_left
        · intro W hSw
          clear hSw
          go_simp
          try with_reducible rfl
        try simp only [Act.put, List.setIfInBounds_toArray, List.set_cons_zero, List.set_cons_succ]
        refine wpAnyH_take (i := 40) (oi := { dst := some 139, op := Op.move (Operand.tmp 18), type := 3, pos := "law.go:177", after := #[{ on := 34, ground := Ground.guard }], guard := some (34, false) }) (v := ?_) rfl (by kernel_rfl) (by kernel_rfl) (by kernel_rfl) (fun _ _ _ h => h) (Or.inl ⟨by rfl, ?_⟩) hHeld ?_
        rotate_left
        · intro W hSw
          clear hSw
          go_simp
          try with_reducible rfl
        try simp only [Act.put, List.setIfInBounds_toArray, List.set_cons_zero, List.set_cons_succ]
        refine wpAnyH_take (i := 41) (oi := { dst := some 140, op := Op.indexAddr 33 (Operand.tmp 138) (Operand.tmp 139), type := 0, pos := "law.go:177", after := #[{ on := 39, ground := Ground.data }, { on := 40, ground := Ground.data }, { on := 34, ground := Ground.guard }], guard := some (34, false) }) (v := ?_) rfl (by kernel_rfl) (by kernel_rfl) (by kernel_rfl) (fun _ _ _ h => h) (Or.inl ⟨by rfl, ?_⟩) hHeld ?_
        rotate_left
        · intro W hSw
          clear hSw
          go_simp
          try with_reducible rfl
        try simp only [Act.put, List.setIfInBounds_toArray, List.set_cons_zero, List.set_cons_succ]
        refine wpAnyH_take (i := 42) (oi := { dst := some 141, op := Op.load 3 (Operand.tmp 140), type := 3, pos := "law.go:177", after := #[{ on := 41, ground := Ground.data }, { on := 34, ground := Ground.guard }], guard := some (34, false) }) (v := ?_) rfl (by kernel_rfl) (by kernel_rfl) (by kernel_rfl) (fun _ _ _ h => h) (Or.inl ⟨by rfl, ?_⟩) hHeld ?_
        rotate_left
        · intro W hSw
          obtain ⟨cx, cy, a0, a1, b0, b1, ra, rb⟩ := Fc.out W hSw
          go_simp
          try with_reducible rfl
        try simp only [Act.put, List.setIfInBounds_toArray, List.set_cons_zero, List.set_cons_succ]
        refine wpAnyH_take (i := 43) (oi := { dst := some 142, op := Op.binOp BinOp.leq 3 (Operand.tmp 137) (Operand.tmp 141) 3, type := 4, pos := "law.go:177", after := #[{ on := 38, ground := Ground.data }, { on := 42, ground := Ground.data }, { on := 34, ground := Ground.guard }], guard := some (34, false) }) (v := ?_) rfl (by kernel_rfl) (by kernel_rfl) (by kernel_rfl) (fun _ _ _ h => h) (Or.inl ⟨by rfl, ?_⟩) hHeld ?_
        rotate_left
        · intro W hSw
          clear hSw
          go_simp
          try with_reducible rfl
        try simp only [Act.put, List.setIfInBounds_toArray, List.set_cons_zero, List.set_cons_succ]
        refine wpAnyH_take (i := 44) (oi := { dst := some 143, op := Op.move (Operand.tmp 142), type := 4, pos := "law.go:177", after := #[{ on := 43, ground := Ground.data }, { on := 34, ground := Ground.chain }, { on := 34, ground := Ground.guard }], guard := some (34, false) }) (v := ?_) rfl (by kernel_rfl) (by kernel_rfl) (by kernel_rfl) (fun _ _ _ h => h) (Or.inl ⟨by rfl, ?_⟩) hHeld ?_
        rotate_left
        · intro W hSw
          clear hSw
          go_simp
          try with_reducible rfl
        try simp only [Act.put, List.setIfInBounds_toArray, List.set_cons_zero, List.set_cons_succ]
        refine wpAnyH_take (i := 45) (oi := { dst := some 144, op := Op.fieldAddr 42 (Operand.tmp 13) 1, type := 0, pos := "law.go:177", after := #[{ on := 44, ground := Ground.guard }], guard := some (44, true) }) (v := ?_) rfl (by kernel_rfl) (by kernel_rfl) (by kernel_rfl) (fun _ _ _ h => h) (Or.inl ⟨by rfl, ?_⟩) hHeld ?_
        rotate_left
        · intro W hSw
          clear hSw
          go_simp
          try with_reducible rfl
        try simp only [Act.put, List.setIfInBounds_toArray, List.set_cons_zero, List.set_cons_succ]
        refine wpAnyH_take (i := 46) (oi := { dst := some 145, op := Op.load 40 (Operand.tmp 144), type := 40, pos := "law.go:177", after := #[{ on := 45, ground := Ground.data }, { on := 44, ground := Ground.guard }], guard := some (44, true) }) (v := ?_) rfl (by kernel_rfl) (by kernel_rfl) (by kernel_rfl) (fun _ _ _ h => h) (Or.inl ⟨by rfl, ?_⟩) hHeld ?_
        rotate_left
        · intro W hSw
          obtain ⟨cx, cy, a0, a1, b0, b1, ra, rb⟩ := Fc.out W hSw
          go_simp
          try with_reducible rfl
        try simp only [Act.put, List.setIfInBounds_toArray, List.set_cons_zero, List.set_cons_succ]
        refine wpAnyH_take (i := 47) (oi := { dst := some 146, op := Op.move (Operand.tmp 18), type := 3, pos := "law.go:177", after := #[{ on := 44, ground := Ground.guard }], guard := some (44, true) }) (v := ?_) rfl (by kernel_rfl) (by kernel_rfl) (by kernel_rfl) (fun _ _ _ h => h) (Or.inl ⟨by rfl, ?_⟩) hHeld ?_
        rotate_left
        · intro W hSw
          clear hSw
          go_simp
          try with_reducible rfl
        try simp only [Act.put, List.setIfInBounds_toArray, List.set_cons_zero, List.set_cons_succ]
        refine wpAnyH_take (i := 48) (oi := { dst := some 147, op := Op.indexAddr 40 (Operand.tmp 145) (Operand.tmp 146), type := 0, pos := "law.go:177", after := #[{ on := 46, ground := Ground.data }, { on := 47, ground := Ground.data }, { on := 44, ground := Ground.guard }], guard := some (44, true) }) (v := ?_) rfl (by kernel_rfl) (by kernel_rfl) (by kernel_rfl) (fun _ _ _ h => h) (Or.inl ⟨by rfl, ?_⟩) hHeld ?_
        rotate_left
        · intro W hSw
          clear hSw
          go_simp
          try with_reducible rfl
        try simp only [Act.put, List.setIfInBounds_toArray, List.set_cons_zero, List.set_cons_succ]
        refine wpAnyH_take (i := 49) (oi := { dst := some 148, op := Op.load 26 (Operand.tmp 147), type := 26, pos := "law.go:177", after := #[{ on := 48, ground := Ground.data }, { on := 44, ground := Ground.guard }], guard := some (44, true) }) rfl (by kernel_rfl) (by kernel_rfl) (by kernel_rfl) (fun _ _ _ h => h) (yieldsIf_load_mid (by rfl) _ _ rfl gb _ rfl PB _ (fun W h => (Fc.out W h).2.2.2.2.2.2.2) Tryd.underlying26 rfl (by rw [HlB.out]; exact infoDg)) hHeld ?_
        try simp only [Act.put, List.setIfInBounds_toArray, List.set_cons_zero, List.set_cons_succ]
        refine wpAnyH_take (i := 50) (oi := { dst := some 149, op := Op.fieldAddr 42 (Operand.tmp 10) 0, type := 0, pos := "law.go:177", after := #[{ on := 44, ground := Ground.guard }], guard := some (44, true) }) (v := ?_) rfl (by kernel_rfl) (by kernel_rfl) (by kernel_rfl) (fun _ _ _ h => h) (Or.inl ⟨by rfl, ?_⟩) hHeld ?_
        rotate_left
        · intro W hSw
          clear hSw
          go_simp
          try with_reducible rfl
        try simp only [Act.put, List.setIfInBounds_toArray, List.set_cons_zero, List.set_cons_succ]
        refine wpAnyH_take (i := 51) (oi := { dst := some 150, op := Op.load 3 (Operand.tmp 149), type := 3, pos := "law.go:177", after := #[{ on := 50, ground := Ground.data }, { on := 44, ground := Ground.guard }], guard := some (44, true) }) (v := ?_) rfl (by kernel_rfl) (by kernel_rfl) (by kernel_rfl) (fun _ _ _ h => h) (Or.inl ⟨by rfl, ?_⟩) hHeld ?_
        rotate_left
        · intro W hSw
          obtain ⟨cx, cy, a0, a1, b0, b1, ra, rb⟩ := Fc.out W hSw
          go_simp
          try with_reducible rfl
        try simp only [Act.put, List.setIfInBounds_toArray, List.set_cons_zero, List.set_cons_succ]
        refine wpAnyH_take (i := 52) (oi := { dst := some 151, op := Op.move (Operand.tmp 18), type := 3, pos := "law.go:177", after := #[{ on := 44, ground := Ground.guard }], guard := some (44, true) }) (v := ?_) rfl (by kernel_rfl) (by kernel_rfl) (by kernel_rfl) (fun _ _ _ h => h) (Or.inl ⟨by rfl, ?_⟩) hHeld ?_
        rotate_left
        · intro W hSw
          clear hSw
          go_simp
          try with_reducible rfl
        try simp only [Act.put, List.setIfInBounds_toArray, List.set_cons_zero, List.set_cons_succ]
        refine wpAnyH_take (i := 53) (oi := { dst := some 152, op := Op.move (Operand.tmp 17), type := 33, pos := "law.go:177", after := #[{ on := 44, ground := Ground.guard }], guard := some (44, true) }) (v := ?_) rfl (by kernel_rfl) (by kernel_rfl) (by kernel_rfl) (fun _ _ _ h => h) (Or.inl ⟨by rfl, ?_⟩) hHeld ?_
        rotate_left
        · intro W hSw
          clear hSw
          go_simp
          try with_reducible rfl
        try simp only [Act.put, List.setIfInBounds_toArray, List.set_cons_zero, List.set_cons_succ]
        refine wpAnyH_take (i := 54) (oi := { dst := some 153, op := Op.move (Operand.tmp 18), type := 3, pos := "law.go:177", after := #[{ on := 44, ground := Ground.guard }], guard := some (44, true) }) (v := ?_) rfl (by kernel_rfl) (by kernel_rfl) (by kernel_rfl) (fun _ _ _ h => h) (Or.inl ⟨by rfl, ?_⟩) hHeld ?_
        rotate_left
        · intro W hSw
          clear hSw
          go_simp
          try with_reducible rfl
        try simp only [Act.put, List.setIfInBounds_toArray, List.set_cons_zero, List.set_cons_succ]
        refine wpAnyH_take (i := 55) (oi := { dst := some 154, op := Op.indexAddr 33 (Operand.tmp 152) (Operand.tmp 153), type := 0, pos := "law.go:177", after := #[{ on := 53, ground := Ground.data }, { on := 54, ground := Ground.data }, { on := 44, ground := Ground.guard }], guard := some (44, true) }) (v := ?_) rfl (by kernel_rfl) (by kernel_rfl) (by kernel_rfl) (fun _ _ _ h => h) (Or.inl ⟨by rfl, ?_⟩) hHeld ?_
        rotate_left
        · intro W hSw
          clear hSw
          go_simp
          try with_reducible rfl
        try simp only [Act.put, List.setIfInBounds_toArray, List.set_cons_zero, List.set_cons_succ]
        refine wpAnyH_take (i := 56) (oi := { dst := some 155, op := Op.load 3 (Operand.tmp 154), type := 3, pos := "law.go:177", after := #[{ on := 55, ground := Ground.data }, { on := 44, ground := Ground.guard }], guard := some (44, true) }) (v := ?_) rfl (by kernel_rfl) (by kernel_rfl) (by kernel_rfl) (fun _ _ _ h => h) (Or.inl ⟨by rfl, ?_⟩) hHeld ?_
        rotate_left
        · intro W hSw
          obtain ⟨cx, cy, a0, a1, b0, b1, ra, rb⟩ := Fc.out W hSw
          go_simp
          try with_reducible rfl
        try simp only [Act.put, List.setIfInBounds_toArray, List.set_cons_zero, List.set_cons_succ]
        refine wpAnyH_take (i := 57) (oi := { dst := some 156, op := Op.move (Operand.tmp 16), type := 33, pos := "law.go:177", after := #[{ on := 44, ground := Ground.guard }], guard := some (44, true) }) (v := ?_) rfl (by kernel_rfl) (by kernel_rfl) (by kernel_rfl) (fun _ _ _ h => h) (Or.inl ⟨by rfl, ?_⟩) hHeld ?_
        rotate_left
        · intro W hSw
          clear hSw
          go_simp
          try with_reducible rfl
        try simp only [Act.put, List.setIfInBounds_toArray, List.set_cons_zero, List.set_cons_succ]
        refine wpAnyH_take (i := 58) (oi := { dst := some 157, op := Op.move (Operand.tmp 18), type := 3, pos := "law.go:177", after := #[{ on := 44, ground := Ground.guard }], guard := some (44, true) }) (v := ?_) rfl (by kernel_rfl) (by kernel_rfl) (by kernel_rfl) (fun _ _ _ h => h) (Or.inl ⟨by rfl, ?_⟩) hHeld ?_
        rotate_left
        · intro W hSw
          clear hSw
          go_simp
          try with_reducible rfl
        try simp only [Act.put, List.setIfInBounds_toArray, List.set_cons_zero, List.set_cons_succ]
        refine wpAnyH_take (i := 59) (oi := { dst := some 158, op := Op.indexAddr 33 (Operand.tmp 156) (Operand.tmp 157), type := 0, pos := "law.go:177", after := #[{ on := 57, ground := Ground.data }, { on := 58, ground := Ground.data }, { on := 44, ground := Ground.guard }], guard := some (44, true) }) (v := ?_) rfl (by kernel_rfl) (by kernel_rfl) (by kernel_rfl) (fun _ _ _ h => h) (Or.inl ⟨by rfl, ?_⟩) hHeld ?_
        rotate_left
        · intro W hSw
          clear hSw
          go_simp
          try with_reducible rfl
        try simp only [Act.put, List.setIfInBounds_toArray, List.set_cons_zero, List.set_cons_succ]
        refine wpAnyH_take (i := 60) (oi := { dst := some 159, op := Op.load 3 (Operand.tmp 158), type := 3, pos := "law.go:177", after := #[{ on := 59, ground := Ground.data }, { on := 44, ground := Ground.guard }], guard := some (44, true) }) (v := ?_) rfl (by kernel_rfl) (by kernel_rfl) (by kernel_rfl) (fun _ _ _ h => h) (Or.inl ⟨by rfl, ?_⟩) hHeld ?_
        rotate_left
        · intro W hSw
          obtain ⟨cx, cy, a0, a1, b0, b1, ra, rb⟩ := Fc.out W hSw
          go_simp
          try with_reducible rfl
        try simp only [Act.put, List.setIfInBounds_toArray, List.set_cons_zero, List.set_cons_succ]
        refine wpAnyH_take (i := 62) (oi := { dst := some 161, op := Op.fieldAddr 42 (Operand.tmp 10) 1, type := 0, pos := "law.go:177", after := #[{ on := 44, ground := Ground.guard }], guard := some (44, true) }) (v := ?_) rfl (by kernel_rfl) (by kernel_rfl) (by kernel_rfl) (fun _ _ _ h => h) (Or.inl ⟨by rfl, ?_⟩) hHeld ?_
        rotate_left
        · intro W hSw
          clear hSw
          go_simp
          try with_reducible rfl
        try simp only [Act.put, List.setIfInBounds_toArray, List.set_cons_zero, List.set_cons_succ]
        refine wpAnyH_take (i := 63) (oi := { dst := some 162, op := Op.load 40 (Operand.tmp 161), type := 40, pos := "law.go:177", after := #[{ on := 62, ground := Ground.data }, { on := 44, ground := Ground.guard }], guard := some (44, true) }) (v := ?_) rfl (by kernel_rfl) (by kernel_rfl) (by kernel_rfl) (fun _ _ _ h => h) (Or.inl ⟨by rfl, ?_⟩) hHeld ?_
        rotate_left
        · intro W hSw
          obtain ⟨cx, cy, a0, a1, b0, b1, ra, rb⟩ := Fc.out W hSw
          go_simp
          try with_reducible rfl
        try simp only [Act.put, List.setIfInBounds_toArray, List.set_cons_zero, List.set_cons_succ]
        refine wpAnyH_take (i := 64) (oi := { dst := some 163, op := Op.move (Operand.tmp 18), type := 3, pos := "law.go:177", after := #[{ on := 44, ground := Ground.guard }], guard := some (44, true) }) (v := ?_) rfl (by kernel_rfl) (by kernel_rfl) (by kernel_rfl) (fun _ _ _ h => h) (Or.inl ⟨by rfl, ?_⟩) hHeld ?_
        rotate_left
        · intro W hSw
          clear hSw
          go_simp
          try with_reducible rfl
        try simp only [Act.put, List.setIfInBounds_toArray, List.set_cons_zero, List.set_cons_succ]
        refine wpAnyH_take (i := 65) (oi := { dst := some 164, op := Op.indexAddr 40 (Operand.tmp 162) (Operand.tmp 163), type := 0, pos := "law.go:177", after := #[{ on := 63, ground := Ground.data }, { on := 64, ground := Ground.data }, { on := 44, ground := Ground.guard }], guard := some (44, true) }) (v := ?_) rfl (by kernel_rfl) (by kernel_rfl) (by kernel_rfl) (fun _ _ _ h => h) (Or.inl ⟨by rfl, ?_⟩) hHeld ?_
        rotate_left
        · intro W hSw
          clear hSw
          go_simp
          try with_reducible rfl
        try simp only [Act.put, List.setIfInBounds_toArray, List.set_cons_zero, List.set_cons_succ]
        refine wpAnyH_take (i := 66) (oi := { dst := some 165, op := Op.load 26 (Operand.tmp 164), type := 26, pos := "law.go:177", after := #[{ on := 65, ground := Ground.data }, { on := 44, ground := Ground.guard }], guard := some (44, true) }) rfl (by kernel_rfl) (by kernel_rfl) (by kernel_rfl) (fun _ _ _ h => h) (yieldsIf_load_mid (by rfl) _ _ rfl ga _ rfl PA _ (fun W h => (Fc.out W h).2.2.2.2.2.2.1) Tryd.underlying26 rfl (by rw [HlA.out]; exact infoDg)) hHeld ?_
        try simp only [Act.put, List.setIfInBounds_toArray, List.set_cons_zero, List.set_cons_succ]
        refine wpAnyH_ready (rs := [61]) (by kernel_rfl) (by simp) ?_
        refine AllReadyH.cons (o := { dst := some 160, op := Op.call { callee := Callee.value (Operand.func 29), args := #[Operand.tmp 148, Operand.tmp 150, Operand.tmp 151, Operand.tmp 155, Operand.tmp 159], argTypes := #[26, 3, 3, 3, 3] }, type := 26, pos := "law.go:177", after := #[{ on := 49, ground := Ground.data }, { on := 51, ground := Ground.data }, { on := 52, ground := Ground.data }, { on := 56, ground := Ground.data }, { on := 60, ground := Ground.data }, { on := 44, ground := Ground.chain }, { on := 44, ground := Ground.guard }], guard := some (44, true) }) rfl (fun K hK => ?_) AllReadyH.nil
        go_simp
        go_at_call 29
        refine (HCbk.out J2.out _ (Hb11.out.trans (hHeld.mono Hb11.out.size))).mono ?_
        rintro e w13 ⟨rfl, hb13⟩
        have heq13 := heA.out
        simp only [decide_true] at heq13
        have hH13 : Below w11.heap.size w11 w13 := hHeld.trans (hb13.mono hHeld.size)
        refine hK.out _ _ hH13 (fun hHeld => ?_)
        clear hK K
        try simp only [Act.put, List.setIfInBounds_toArray, List.set_cons_zero, List.set_cons_succ]
        refine wpAnyH_take (i := 67) (oi := { dst := some 166, op := Op.binOp BinOp.neq 26 (Operand.tmp 160) (Operand.tmp 165) 26, type := 4, pos := "law.go:177", after := #[{ on := 61, ground := Ground.data }, { on := 66, ground := Ground.data }, { on := 44, ground := Ground.guard }], guard := some (44, true) }) (v := ?_) rfl (by kernel_rfl) (by kernel_rfl) (by kernel_rfl) (fun _ _ _ h => h) (Or.inl ⟨by rfl, ?_⟩) hHeld ?_
        rotate_left
        · intro W hSw
          clear hSw
          go_simp
          try with_reducible rfl
        try simp only [Act.put, List.setIfInBounds_toArray, List.set_cons_zero, List.set_cons_succ]
        refine wpAnyH_take (i := 68) (oi := { dst := some 167, op := Op.pick (Operand.tmp 143) (Operand.tmp 166) (Operand.const (Value.bool false)), type := 4, pos := "law.go:177", after := #[{ on := 44, ground := Ground.data }, { on := 67, ground := Ground.data }, { on := 34, ground := Ground.guard }], guard := some (34, false) }) (v := ?_) rfl (by kernel_rfl) (by kernel_rfl) (by kernel_rfl) (fun _ _ _ h => h) (Or.inl ⟨by rfl, ?_⟩) hHeld ?_
        rotate_left
        · intro W hSw
          clear hSw
          go_simp
          try with_reducible rfl
        try simp only [Act.put, List.setIfInBounds_toArray, List.set_cons_zero, List.set_cons_succ]
        refine wpAnyH_take (i := 69) (oi := { dst := some 168, op := Op.pick (Operand.tmp 133) (Operand.const (Value.bool true)) (Operand.tmp 167), type := 4, pos := "law.go:177", after := #[{ on := 34, ground := Ground.data }, { on := 68, ground := Ground.data }], guard := none }) (v := ?_) rfl (by kernel_rfl) (by kernel_rfl) (by kernel_rfl) (fun _ _ _ h => h) (Or.inl ⟨by rfl, ?_⟩) hHeld ?_
        rotate_left
        · intro W hSw
          clear hSw
          go_simp
          try with_reducible rfl
        try simp only [Act.put, List.setIfInBounds_toArray, List.set_cons_zero, List.set_cons_succ]
        refine wpAnyH_done (by kernel_rfl) ?_ _
        go_wp2_with fail
        go_roundw
        case rel => exact ⟨k + 1, by omega, by go_num, hHeld⟩
        case measure => simp [intOf]; omega
    · have hk67 : k = 67 := by omega
      subst hk67
      clear hlt
      go_wp2_with fail
      go_ret
      exact ⟨rfl, Hbw.out⟩
end Go.Proofs.YtiloaheaglcpbaaDoor
