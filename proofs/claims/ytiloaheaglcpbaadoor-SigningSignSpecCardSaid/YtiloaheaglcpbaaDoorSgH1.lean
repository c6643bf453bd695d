/- Signing: the statement SigningOrder, the walk. -/
import Derived.Test.YtiloaheaglcpbaaDoorSgG3
namespace Go.Proofs.YtiloaheaglcpbaaDoor
open Go.RowKit

theorem infoKey : (Tryd.prog.info? 24).map (·.size) = some 3 := by kernel_rfl
theorem infoSig : (Tryd.prog.info? 42).map (·.size) = some 3 := by kernel_rfl
/-- two variables made and filled -/
def two (w : World) (K S : Array Value) : World := (((w.alloc (.cells #[.slice none 0 0, .int .i64 0, .int .i64 0] 24)).alloc (.cells #[.int .i64 0, .slice none 0 0, .slice none 0 0] 42)).setRow w.heap.size K).setRow (w.heap.size + 1) S
theorem two_0 (w : World) : Blk ((w.alloc (.cells #[.slice none 0 0, .int .i64 0, .int .i64 0] 24)).alloc (.cells #[.int .i64 0, .slice none 0 0, .slice none 0 0] 42)) w.heap.size 24 #[.slice none 0 0, .int .i64 0, .int .i64 0] := (Blk.new w _ _).alloc _
theorem two_1 (w : World) (K : Array Value) : Blk (((w.alloc (.cells #[.slice none 0 0, .int .i64 0, .int .i64 0] 24)).alloc (.cells #[.int .i64 0, .slice none 0 0, .slice none 0 0] 42)).setRow w.heap.size K) (w.heap.size + 1) 42 #[.int .i64 0, .slice none 0 0, .slice none 0 0] := by
  have h := Blk.new (w.alloc (.cells #[.slice none 0 0, .int .i64 0, .int .i64 0] 24)) 42 #[.int .i64 0, .slice none 0 0, .slice none 0 0]
  rw [World.size_alloc] at h
  exact h.farRow (by omega) K
theorem two_k (w : World) (K S : Array Value) : Blk (two w K S) w.heap.size 24 K := ((two_0 w).setRow K).farRow (by omega) S
theorem two_s (w : World) (K S : Array Value) : Blk (two w K S) (w.heap.size + 1) 42 S := (two_1 w K).setRow S
theorem two_b (w : World) (K S : Array Value) : Below w.heap.size w (two w K S) :=
  setRow_below (setRow_below ((below_alloc w _).alloc (by simp) _) (Nat.le_refl _) _) (by omega) _
theorem one3 {a b c : Value} (ha : a.oneCell' = true) (hb : b.oneCell' = true) (hc : c.oneCell' = true) : (#[a, b, c] : Array Value).all (·.oneCell') = true :=
  all_oneCell_toArray (show ∀ u ∈ [a, b, c], u.oneCell' = true by
    intro u hu
    simp only [List.mem_cons, List.not_mem_nil, or_false] at hu
    rcases hu with rfl | rfl | rfl <;> assumption)

set_option maxRecDepth 100000 in
set_option maxHeartbeats 1000000 in
theorem order_main (seed : List UInt8) (n : Nat) (hn : seed.length = n) (sa : Option Addr) (scap : Nat) (a : List UInt8) (qa : Nat) (ha : a.length = qa) (aa : Option Addr) (acap : Nat) (b : List UInt8) (qb : Nat) (hb' : b.length = qb) (ba : Option Addr) (bcap : Nat)
    (hk : isKeyB n 2 0 = true) (hqa : qa ≤ 300) (hqb : qb ≤ 300) (w : World) (hs : Sl w 1 (.slice sa n scap) n (bc seed)) (hya : Sl w 1 (.slice aa qa acap) qa (bc a)) (hyb : Sl w 1 (.slice ba qb bcap) qb (bc b)) (hT : Tabs w) :
    Calls Tryd.prog 7 #[.slice sa n scap, .slice aa qa acap, .slice ba qb bcap] w fun e w' => e = .returned (.bool true) ∧ Below w.heap.size w w' := by
  have hk9 := isKeyB_t hk
  have HSane := Lib.hid (fun W => sane_any W)
  have HNew := Lib.hid (fun W => new_any sa n scap 2 W)
  simp only [hk, if_true] at HNew
  have hk1 : isKeyB n 2 1 = true := decide_eq_true (by omega)
  have hE : signE n 2 2 qa = 320 := by
    have hk2 : isKeyB n 2 2 = true := decide_eq_true (by omega)
    simp only [signE, hk2]
    rw [if_neg (by simp), if_neg (by omega)]; rfl
  have HPub : Hid (∀ W, Below w.heap.size w W → Calls Tryd.prog 20 #[.agg #[.slice sa n scap, .int .i64 2, .int .i64 0]] W fun e w' => e = .returned (.tuple #[arrV (pub seed 2), .int .i64 0]) ∧ Below W.heap.size W w') :=
    Lib.hid (fun W hb => public_ok seed n hn sa scap 2 (.inr rfl) 0 hk W (hs.next hb) (hT.next hb))
  have HS1 : Hid (∀ W, Below w.heap.size w W → Calls Tryd.prog 22 #[.agg #[.slice sa n scap, .int .i64 2, .int .i64 0], .slice aa qa acap] W fun e w' => ∃ v p, e = .returned (.tuple #[.agg #[.slice sa n scap, .int .i64 2, .int .i64 1], .agg #[.int .i64 0, v, p], .int .i64 0])
      ∧ w'.ownsRow W.heap.size 26 32 v 67 (prC seed 0 (mh (pub seed 2) 0 a) 67) ∧ w'.ownsRow W.heap.size 26 32 p 1 (ptC seed 2 0) ∧ Below W.heap.size W w') :=
    Lib.hid (fun W hb => sign_ok seed n hn sa scap 2 (.inr rfl) 0 (by omega) hk a qa ha (by omega) aa acap W (hs.next hb) (hya.next hb) (hT.next hb))
  have HS2 : Hid (∀ W, Below w.heap.size w W → Calls Tryd.prog 22 #[.agg #[.slice sa n scap, .int .i64 2, .int .i64 1], .slice ba qb bcap] W fun e w' => ∃ v p, e = .returned (.tuple #[.agg #[.slice sa n scap, .int .i64 2, .int .i64 2], .agg #[.int .i64 1, v, p], .int .i64 0])
      ∧ w'.ownsRow W.heap.size 26 32 v 67 (prC seed 1 (mh (pub seed 2) 1 b) 67) ∧ w'.ownsRow W.heap.size 26 32 p 1 (ptC seed 2 1) ∧ Below W.heap.size W w') :=
    Lib.hid (fun W hb => sign_ok seed n hn sa scap 2 (.inr rfl) 1 (by omega) hk1 b qb hb' (by omega) ba bcap W (hs.next hb) (hyb.next hb) (hT.next hb))
  have HS3 : Hid (∀ W, Calls Tryd.prog 22 #[.agg #[.slice sa n scap, .int .i64 2, .int .i64 2], .slice aa qa acap] W fun e w' => e = .returned (.tuple #[.agg #[.slice none 0 0, .int .i64 0, .int .i64 0], .agg #[.int .i64 0, .slice none 0 0, .slice none 0 0], .int .i64 320]) ∧ Below W.heap.size W w') :=
    Lib.hid (fun W => by have := sign_bad sa n scap 2 2 aa qa acap W (by rw [hE]; decide); rw [hE] at this; exact this)
  have HV1 : Hid (∀ v p B B' W, Below w.heap.size w W → W.ownsRow B 26 32 v 67 (prC seed 0 (mh (pub seed 2) 0 a) 67) → W.ownsRow B' 26 32 p 1 (ptC seed 2 0) → Calls Tryd.prog 25 #[arrV (pub seed 2), .int .i64 2, .slice aa qa acap, .agg #[.int .i64 0, v, p]] W fun e w' => e = .returned (.bool true) ∧ Below W.heap.size W w') :=
    Lib.hid (fun v p B B' W hb hv hp => verify_signed seed 2 (.inr rfl) 0 (by omega) a qa ha (by omega) aa acap v p B B' W (hya.next hb) hv hp (hT.next hb))
  have HV2 : Hid (∀ v p B B' W, Below w.heap.size w W → W.ownsRow B 26 32 v 67 (prC seed 1 (mh (pub seed 2) 1 b) 67) → W.ownsRow B' 26 32 p 1 (ptC seed 2 1) → Calls Tryd.prog 25 #[arrV (pub seed 2), .int .i64 2, .slice ba qb bcap, .agg #[.int .i64 1, v, p]] W fun e w' => e = .returned (.bool true) ∧ Below W.heap.size W w') :=
    Lib.hid (fun v p B B' W hb hv hp => verify_signed seed 2 (.inr rfl) 1 (by omega) b qb hb' (by omega) ba bcap v p B B' W (hyb.next hb) hv hp (hT.next hb))
  have HlP := Lib.hid (show (bc (pub seed 2)).length = 32 by rw [bc_len, pub_len])
  have HoP := Lib.hid (bc_one (pub seed 2))
  unfold arrV at HPub HV1 HV2
  obtain ⟨DP, hDP⟩ : ∃ DP, bc (pub seed 2) = DP := ⟨_, rfl⟩
  rw [hDP] at HPub HlP HoP
  simp only [hDP] at HV1 HV2
  obtain ⟨C1, hC1⟩ : ∃ C, prC seed 0 (mh (pub seed 2) 0 a) 67 = C := ⟨_, rfl⟩
  obtain ⟨C2, hC2⟩ : ∃ C, prC seed 1 (mh (pub seed 2) 1 b) 67 = C := ⟨_, rfl⟩
  obtain ⟨P1, hP1⟩ : ∃ C, ptC seed 2 0 = C := ⟨_, rfl⟩
  obtain ⟨P2, hP2⟩ : ∃ C, ptC seed 2 1 = C := ⟨_, rfl⟩
  simp only [hC1, hP1] at HS1 HV1
  simp only [hC2, hP2] at HS2 HV2
  unfold keyV at HNew
  have j1 : ¬ (300 : Int) < (qa : Int) := by omega
  have j2 : ¬ (300 : Int) < (qb : Int) := by omega
  clear hs hya hyb hT hn ha hb' hk hk1 hE hDP hC1 hC2 hP1 hP2 hk9
  go_enter Tryd.func7, Tryd.ntmps7
  go_wp2_with (first
    | (refine (HSane.out _).mono ?_; rintro e w1 ⟨rfl, hb1⟩)
    | (refine (HNew.out _).mono ?_
       rintro e w2 ⟨rfl, hb2⟩
       have hb2' := hb1.trans (hb2.mono hb1.size)
       have hBr := Blk.new w2 24 #[.slice sa n scap, .int .i64 2, .int .i64 0]
       have hb3 := hb2'.alloc hb2'.size (.cells #[.slice sa n scap, .int .i64 2, .int .i64 0] 24)
       obtain ⟨w3, hw3⟩ : ∃ w3, w2.alloc (.cells #[.slice sa n scap, .int .i64 2, .int .i64 0] 24) = w3 := ⟨_, rfl⟩
       rw [hw3] at hBr hb3
       have HW3 := Lib.hid hw3
       have HK3 := Lib.hid hBr
       have Hb3 := Lib.hid hb3
       clear hb1 hb2 hb2' hBr hb3 hw3)
    | (rw [HW3.out]
       refine (HPub.out _ Hb3.out).mono ?_
       rintro e w4 ⟨rfl, hb4⟩
       have hK := HK3.out.below hb4 HK3.out.lt
       have hl := hK.lt
       have hb4' := Hb3.out.trans (hb4.mono Hb3.out.size)
       have hB := Blk.new w4 26 #[.int .u8 0, .int .u8 0, .int .u8 0, .int .u8 0, .int .u8 0, .int .u8 0, .int .u8 0, .int .u8 0, .int .u8 0, .int .u8 0, .int .u8 0, .int .u8 0, .int .u8 0, .int .u8 0, .int .u8 0, .int .u8 0, .int .u8 0, .int .u8 0, .int .u8 0, .int .u8 0, .int .u8 0, .int .u8 0, .int .u8 0, .int .u8 0, .int .u8 0, .int .u8 0, .int .u8 0, .int .u8 0, .int .u8 0, .int .u8 0, .int .u8 0, .int .u8 0]
       have hBr := hB.setRow DP.toArray
       have hK5 := (hK.alloc (.cells #[.int .u8 0, .int .u8 0, .int .u8 0, .int .u8 0, .int .u8 0, .int .u8 0, .int .u8 0, .int .u8 0, .int .u8 0, .int .u8 0, .int .u8 0, .int .u8 0, .int .u8 0, .int .u8 0, .int .u8 0, .int .u8 0, .int .u8 0, .int .u8 0, .int .u8 0, .int .u8 0, .int .u8 0, .int .u8 0, .int .u8 0, .int .u8 0, .int .u8 0, .int .u8 0, .int .u8 0, .int .u8 0, .int .u8 0, .int .u8 0, .int .u8 0, .int .u8 0] 26)).farRow (show w2.heap.size ≠ w4.heap.size by omega) DP.toArray
       have hb5 := setRow_below (g := w4.heap.size) (hb4'.alloc hb4'.size (.cells #[.int .u8 0, .int .u8 0, .int .u8 0, .int .u8 0, .int .u8 0, .int .u8 0, .int .u8 0, .int .u8 0, .int .u8 0, .int .u8 0, .int .u8 0, .int .u8 0, .int .u8 0, .int .u8 0, .int .u8 0, .int .u8 0, .int .u8 0, .int .u8 0, .int .u8 0, .int .u8 0, .int .u8 0, .int .u8 0, .int .u8 0, .int .u8 0, .int .u8 0, .int .u8 0, .int .u8 0, .int .u8 0, .int .u8 0, .int .u8 0, .int .u8 0, .int .u8 0] 26)) hb4'.size DP.toArray
       obtain ⟨w5, hw5⟩ : ∃ w5, (w4.alloc (.cells #[.int .u8 0, .int .u8 0, .int .u8 0, .int .u8 0, .int .u8 0, .int .u8 0, .int .u8 0, .int .u8 0, .int .u8 0, .int .u8 0, .int .u8 0, .int .u8 0, .int .u8 0, .int .u8 0, .int .u8 0, .int .u8 0, .int .u8 0, .int .u8 0, .int .u8 0, .int .u8 0, .int .u8 0, .int .u8 0, .int .u8 0, .int .u8 0, .int .u8 0, .int .u8 0, .int .u8 0, .int .u8 0, .int .u8 0, .int .u8 0, .int .u8 0, .int .u8 0] 26)).setRow w4.heap.size DP.toArray = w5 := ⟨_, rfl⟩
       rw [hw5] at hBr hK5 hb5
       have HW5 := Lib.hid hw5
       have HB5 := Lib.hid hB
       have HP5 := Lib.hid hBr
       have Hb5 := Lib.hid hb5
       clear hK hl hb4 hb4' hB hBr hb5 hw5
       obtain ⟨g0, g1, g2, _, _, _⟩ := cells3 hK5
       clear hK5)
    | (refine wpList_store_row rfl 26 _ _ rfl w4.heap.size DP.toArray rfl rfl 26 _ HB5.out (by rw [List.size_toArray, HlP.out]; exact infoDg) (show 32 = DP.length from HlP.out.symm) (all_oneCell_toArray HoP.out) ?_; rw [HW5.out])
    | (with_reducible refine Calls.mono (HS1.out _ Hb5.out) ?_
       rintro e w6 ⟨v1, p1, rfl, ho1, hq1, hb6⟩
       obtain ⟨v1, c1, rfl⟩ := (Sl.of_own ho1).form
       obtain ⟨p1, d1, rfl⟩ := (Sl.of_own hq1).form
       have hb6' := Hb5.out.trans (hb6.mono Hb5.out.size)
       have h2 := two_b w6 #[.slice sa n scap, .int .i64 2, .int .i64 1] #[.int .i64 0, .slice v1 67 c1, .slice p1 1 d1]
       have hk7 := two_k w6 #[.slice sa n scap, .int .i64 2, .int .i64 1] #[.int .i64 0, .slice v1 67 c1, .slice p1 1 d1]
       have hs7 := two_s w6 #[.slice sa n scap, .int .i64 2, .int .i64 1] #[.int .i64 0, .slice v1 67 c1, .slice p1 1 d1]
       obtain ⟨w7, hw7⟩ : ∃ w7, two w6 #[.slice sa n scap, .int .i64 2, .int .i64 1] #[.int .i64 0, .slice v1 67 c1, .slice p1 1 d1] = w7 := ⟨_, rfl⟩
       rw [hw7] at h2 hk7 hs7
       unfold two at hw7
       have HW7 := Lib.hid hw7
       have HP7 := Lib.hid ((HP5.out.below hb6 HP5.out.lt).below h2 (HP5.out.below hb6 HP5.out.lt).lt)
       have Ho17 := Lib.hid (own_next ho1 h2)
       have Hq17 := Lib.hid (own_next hq1 h2)
       have Hb7 := Lib.hid (hb6'.trans (h2.mono hb6'.size))
       have HS7 := Lib.hid hs7
       clear ho1 hq1 hb6 hb6' h2 hw7 hs7
       have HK7 := Lib.hid hk7
       clear hk7)
    | (refine wpList_store_row rfl 24 _ _ rfl w6.heap.size #[.slice sa n scap, .int .i64 2, .int .i64 1] rfl rfl 24 _ (two_0 w6) infoKey rfl (one3 rfl rfl rfl) ?_)
    | (refine wpList_store_row rfl 42 _ _ rfl (w6.heap.size + 1) #[.int .i64 0, .slice v1 67 c1, .slice p1 1 d1] rfl rfl 42 _ (two_1 w6 #[.slice sa n scap, .int .i64 2, .int .i64 1]) infoSig rfl (one3 rfl rfl rfl) ?_; rw [HW7.out])
    | (refine wpList_load_row rfl 24 _ rfl w6.heap.size rfl 24 #[.slice sa n scap, .int .i64 2, .int .i64 1] (0, 0) _ HK7.out Tryd.underlying24 rfl infoKey ?_)
    | (with_reducible refine Calls.mono (HS2.out _ Hb7.out) ?_
       rintro e w8 ⟨v2, p2, rfl, ho2, hq2, hb8⟩
       obtain ⟨v2, c2, rfl⟩ := (Sl.of_own ho2).form
       obtain ⟨p2, d2, rfl⟩ := (Sl.of_own hq2).form
       have hb8' := Hb7.out.trans (hb8.mono Hb7.out.size)
       have h2 := two_b w8 #[.slice sa n scap, .int .i64 2, .int .i64 2] #[.int .i64 1, .slice v2 67 c2, .slice p2 1 d2]
       have hk9 := two_k w8 #[.slice sa n scap, .int .i64 2, .int .i64 2] #[.int .i64 1, .slice v2 67 c2, .slice p2 1 d2]
       have hs9 := two_s w8 #[.slice sa n scap, .int .i64 2, .int .i64 2] #[.int .i64 1, .slice v2 67 c2, .slice p2 1 d2]
       obtain ⟨w9, hw9⟩ : ∃ w9, two w8 #[.slice sa n scap, .int .i64 2, .int .i64 2] #[.int .i64 1, .slice v2 67 c2, .slice p2 1 d2] = w9 := ⟨_, rfl⟩
       rw [hw9] at h2 hk9 hs9
       unfold two at hw9
       have HW9 := Lib.hid hw9
       have hb79 : Below w7.heap.size w7 w9 := hb8.trans (h2.mono hb8.size)
       have HP9 := Lib.hid (HP7.out.below hb79 HP7.out.lt)
       have HS79 := Lib.hid (HS7.out.below hb79 HS7.out.lt)
       have Ho19 := Lib.hid (own_next Ho17.out hb79)
       have Hq19 := Lib.hid (own_next Hq17.out hb79)
       have Ho29 := Lib.hid (own_next ho2 h2)
       have Hq29 := Lib.hid (own_next hq2 h2)
       have Hb9 := Lib.hid (hb8'.trans (h2.mono hb8'.size))
       have HS9 := Lib.hid hs9
       clear ho2 hq2 hb8 hb8' h2 hw9 hs9 hb79
       have HK9 := Lib.hid hk9
       clear hk9)
    | (refine wpList_store_row rfl 24 _ _ rfl w8.heap.size #[.slice sa n scap, .int .i64 2, .int .i64 2] rfl rfl 24 _ (two_0 w8) infoKey rfl (one3 rfl rfl rfl) ?_)
    | (refine wpList_store_row rfl 42 _ _ rfl (w8.heap.size + 1) #[.int .i64 1, .slice v2 67 c2, .slice p2 1 d2] rfl rfl 42 _ (two_1 w8 #[.slice sa n scap, .int .i64 2, .int .i64 2]) infoSig rfl (one3 rfl rfl rfl) ?_; rw [HW9.out])
    | (refine wpList_load_row rfl 24 _ rfl w8.heap.size rfl 24 #[.slice sa n scap, .int .i64 2, .int .i64 2] (0, 0) _ HK9.out Tryd.underlying24 rfl infoKey ?_)
    | (with_reducible refine Calls.mono (HS3.out _) ?_
       rintro e w10 ⟨rfl, hb10⟩
       have h2 := two_b w10 #[.slice none 0 0, .int .i64 0, .int .i64 0] #[.int .i64 0, .slice none 0 0, .slice none 0 0]
       obtain ⟨w11, hw11⟩ : ∃ w11, two w10 #[.slice none 0 0, .int .i64 0, .int .i64 0] #[.int .i64 0, .slice none 0 0, .slice none 0 0] = w11 := ⟨_, rfl⟩
       rw [hw11] at h2
       unfold two at hw11
       have HW11 := Lib.hid hw11
       have hb79 : Below w9.heap.size w9 w11 := hb10.trans (h2.mono hb10.size)
       have HP11 := Lib.hid (HP9.out.below hb79 HP9.out.lt)
       have HS711 := Lib.hid (HS79.out.below hb79 HS79.out.lt)
       have HS911 := Lib.hid (HS9.out.below hb79 HS9.out.lt)
       have Ho111 := Lib.hid (own_next Ho19.out hb79)
       have Hq111 := Lib.hid (own_next Hq19.out hb79)
       have Ho211 := Lib.hid (own_next Ho29.out hb79)
       have Hq211 := Lib.hid (own_next Hq29.out hb79)
       have Hb11 := Lib.hid (Hb9.out.trans (hb79.mono Hb9.out.size))
       clear hb10 h2 hw11 hb79
       obtain ⟨g0, g1, g2, _, _, _⟩ := cells3 HS711.out
       obtain ⟨i0, i1, i2, _, _, _⟩ := cells3 HS911.out)
    | (refine wpList_store_row rfl 24 _ _ rfl w10.heap.size #[.slice none 0 0, .int .i64 0, .int .i64 0] rfl rfl 24 _ (two_0 w10) infoKey rfl (one3 rfl rfl rfl) ?_)
    | (refine wpList_store_row rfl 42 _ _ rfl (w10.heap.size + 1) #[.int .i64 0, .slice none 0 0, .slice none 0 0] rfl rfl 42 _ (two_1 w10 #[.slice none 0 0, .int .i64 0, .int .i64 0]) infoSig rfl (one3 rfl rfl rfl) ?_; rw [HW11.out])
    | (refine wpList_load_row_g (by first | rfl | simp [Region.wanted, yielded]) 26 _ rfl w4.heap.size rfl 26 DP.toArray (0, 0) _ HP11.out Tryd.underlying26 rfl (by rw [List.size_toArray, HlP.out]; exact infoDg) ?_)
    | (refine wpList_load_row_g (by first | rfl | simp [Region.wanted, yielded]) 26 _ rfl w4.heap.size rfl 26 DP.toArray (0, 0) _ HP12.out Tryd.underlying26 rfl (by rw [List.size_toArray, HlP.out]; exact infoDg) ?_)
    | (with_reducible refine Calls.mono (HV1.out _ _ _ _ _ Hb11.out Ho111.out Hq111.out) ?_
       rintro e w12 ⟨rfl, hb12⟩
       have HP12 := Lib.hid (HP11.out.below hb12 HP11.out.lt)
       have HS912 := Lib.hid (HS911.out.below hb12 HS911.out.lt)
       have Ho212 := Lib.hid (own_next Ho211.out hb12)
       have Hq212 := Lib.hid (own_next Hq211.out hb12)
       have Hb12 := Lib.hid (Hb11.out.trans (hb12.mono Hb11.out.size))
       clear hb12 g0 g1 g2 i0 i1 i2
       obtain ⟨i0, i1, i2, _, _, _⟩ := cells3 HS912.out)
    | (with_reducible refine Calls.mono (HV2.out _ _ _ _ _ Hb12.out Ho212.out Hq212.out) ?_
       rintro e w13 ⟨rfl, hb13⟩
       have Hb13 := Lib.hid (Hb12.out.trans (hb13.mono Hb12.out.size))
       clear hb13))
  go_ret
  exact ⟨rfl, Hb13.out⟩
end Go.Proofs.YtiloaheaglcpbaaDoor
