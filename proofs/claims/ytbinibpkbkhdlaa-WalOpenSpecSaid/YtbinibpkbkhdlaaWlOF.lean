/- Wal: the statement WalOpenSpec, the walk. -/
import Derived.Test.YtbinibpkbkhdlaaWlOE
import Derived.Test.YtbinibpkbkhdlaaWlAp
namespace Go.Proofs.Ytbinibpkbkhdlaa
open Go.RowKit

theorem outr_len (S : List (List UInt8)) (f : Nat) : ∀ (k : Nat) (b : W32), (outr S f k b).length ≤ S.length - k := by
  induction f with
  | zero => intro k b; simp [outr]
  | succ f ih =>
    intro k b
    rw [outr]
    split
    · split
      · split
        · simp
        · rename_i hk _ r k' hin
          have h1 := inn_lt _ _ _ _ _ _ _ hin
          have h2 := ih k' (num4 (S.getD k []) 0)
          simp only [List.length_cons]
          omega
      · simp
    · simp
theorem opL_len (D : Dk) (f m : Int) : (opL D f m).recs.length ≤ 140737488351232 := by
  by_cases h : opE D f m = 0
  · have hc : ¬ chk D = 1 := fun hc => by rw [opE_1 hc] at h; omega
    have hc0 : chk D = 0 := by
      rcases chk01 D with h | h
      · exact h
      · exact absurd h hc
    obtain ⟨_, k2, _⟩ := chk_ok hc0
    rw [opL, if_pos h]
    have := outr_len (part D f.toNat m.toNat) ((part D f.toNat m.toNat).length + 1) 0 0#32
    have hp : (part D f.toNat m.toNat).length ≤ D.secs.length := by unfold part; simp; omega
    simp only [recs]
    omega
  · rw [opL_bad h]; simp [Lg.zero]
theorem secs_lit1 (w : World) (b : List UInt8) (ab : Option Addr) (cb n : Nat) (hn : b.length = n) (hv : Sl w 1 (.slice ab n cb) n (bc b)) : Secs (w.alloc (.cells #[.slice ab n cb] 25)) (.slice (some ⟨w.heap.size, 0, none⟩) 1 1) [b] := by
  subst hn
  refine ⟨[.slice ab b.length cb], (Blk.new w 25 #[.slice ab b.length cb]).sl rfl rfl, fun i s hs => ?_⟩
  rcases i with _ | i
  · cases hs
    exact ⟨_, rfl, hv.alloc _⟩
  · simp at hs
set_option maxRecDepth 100000 in
set_option maxHeartbeats 4000000 in
theorem wopen_any (D : Dk) (d : Value) (fi ma : Int) (b : List UInt8) (n : Nat) (hn : b.length = n) (hn2 : n ≤ maxLen) (ab : Option Addr) (cb : Nat) (w : World) (hd : DkV w d D) (hS : D.secs.length ≤ maxLen) (hvb : Sl w 1 (.slice ab n cb) n (bc b)) :
    Calls Try.prog 3 #[d, .int .i64 fi, .int .i64 ma, .slice ab n cb] w fun e w' => e = .returned (.bool true) ∧ Below w.heap.size w w' := by
  have hS2 := opL_len D fi ma
  obtain ⟨E, hE⟩ : ∃ E, opE D fi ma = E := ⟨_, rfl⟩
  have hAp := fun W (hb : Below w.heap.size w W) => open_any D _ fi ma W (hd.next hb)
  have hAr := fun W (hb : Below w.heap.size w W) => ropen_any D _ fi ma W (hd.next hb) hS
  have hSa := fun W (hb : Below w.heap.size w W) => sum_any b n hn hn2 ab cb W (hvb.next hb)
  have hSr := fun W (hb : Below w.heap.size w W) => rsum_any b n hn hn2 ab cb W (hvb.next hb)
  rw [hE] at hAp hAr
  obtain ⟨L2, hL2⟩ : ∃ L2, opL D fi ma = L2 := ⟨_, rfl⟩
  rw [hL2] at hS2 hAp hAr
  obtain ⟨X, hX⟩ : ∃ X, crc b = X := ⟨_, rfl⟩
  rw [hX] at hSa hSr
  unfold wv at hSa hSr
  obtain ⟨f2, m2, S2, y2⟩ := L2
  obtain ⟨v, rfl, hv⟩ := hd
  obtain ⟨S, left, tear, stop⟩ := D
  simp only [dkAgg] at hv hS hS2 hAp hAr ⊢
  obtain ⟨a, cap, rfl⟩ := hv.len
  obtain ⟨N, hN⟩ : ∃ N, S.length = N := ⟨_, rfl⟩
  have HFw := Lib.hid (fun W (hb : Below w.heap.size w W) => few_any a N cap left tear stop _ [b] (W.alloc (.cells #[.slice ab n cb] 25)) (secs_lit1 W b ab cb n hn (hvb.next hb)) (by simp))
  rw [hN] at hAp hAr ⊢
  have HAp := Lib.hid hAp
  have HAr := Lib.hid hAr
  have HSa := Lib.hid hSa
  have HSr := Lib.hid hSr
  have h0 := Blk.new w 24 #[.slice a N cap, .int .i64 left, .int .i64 tear, .bool stop]
  have HB0 := Lib.hid h0
  have HBl := Lib.hid h0.lt
  have Hb0 := Lib.hid (below_alloc w (.cells #[.slice a N cap, .int .i64 left, .int .i64 tear, .bool stop] 24))
  have HS2 := Lib.hid hS2
  clear hS hv hvb hn hN h0 hAp hAr hSa hSr hE hX hL2 hS2 hn2
  go_enter Try.func3, Try.ntmps3
  go_wp2_with fail
  refine (sane_any _).mono ?_
  rintro e w1 ⟨rfl, hb⟩
  have Hb1 := Lib.hid (Hb0.out.trans (hb.mono Hb0.out.size))
  have HB1 := Lib.hid (HB0.out.below hb HBl.out)
  clear hb
  obtain ⟨c0, c1, c2, c3, _, _, _, _⟩ := dkCells HB1.out
  go_wp2_with fail
  refine (HFw.out _ Hb1.out).mono ?_
  rintro e w2 ⟨⟨few, rfl⟩, hb⟩
  clear c0 c1 c2 c3
  have Hb1x := Lib.hid (Hb1.out.alloc Hb1.out.size (.cells #[.slice ab n cb] 25))
  have Hb2 := Lib.hid (Hb1x.out.trans (hb.mono Hb1x.out.size))
  have HB2 := Lib.hid ((HB1.out.alloc (.cells #[.slice ab n cb] 25)).below hb (HB1.out.alloc _).lt)
  clear hb
  obtain ⟨c0, c1, c2, c3, _, _, _, _⟩ := dkCells HB2.out
  cases few
  · go_wp2_with fail
    exact bodyPost_ret (v := .bool true) (by simp [results, Try.results3, go_sem, *]) rfl ⟨rfl, Hb2.out⟩
  go_wp2_with fail
  refine (HAp.out _ Hb2.out).mono ?_
  rintro e w3 ⟨dx, rfl, ⟨vx, rfl, hsx⟩, hb⟩
  simp only [] at hsx
  obtain ⟨ax, cx, rfl⟩ := hsx.len
  obtain ⟨M, hM⟩ : ∃ M, S2.length = M := ⟨_, rfl⟩
  have hlx : LgV w3 (lgAgg (.slice ax M cx) ⟨f2, m2, S2, y2⟩) ⟨f2, m2, S2, y2⟩ := ⟨_, rfl, by rw [← hM]; exact hsx⟩
  rw [hM]
  unfold lgAgg at hlx ⊢
  simp only [] at hlx ⊢
  clear c0 c1 c2 c3 hsx
  have Hb3 := Lib.hid (Hb2.out.trans (hb.mono Hb2.out.size))
  have HB3 := Lib.hid (HB2.out.below hb HB2.out.lt)
  clear hb
  obtain ⟨c0, c1, c2, c3, _, _, _, _⟩ := dkCells HB3.out
  have hlt := HB3.out.lt
  have hne : ¬ w.heap.size = w3.heap.size := by omega
  have hne' : ¬ w3.heap.size = w.heap.size := by omega
  go_wp2_with fail
  obtain ⟨w4, hw4⟩ : ∃ w4, w3.alloc (.cells #[.int .i64 f2, .int .i64 m2, .slice ax M cx, .int .i64 y2] 29) = w4 := ⟨_, rfl⟩
  have hb34 : Below w3.heap.size w3 w4 := by rw [← hw4]; exact below_alloc w3 _
  have hQ4 : Blk w4 w3.heap.size 29 #[.int .i64 f2, .int .i64 m2, .slice ax M cx, .int .i64 y2] := by rw [← hw4]; exact Blk.new w3 _ _
  have HQ4 := Lib.hid hQ4
  have HB4 := Lib.hid (HB3.out.below hb34 HB3.out.lt)
  have Hb4 := Lib.hid (Hb3.out.trans (hb34.mono Hb3.out.size))
  have Hlx4 := Lib.hid (hlx.next hb34)
  rw [hw4]
  obtain ⟨G5, hG5⟩ : ∃ G5, w3.heap.size = G5 := ⟨_, rfl⟩
  rw [hG5] at HQ4 ⊢
  clear c0 c1 c2 c3 hlt hne hne' hw4 hQ4 hlx hb34
  refine (HAr.out _ Hb4.out).mono ?_
  rintro e w5 ⟨dy, rfl, ⟨vy, rfl, hsy⟩, hb⟩
  simp only [] at hsy
  obtain ⟨ay, cy, rfl⟩ := hsy.len
  have hly : LgV w5 (lgAgg (.slice ay M cy) ⟨f2, m2, S2, y2⟩) ⟨f2, m2, S2, y2⟩ := ⟨_, rfl, by rw [← hM]; exact hsy⟩
  rw [hM]
  unfold lgAgg at hly ⊢
  simp only [] at hly ⊢
  obtain ⟨w6, hw6⟩ : ∃ w6, w5.alloc (.cells #[.int .i64 f2, .int .i64 m2, .slice ay M cy, .int .i64 y2] 29) = w6 := ⟨_, rfl⟩
  have hb56 : Below w5.heap.size w5 w6 := by rw [← hw6]; exact below_alloc w5 _
  have hQ6 : Blk w6 w5.heap.size 29 #[.int .i64 f2, .int .i64 m2, .slice ay M cy, .int .i64 y2] := by rw [← hw6]; exact Blk.new w5 _ _
  have hb46 := hb.trans (hb56.mono hb.size)
  have HX6 := Lib.hid (HQ4.out.below hb46 HQ4.out.lt)
  have HY6 := Lib.hid hQ6
  have Hb6 := Lib.hid (Hb4.out.trans (hb46.mono Hb4.out.size))
  have Hlx6 := Lib.hid (Hlx4.out.next hb46)
  have Hly6 := Lib.hid (hly.next hb56)
  have HW6 := Lib.hid hw6
  obtain ⟨G7, hG7⟩ : ∃ G7, w5.heap.size = G7 := ⟨_, rfl⟩
  rw [hG7] at HY6
  have HG7 := Lib.hid hG7
  obtain ⟨x0, x1, x2, x3, _, _, _, _⟩ := dkCells (HQ4.out.below hb HQ4.out.lt)
  have hlt := (HQ4.out.below hb HQ4.out.lt).lt
  have hne : ¬ G5 = w5.heap.size := by omega
  clear hw6 hQ6 hly hsy hb hb46 hb56 hG5 hM hG7
  go_wp2_with fail
  rw [HG7.out, HW6.out]
  refine (rsame_any ⟨f2, m2, S2, y2⟩ _ _ w6 Hlx6.out Hly6.out HS2.out).mono ?_
  rintro e w7 ⟨rfl, hb⟩
  have Hb7 := Lib.hid (Hb6.out.trans (hb.mono Hb6.out.size))
  clear hb x0 x1 x2 x3 hlt hne
  go_wp2_with fail
  refine (HSa.out _ Hb7.out).mono ?_
  rintro e w8 ⟨rfl, rfl⟩
  go_wp2_with fail
  refine (HSr.out _ Hb7.out).mono ?_
  rintro e w8 ⟨rfl, rfl⟩
  go_wp2_with fail
  exact bodyPost_ret (v := .bool true) (by simp [results, Try.results3, go_sem, *]) rfl ⟨rfl, Hb7.out⟩
end Go.Proofs.Ytbinibpkbkhdlaa
