/- Signing in the reference: Sign, the good case. -/
import Derived.Test.YtiloaheaglcpbaaDoorSgT2
namespace Go.Proofs.YtiloaheaglcpbaaDoor
open Go.RowKit

set_option maxRecDepth 100000 in
set_option maxHeartbeats 4000000 in
theorem rsign_ok (seed : List UInt8) (n : Nat) (hn : seed.length = n) (a : Option Addr) (cap : Nat) (m : Nat) (hm : m = 1 ∨ m = 2) (ix : Nat) (hix : ix < m) (hk : isKeyB n (m : Int) (ix : Int) = true)
    (msg : List UInt8) (q : Nat) (hq : msg.length = q) (hq9 : q ≤ 65536) (am : Option Addr) (capm : Nat) (w : World) (hs : Sl w 1 (.slice a n cap) n (bc seed)) (hy : Sl w 1 (.slice am q capm) q (bc msg)) :
    Calls Tryd.prog 23 #[.agg #[.slice a n cap, .int .i64 (m : Int), .int .i64 (ix : Int)], .slice am q capm] w fun e w' => ∃ v p, e = .returned (.tuple #[.agg #[.slice a n cap, .int .i64 (m : Int), .int .i64 (ix + 1 : Int)], .agg #[.int .i64 (ix : Int), v, p], .int .i64 0])
      ∧ w'.ownsRow w.heap.size 26 32 v 67 (prC seed ix (mh (pub seed m) ix msg) 67) ∧ w'.ownsRow w.heap.size 26 32 p (m - 1) (ptC seed m ix) ∧ Below w.heap.size w w' := by
  obtain ⟨iu, hiu, hu0, hu1, hu2⟩ := info_parts infoD32
  have HK := Lib.hid (fun W => rvalid_any a n cap (m : Int) (ix : Int) W)
  have hk9 := isKeyB_t hk
  rw [hk] at HK
  have HP := Lib.hid (fun W (hb : Below w.heap.size w W) => rkeys_any seed n hn (by omega) a cap m (ix : Int) (by omega) W (hs.next hb))
  have HTr := Lib.hid (fun B v W h => rtree_pk seed m hm B v W h)
  have HMH := Lib.hid (fun W (hb : Below w.heap.size w W) => rhash_any (pub seed m) (pub_len seed m) ix (by omega) msg q hq (by omega) am capm W (hy.next hb))
  have HDG := Lib.hid (fun W => rdigits_any (mh (pub seed m) ix msg) (mh_len _ _ _) W)
  have HSt := Lib.hid (fun (j : Nat) W (hj : j < 67) (hb : Below w.heap.size w W) => rstart_any seed n hn (by omega) a cap (m : Int) (ix : Int) ix j (by omega) (by omega) W (hs.next hb))
  have HCl := Lib.hid (fun (j dd : Nat) W (hj : j < 67) (hd : dd < 16) => rclimb_any (stt seed ix j) (stt_len _ _ _) ix j 0 dd (by omega) (by omega) (by omega) W)
  simp only [vlu_stt] at HCl
  have HPa := Lib.hid (fun B v W h => rpath_pk seed m hm ix hix B v W h)
  unfold arrV at HTr HMH HDG HSt HCl
  obtain ⟨dg, hdg⟩ : ∃ dg, mh (pub seed m) ix msg = dg := ⟨_, rfl⟩
  rw [hdg] at HMH HDG ⊢
  obtain ⟨D1, hD1⟩ : ∃ D1, bc (pub seed m) = D1 := ⟨_, rfl⟩
  rw [hD1] at HTr HMH
  obtain ⟨D2, hD2⟩ : ∃ D2, bc dg = D2 := ⟨_, rfl⟩
  rw [hD2] at HMH HDG
  have hg0 := ((Blk.new w 24 #[.slice a n cap, .int .i64 (m : Int), .int .i64 (ix : Int)]).alloc (.cells #[.slice none 0 0, .int .i64 0, .int .i64 0] 24)).alloc (.cells #[.int .i64 0, .slice none 0 0, .slice none 0 0] 42)
  have hg1 := (Blk.new (w.alloc (.cells #[.slice a n cap, .int .i64 (m : Int), .int .i64 (ix : Int)] 24)) 24 #[.slice none 0 0, .int .i64 0, .int .i64 0]).alloc (.cells #[.int .i64 0, .slice none 0 0, .slice none 0 0] 42)
  have hg2 := Blk.new ((w.alloc (.cells #[.slice a n cap, .int .i64 (m : Int), .int .i64 (ix : Int)] 24)).alloc (.cells #[.slice none 0 0, .int .i64 0, .int .i64 0] 24)) 42 #[.int .i64 0, .slice none 0 0, .slice none 0 0]
  simp only [World.size_alloc] at hg1 hg2
  have hb := ((below_alloc w (.cells #[.slice a n cap, .int .i64 (m : Int), .int .i64 (ix : Int)] 24)).alloc (by simp) (.cells #[.slice none 0 0, .int .i64 0, .int .i64 0] 24)).alloc (by simp; omega) (.cells #[.int .i64 0, .slice none 0 0, .slice none 0 0] 42)
  have H0 := Lib.hid hg0
  have H1 := Lib.hid hg1
  have H2 := Lib.hid hg2
  have Hb := Lib.hid hb
  obtain ⟨c0, c1, c2, f0, f1, f2⟩ := cells3 hg0
  have hmi : ¬ (ix : Int) = (m : Int) := by omega
  have hi1 : IntKind.i64.wrap ((ix : Int) + 1) = (ix : Int) + 1 := by rw [IntKind.wrap_i64]; omega
  clear hs hy hn hq hdg hD1 hD2 hg0 hg1 hg2 hb hk hk9
  go_enter Tryd.func23, Tryd.ntmps23
  go_wp2_with (first
    | (refine (HK.out _).mono ?_
       rintro e w7 ⟨rfl, hb7⟩
       have H07 := Lib.hid (H0.out.below hb7 H0.out.lt)
       have H17 := Lib.hid (H1.out.below hb7 H1.out.lt)
       have H27 := Lib.hid (H2.out.below hb7 H2.out.lt)
       have Hb7 := Lib.hid (Hb.out.trans (hb7.mono Hb.out.size))
       clear hb7 c0 c1 c2 f0 f1 f2
       obtain ⟨c0, c1, c2, f0, f1, f2⟩ := cells3 H07.out)
    | (refine (HP.out _ Hb7.out).mono ?_
       rintro e w8 ⟨v8, rfl, hown8, hb8⟩
       have hl7 : w.heap.size + 1 + 1 + 1 ≤ w7.heap.size := H27.out.lt
       have hown8' := own_mono hown8 hl7
       have H08 := H07.out.below hb8 H07.out.lt
       have H18 := H17.out.below hb8 H17.out.lt
       have H28 := H27.out.below hb8 H27.out.lt
       have hb8' := Hb7.out.trans (hb8.mono Hb7.out.size)
       have hl8 : w.heap.size + 1 + 1 + 1 ≤ w8.heap.size := H28.lt
       have H09 := Lib.hid (H08.alloc (.cells #[.int .i64 (ix : Int), .slice none 0 0, .slice none 0 0] 42))
       have H19 := Lib.hid (H18.alloc (.cells #[.int .i64 (ix : Int), .slice none 0 0, .slice none 0 0] 42))
       have H29 := Lib.hid (H28.alloc (.cells #[.int .i64 (ix : Int), .slice none 0 0, .slice none 0 0] 42))
       have HS9 := Lib.hid (Blk.new w8 42 #[.int .i64 (ix : Int), .slice none 0 0, .slice none 0 0])
       have Hown9 := Lib.hid (hown8'.alloc (.cells #[.int .i64 (ix : Int), .slice none 0 0, .slice none 0 0] 42))
       have Hb9 := Lib.hid (hb8'.alloc hb8'.size (.cells #[.int .i64 (ix : Int), .slice none 0 0, .slice none 0 0] 42))
       have Hv8 := Lib.hid (fun k (h : v8.ownBlock = some k) => (hown8.lt k h).2)
       obtain ⟨w9, hw9⟩ : ∃ w9, w8.alloc (.cells #[.int .i64 (ix : Int), .slice none 0 0, .slice none 0 0] 42) = w9 := ⟨_, rfl⟩
       rw [hw9] at H09 H19 H29 HS9 Hown9 Hb9
       have HW9 := Lib.hid hw9
       clear c0 c1 c2 f0 f1 f2
       obtain ⟨c0, c1, c2, f0, f1, f2⟩ := cells3 H08
       clear hown8 hown8' hb8 hb8' H08 H18 H28 hl7 hw9))
  rw [HW9.out]
  clear H07 H17 H27 Hb7 c0 c1 c2 f0 f1 f2
  have q0 : w9.cell? ⟨w.heap.size, 2, none⟩ = some (.int .i64 (ix : Int)) := by rw [H09.out.cell]; rfl
  have l2 := H09.out.lt
  go_region_held3 (fun w' => w'.cell? ⟨w.heap.size, 2, none⟩ = some (.int .i64 (ix : Int)))
    (first
      | (with_reducible exact q0)
      | (simp only [World.cell?_drew]; with_reducible exact q0)
      | (exact (hbA.cell (p := ⟨w.heap.size, 2, none⟩) l2).trans q0)
      | (exact (hbB.cell (p := ⟨w.heap.size, 2, none⟩) l2).trans q0)
      | (exact (hbC.cell (p := ⟨w.heap.size, 2, none⟩) l2).trans q0))
    (first
      | (go_at_call 35; with_reducible refine Calls.mono (HTr.out _ _ _ (own_drew Hown9.out)) ?_; rintro e wA ⟨rfl, hbA0⟩; have hbA : Below w9.heap.size w9 wA := (Below.refl w9.heap.size w9).drew.trans (hbA0.mono (by simp)))
      | (go_at_call 40; with_reducible refine Calls.mono (HMH.out _ (Hb9.out.trans (hbA.mono Hb9.out.size))) ?_; rintro e wB ⟨rfl, hbB0⟩; have hbB : Below w9.heap.size w9 wB := hbA.trans (hbB0.mono hbA.size))
      | (go_at_call 17; with_reducible refine Calls.mono (HDG.out _) ?_; rintro e wC ⟨vd, rfl, hownD, hbC0⟩; have hbC : Below w9.heap.size w9 wC := hbB.trans (hbC0.mono hbB.size)))
  obtain ⟨gS, hgS⟩ : ∃ gS, w8.heap.size = gS := ⟨_, rfl⟩
  have hz9 : w9.heap.size = w8.heap.size + 1 := by rw [← HW9.out, World.size_alloc]
  rw [hgS] at HS9 Hv8 hz9 hl8 ⊢
  obtain ⟨gd, cd, hed, _⟩ := hownD.form (by omega)
  subst hed
  have hgd : w9.heap.size ≤ gd := Nat.le_trans hbB.size ((hownD.lt gd (by simp [Value.ownBlock])).1)
  have H0C := Lib.hid (H09.out.below hbC H09.out.lt)
  have H1C := Lib.hid (H19.out.below hbC H19.out.lt)
  have H2C := Lib.hid (H29.out.below hbC H29.out.lt)
  have HSC := Lib.hid (HS9.out.below hbC HS9.out.lt)
  have HownC := Lib.hid (own_next Hown9.out hbC)
  have HbC := Lib.hid (Hb9.out.trans (hbC.mono Hb9.out.size))
  have HDc := Lib.hid (fun (j : Nat) (h : j < 67) => show wC.cell? ⟨gd, j, none⟩ = some (.int .i64 (dig dg j : Int)) by rw [hownD.cellAt j (by omega), Array.getElem?_toList, digC_at dg j h])
  have Hgd := Lib.hid (show gS < gd ∧ gd < wC.heap.size from ⟨by omega, (hownD.lt gd (by simp [Value.ownBlock])).2⟩)
  have Hgs := Lib.hid (show gS < wC.heap.size from HSC.out.lt)
  have Hgk := Lib.hid (show w.heap.size + 1 + 1 < gS by omega)
  clear q0 l2 hbA hbB hbC hbA0 hbB0 hbC0 H09 H19 H29 HS9 Hown9 Hb9 HW9 H0 H1 H2 Hb hownD hgS hz9 hgd hl8
  go_wp2_with fail
  go_loopw [10] (fun i wr => ∃ (k : Nat) (v : Value), k ≤ 67 ∧ i = .int .i64 k ∧ wr.ownsRow wC.heap.size 26 32 v k (prC seed ix dg k) ∧ Blk wr gS 42 #[.int .i64 (ix : Int), v, .slice none 0 0] ∧ Upd (fun b => b = gS) wC wr) (fun i _ => 67 - (intOf i).toNat)
  case atStart => exact ⟨0, .slice none 0 0, by omega, rfl, World.ownsRow_nil _ _ _ _, HSC.out, Upd.refl _ _⟩
  case round =>
    clear HSC
    obtain ⟨k, v, hk, rfl, hown, hS, hu⟩ := hrel
    obtain ⟨va, vcap, rfl⟩ := (Sl.of_own hown).form
    have Hown := Lib.hid hown
    have HSg := Lib.hid hS
    have Hu := Lib.hid hu
    have Hsc := Lib.hid hu.size
    have hlw : w.heap.size ≤ wC.heap.size := HbC.out.size
    have Hbw := Lib.hid (HbC.out.trans (hu.below hlw (fun k hk => by have := Hgk.out; omega)))
    have sk7 := Lib.hid (fun X (h : Upd (fun b => b = gS) wC X) => show Blk X w.heap.size 24 #[.slice a n cap, .int .i64 (m : Int), .int .i64 (ix : Int)] ∧ (k < 67 → X.cell? ⟨gd, k, none⟩ = some (.int .i64 (dig dg k : Int))) from
      ⟨h.heap H0C.out (by have := Hgk.out; omega), fun hk => (h.cell (p := ⟨gd, k, none⟩) Hgd.out.2 (by have := Hgd.out.1; show ¬ gd = gS; omega)).trans (HDc.out k hk)⟩)
    clear hown hS hu
    by_cases hlt : k < 67
    · have Hl1 := Lib.hid (show (bc (prt seed ix dg k)).length = 32 by rw [bc_len, prt_len])
      have Ho1 := Lib.hid (bc_one (prt seed ix dg k))
      have Hap := Lib.hid (prC_succ seed ix dg k)
      have hdl := dig_lt dg k
      have HSk := Lib.hid (fun W hb => HSt.out k W hlt hb)
      have HCk := Lib.hid (fun W => HCl.out k (dig dg k) W hlt hdl)
      rw [show vlu seed ix k (dig dg k) = prt seed ix dg k from rfl] at HCk
      have sk := Lib.hid (fun X (h : Below wr.heap.size wr X) => sk7.out X (Hu.out.trans ((Upd.of_below h).mono (fun k hk h => absurd h (by omega)))))
      have sr := Lib.hid (fun X (h : Blk X w.heap.size 24 #[.slice a n cap, .int .i64 (m : Int), .int .i64 (ix : Int)] ∧ (k < 67 → X.cell? ⟨gd, k, none⟩ = some (.int .i64 (dig dg k : Int)))) => And.intro (cells3 h.1) (h.2 hlt))
      obtain ⟨D0, hD0⟩ : ∃ D, bc (stt seed ix k) = D := ⟨_, rfl⟩
      obtain ⟨D1, hD1⟩ : ∃ D, bc (prt seed ix dg k) = D := ⟨_, rfl⟩
      obtain ⟨dd, hdd⟩ : ∃ dd, dig dg k = dd := ⟨_, rfl⟩
      rw [hD0] at HSk
      simp only [hD0, hD1, hdd] at HCk
      rw [hD1] at Hl1 Ho1 Hap
      simp only [hdd] at sr sk sk7
      have hl0 : D1.length = 32 := Hl1.out
      have i1 : (0 : Int) ≤ (k : Int) := by omega
      have i2 : (k : Int) < 67 := by omega
      have e1 := (cells3 HSg.out).2.1
      clear hD0 hD1 hdd hdl
      go_wp2_with fail
      refine wp_region_held_drew (S := fun X => Blk X w.heap.size 24 #[.slice a n cap, .int .i64 (m : Int), .int .i64 (ix : Int)] ∧ (k < 67 → X.cell? ⟨gd, k, none⟩ = some (.int .i64 (dd : Int)))) (by kernel_rfl) (sk.out _ (Below.refl _ _).drew) (fun hHeld => ?_)
      refine wpAnyH_take (i := 0) (oi := { dst := some 45, op := Op.fieldAddr 42 (Operand.tmp 8) 1, type := 0, pos := "ref.go:103", after := #[], guard := none }) (v := ?_) rfl (by kernel_rfl) (by kernel_rfl) (by kernel_rfl) (fun _ _ _ h => h) (Or.inl ⟨by rfl, ?_⟩) hHeld ?_
      rotate_left
      · intro W hSw
        clear hSw
        go_simp
        try with_reducible rfl
      try simp only [Act.put, List.setIfInBounds_toArray, List.set_cons_zero, List.set_cons_succ]
      refine wpAnyH_take (i := 2) (oi := { dst := some 47, op := Op.load 24 (Operand.tmp 2), type := 24, pos := "ref.go:103", after := #[], guard := none }) (v := ?_) rfl (by kernel_rfl) (by kernel_rfl) (by kernel_rfl) (fun _ _ _ h => h) (Or.inl ⟨by rfl, ?_⟩) hHeld ?_
      rotate_left
      · intro W hSw
        obtain ⟨⟨c0, c1, c2, f0, f1, f2⟩, cd0⟩ := sr.out W hSw
        go_simp
        try with_reducible rfl
      try simp only [Act.put, List.setIfInBounds_toArray, List.set_cons_zero, List.set_cons_succ]
      refine wpAnyH_take (i := 3) (oi := { dst := some 48, op := Op.fieldAddr 24 (Operand.tmp 2) 2, type := 0, pos := "ref.go:103", after := #[], guard := none }) (v := ?_) rfl (by kernel_rfl) (by kernel_rfl) (by kernel_rfl) (fun _ _ _ h => h) (Or.inl ⟨by rfl, ?_⟩) hHeld ?_
      rotate_left
      · intro W hSw
        clear hSw
        go_simp
        try with_reducible rfl
      try simp only [Act.put, List.setIfInBounds_toArray, List.set_cons_zero, List.set_cons_succ]
      refine wpAnyH_take (i := 4) (oi := { dst := some 49, op := Op.load 3 (Operand.tmp 48), type := 3, pos := "ref.go:103", after := #[{ on := 3, ground := Ground.data }], guard := none }) (v := ?_) rfl (by kernel_rfl) (by kernel_rfl) (by kernel_rfl) (fun _ _ _ h => h) (Or.inl ⟨by rfl, ?_⟩) hHeld ?_
      rotate_left
      · intro W hSw
        obtain ⟨⟨c0, c1, c2, f0, f1, f2⟩, cd0⟩ := sr.out W hSw
        go_simp
        try with_reducible rfl
      try simp only [Act.put, List.setIfInBounds_toArray, List.set_cons_zero, List.set_cons_succ]
      refine wpAnyH_take (i := 5) (oi := { dst := some 50, op := Op.move (Operand.tmp 10), type := 3, pos := "ref.go:103", after := #[], guard := none }) (v := ?_) rfl (by kernel_rfl) (by kernel_rfl) (by kernel_rfl) (fun _ _ _ h => h) (Or.inl ⟨by rfl, ?_⟩) hHeld ?_
      rotate_left
      · intro W hSw
        clear hSw
        go_simp
        try with_reducible rfl
      try simp only [Act.put, List.setIfInBounds_toArray, List.set_cons_zero, List.set_cons_succ]
      refine wpAnyH_take (i := 7) (oi := { dst := some 52, op := Op.fieldAddr 24 (Operand.tmp 2) 2, type := 0, pos := "ref.go:103", after := #[], guard := none }) (v := ?_) rfl (by kernel_rfl) (by kernel_rfl) (by kernel_rfl) (fun _ _ _ h => h) (Or.inl ⟨by rfl, ?_⟩) hHeld ?_
      rotate_left
      · intro W hSw
        clear hSw
        go_simp
        try with_reducible rfl
      try simp only [Act.put, List.setIfInBounds_toArray, List.set_cons_zero, List.set_cons_succ]
      refine wpAnyH_take (i := 8) (oi := { dst := some 53, op := Op.load 3 (Operand.tmp 52), type := 3, pos := "ref.go:103", after := #[{ on := 7, ground := Ground.data }], guard := none }) (v := ?_) rfl (by kernel_rfl) (by kernel_rfl) (by kernel_rfl) (fun _ _ _ h => h) (Or.inl ⟨by rfl, ?_⟩) hHeld ?_
      rotate_left
      · intro W hSw
        obtain ⟨⟨c0, c1, c2, f0, f1, f2⟩, cd0⟩ := sr.out W hSw
        go_simp
        try with_reducible rfl
      try simp only [Act.put, List.setIfInBounds_toArray, List.set_cons_zero, List.set_cons_succ]
      refine wpAnyH_take (i := 9) (oi := { dst := some 54, op := Op.move (Operand.tmp 10), type := 3, pos := "ref.go:103", after := #[], guard := none }) (v := ?_) rfl (by kernel_rfl) (by kernel_rfl) (by kernel_rfl) (fun _ _ _ h => h) (Or.inl ⟨by rfl, ?_⟩) hHeld ?_
      rotate_left
      · intro W hSw
        clear hSw
        go_simp
        try with_reducible rfl
      try simp only [Act.put, List.setIfInBounds_toArray, List.set_cons_zero, List.set_cons_succ]
      refine wpAnyH_take (i := 10) (oi := { dst := some 55, op := Op.move (Operand.tmp 9), type := 33, pos := "ref.go:103", after := #[], guard := none }) (v := ?_) rfl (by kernel_rfl) (by kernel_rfl) (by kernel_rfl) (fun _ _ _ h => h) (Or.inl ⟨by rfl, ?_⟩) hHeld ?_
      rotate_left
      · intro W hSw
        clear hSw
        go_simp
        try with_reducible rfl
      try simp only [Act.put, List.setIfInBounds_toArray, List.set_cons_zero, List.set_cons_succ]
      refine wpAnyH_take (i := 11) (oi := { dst := some 56, op := Op.move (Operand.tmp 10), type := 3, pos := "ref.go:103", after := #[], guard := none }) (v := ?_) rfl (by kernel_rfl) (by kernel_rfl) (by kernel_rfl) (fun _ _ _ h => h) (Or.inl ⟨by rfl, ?_⟩) hHeld ?_
      rotate_left
      · intro W hSw
        clear hSw
        go_simp
        try with_reducible rfl
      try simp only [Act.put, List.setIfInBounds_toArray, List.set_cons_zero, List.set_cons_succ]
      refine wpAnyH_take (i := 12) (oi := { dst := some 57, op := Op.indexAddr 33 (Operand.tmp 55) (Operand.tmp 56), type := 0, pos := "ref.go:103", after := #[{ on := 10, ground := Ground.data }, { on := 11, ground := Ground.data }], guard := none }) (v := ?_) rfl (by kernel_rfl) (by kernel_rfl) (by kernel_rfl) (fun _ _ _ h => h) (Or.inl ⟨by rfl, ?_⟩) hHeld ?_
      rotate_left
      · intro W hSw
        clear hSw
        go_simp
        try with_reducible rfl
      try simp only [Act.put, List.setIfInBounds_toArray, List.set_cons_zero, List.set_cons_succ]
      refine wpAnyH_take (i := 13) (oi := { dst := some 58, op := Op.load 3 (Operand.tmp 57), type := 3, pos := "ref.go:103", after := #[{ on := 12, ground := Ground.data }], guard := none }) (v := ?_) rfl (by kernel_rfl) (by kernel_rfl) (by kernel_rfl) (fun _ _ _ h => h) (Or.inl ⟨by rfl, ?_⟩) hHeld ?_
      rotate_left
      · intro W hSw
        obtain ⟨⟨c0, c1, c2, f0, f1, f2⟩, cd0⟩ := sr.out W hSw
        go_simp
        try with_reducible rfl
      try simp only [Act.put, List.setIfInBounds_toArray, List.set_cons_zero, List.set_cons_succ]
      refine wpAnyH_ready (rs := [1, 6]) (by kernel_rfl) (by simp) ?_
      refine AllReadyH.cons (o := { dst := some 46, op := Op.load 40 (Operand.tmp 45), type := 40, pos := "ref.go:103", after := #[{ on := 0, ground := Ground.data }], guard := none }) rfl (fun K hK => ?_) ?_
      · go_simp
        refine hK.out _ _ (sk.out _ (by (repeat (first | (with_reducible exact (Below.refl _ _)) | (with_reducible refine Below.drew ?_) | (with_reducible refine Below.alloc ?_ (by have := (Below.refl _ _).size; first | exact this | (simp; done) | (simp; omega)) _))))) (fun hHeld => ?_)
        clear hK K
        try simp only [Act.put, List.setIfInBounds_toArray, List.set_cons_zero, List.set_cons_succ]
        refine wpAnyH_ready (rs := [6]) (by kernel_rfl) (by simp) ?_
        refine AllReadyH.cons (o := { dst := some 51, op := Op.call { callee := Callee.value (Operand.func 42), args := #[Operand.tmp 47, Operand.tmp 49, Operand.tmp 50], argTypes := #[24, 3, 3] }, type := 26, pos := "ref.go:103", after := #[{ on := 2, ground := Ground.data }, { on := 4, ground := Ground.data }, { on := 5, ground := Ground.data }], guard := none }) rfl (fun K hK => ?_) ?_
        · go_simp
          go_at_call 42
          refine (HSk.out _ (Hbw.out.trans (Below.mono (by (repeat (first | (with_reducible exact (Below.refl _ _)) | (with_reducible refine Below.drew ?_) | (with_reducible refine Below.alloc ?_ (by have := (Below.refl _ _).size; first | exact this | (simp; done) | (simp; omega)) _)))) Hbw.out.size))).mono ?_
          rintro e w5 ⟨rfl, hb5a⟩
          have hb5 : Below wr.heap.size wr w5 := Below.trans (by (repeat (first | (with_reducible exact (Below.refl _ _)) | (with_reducible refine Below.drew ?_) | (with_reducible refine Below.alloc ?_ (by have := (Below.refl _ _).size; first | exact this | (simp; done) | (simp; omega)) _)))) (hb5a.mono (by simp))
          have e5 := (cells3 (HSg.out.below hb5 HSg.out.lt)).2.1
          refine hK.out _ _ (sk.out _ hb5) (fun hHeld => ?_)
          clear hb5a
          clear hK K
          try simp only [Act.put, List.setIfInBounds_toArray, List.set_cons_zero, List.set_cons_succ]
          refine wpAnyH_ready (rs := [14]) (by kernel_rfl) (by simp) ?_
          refine AllReadyH.cons (o := { dst := some 59, op := Op.call { callee := Callee.value (Operand.func 41), args := #[Operand.tmp 51, Operand.tmp 53, Operand.tmp 54, Operand.const (Value.int IntKind.i64 0), Operand.tmp 58], argTypes := #[26, 3, 3, 3, 3] }, type := 26, pos := "ref.go:103", after := #[{ on := 6, ground := Ground.data }, { on := 8, ground := Ground.data }, { on := 9, ground := Ground.data }, { on := 13, ground := Ground.data }, { on := 6, ground := Ground.chain }], guard := none }) rfl (fun K hK => ?_) ?_
          · go_simp
            go_at_call 41
            refine (HCk.out _).mono ?_
            rintro e w6 ⟨rfl, hb6a⟩
            have hb6 : Below wr.heap.size wr w6 := hb5.trans (Below.trans (by (repeat (first | (with_reducible exact (Below.refl _ _)) | (with_reducible refine Below.drew ?_)))) (hb6a.mono (by have := hb5.size; simp; try omega)))
            have e6 := (cells3 (HSg.out.below hb6 HSg.out.lt)).2.1
            have e6a : ∀ o, (w6.alloc o).cell? ⟨gS, 1, none⟩ = some (.slice va k vcap) := fun o => (cells3 ((HSg.out.below hb6 HSg.out.lt).alloc o)).2.1
            refine hK.out _ _ (sk.out _ hb6) (fun hHeld => ?_)
            clear hb6a
            clear hK K
            try simp only [Act.put, List.setIfInBounds_toArray, List.set_cons_zero, List.set_cons_succ]
            refine wpAnyH_ready (rs := [15]) (by kernel_rfl) (by simp) ?_
            refine AllReadyH.cons (o := { dst := some 60, op := Op.buildSlice 40 1 #[(0, Operand.tmp 59)], type := 40, pos := "ref.go:103", after := #[{ on := 14, ground := Ground.data }], guard := none }) rfl (fun K hK => ?_) ?_
            · go_simp
              try rw [fold_all D1 _ (by rw [Hl1.out]; rfl)]
              refine hK.out _ _ (sk.out _ (by (repeat (first | (with_reducible exact hb6) | (with_reducible refine Below.drew ?_) | (with_reducible refine Below.alloc ?_ (by have := hb6.size; first | exact this | (simp; done) | (simp; omega)) _))))) (fun hHeld => ?_)
              clear hK K
              try simp only [Act.put, List.setIfInBounds_toArray, List.set_cons_zero, List.set_cons_succ]
              refine wpAnyH_ready (rs := [16]) (by kernel_rfl) (by simp) ?_
              refine AllReadyH.cons (o := { dst := some 61, op := Op.call { callee := Callee.builtin Builtin.append, args := #[Operand.tmp 46, Operand.tmp 60], argTypes := #[40, 40] }, type := 40, pos := "ref.go:103", after := #[{ on := 1, ground := Ground.data }, { on := 15, ground := Ground.data }, { on := 14, ground := Ground.chain }], guard := none }) rfl (fun K hK => ?_) ?_
              · have hown6 := own_next Hown.out hb6
                have hu6 : Upd (fun b => b = gS) wC w6 := Hu.out.trans ((Upd.of_below hb6).mono (fun k hk h => absurd h (by omega)))
                refine step_append_lies _ rfl (.tmp 46) (.tmp 60) 40 rfl wC.heap.size 26 iu _ 32 32 Tryd.underlying40 hiu hu0 hu1 hu2 rfl (by omega) (.slice va k vcap) k (prC seed ix dg k) rfl (by (repeat (first | (with_reducible exact hown6) | (with_reducible refine own_drew ?_) | (with_reducible refine World.ownsRow.alloc ?_ _)))) ⟨_, 0, none⟩ 1 1 D1 rfl (by rw [Hl1.out]) (fun j u hu => by rw [Addr.add_mid]; exact (Blk.range (t := 26) (by (repeat (first | (with_reducible exact blk_at _ _ _ _ (by simp)) | (with_reducible refine Blk.drew ?_) | (with_reducible refine Blk.alloc ?_ _))))) j u hu) Ho1.out (by omega) (by unfold maxLen; omega) (by omega) (by have := Hsc.out; have := hb6.size; simp; omega) _ rfl ?_
                intro g7 cap7 w7 hown7 hg7 hor7 hlt7
                have hu7 : Upd (fun b => b = gS) wC w7 := Upd.grown (by (repeat (first | (with_reducible exact hu6) | (with_reducible refine Upd.drew ?_) | (with_reducible refine Upd.alloc ?_ _)))) hg7 (fun k hk => .inr (hown6.lt _ hk).1)
                have hS7 : Blk w7 gS 42 #[.int .i64 (ix : Int), .slice va k vcap, .slice none 0 0] := blk_grown (by (repeat (first | (with_reducible exact (HSg.out.below hb6 HSg.out.lt)) | (with_reducible refine Blk.drew ?_) | (with_reducible refine Blk.alloc ?_ _)))) hg7 (fun e => by have := (hown6.lt _ e.symm).1; have := Hgs.out; omega)
                rw [Hap.out] at hown7
                have hk7 := sk7.out _ hu7
                refine hK.out _ _ hk7 (fun hHeld => ?_)
                clear hor7 hlt7 hg7
                clear hK K
                try simp only [Act.put, List.setIfInBounds_toArray, List.set_cons_zero, List.set_cons_succ]
                refine wpAnyH_take (i := 17) (oi := { dst := some 62, op := Op.fieldAddr 42 (Operand.tmp 8) 1, type := 0, pos := "ref.go:103", after := #[{ on := 0, ground := Ground.phase }, { on := 1, ground := Ground.phase }, { on := 2, ground := Ground.phase }, { on := 3, ground := Ground.phase }, { on := 4, ground := Ground.phase }, { on := 5, ground := Ground.phase }, { on := 6, ground := Ground.phase }, { on := 7, ground := Ground.phase }, { on := 8, ground := Ground.phase }, { on := 9, ground := Ground.phase }, { on := 10, ground := Ground.phase }, { on := 11, ground := Ground.phase }, { on := 12, ground := Ground.phase }, { on := 13, ground := Ground.phase }, { on := 14, ground := Ground.phase }, { on := 15, ground := Ground.phase }, { on := 16, ground := Ground.phase }], guard := none }) (v := ?_) rfl (by kernel_rfl) (by kernel_rfl) (by kernel_rfl) (fun _ _ _ h => h) (Or.inl ⟨by rfl, ?_⟩) hHeld ?_
                rotate_left
                · intro W hSw
                  clear hSw
                  go_simp
                  try with_reducible rfl
                try simp only [Act.put, List.setIfInBounds_toArray, List.set_cons_zero, List.set_cons_succ]
                obtain ⟨z0, z1, z2, y0, y1, y2⟩ := cells3 hS7
                refine wpAnyH_ready (rs := [18]) (by kernel_rfl) (by simp) ?_
                refine AllReadyH.cons (o := { dst := none, op := Op.store 40 (Operand.tmp 62) (Operand.tmp 61), type := 0, pos := "ref.go:103", after := #[{ on := 17, ground := Ground.data }, { on := 16, ground := Ground.data }, { on := 16, ground := Ground.chain }, { on := 0, ground := Ground.phase }, { on := 1, ground := Ground.phase }, { on := 2, ground := Ground.phase }, { on := 3, ground := Ground.phase }, { on := 4, ground := Ground.phase }, { on := 5, ground := Ground.phase }, { on := 6, ground := Ground.phase }, { on := 7, ground := Ground.phase }, { on := 8, ground := Ground.phase }, { on := 9, ground := Ground.phase }, { on := 10, ground := Ground.phase }, { on := 11, ground := Ground.phase }, { on := 12, ground := Ground.phase }, { on := 13, ground := Ground.phase }, { on := 14, ground := Ground.phase }, { on := 15, ground := Ground.phase }, { on := 16, ground := Ground.phase }], guard := none }) rfl (fun K hK => ?_) AllReadyH.nil
                go_simp
                have hu8 := hu7.setCell (p := ⟨gS, 1, none⟩) (.inl rfl) (.slice (some ⟨g7, 0, none⟩) (k + 1) cap7)
                refine hK.out _ _ (sk7.out _ hu8) (fun hHeld => ?_)
                clear hK K
                try simp only [Act.put, List.setIfInBounds_toArray, List.set_cons_zero, List.set_cons_succ]
                refine wpAnyH_done (by kernel_rfl) ?_ _
                go_wp2_with fail
                first
                  | (refine ⟨⟨k + 1, .slice (some ⟨g7, 0, none⟩) (k + 1) cap7, by omega, by go_num, own_cell hown7 (p := ⟨gS, 1, none⟩) (show gS < wC.heap.size from Hgs.out) _, hS7.set_ 1 _, hu8⟩, ?_⟩; (simp [intOf]; omega))
                  | (refine ⟨?_, ?_⟩; (repeat apply Exists.intro); refine ⟨⟨k + 1, .slice (some ⟨g7, 0, none⟩) (k + 1) cap7, by omega, by go_num, own_cell hown7 (p := ⟨gS, 1, none⟩) (show gS < wC.heap.size from Hgs.out) _, hS7.set_ 1 _, hu8⟩, rfl⟩; (simp [intOf]; omega))
              exact AllReadyH.nil
            exact AllReadyH.nil
          exact AllReadyH.nil
        exact AllReadyH.nil
      refine AllReadyH.cons (o := { dst := some 51, op := Op.call { callee := Callee.value (Operand.func 42), args := #[Operand.tmp 47, Operand.tmp 49, Operand.tmp 50], argTypes := #[24, 3, 3] }, type := 26, pos := "ref.go:103", after := #[{ on := 2, ground := Ground.data }, { on := 4, ground := Ground.data }, { on := 5, ground := Ground.data }], guard := none }) rfl (fun K hK => ?_) ?_
      · go_simp
        go_at_call 42
        refine (HSk.out _ (Hbw.out.trans (Below.mono (by (repeat (first | (with_reducible exact (Below.refl _ _)) | (with_reducible refine Below.drew ?_) | (with_reducible refine Below.alloc ?_ (by have := (Below.refl _ _).size; first | exact this | (simp; done) | (simp; omega)) _)))) Hbw.out.size))).mono ?_
        rintro e w5 ⟨rfl, hb5a⟩
        have hb5 : Below wr.heap.size wr w5 := Below.trans (by (repeat (first | (with_reducible exact (Below.refl _ _)) | (with_reducible refine Below.drew ?_) | (with_reducible refine Below.alloc ?_ (by have := (Below.refl _ _).size; first | exact this | (simp; done) | (simp; omega)) _)))) (hb5a.mono (by simp))
        have e5 := (cells3 (HSg.out.below hb5 HSg.out.lt)).2.1
        refine hK.out _ _ (sk.out _ hb5) (fun hHeld => ?_)
        clear hb5a
        clear hK K
        try simp only [Act.put, List.setIfInBounds_toArray, List.set_cons_zero, List.set_cons_succ]
        refine wpAnyH_ready (rs := [1, 14]) (by kernel_rfl) (by simp) ?_
        refine AllReadyH.cons (o := { dst := some 46, op := Op.load 40 (Operand.tmp 45), type := 40, pos := "ref.go:103", after := #[{ on := 0, ground := Ground.data }], guard := none }) rfl (fun K hK => ?_) ?_
        · go_simp
          refine hK.out _ _ (sk.out _ (by (repeat (first | (with_reducible exact hb5) | (with_reducible refine Below.drew ?_) | (with_reducible refine Below.alloc ?_ (by have := hb5.size; first | exact this | (simp; done) | (simp; omega)) _))))) (fun hHeld => ?_)
          clear hK K
          try simp only [Act.put, List.setIfInBounds_toArray, List.set_cons_zero, List.set_cons_succ]
          refine wpAnyH_ready (rs := [14]) (by kernel_rfl) (by simp) ?_
          refine AllReadyH.cons (o := { dst := some 59, op := Op.call { callee := Callee.value (Operand.func 41), args := #[Operand.tmp 51, Operand.tmp 53, Operand.tmp 54, Operand.const (Value.int IntKind.i64 0), Operand.tmp 58], argTypes := #[26, 3, 3, 3, 3] }, type := 26, pos := "ref.go:103", after := #[{ on := 6, ground := Ground.data }, { on := 8, ground := Ground.data }, { on := 9, ground := Ground.data }, { on := 13, ground := Ground.data }, { on := 6, ground := Ground.chain }], guard := none }) rfl (fun K hK => ?_) ?_
          · go_simp
            go_at_call 41
            refine (HCk.out _).mono ?_
            rintro e w6 ⟨rfl, hb6a⟩
            have hb6 : Below wr.heap.size wr w6 := hb5.trans (Below.trans (by (repeat (first | (with_reducible exact (Below.refl _ _)) | (with_reducible refine Below.drew ?_)))) (hb6a.mono (by have := hb5.size; simp; try omega)))
            have e6 := (cells3 (HSg.out.below hb6 HSg.out.lt)).2.1
            have e6a : ∀ o, (w6.alloc o).cell? ⟨gS, 1, none⟩ = some (.slice va k vcap) := fun o => (cells3 ((HSg.out.below hb6 HSg.out.lt).alloc o)).2.1
            refine hK.out _ _ (sk.out _ hb6) (fun hHeld => ?_)
            clear hb6a
            clear hK K
            try simp only [Act.put, List.setIfInBounds_toArray, List.set_cons_zero, List.set_cons_succ]
            refine wpAnyH_ready (rs := [15]) (by kernel_rfl) (by simp) ?_
            refine AllReadyH.cons (o := { dst := some 60, op := Op.buildSlice 40 1 #[(0, Operand.tmp 59)], type := 40, pos := "ref.go:103", after := #[{ on := 14, ground := Ground.data }], guard := none }) rfl (fun K hK => ?_) ?_
            · go_simp
              try rw [fold_all D1 _ (by rw [Hl1.out]; rfl)]
              refine hK.out _ _ (sk.out _ (by (repeat (first | (with_reducible exact hb6) | (with_reducible refine Below.drew ?_) | (with_reducible refine Below.alloc ?_ (by have := hb6.size; first | exact this | (simp; done) | (simp; omega)) _))))) (fun hHeld => ?_)
              clear hK K
              try simp only [Act.put, List.setIfInBounds_toArray, List.set_cons_zero, List.set_cons_succ]
              refine wpAnyH_ready (rs := [16]) (by kernel_rfl) (by simp) ?_
              refine AllReadyH.cons (o := { dst := some 61, op := Op.call { callee := Callee.builtin Builtin.append, args := #[Operand.tmp 46, Operand.tmp 60], argTypes := #[40, 40] }, type := 40, pos := "ref.go:103", after := #[{ on := 1, ground := Ground.data }, { on := 15, ground := Ground.data }, { on := 14, ground := Ground.chain }], guard := none }) rfl (fun K hK => ?_) ?_
              · have hown6 := own_next Hown.out hb6
                have hu6 : Upd (fun b => b = gS) wC w6 := Hu.out.trans ((Upd.of_below hb6).mono (fun k hk h => absurd h (by omega)))
                refine step_append_lies _ rfl (.tmp 46) (.tmp 60) 40 rfl wC.heap.size 26 iu _ 32 32 Tryd.underlying40 hiu hu0 hu1 hu2 rfl (by omega) (.slice va k vcap) k (prC seed ix dg k) rfl (by (repeat (first | (with_reducible exact hown6) | (with_reducible refine own_drew ?_) | (with_reducible refine World.ownsRow.alloc ?_ _)))) ⟨_, 0, none⟩ 1 1 D1 rfl (by rw [Hl1.out]) (fun j u hu => by rw [Addr.add_mid]; exact (Blk.range (t := 26) (by (repeat (first | (with_reducible exact blk_at _ _ _ _ (by simp)) | (with_reducible refine Blk.drew ?_) | (with_reducible refine Blk.alloc ?_ _))))) j u hu) Ho1.out (by omega) (by unfold maxLen; omega) (by omega) (by have := Hsc.out; have := hb6.size; simp; omega) _ rfl ?_
                intro g7 cap7 w7 hown7 hg7 hor7 hlt7
                have hu7 : Upd (fun b => b = gS) wC w7 := Upd.grown (by (repeat (first | (with_reducible exact hu6) | (with_reducible refine Upd.drew ?_) | (with_reducible refine Upd.alloc ?_ _)))) hg7 (fun k hk => .inr (hown6.lt _ hk).1)
                have hS7 : Blk w7 gS 42 #[.int .i64 (ix : Int), .slice va k vcap, .slice none 0 0] := blk_grown (by (repeat (first | (with_reducible exact (HSg.out.below hb6 HSg.out.lt)) | (with_reducible refine Blk.drew ?_) | (with_reducible refine Blk.alloc ?_ _)))) hg7 (fun e => by have := (hown6.lt _ e.symm).1; have := Hgs.out; omega)
                rw [Hap.out] at hown7
                have hk7 := sk7.out _ hu7
                refine hK.out _ _ hk7 (fun hHeld => ?_)
                clear hor7 hlt7 hg7
                clear hK K
                try simp only [Act.put, List.setIfInBounds_toArray, List.set_cons_zero, List.set_cons_succ]
                refine wpAnyH_take (i := 17) (oi := { dst := some 62, op := Op.fieldAddr 42 (Operand.tmp 8) 1, type := 0, pos := "ref.go:103", after := #[{ on := 0, ground := Ground.phase }, { on := 1, ground := Ground.phase }, { on := 2, ground := Ground.phase }, { on := 3, ground := Ground.phase }, { on := 4, ground := Ground.phase }, { on := 5, ground := Ground.phase }, { on := 6, ground := Ground.phase }, { on := 7, ground := Ground.phase }, { on := 8, ground := Ground.phase }, { on := 9, ground := Ground.phase }, { on := 10, ground := Ground.phase }, { on := 11, ground := Ground.phase }, { on := 12, ground := Ground.phase }, { on := 13, ground := Ground.phase }, { on := 14, ground := Ground.phase }, { on := 15, ground := Ground.phase }, { on := 16, ground := Ground.phase }], guard := none }) (v := ?_) rfl (by kernel_rfl) (by kernel_rfl) (by kernel_rfl) (fun _ _ _ h => h) (Or.inl ⟨by rfl, ?_⟩) hHeld ?_
                rotate_left
                · intro W hSw
                  clear hSw
                  go_simp
                  try with_reducible rfl
                try simp only [Act.put, List.setIfInBounds_toArray, List.set_cons_zero, List.set_cons_succ]
                obtain ⟨z0, z1, z2, y0, y1, y2⟩ := cells3 hS7
                refine wpAnyH_ready (rs := [18]) (by kernel_rfl) (by simp) ?_
                refine AllReadyH.cons (o := { dst := none, op := Op.store 40 (Operand.tmp 62) (Operand.tmp 61), type := 0, pos := "ref.go:103", after := #[{ on := 17, ground := Ground.data }, { on := 16, ground := Ground.data }, { on := 16, ground := Ground.chain }, { on := 0, ground := Ground.phase }, { on := 1, ground := Ground.phase }, { on := 2, ground := Ground.phase }, { on := 3, ground := Ground.phase }, { on := 4, ground := Ground.phase }, { on := 5, ground := Ground.phase }, { on := 6, ground := Ground.phase }, { on := 7, ground := Ground.phase }, { on := 8, ground := Ground.phase }, { on := 9, ground := Ground.phase }, { on := 10, ground := Ground.phase }, { on := 11, ground := Ground.phase }, { on := 12, ground := Ground.phase }, { on := 13, ground := Ground.phase }, { on := 14, ground := Ground.phase }, { on := 15, ground := Ground.phase }, { on := 16, ground := Ground.phase }], guard := none }) rfl (fun K hK => ?_) AllReadyH.nil
                go_simp
                have hu8 := hu7.setCell (p := ⟨gS, 1, none⟩) (.inl rfl) (.slice (some ⟨g7, 0, none⟩) (k + 1) cap7)
                refine hK.out _ _ (sk7.out _ hu8) (fun hHeld => ?_)
                clear hK K
                try simp only [Act.put, List.setIfInBounds_toArray, List.set_cons_zero, List.set_cons_succ]
                refine wpAnyH_done (by kernel_rfl) ?_ _
                go_wp2_with fail
                first
                  | (refine ⟨⟨k + 1, .slice (some ⟨g7, 0, none⟩) (k + 1) cap7, by omega, by go_num, own_cell hown7 (p := ⟨gS, 1, none⟩) (show gS < wC.heap.size from Hgs.out) _, hS7.set_ 1 _, hu8⟩, ?_⟩; (simp [intOf]; omega))
                  | (refine ⟨?_, ?_⟩; (repeat apply Exists.intro); refine ⟨⟨k + 1, .slice (some ⟨g7, 0, none⟩) (k + 1) cap7, by omega, by go_num, own_cell hown7 (p := ⟨gS, 1, none⟩) (show gS < wC.heap.size from Hgs.out) _, hS7.set_ 1 _, hu8⟩, rfl⟩; (simp [intOf]; omega))
              exact AllReadyH.nil
            exact AllReadyH.nil
          exact AllReadyH.nil
        refine AllReadyH.cons (o := { dst := some 59, op := Op.call { callee := Callee.value (Operand.func 41), args := #[Operand.tmp 51, Operand.tmp 53, Operand.tmp 54, Operand.const (Value.int IntKind.i64 0), Operand.tmp 58], argTypes := #[26, 3, 3, 3, 3] }, type := 26, pos := "ref.go:103", after := #[{ on := 6, ground := Ground.data }, { on := 8, ground := Ground.data }, { on := 9, ground := Ground.data }, { on := 13, ground := Ground.data }, { on := 6, ground := Ground.chain }], guard := none }) rfl (fun K hK => ?_) ?_
        · go_simp
          go_at_call 41
          refine (HCk.out _).mono ?_
          rintro e w6 ⟨rfl, hb6a⟩
          have hb6 : Below wr.heap.size wr w6 := hb5.trans (Below.trans (by (repeat (first | (with_reducible exact (Below.refl _ _)) | (with_reducible refine Below.drew ?_)))) (hb6a.mono (by have := hb5.size; simp; try omega)))
          have e6 := (cells3 (HSg.out.below hb6 HSg.out.lt)).2.1
          have e6a : ∀ o, (w6.alloc o).cell? ⟨gS, 1, none⟩ = some (.slice va k vcap) := fun o => (cells3 ((HSg.out.below hb6 HSg.out.lt).alloc o)).2.1
          refine hK.out _ _ (sk.out _ hb6) (fun hHeld => ?_)
          clear hb6a
          clear hK K
          try simp only [Act.put, List.setIfInBounds_toArray, List.set_cons_zero, List.set_cons_succ]
          refine wpAnyH_ready (rs := [1, 15]) (by kernel_rfl) (by simp) ?_
          refine AllReadyH.cons (o := { dst := some 46, op := Op.load 40 (Operand.tmp 45), type := 40, pos := "ref.go:103", after := #[{ on := 0, ground := Ground.data }], guard := none }) rfl (fun K hK => ?_) ?_
          · go_simp
            refine hK.out _ _ (sk.out _ (by (repeat (first | (with_reducible exact hb6) | (with_reducible refine Below.drew ?_) | (with_reducible refine Below.alloc ?_ (by have := hb6.size; first | exact this | (simp; done) | (simp; omega)) _))))) (fun hHeld => ?_)
            clear hK K
            try simp only [Act.put, List.setIfInBounds_toArray, List.set_cons_zero, List.set_cons_succ]
            refine wpAnyH_ready (rs := [15]) (by kernel_rfl) (by simp) ?_
            refine AllReadyH.cons (o := { dst := some 60, op := Op.buildSlice 40 1 #[(0, Operand.tmp 59)], type := 40, pos := "ref.go:103", after := #[{ on := 14, ground := Ground.data }], guard := none }) rfl (fun K hK => ?_) ?_
            · go_simp
              try rw [fold_all D1 _ (by rw [Hl1.out]; rfl)]
              refine hK.out _ _ (sk.out _ (by (repeat (first | (with_reducible exact hb6) | (with_reducible refine Below.drew ?_) | (with_reducible refine Below.alloc ?_ (by have := hb6.size; first | exact this | (simp; done) | (simp; omega)) _))))) (fun hHeld => ?_)
              clear hK K
              try simp only [Act.put, List.setIfInBounds_toArray, List.set_cons_zero, List.set_cons_succ]
              refine wpAnyH_ready (rs := [16]) (by kernel_rfl) (by simp) ?_
              refine AllReadyH.cons (o := { dst := some 61, op := Op.call { callee := Callee.builtin Builtin.append, args := #[Operand.tmp 46, Operand.tmp 60], argTypes := #[40, 40] }, type := 40, pos := "ref.go:103", after := #[{ on := 1, ground := Ground.data }, { on := 15, ground := Ground.data }, { on := 14, ground := Ground.chain }], guard := none }) rfl (fun K hK => ?_) ?_
              · have hown6 := own_next Hown.out hb6
                have hu6 : Upd (fun b => b = gS) wC w6 := Hu.out.trans ((Upd.of_below hb6).mono (fun k hk h => absurd h (by omega)))
                refine step_append_lies _ rfl (.tmp 46) (.tmp 60) 40 rfl wC.heap.size 26 iu _ 32 32 Tryd.underlying40 hiu hu0 hu1 hu2 rfl (by omega) (.slice va k vcap) k (prC seed ix dg k) rfl (by (repeat (first | (with_reducible exact hown6) | (with_reducible refine own_drew ?_) | (with_reducible refine World.ownsRow.alloc ?_ _)))) ⟨_, 0, none⟩ 1 1 D1 rfl (by rw [Hl1.out]) (fun j u hu => by rw [Addr.add_mid]; exact (Blk.range (t := 26) (by (repeat (first | (with_reducible exact blk_at _ _ _ _ (by simp)) | (with_reducible refine Blk.drew ?_) | (with_reducible refine Blk.alloc ?_ _))))) j u hu) Ho1.out (by omega) (by unfold maxLen; omega) (by omega) (by have := Hsc.out; have := hb6.size; simp; omega) _ rfl ?_
                intro g7 cap7 w7 hown7 hg7 hor7 hlt7
                have hu7 : Upd (fun b => b = gS) wC w7 := Upd.grown (by (repeat (first | (with_reducible exact hu6) | (with_reducible refine Upd.drew ?_) | (with_reducible refine Upd.alloc ?_ _)))) hg7 (fun k hk => .inr (hown6.lt _ hk).1)
                have hS7 : Blk w7 gS 42 #[.int .i64 (ix : Int), .slice va k vcap, .slice none 0 0] := blk_grown (by (repeat (first | (with_reducible exact (HSg.out.below hb6 HSg.out.lt)) | (with_reducible refine Blk.drew ?_) | (with_reducible refine Blk.alloc ?_ _)))) hg7 (fun e => by have := (hown6.lt _ e.symm).1; have := Hgs.out; omega)
                rw [Hap.out] at hown7
                have hk7 := sk7.out _ hu7
                refine hK.out _ _ hk7 (fun hHeld => ?_)
                clear hor7 hlt7 hg7
                clear hK K
                try simp only [Act.put, List.setIfInBounds_toArray, List.set_cons_zero, List.set_cons_succ]
                refine wpAnyH_take (i := 17) (oi := { dst := some 62, op := Op.fieldAddr 42 (Operand.tmp 8) 1, type := 0, pos := "ref.go:103", after := #[{ on := 0, ground := Ground.phase }, { on := 1, ground := Ground.phase }, { on := 2, ground := Ground.phase }, { on := 3, ground := Ground.phase }, { on := 4, ground := Ground.phase }, { on := 5, ground := Ground.phase }, { on := 6, ground := Ground.phase }, { on := 7, ground := Ground.phase }, { on := 8, ground := Ground.phase }, { on := 9, ground := Ground.phase }, { on := 10, ground := Ground.phase }, { on := 11, ground := Ground.phase }, { on := 12, ground := Ground.phase }, { on := 13, ground := Ground.phase }, { on := 14, ground := Ground.phase }, { on := 15, ground := Ground.phase }, { on := 16, ground := Ground.phase }], guard := none }) (v := ?_) rfl (by kernel_rfl) (by kernel_rfl) (by kernel_rfl) (fun _ _ _ h => h) (Or.inl ⟨by rfl, ?_⟩) hHeld ?_
                rotate_left
                · intro W hSw
                  clear hSw
                  go_simp
                  try with_reducible rfl
                try simp only [Act.put, List.setIfInBounds_toArray, List.set_cons_zero, List.set_cons_succ]
                obtain ⟨z0, z1, z2, y0, y1, y2⟩ := cells3 hS7
                refine wpAnyH_ready (rs := [18]) (by kernel_rfl) (by simp) ?_
                refine AllReadyH.cons (o := { dst := none, op := Op.store 40 (Operand.tmp 62) (Operand.tmp 61), type := 0, pos := "ref.go:103", after := #[{ on := 17, ground := Ground.data }, { on := 16, ground := Ground.data }, { on := 16, ground := Ground.chain }, { on := 0, ground := Ground.phase }, { on := 1, ground := Ground.phase }, { on := 2, ground := Ground.phase }, { on := 3, ground := Ground.phase }, { on := 4, ground := Ground.phase }, { on := 5, ground := Ground.phase }, { on := 6, ground := Ground.phase }, { on := 7, ground := Ground.phase }, { on := 8, ground := Ground.phase }, { on := 9, ground := Ground.phase }, { on := 10, ground := Ground.phase }, { on := 11, ground := Ground.phase }, { on := 12, ground := Ground.phase }, { on := 13, ground := Ground.phase }, { on := 14, ground := Ground.phase }, { on := 15, ground := Ground.phase }, { on := 16, ground := Ground.phase }], guard := none }) rfl (fun K hK => ?_) AllReadyH.nil
                go_simp
                have hu8 := hu7.setCell (p := ⟨gS, 1, none⟩) (.inl rfl) (.slice (some ⟨g7, 0, none⟩) (k + 1) cap7)
                refine hK.out _ _ (sk7.out _ hu8) (fun hHeld => ?_)
                clear hK K
                try simp only [Act.put, List.setIfInBounds_toArray, List.set_cons_zero, List.set_cons_succ]
                refine wpAnyH_done (by kernel_rfl) ?_ _
                go_wp2_with fail
                first
                  | (refine ⟨⟨k + 1, .slice (some ⟨g7, 0, none⟩) (k + 1) cap7, by omega, by go_num, own_cell hown7 (p := ⟨gS, 1, none⟩) (show gS < wC.heap.size from Hgs.out) _, hS7.set_ 1 _, hu8⟩, ?_⟩; (simp [intOf]; omega))
                  | (refine ⟨?_, ?_⟩; (repeat apply Exists.intro); refine ⟨⟨k + 1, .slice (some ⟨g7, 0, none⟩) (k + 1) cap7, by omega, by go_num, own_cell hown7 (p := ⟨gS, 1, none⟩) (show gS < wC.heap.size from Hgs.out) _, hS7.set_ 1 _, hu8⟩, rfl⟩; (simp [intOf]; omega))
              exact AllReadyH.nil
            exact AllReadyH.nil
          refine AllReadyH.cons (o := { dst := some 60, op := Op.buildSlice 40 1 #[(0, Operand.tmp 59)], type := 40, pos := "ref.go:103", after := #[{ on := 14, ground := Ground.data }], guard := none }) rfl (fun K hK => ?_) ?_
          · go_simp
            try rw [fold_all D1 _ (by rw [Hl1.out]; rfl)]
            refine hK.out _ _ (sk.out _ (by (repeat (first | (with_reducible exact hb6) | (with_reducible refine Below.drew ?_) | (with_reducible refine Below.alloc ?_ (by have := hb6.size; first | exact this | (simp; done) | (simp; omega)) _))))) (fun hHeld => ?_)
            clear hK K
            try simp only [Act.put, List.setIfInBounds_toArray, List.set_cons_zero, List.set_cons_succ]
            refine wpAnyH_ready (rs := [1]) (by kernel_rfl) (by simp) ?_
            refine AllReadyH.cons (o := { dst := some 46, op := Op.load 40 (Operand.tmp 45), type := 40, pos := "ref.go:103", after := #[{ on := 0, ground := Ground.data }], guard := none }) rfl (fun K hK => ?_) ?_
            · go_simp
              refine hK.out _ _ (sk.out _ (by (repeat (first | (with_reducible exact hb6) | (with_reducible refine Below.drew ?_) | (with_reducible refine Below.alloc ?_ (by have := hb6.size; first | exact this | (simp; done) | (simp; omega)) _))))) (fun hHeld => ?_)
              clear hK K
              try simp only [Act.put, List.setIfInBounds_toArray, List.set_cons_zero, List.set_cons_succ]
              refine wpAnyH_ready (rs := [16]) (by kernel_rfl) (by simp) ?_
              refine AllReadyH.cons (o := { dst := some 61, op := Op.call { callee := Callee.builtin Builtin.append, args := #[Operand.tmp 46, Operand.tmp 60], argTypes := #[40, 40] }, type := 40, pos := "ref.go:103", after := #[{ on := 1, ground := Ground.data }, { on := 15, ground := Ground.data }, { on := 14, ground := Ground.chain }], guard := none }) rfl (fun K hK => ?_) ?_
              · have hown6 := own_next Hown.out hb6
                have hu6 : Upd (fun b => b = gS) wC w6 := Hu.out.trans ((Upd.of_below hb6).mono (fun k hk h => absurd h (by omega)))
                refine step_append_lies _ rfl (.tmp 46) (.tmp 60) 40 rfl wC.heap.size 26 iu _ 32 32 Tryd.underlying40 hiu hu0 hu1 hu2 rfl (by omega) (.slice va k vcap) k (prC seed ix dg k) rfl (by (repeat (first | (with_reducible exact hown6) | (with_reducible refine own_drew ?_) | (with_reducible refine World.ownsRow.alloc ?_ _)))) ⟨_, 0, none⟩ 1 1 D1 rfl (by rw [Hl1.out]) (fun j u hu => by rw [Addr.add_mid]; exact (Blk.range (t := 26) (by (repeat (first | (with_reducible exact blk_at _ _ _ _ (by simp)) | (with_reducible refine Blk.drew ?_) | (with_reducible refine Blk.alloc ?_ _))))) j u hu) Ho1.out (by omega) (by unfold maxLen; omega) (by omega) (by have := Hsc.out; have := hb6.size; simp; omega) _ rfl ?_
                intro g7 cap7 w7 hown7 hg7 hor7 hlt7
                have hu7 : Upd (fun b => b = gS) wC w7 := Upd.grown (by (repeat (first | (with_reducible exact hu6) | (with_reducible refine Upd.drew ?_) | (with_reducible refine Upd.alloc ?_ _)))) hg7 (fun k hk => .inr (hown6.lt _ hk).1)
                have hS7 : Blk w7 gS 42 #[.int .i64 (ix : Int), .slice va k vcap, .slice none 0 0] := blk_grown (by (repeat (first | (with_reducible exact (HSg.out.below hb6 HSg.out.lt)) | (with_reducible refine Blk.drew ?_) | (with_reducible refine Blk.alloc ?_ _)))) hg7 (fun e => by have := (hown6.lt _ e.symm).1; have := Hgs.out; omega)
                rw [Hap.out] at hown7
                have hk7 := sk7.out _ hu7
                refine hK.out _ _ hk7 (fun hHeld => ?_)
                clear hor7 hlt7 hg7
                clear hK K
                try simp only [Act.put, List.setIfInBounds_toArray, List.set_cons_zero, List.set_cons_succ]
                refine wpAnyH_take (i := 17) (oi := { dst := some 62, op := Op.fieldAddr 42 (Operand.tmp 8) 1, type := 0, pos := "ref.go:103", after := #[{ on := 0, ground := Ground.phase }, { on := 1, ground := Ground.phase }, { on := 2, ground := Ground.phase }, { on := 3, ground := Ground.phase }, { on := 4, ground := Ground.phase }, { on := 5, ground := Ground.phase }, { on := 6, ground := Ground.phase }, { on := 7, ground := Ground.phase }, { on := 8, ground := Ground.phase }, { on := 9, ground := Ground.phase }, { on := 10, ground := Ground.phase }, { on := 11, ground := Ground.phase }, { on := 12, ground := Ground.phase }, { on := 13, ground := Ground.phase }, { on := 14, ground := Ground.phase }, { on := 15, ground := Ground.phase }, { on := 16, ground := Ground.phase }], guard := none }) (v := ?_) rfl (by kernel_rfl) (by kernel_rfl) (by kernel_rfl) (fun _ _ _ h => h) (Or.inl ⟨by rfl, ?_⟩) hHeld ?_
                rotate_left
                · intro W hSw
                  clear hSw
                  go_simp
                  try with_reducible rfl
                try simp only [Act.put, List.setIfInBounds_toArray, List.set_cons_zero, List.set_cons_succ]
                obtain ⟨z0, z1, z2, y0, y1, y2⟩ := cells3 hS7
                refine wpAnyH_ready (rs := [18]) (by kernel_rfl) (by simp) ?_
                refine AllReadyH.cons (o := { dst := none, op := Op.store 40 (Operand.tmp 62) (Operand.tmp 61), type := 0, pos := "ref.go:103", after := #[{ on := 17, ground := Ground.data }, { on := 16, ground := Ground.data }, { on := 16, ground := Ground.chain }, { on := 0, ground := Ground.phase }, { on := 1, ground := Ground.phase }, { on := 2, ground := Ground.phase }, { on := 3, ground := Ground.phase }, { on := 4, ground := Ground.phase }, { on := 5, ground := Ground.phase }, { on := 6, ground := Ground.phase }, { on := 7, ground := Ground.phase }, { on := 8, ground := Ground.phase }, { on := 9, ground := Ground.phase }, { on := 10, ground := Ground.phase }, { on := 11, ground := Ground.phase }, { on := 12, ground := Ground.phase }, { on := 13, ground := Ground.phase }, { on := 14, ground := Ground.phase }, { on := 15, ground := Ground.phase }, { on := 16, ground := Ground.phase }], guard := none }) rfl (fun K hK => ?_) AllReadyH.nil
                go_simp
                have hu8 := hu7.setCell (p := ⟨gS, 1, none⟩) (.inl rfl) (.slice (some ⟨g7, 0, none⟩) (k + 1) cap7)
                refine hK.out _ _ (sk7.out _ hu8) (fun hHeld => ?_)
                clear hK K
                try simp only [Act.put, List.setIfInBounds_toArray, List.set_cons_zero, List.set_cons_succ]
                refine wpAnyH_done (by kernel_rfl) ?_ _
                go_wp2_with fail
                first
                  | (refine ⟨⟨k + 1, .slice (some ⟨g7, 0, none⟩) (k + 1) cap7, by omega, by go_num, own_cell hown7 (p := ⟨gS, 1, none⟩) (show gS < wC.heap.size from Hgs.out) _, hS7.set_ 1 _, hu8⟩, ?_⟩; (simp [intOf]; omega))
                  | (refine ⟨?_, ?_⟩; (repeat apply Exists.intro); refine ⟨⟨k + 1, .slice (some ⟨g7, 0, none⟩) (k + 1) cap7, by omega, by go_num, own_cell hown7 (p := ⟨gS, 1, none⟩) (show gS < wC.heap.size from Hgs.out) _, hS7.set_ 1 _, hu8⟩, rfl⟩; (simp [intOf]; omega))
              exact AllReadyH.nil
            exact AllReadyH.nil
          exact AllReadyH.nil
        exact AllReadyH.nil
      exact AllReadyH.nil
    · have hk67 : k = 67 := by omega
      subst hk67
      clear hlt hk
      have H0r := Lib.hid (Hu.out.heap H0C.out (by have := Hgk.out; omega))
      have H1r := Lib.hid (Hu.out.heap H1C.out (by have := Hgk.out; omega))
      have H2r := Lib.hid (Hu.out.heap H2C.out (by have := Hgk.out; omega))
      have Hownr := Lib.hid (Hu.out.own HownC.out (fun k h => by have := Hv8.out k h; omega))
      obtain ⟨c0, c1, c2, f0, f1, f2⟩ := cells3 (show Blk wr w.heap.size _ _ from H0r.out)
      obtain ⟨d0, d1, d2, e0, e1, e2⟩ := cells3 HSg.out
      have n1 : ¬ gS = w.heap.size := by have := Hgk.out; omega
      have n2 : ¬ w.heap.size = gS := by have := Hgk.out; omega
      go_wp2_with (first
        | (refine (HPa.out _ _ _ Hownr.out).mono ?_
           rintro e w5 ⟨p, rfl, hownp, hb5⟩
           obtain ⟨pa, pcap, rfl⟩ := (Sl.of_own hownp).form
           have H05 := Lib.hid (Blk.below (show Blk wr w.heap.size _ _ from H0r.out) hb5 (Blk.lt H0r.out))
           have H15 := Lib.hid (Blk.below (show Blk wr (w.heap.size + 1) _ _ from H1r.out) hb5 (Blk.lt H1r.out))
           have H25 := Lib.hid (Blk.below (show Blk wr (w.heap.size + 1 + 1) _ _ from H2r.out) hb5 (Blk.lt H2r.out))
           have HS5 := Lib.hid (HSg.out.below hb5 HSg.out.lt)
           have Hown5 := Lib.hid (own_next Hown.out hb5)
           have Hownp := Lib.hid hownp
           have Hl5 := Lib.hid hb5.size
           have Hb5 := Lib.hid (Hbw.out.trans (hb5.mono Hbw.out.size))
           clear c0 c1 c2 f0 f1 f2 d0 d1 d2 e0 e1 e2 hownp hb5
           obtain ⟨c0, c1, c2, f0, f1, f2⟩ := cells3 H05.out
           obtain ⟨d0, d1, d2, e0, e1, e2⟩ := cells3 HS5.out))
      have hgk := Hgk.out
      have hgs := Hgs.out
      have hsc := Hsc.out
      have hl5 := Hl5.out
      have X1 := (H15.out.far (p := ⟨gS, 2, none⟩) (show w.heap.size + 1 ≠ gS by omega) (.slice pa (m - 1) pcap)).alloc (.cells #[.slice a n cap, .int .i64 (m : Int), .int .i64 (ix + 1 : Int)] 24)
      have X2 := (H25.out.far (p := ⟨gS, 2, none⟩) (show w.heap.size + 1 + 1 ≠ gS by omega) (.slice pa (m - 1) pcap)).alloc (.cells #[.slice a n cap, .int .i64 (m : Int), .int .i64 (ix + 1 : Int)] 24)
      have XS := (HS5.out.set_ 2 (.slice pa (m - 1) pcap)).alloc (.cells #[.slice a n cap, .int .i64 (m : Int), .int .i64 (ix + 1 : Int)] 24)
      have XX := Blk.new (w5.setCell ⟨gS, 2, none⟩ (.slice pa (m - 1) pcap)) 24 #[.slice a n cap, .int .i64 (m : Int), .int .i64 (ix + 1 : Int)]
      rw [World.size_setCell] at XX
      have Xo := (own_cell Hown5.out (p := ⟨gS, 2, none⟩) (show gS < wC.heap.size by omega) (.slice pa (m - 1) pcap)).alloc (.cells #[.slice a n cap, .int .i64 (m : Int), .int .i64 (ix + 1 : Int)] 24)
      have Xp := (own_cell Hownp.out (p := ⟨gS, 2, none⟩) (show gS < wr.heap.size by omega) (.slice pa (m - 1) pcap)).alloc (.cells #[.slice a n cap, .int .i64 (m : Int), .int .i64 (ix + 1 : Int)] 24)
      have Xb := (Hb5.out.setCell (p := ⟨gS, 2, none⟩) (show w.heap.size ≤ gS by omega) (.slice pa (m - 1) pcap)).alloc (by rw [World.size_setCell]; omega) (.cells #[.slice a n cap, .int .i64 (m : Int), .int .i64 (ix + 1 : Int)] 24)
      obtain ⟨wF, hwF⟩ : ∃ wF, (w5.setCell ⟨gS, 2, none⟩ (.slice pa (m - 1) pcap)).alloc (.cells #[.slice a n cap, .int .i64 (m : Int), .int .i64 (ix + 1 : Int)] 24) = wF := ⟨_, rfl⟩
      rw [hwF] at X1 X2 XS XX Xo Xp Xb ⊢
      have YS : Blk wF gS 42 #[.int .i64 (ix : Int), .slice va 67 vcap, .slice pa (m - 1) pcap] := XS
      have XO := Lib.hid Xo
      have XP := Lib.hid Xp
      have XB := Lib.hid Xb
      obtain ⟨gx, hgx⟩ : ∃ gx, w5.heap.size = gx := ⟨_, rfl⟩
      rw [hgx] at XX hl5 ⊢
      have m1 : ¬ gx = w.heap.size + 1 := by omega
      have m2 : ¬ gx = w.heap.size + 1 + 1 := by omega
      have m3 : ¬ gS = w.heap.size + 1 := by omega
      have m4 : ¬ gS = w.heap.size + 1 + 1 := by omega
      have m5 : ¬ w.heap.size + 1 = gx := by omega
      have m6 : ¬ w.heap.size + 1 + 1 = gx := by omega
      have m7 : ¬ w.heap.size + 1 = gS := by omega
      have m8 : ¬ w.heap.size + 1 + 1 = gS := by omega
      clear d0 d1 d2 e0 e1 e2 c0 c1 c2 f0 f1 f2 XS Xo Xp Xb hwF hgx
      obtain ⟨c0, c1, c2, f0, f1, f2⟩ := cells3 XX
      obtain ⟨d0, d1, d2, e0, e1, e2⟩ := cells3 YS
      obtain ⟨b0, b1, b2, g0, g1, g2⟩ := cells3 X1
      obtain ⟨h0, h1, h2, k0, k1, k2⟩ := cells3 X2
      clear XX YS X1 X2
      go_region
      all_goals
        go_wp2_with fail
        refine bodyPost_ret (v := .tuple #[.agg #[.slice a n cap, .int .i64 (m : Int), .int .i64 (ix + 1 : Int)], .agg #[.int .i64 (ix : Int), .slice va 67 vcap, .slice pa (m - 1) pcap], .int .i64 0]) (by simp [results, Tryd.results23, go_sem, *]) rfl ?_
        refine ⟨_, _, rfl, own_mono (B := wC.heap.size) ?_ (by omega), own_mono (B := wr.heap.size) ?_ (by omega), ?_⟩
        · repeat (first | (with_reducible exact XO.out) | (with_reducible refine own_drew ?_) | (with_reducible refine own_cell ?_ ?_ _; rotate_left; (dsimp only; omega)))
        · repeat (first | (with_reducible exact XP.out) | (with_reducible refine own_drew ?_) | (with_reducible refine own_cell ?_ ?_ _; rotate_left; (dsimp only; omega)))
        · repeat (first | (with_reducible exact XB.out) | (with_reducible refine Below.drew ?_) | (with_reducible refine Below.setCell ?_ ?_ _; rotate_left; (dsimp only; omega)))
end Go.Proofs.YtiloaheaglcpbaaDoor
