/- Layer 1, the reference: the token at an index. -/
import Derived.Test.YtmlkfglnnepjjaaDoorRef4
namespace Go.Proofs.YtmlkfglnnepjjaaDoor
open Go.RowKit

/-- what the reference's token gives -/
def TkOut (l : List UInt8) (k : Nat) (w : World) (e : Ending) (w' : World) : Prop :=
  ∃ t : ByteArray, e = .returned (.tuple #[.agg #[.int .i64 (sc l k).1, .string t, .int .i64 k], .int .i64 (sc l k).2]) ∧ ((sc l k).1 ≠ 0 → t = mkS (sub l k (sc l k).2)) ∧ Below w.heap.size w w'
theorem tkOut_mk {l : List UInt8} {k en : Nat} {kd : Int} {t : ByteArray} {w w' : World} (h : sc l k = (kd, en)) (ht : kd ≠ 0 → t = mkS (sub l k en)) (hb : Below w.heap.size w w') :
    TkOut l k w (.returned (.tuple #[.agg #[.int .i64 kd, .string t, .int .i64 k], .int .i64 en])) w' := by
  refine ⟨t, ?_, ?_, hb⟩
  · rw [h]
  · rw [h]; exact ht
theorem below_one (w : World) (o : Obj) : Below w.heap.size w (w.alloc o) := (Below.refl _ _).alloc (Nat.le_refl _) _


set_option maxRecDepth 100000 in
theorem token_word (l : List UInt8) (v : Value) (k : Nat) (w : World) (hv : Sl w 1 v l.length (bc l)) (hs : l.length ≤ 65536) (hk : k < l.length) (hw : wst (bA l k) = true) :
    Calls Tryd.prog 28 #[v, .int .i64 k] w (TkOut l k w) := by
  have hsc := sc_word hw
  have hlt : k < wrd l k := by rw [wrd_word hw]; exact (wEnd_bd hk (wst_inn hw)).1
  have hle : wrd l k ≤ l.length := by rw [wrd_word hw]; exact (wEnd_bd hk (wst_inn hw)).2
  obtain ⟨a, cap, rfl⟩ := hv.form
  obtain ⟨g, off, rfl, hcap, hc⟩ := hv.pos (by omega)
  have hv1 := hv.alloc (.cells #[.int .i64 0, .string ⟨#[]⟩, .int .i64 0] 35)
  have HW := Lib.hid (word_any l _ k _ hv1 (by omega) (by omega))
  obtain ⟨m, hm⟩ : ∃ m, m = wrd l k := ⟨_, rfl⟩
  rw [← hm] at HW hlt hle hsc
  have hcv := conv_sub hv1 (Nat.le_of_lt hlt) hle
  have HSC := Lib.hid hsc
  clear hm hsc hv1 hc
  go_enter Tryd.func28, Tryd.ntmps28
  go_wp2_with fail
  refine (HW.out).mono ?_
  rintro e w' ⟨rfl, rfl⟩
  go_wp2_with fail
  refine bodyPost_ret (v := .tuple #[.agg #[.int .i64 1, .string (mkS (sub l k m)), .int .i64 k], .int .i64 m]) (by simp [results, Tryd.results28, go_sem]) rfl ?_
  exact tkOut_mk HSC.out (fun _ => rfl) (below_one _ _)



set_option maxRecDepth 100000 in
theorem token_digit (l : List UInt8) (v : Value) (k : Nat) (w : World) (hv : Sl w 1 v l.length (bc l)) (hs : l.length ≤ 65536) (hk : k < l.length) (hd : dg (bA l k) = true) :
    Calls Tryd.prog 28 #[v, .int .i64 k] w (TkOut l k w) := by
  have hsc := sc_digit hd
  have hw : wst (bA l k) = false := by
    rw [Bool.eq_false_iff, ne_eq, wst_cls]
    have := (cls_5 _).2 hd
    omega
  have h45 : (bA l k == 45) = false := by rw [beq_eq_false_iff_ne]; rw [dg_iff] at hd; omega
  obtain ⟨a, cap, rfl⟩ := hv.form
  obtain ⟨g, off, rfl, hcap, hc0⟩ := hv.pos (by omega)
  have hv1 := hv.alloc (.cells #[.int .i64 0, .string ⟨#[]⟩, .int .i64 0] 35)
  have hc : ∀ j, j < l.length → (w.alloc (.cells #[.int .i64 0, .string ⟨#[]⟩, .int .i64 0] 35)).cell? ⟨g, off + j, none⟩ = some (.int .u8 (bA l j)) := fun j hj => by
    have h := hc0 j hj
    rw [World.cell?_alloc_past _ _ _ (World.block_lt_of_cell? w _ h)]
    exact h
  have hW := word_any l _ k _ hv1 (by omega) (by omega)
  have hck := hc k hk
  clear hc0
  rw [wrd_no hw] at hW
  have HW := Lib.hid hW
  obtain ⟨m, hm⟩ : ∃ m, m = run inn l k := ⟨_, rfl⟩
  have hgt : k < m := by rw [hm]; exact run_gt hk (inn_of_dg hd)
  have hle : m ≤ l.length := by rw [hm]; exact run_le (by omega)
  unfold scNum at hsc
  rw [← hm] at hsc
  have HSC := Lib.hid hsc
  have HD := Lib.hid hd
  have Hc := Lib.hid hc
  clear hsc hd hc hW hw
  have hlt : k < m := by omega
  have hcv := conv_sub hv1 (Nat.le_of_lt hlt) hle
  have HM := Lib.hid hm
  clear hm
  have hI := integer_any (mkS (sub l k m)) (w.alloc (.cells #[.int .i64 0, .string ⟨#[]⟩, .int .i64 0] 35)) (by rw [size_mkS, sub_len hle]; omega)
  rw [tx_mkS] at hI
  go_enter Tryd.func28, Tryd.ntmps28
  have HI := Lib.hid hI
  have HCV := Lib.hid hcv
  clear hI hcv
  go_wp2_with fail
  refine (HW.out).mono ?_
  rintro e w' ⟨rfl, rfl⟩
  go_wp2_with fail
  refine (digit_any _ _).mono ?_
  rw [HD.out]
  rintro e w' ⟨rfl, rfl⟩
  go_wp2_with fail
  go_loop [6] (fun i => ∃ j : Nat, k ≤ j ∧ j ≤ l.length ∧ m = run inn l j ∧ i = .int .i64 j) (fun i => l.length - (intOf i).toNat)
  case atStart => exact ⟨k, Nat.le_refl _, by omega, HM.out, by go_num⟩
  case round =>
    obtain ⟨j, hdj, hj, hr, rfl⟩ := hrel
    have Hr := Lib.hid hr
    clear hr
    by_cases hlt2 : j < l.length
    · have hcj : (w.alloc (.cells #[.int .i64 0, .string ⟨#[]⟩, .int .i64 0] 35)).cell? ⟨g, off + j, none⟩ = some (.int .u8 (bA l j)) := Hc.out j hlt2
      cases hi : inn (bA l j)
      · have hmj : m = j := by rw [Hr.out, run_stop hi]
        have Hi := Lib.hid hi
        clear hi
        subst hmj
        have hcv := HCV.out
        cases hb : isInt (sub l k m)
        · have HB := Lib.hid hb
          clear hb
          go_wp2_with (first | (go_at_call 38; refine (inner_any _ _).mono ?_; rw [Hi.out]; rintro e w' ⟨rfl, rfl⟩) | (go_at_call 39; refine (HI.out).mono ?_; rw [HB.out]; rintro e w' ⟨rfl, rfl⟩))
          refine bodyPost_ret (v := .tuple #[.agg #[.int .i64 0, .string ⟨#[]⟩, .int .i64 k], .int .i64 m]) (by simp [results, Tryd.results28, go_sem]) rfl ?_
          exact tkOut_mk (by rw [HSC.out, HB.out]; rfl) (fun h => absurd rfl h) (below_one _ _)
        · have HB := Lib.hid hb
          clear hb
          go_wp2_with (first | (go_at_call 38; refine (inner_any _ _).mono ?_; rw [Hi.out]; rintro e w' ⟨rfl, rfl⟩) | (go_at_call 39; refine (HI.out).mono ?_; rw [HB.out]; rintro e w' ⟨rfl, rfl⟩))
          refine bodyPost_ret (v := .tuple #[.agg #[.int .i64 2, .string (mkS (sub l k m)), .int .i64 k], .int .i64 m]) (by simp [results, Tryd.results28, go_sem]) rfl ?_
          exact tkOut_mk (by rw [HSC.out, HB.out]; rfl) (fun _ => rfl) (below_one _ _)
      · have Hi := Lib.hid hi
        clear hi
        go_wp2_with (first | (go_at_call 38; refine (inner_any _ _).mono ?_; rw [Hi.out]; rintro e w' ⟨rfl, rfl⟩))
        go_round
        case rel => exact ⟨j + 1, by omega, by omega, by rw [Hr.out]; exact run_step hlt2 Hi.out, by go_num⟩
        case measure => simp [intOf]; omega
    · have hmj : m = j := by rw [Hr.out, run_end (by omega)]
      subst hmj
      have hcv := HCV.out
      cases hb : isInt (sub l k m)
      · have HB := Lib.hid hb
        clear hb
        go_wp2_with (first | (go_at_call 39; refine (HI.out).mono ?_; rw [HB.out]; rintro e w' ⟨rfl, rfl⟩))
        refine bodyPost_ret (v := .tuple #[.agg #[.int .i64 0, .string ⟨#[]⟩, .int .i64 k], .int .i64 m]) (by simp [results, Tryd.results28, go_sem]) rfl ?_
        exact tkOut_mk (by rw [HSC.out, HB.out]; rfl) (fun h => absurd rfl h) (below_one _ _)
      · have HB := Lib.hid hb
        clear hb
        go_wp2_with (first | (go_at_call 39; refine (HI.out).mono ?_; rw [HB.out]; rintro e w' ⟨rfl, rfl⟩))
        refine bodyPost_ret (v := .tuple #[.agg #[.int .i64 2, .string (mkS (sub l k m)), .int .i64 k], .int .i64 m]) (by simp [results, Tryd.results28, go_sem]) rfl ?_
        exact tkOut_mk (by rw [HSC.out, HB.out]; rfl) (fun _ => rfl) (below_one _ _)

set_option maxRecDepth 100000 in
theorem token_mdigit (l : List UInt8) (v : Value) (k : Nat) (w : World) (hv : Sl w 1 v l.length (bc l)) (hs : l.length ≤ 65536) (hk : k < l.length) (h45 : bA l k = 45) (hd : dg (bA l (k + 1)) = true) :
    Calls Tryd.prog 28 #[v, .int .i64 k] w (TkOut l k w) := by
  have hsc := sc_mdigit h45 hd
  have hw : wst (bA l k) = false := by rw [h45]; decide
  have h45b : (bA l k == 45) = true := by simp [h45]
  have hk1 : k + 1 < l.length := bA_in (by rw [dg_iff] at hd; omega)
  obtain ⟨a, cap, rfl⟩ := hv.form
  obtain ⟨g, off, rfl, hcap, hc0⟩ := hv.pos (by omega)
  have hv1 := hv.alloc (.cells #[.int .i64 0, .string ⟨#[]⟩, .int .i64 0] 35)
  have hc : ∀ j, j < l.length → (w.alloc (.cells #[.int .i64 0, .string ⟨#[]⟩, .int .i64 0] 35)).cell? ⟨g, off + j, none⟩ = some (.int .u8 (bA l j)) := fun j hj => by
    have h := hc0 j hj
    rw [World.cell?_alloc_past _ _ _ (World.block_lt_of_cell? w _ h)]
    exact h
  have hW := word_any l _ k _ hv1 (by omega) (by omega)
  have hck := hc k hk
  clear hc0
  rw [wrd_no hw] at hW
  have HW := Lib.hid hW
  obtain ⟨m, hm⟩ : ∃ m, m = run inn l (k + 1) := ⟨_, rfl⟩
  have hgt : k + 1 < m := by rw [hm]; exact run_gt hk1 (inn_of_dg hd)
  have hle : m ≤ l.length := by rw [hm]; exact run_le (by omega)
  unfold scNum at hsc
  rw [← hm] at hsc
  have HSC := Lib.hid hsc
  have HD := Lib.hid hd
  have hck1 : (w.alloc (.cells #[.int .i64 0, .string ⟨#[]⟩, .int .i64 0] 35)).cell? ⟨g, off + k + 1, none⟩ = some (.int .u8 (bA l (k + 1))) := by rw [Nat.add_assoc]; exact hc (k + 1) hk1
  have hck2 := hc (k + 1) hk1
  have Hc := Lib.hid hc
  clear hsc hd hc hW hw h45
  have hlt : k < m := by omega
  have hcv := conv_sub hv1 (Nat.le_of_lt hlt) hle
  have HM := Lib.hid hm
  clear hm
  have hI := integer_any (mkS (sub l k m)) (w.alloc (.cells #[.int .i64 0, .string ⟨#[]⟩, .int .i64 0] 35)) (by rw [size_mkS, sub_len hle]; omega)
  rw [tx_mkS] at hI
  go_enter Tryd.func28, Tryd.ntmps28
  have HI := Lib.hid hI
  have HCV := Lib.hid hcv
  clear hI hcv
  go_wp2_with fail
  refine (HW.out).mono ?_
  rintro e w' ⟨rfl, rfl⟩
  go_wp2_with fail
  refine (digit_any _ _).mono ?_
  rw [HD.out]
  rintro e w' ⟨rfl, rfl⟩
  go_wp2_with fail
  go_loop [6] (fun i => ∃ j : Nat, k + 1 ≤ j ∧ j ≤ l.length ∧ m = run inn l j ∧ i = .int .i64 j) (fun i => l.length - (intOf i).toNat)
  case atStart => exact ⟨k + 1, Nat.le_refl _, by omega, HM.out, by go_num⟩
  case round =>
    obtain ⟨j, hdj, hj, hr, rfl⟩ := hrel
    have Hr := Lib.hid hr
    clear hr
    by_cases hlt2 : j < l.length
    · have hcj : (w.alloc (.cells #[.int .i64 0, .string ⟨#[]⟩, .int .i64 0] 35)).cell? ⟨g, off + j, none⟩ = some (.int .u8 (bA l j)) := Hc.out j hlt2
      cases hi : inn (bA l j)
      · have hmj : m = j := by rw [Hr.out, run_stop hi]
        have Hi := Lib.hid hi
        clear hi
        subst hmj
        have hcv := HCV.out
        cases hb : isInt (sub l k m)
        · have HB := Lib.hid hb
          clear hb
          go_wp2_with (first | (go_at_call 38; refine (inner_any _ _).mono ?_; rw [Hi.out]; rintro e w' ⟨rfl, rfl⟩) | (go_at_call 39; refine (HI.out).mono ?_; rw [HB.out]; rintro e w' ⟨rfl, rfl⟩))
          refine bodyPost_ret (v := .tuple #[.agg #[.int .i64 0, .string ⟨#[]⟩, .int .i64 k], .int .i64 m]) (by simp [results, Tryd.results28, go_sem]) rfl ?_
          exact tkOut_mk (by rw [HSC.out, HB.out]; rfl) (fun h => absurd rfl h) (below_one _ _)
        · have HB := Lib.hid hb
          clear hb
          go_wp2_with (first | (go_at_call 38; refine (inner_any _ _).mono ?_; rw [Hi.out]; rintro e w' ⟨rfl, rfl⟩) | (go_at_call 39; refine (HI.out).mono ?_; rw [HB.out]; rintro e w' ⟨rfl, rfl⟩))
          refine bodyPost_ret (v := .tuple #[.agg #[.int .i64 2, .string (mkS (sub l k m)), .int .i64 k], .int .i64 m]) (by simp [results, Tryd.results28, go_sem]) rfl ?_
          exact tkOut_mk (by rw [HSC.out, HB.out]; rfl) (fun _ => rfl) (below_one _ _)
      · have Hi := Lib.hid hi
        clear hi
        go_wp2_with (first | (go_at_call 38; refine (inner_any _ _).mono ?_; rw [Hi.out]; rintro e w' ⟨rfl, rfl⟩))
        go_round
        case rel => exact ⟨j + 1, by omega, by omega, by rw [Hr.out]; exact run_step hlt2 Hi.out, by go_num⟩
        case measure => simp [intOf]; omega
    · have hmj : m = j := by rw [Hr.out, run_end (by omega)]
      subst hmj
      have hcv := HCV.out
      cases hb : isInt (sub l k m)
      · have HB := Lib.hid hb
        clear hb
        go_wp2_with (first | (go_at_call 39; refine (HI.out).mono ?_; rw [HB.out]; rintro e w' ⟨rfl, rfl⟩))
        refine bodyPost_ret (v := .tuple #[.agg #[.int .i64 0, .string ⟨#[]⟩, .int .i64 k], .int .i64 m]) (by simp [results, Tryd.results28, go_sem]) rfl ?_
        exact tkOut_mk (by rw [HSC.out, HB.out]; rfl) (fun h => absurd rfl h) (below_one _ _)
      · have HB := Lib.hid hb
        clear hb
        go_wp2_with (first | (go_at_call 39; refine (HI.out).mono ?_; rw [HB.out]; rintro e w' ⟨rfl, rfl⟩))
        refine bodyPost_ret (v := .tuple #[.agg #[.int .i64 2, .string (mkS (sub l k m)), .int .i64 k], .int .i64 m]) (by simp [results, Tryd.results28, go_sem]) rfl ?_
        exact tkOut_mk (by rw [HSC.out, HB.out]; rfl) (fun _ => rfl) (below_one _ _)


set_option maxHeartbeats 1000000 in
set_option maxRecDepth 100000 in
theorem token_sign (l : List UInt8) (v : Value) (k : Nat) (w : World) (hv : Sl w 1 v l.length (bc l)) (hs : l.length ≤ 65536) (hk : k < l.length)
    (hw : wst (bA l k) = false) (hd : dg (bA l k) = false) (h45 : bA l k = 45 → dg (bA l (k + 1)) = false) :
    Calls Tryd.prog 28 #[v, .int .i64 k] w (TkOut l k w) := by
  have hsc := sc_sign hk hw hd h45
  obtain ⟨a, cap, rfl⟩ := hv.form
  obtain ⟨g, off, rfl, hcap, hc0⟩ := hv.pos (by omega)
  have hv1 := hv.alloc (.cells #[.int .i64 0, .string ⟨#[]⟩, .int .i64 0] 35)
  have hc : ∀ j, j < l.length → (w.alloc (.cells #[.int .i64 0, .string ⟨#[]⟩, .int .i64 0] 35)).cell? ⟨g, off + j, none⟩ = some (.int .u8 (bA l j)) := fun j hj => by
    have h := hc0 j hj
    rw [World.cell?_alloc_past _ _ _ (World.block_lt_of_cell? w _ h)]
    exact h
  have hW := word_any l _ k _ hv1 (by omega) (by omega)
  have hck := hc k hk
  clear hc0
  rw [wrd_no hw] at hW
  have HW := Lib.hid hW
  have HSC := Lib.hid hsc
  have HCV1 : Hid _ := Lib.hid (conv_sub hv1 (a := k) (b := k + 1) (by omega) hk)
  have HCV2 : Hid _ := Lib.hid (fun h => conv_sub hv1 (a := k) (b := k + 2) (by omega) h)
  rw [show k + 1 - k = 1 by omega] at HCV1
  rw [show k + 2 - k = 2 by omega] at HCV2
  have HS1 := Lib.hid (sign_any (mkS (sub l k (k + 1))) (w.alloc (.cells #[.int .i64 0, .string ⟨#[]⟩, .int .i64 0] 35)))
  have HS2 := Lib.hid (sign_any (mkS (sub l k (k + 2))) (w.alloc (.cells #[.int .i64 0, .string ⟨#[]⟩, .int .i64 0] 35)))
  rw [tx_mkS] at HS1 HS2
  by_cases hm : bA l k = 45 ∧ k + 1 < l.length
  · have h45b : (bA l k == 45) = true := by simp [hm.1]
    have hd1 := h45 hm.1
    have hk1 := hm.2
    have hck1 : (w.alloc (.cells #[.int .i64 0, .string ⟨#[]⟩, .int .i64 0] 35)).cell? ⟨g, off + k + 1, none⟩ = some (.int .u8 (bA l (k + 1))) := by rw [Nat.add_assoc]; exact hc (k + 1) hk1
    have hck2 := hc (k + 1) hk1
    have HD := Lib.hid hd1
    clear hsc hd hc hW hw h45 hm hd1
    go_enter Tryd.func28, Tryd.ntmps28
    go_wp2_with fail
    refine (HW.out).mono ?_
    rintro e w' ⟨rfl, rfl⟩
    go_wp2_with fail
    refine (digit_any _ _).mono ?_
    rw [HD.out]
    rintro e w' ⟨rfl, rfl⟩
    go_wp2_with fail
    go_loop [7] (fun i => ∃ n : Nat, n ≤ 2 ∧ (n < 2 → ¬ (k + 2 ≤ l.length ∧ sgnT (sub l k (k + 2)) = true)) ∧ (n < 1 → ¬ sgnT (sub l k (k + 1)) = true) ∧ i = .int .i64 n) (fun i => (intOf i).toNat)
    case atStart => exact ⟨2, Nat.le_refl _, fun h => by omega, fun h => by omega, rfl⟩
    case round =>
      obtain ⟨n, hn, hx2, hx1, rfl⟩ := hrel
      have HX2 := Lib.hid hx2
      have HX1 := Lib.hid hx1
      clear hx2 hx1
      have h3 : n = 0 ∨ n = 1 ∨ n = 2 := by omega
      rcases h3 with rfl | rfl | rfl
      · go_wp2_with fail
        refine bodyPost_ret (v := .tuple #[.agg #[.int .i64 0, .string ⟨#[]⟩, .int .i64 k], .int .i64 (k + 1 : Nat)]) (by simp [results, Tryd.results28, go_sem]) rfl ?_
        exact tkOut_mk (by rw [HSC.out, if_neg (HX2.out (by omega)), if_neg (HX1.out (by omega))]) (fun h => absurd rfl h) (below_one _ _)
      · have hcv := HCV1.out
        cases hb : sgnT (sub l k (k + 1))
        · have HB := Lib.hid hb
          clear hb
          go_wp2_with (first | (go_at_call 40; refine (HS1.out).mono ?_; rw [HB.out]; rintro e w' ⟨rfl, rfl⟩))
          go_round
          case rel => exact ⟨0, by omega, fun _ => HX2.out (by omega), fun _ => by simp, rfl⟩
          case measure => simp [intOf]
        · have HB := Lib.hid hb
          clear hb
          go_wp2_with (first | (go_at_call 40; refine (HS1.out).mono ?_; rw [HB.out]; rintro e w' ⟨rfl, rfl⟩))
          refine bodyPost_ret (v := .tuple #[.agg #[.int .i64 3, .string (mkS (sub l k (k + 1))), .int .i64 k], .int .i64 (k + 1 : Nat)]) (by simp [results, Tryd.results28, go_sem]) rfl ?_
          exact tkOut_mk (by rw [HSC.out, if_neg (HX2.out (by omega)), if_pos HB.out]) (fun _ => rfl) (below_one _ _)
      · by_cases hk2 : k + 2 ≤ l.length
        · have hcv := HCV2.out hk2
          cases hb : sgnT (sub l k (k + 2))
          · have HB := Lib.hid hb
            clear hb
            go_wp2_with (first | (go_at_call 40; refine (HS2.out).mono ?_; rw [HB.out]; rintro e w' ⟨rfl, rfl⟩))
            go_round
            case rel => exact ⟨1, by omega, fun _ => by simp, fun h => by omega, rfl⟩
            case measure => simp [intOf]
          · have HB := Lib.hid hb
            clear hb
            go_wp2_with (first | (go_at_call 40; refine (HS2.out).mono ?_; rw [HB.out]; rintro e w' ⟨rfl, rfl⟩))
            refine bodyPost_ret (v := .tuple #[.agg #[.int .i64 3, .string (mkS (sub l k (k + 2))), .int .i64 k], .int .i64 (k + 2 : Nat)]) (by simp [results, Tryd.results28, go_sem]) rfl ?_
            exact tkOut_mk (by rw [HSC.out, if_pos ⟨hk2, HB.out⟩]) (fun _ => rfl) (below_one _ _)
        · go_wp2_with fail
          all_goals go_round
          all_goals first | exact ⟨1, by omega, fun _ h => hk2 h.1, fun h => by omega, rfl⟩ | simp [intOf]
  · have HD := Lib.hid hd
    by_cases hm1 : bA l k = 45
    · have hk1 : k + 1 = l.length := by omega
      have h45b : (bA l k == 45) = true := by simp [hm1]
      have hlt : ¬ (k + 1 < l.length) := by omega
      clear hsc hd hc hW hw h45 hm hm1 hk1
      go_enter Tryd.func28, Tryd.ntmps28
      go_wp2_with fail
      refine (HW.out).mono ?_
      rintro e w' ⟨rfl, rfl⟩
      go_wp2_with fail
      refine (digit_any _ _).mono ?_
      rw [HD.out]
      rintro e w' ⟨rfl, rfl⟩
      go_wp2_with fail
      go_loop [7] (fun i => ∃ n : Nat, n ≤ 2 ∧ (n < 2 → ¬ (k + 2 ≤ l.length ∧ sgnT (sub l k (k + 2)) = true)) ∧ (n < 1 → ¬ sgnT (sub l k (k + 1)) = true) ∧ i = .int .i64 n) (fun i => (intOf i).toNat)
      case atStart => exact ⟨2, Nat.le_refl _, fun h => by omega, fun h => by omega, rfl⟩
      case round =>
        obtain ⟨n, hn, hx2, hx1, rfl⟩ := hrel
        have HX2 := Lib.hid hx2
        have HX1 := Lib.hid hx1
        clear hx2 hx1
        have h3 : n = 0 ∨ n = 1 ∨ n = 2 := by omega
        rcases h3 with rfl | rfl | rfl
        · go_wp2_with fail
          refine bodyPost_ret (v := .tuple #[.agg #[.int .i64 0, .string ⟨#[]⟩, .int .i64 k], .int .i64 (k + 1 : Nat)]) (by simp [results, Tryd.results28, go_sem]) rfl ?_
          exact tkOut_mk (by rw [HSC.out, if_neg (HX2.out (by omega)), if_neg (HX1.out (by omega))]) (fun h => absurd rfl h) (below_one _ _)
        · have hcv := HCV1.out
          cases hb : sgnT (sub l k (k + 1))
          · have HB := Lib.hid hb
            clear hb
            go_wp2_with (first | (go_at_call 40; refine (HS1.out).mono ?_; rw [HB.out]; rintro e w' ⟨rfl, rfl⟩))
            go_round
            case rel => exact ⟨0, by omega, fun _ => HX2.out (by omega), fun _ => by simp, rfl⟩
            case measure => simp [intOf]
          · have HB := Lib.hid hb
            clear hb
            go_wp2_with (first | (go_at_call 40; refine (HS1.out).mono ?_; rw [HB.out]; rintro e w' ⟨rfl, rfl⟩))
            refine bodyPost_ret (v := .tuple #[.agg #[.int .i64 3, .string (mkS (sub l k (k + 1))), .int .i64 k], .int .i64 (k + 1 : Nat)]) (by simp [results, Tryd.results28, go_sem]) rfl ?_
            exact tkOut_mk (by rw [HSC.out, if_neg (HX2.out (by omega)), if_pos HB.out]) (fun _ => rfl) (below_one _ _)
        · by_cases hk2 : k + 2 ≤ l.length
          · exact absurd hk2 (by omega)
          · go_wp2_with fail
            all_goals go_round
            all_goals first | exact ⟨1, by omega, fun _ h => hk2 h.1, fun h => by omega, rfl⟩ | simp [intOf]
    · have h45b : (bA l k == 45) = false := by simp [hm1]
      clear hsc hd hc hW hw h45 hm hm1
      go_enter Tryd.func28, Tryd.ntmps28
      go_wp2_with fail
      refine (HW.out).mono ?_
      rintro e w' ⟨rfl, rfl⟩
      go_wp2_with fail
      refine (digit_any _ _).mono ?_
      rw [HD.out]
      rintro e w' ⟨rfl, rfl⟩
      go_wp2_with fail
      go_loop [7] (fun i => ∃ n : Nat, n ≤ 2 ∧ (n < 2 → ¬ (k + 2 ≤ l.length ∧ sgnT (sub l k (k + 2)) = true)) ∧ (n < 1 → ¬ sgnT (sub l k (k + 1)) = true) ∧ i = .int .i64 n) (fun i => (intOf i).toNat)
      case atStart => exact ⟨2, Nat.le_refl _, fun h => by omega, fun h => by omega, rfl⟩
      case round =>
        obtain ⟨n, hn, hx2, hx1, rfl⟩ := hrel
        have HX2 := Lib.hid hx2
        have HX1 := Lib.hid hx1
        clear hx2 hx1
        have h3 : n = 0 ∨ n = 1 ∨ n = 2 := by omega
        rcases h3 with rfl | rfl | rfl
        · go_wp2_with fail
          refine bodyPost_ret (v := .tuple #[.agg #[.int .i64 0, .string ⟨#[]⟩, .int .i64 k], .int .i64 (k + 1 : Nat)]) (by simp [results, Tryd.results28, go_sem]) rfl ?_
          exact tkOut_mk (by rw [HSC.out, if_neg (HX2.out (by omega)), if_neg (HX1.out (by omega))]) (fun h => absurd rfl h) (below_one _ _)
        · have hcv := HCV1.out
          cases hb : sgnT (sub l k (k + 1))
          · have HB := Lib.hid hb
            clear hb
            go_wp2_with (first | (go_at_call 40; refine (HS1.out).mono ?_; rw [HB.out]; rintro e w' ⟨rfl, rfl⟩))
            go_round
            case rel => exact ⟨0, by omega, fun _ => HX2.out (by omega), fun _ => by simp, rfl⟩
            case measure => simp [intOf]
          · have HB := Lib.hid hb
            clear hb
            go_wp2_with (first | (go_at_call 40; refine (HS1.out).mono ?_; rw [HB.out]; rintro e w' ⟨rfl, rfl⟩))
            refine bodyPost_ret (v := .tuple #[.agg #[.int .i64 3, .string (mkS (sub l k (k + 1))), .int .i64 k], .int .i64 (k + 1 : Nat)]) (by simp [results, Tryd.results28, go_sem]) rfl ?_
            exact tkOut_mk (by rw [HSC.out, if_neg (HX2.out (by omega)), if_pos HB.out]) (fun _ => rfl) (below_one _ _)
        · by_cases hk2 : k + 2 ≤ l.length
          · have hcv := HCV2.out hk2
            cases hb : sgnT (sub l k (k + 2))
            · have HB := Lib.hid hb
              clear hb
              go_wp2_with (first | (go_at_call 40; refine (HS2.out).mono ?_; rw [HB.out]; rintro e w' ⟨rfl, rfl⟩))
              go_round
              case rel => exact ⟨1, by omega, fun _ => by simp, fun h => by omega, rfl⟩
              case measure => simp [intOf]
            · have HB := Lib.hid hb
              clear hb
              go_wp2_with (first | (go_at_call 40; refine (HS2.out).mono ?_; rw [HB.out]; rintro e w' ⟨rfl, rfl⟩))
              refine bodyPost_ret (v := .tuple #[.agg #[.int .i64 3, .string (mkS (sub l k (k + 2))), .int .i64 k], .int .i64 (k + 2 : Nat)]) (by simp [results, Tryd.results28, go_sem]) rfl ?_
              exact tkOut_mk (by rw [HSC.out, if_pos ⟨hk2, HB.out⟩]) (fun _ => rfl) (below_one _ _)
          · go_wp2_with fail
            all_goals go_round
            all_goals first | exact ⟨1, by omega, fun _ h => hk2 h.1, fun h => by omega, rfl⟩ | simp [intOf]

theorem token_any (l : List UInt8) (v : Value) (k : Nat) (w : World) (hv : Sl w 1 v l.length (bc l)) (hs : l.length ≤ 65536) (hk : k < l.length) :
    Calls Tryd.prog 28 #[v, .int .i64 k] w (TkOut l k w) := by
  cases hw : wst (bA l k)
  · cases hd : dg (bA l k)
    · by_cases h45 : bA l k = 45 ∧ dg (bA l (k + 1)) = true
      · exact token_mdigit l v k w hv hs hk h45.1 h45.2
      · refine token_sign l v k w hv hs hk hw hd (fun h => ?_)
        rw [Bool.eq_false_iff]
        exact fun h2 => h45 ⟨h, h2⟩
    · exact token_digit l v k w hv hs hk hd
  · exact token_word l v k w hv hs hk hw
end Go.Proofs.YtmlkfglnnepjjaaDoor
