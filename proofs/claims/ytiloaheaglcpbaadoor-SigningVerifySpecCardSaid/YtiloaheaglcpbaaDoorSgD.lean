/- Signing: the chapter's examples. -/
import Derived.Test.YtiloaheaglcpbaaDoorSgC
namespace Go.Proofs.YtiloaheaglcpbaaDoor
open Go.RowKit

theorem new_bad (a : Option Addr) (n cap : Nat) (many : Int) (w : World) (h : isKeyB n many 0 = false) :
    Calls Tryd.prog 12 #[.slice a n cap, .int .i64 many] w fun e w' => e = .returned (.tuple #[.agg #[.slice none 0 0, .int .i64 0, .int .i64 0], .int .i64 320]) ∧ Below w.heap.size w w' := by
  have := new_any a n cap many w
  rw [h] at this
  exact this
theorem new_ok (a : Option Addr) (n cap : Nat) (many : Int) (w : World) (h : isKeyB n many 0 = true) :
    Calls Tryd.prog 12 #[.slice a n cap, .int .i64 many] w fun e w' => e = .returned (.tuple #[.agg #[.slice a n cap, .int .i64 many, .int .i64 0], .int .i64 0]) ∧ Below w.heap.size w w' := by
  have := new_any a n cap many w
  rw [h] at this
  exact this
def z32 : List UInt8 := List.replicate 32 0
theorem dig_z : ∀ j, j < 67 → dig z32 j = if j = 64 then 3 else if j = 65 then 12 else 0 := by decide +kernel
theorem infoU8 : (Tryd.prog.info? 5).map (fun i => (i.zero, i.size, i.bytes)) = some (some (.int .u8 0), 1, 1) := by kernel_rfl
/-- the cells of a made slice of bytes -/
def zc (n : Nat) : Array Value := madeCells #[.int .u8 0] n
theorem mk_any (n : Nat) (hn : n ≤ 1000) (w : World) : (Instr.makeSlice 22 (.int .i64 (n : Int)) (.int .i64 (n : Int))).run Tryd.prog w = .ok (.slice (some ⟨w.heap.size, 0, none⟩) n n) (w.alloc (.cells (zc n) 5)) := by
  obtain ⟨i0, hi, hz0, hz1, hz2⟩ := info_parts infoU8
  have := run_makeSlice (P := Tryd.prog) w 22 5 i0 (.int .u8 0) Tryd.underlying22 hi hz0 .i64 .i64 n n (by omega) (Int.le_refl _) (by rw [hz1]; omega) (by rw [hz2]; omega) (by omega)
  rw [this, hz1]
  simp [zc, Value.cells]
theorem mk65 (w : World) : (Instr.makeSlice 22 (.int .i64 65) (.int .i64 65)).run Tryd.prog w = .ok (.slice (some ⟨w.heap.size, 0, none⟩) 65 65) (w.alloc (.cells (zc 65) 5)) := mk_any 65 (by omega) w
theorem arrV_z : arrV z32 = .agg #[.int .u8 0, .int .u8 0, .int .u8 0, .int .u8 0, .int .u8 0, .int .u8 0, .int .u8 0, .int .u8 0, .int .u8 0, .int .u8 0, .int .u8 0, .int .u8 0, .int .u8 0, .int .u8 0, .int .u8 0, .int .u8 0, .int .u8 0, .int .u8 0, .int .u8 0, .int .u8 0, .int .u8 0, .int .u8 0, .int .u8 0, .int .u8 0, .int .u8 0, .int .u8 0, .int .u8 0, .int .u8 0, .int .u8 0, .int .u8 0, .int .u8 0, .int .u8 0] := by kernel_rfl
set_option maxRecDepth 100000 in
theorem sane_any (w : World) : Calls Tryd.prog 11 #[] w fun e w' => e = .returned (.bool true) ∧ Below w.heap.size w w' := by
  have hmk := mk65
  go_enter Tryd.func11, Tryd.ntmps11
  go_wp2_with fail
  refine (new_bad none 0 0 1 w (by decide)).mono ?_
  rintro e w1 ⟨rfl, hb1⟩
  have Hb1 := Lib.hid hb1
  clear hb1
  go_wp2_with fail
  refine (new_bad _ 65 65 1 _ (by decide)).mono ?_
  rintro e w2 ⟨rfl, hb2⟩
  have hb2' := ((Hb1.out.alloc Hb1.out.size _).alloc (by have := Hb1.out.size; simp; omega) _).trans (hb2.mono (by have := Hb1.out.size; simp; omega))
  have Hb2 := Lib.hid hb2'
  clear hb2 hb2' hmk
  go_wp2_with fail
  refine (new_bad _ 1 1 257 _ (by decide)).mono ?_
  rintro e w3 ⟨rfl, hb3⟩
  have hb3' := ((Hb2.out.alloc Hb2.out.size _).alloc (by have := Hb2.out.size; simp; omega) _).trans (hb3.mono (by have := Hb2.out.size; simp; omega))
  have Hb3 := Lib.hid hb3'
  clear hb3 hb3'
  go_wp2_with fail
  refine (new_ok _ 2 2 2 _ (by decide)).mono ?_
  rintro e w4 ⟨rfl, hb4⟩
  have hb4' := ((Hb3.out.alloc Hb3.out.size _).alloc (by have := Hb3.out.size; simp; omega) _).trans (hb4.mono (by have := Hb3.out.size; simp; omega))
  have Hb4 := Lib.hid hb4'
  clear hb4 hb4'
  go_wp2_with fail
  have hk := Blk.new w4 24 #[.slice (some ⟨w3.heap.size + 1, 0, none⟩) 2 2, .int .i64 2, .int .i64 0]
  have hdz := digits_any z32 rfl (w4.alloc (.cells #[.slice (some ⟨w3.heap.size + 1, 0, none⟩) 2 2, .int .i64 2, .int .i64 0] 24))
  rw [arrV_z] at hdz
  refine hdz.mono ?_
  rintro e w5 ⟨g, rfl, hB5, hg5, hb5⟩
  have hk5 := hk.below hb5 hk.lt
  have hb5' := ((Hb4.out.alloc Hb4.out.size _)).trans (hb5.mono (by have := Hb4.out.size; simp; omega))
  obtain ⟨K, hK⟩ : ∃ K, w4.heap.size = K := ⟨_, rfl⟩
  rw [hK] at hk5 ⊢
  have Hk5 := Lib.hid hk5
  have Hb5 := Lib.hid hb5'
  have HB5 := Lib.hid hB5
  clear hb5 hb5' hk hk5 hdz hg5 hB5
  go_wp2_with fail
  have hsg := sign_bad (some ⟨w5.heap.size, 0, none⟩) 1 1 1 1 none 0 0 (w5.alloc (.cells #[.int .u8 1] 5)) (by decide)
  rw [show signE 1 1 1 0 = 320 by decide] at hsg
  unfold keyV key0 sig0 at hsg
  refine hsg.mono ?_
  rintro e w6 ⟨rfl, hb6⟩
  have hA := (below_alloc w5 (.cells #[.int .u8 1] 5)).trans (hb6.mono (by simp))
  have hk6 := (Hk5.out.below hA Hk5.out.lt)
  have hB6 := (HB5.out.below hA HB5.out.lt)
  have hb6' := Hb5.out.trans (hA.mono Hb5.out.size)
  have hk7 := (hk6.alloc (.cells #[.slice none 0 0, .int .i64 0, .int .i64 0] 24)).alloc (.cells #[.int .i64 0, .slice none 0 0, .slice none 0 0] 42)
  have hB7 := (hB6.alloc (.cells #[.slice none 0 0, .int .i64 0, .int .i64 0] 24)).alloc (.cells #[.int .i64 0, .slice none 0 0, .slice none 0 0] 42)
  have hb7 := (hb6'.alloc hb6'.size (.cells #[.slice none 0 0, .int .i64 0, .int .i64 0] 24)).alloc (by have := hb6'.size; simp; omega) (.cells #[.int .i64 0, .slice none 0 0, .slice none 0 0] 42)
  obtain ⟨W, hW⟩ : ∃ W, (w6.alloc (.cells #[.slice none 0 0, .int .i64 0, .int .i64 0] 24)).alloc (.cells #[.int .i64 0, .slice none 0 0, .slice none 0 0] 42) = W := ⟨_, rfl⟩
  rw [hW] at hk7 hB7 hb7
  obtain ⟨c0, c1, c2, f0, f1, f2⟩ := cells3 hk7
  rw [← hW] at c0 c1 c2 f0 f1 f2
  have HB7 := Lib.hid hB7
  have Hb7 := Lib.hid hb7
  have HW := Lib.hid hW
  clear hsg hb6 hA hk6 hB6 hb6' hk7 hB7 hb7 hW
  go_wp2_with fail
  rw [HW.out]
  clear c0 c1 c2 f0 f1 f2
  have HC := Lib.hid (show ∀ j, j < 67 → W.cell? ⟨g, j, none⟩ = some (.int .i64 (dig z32 j : Int)) from fun j h => by rw [HB7.out.cell, digC_at z32 j h])
  go_loop [13] (fun i => ∃ k : Nat, k ≤ 64 ∧ i = .int .i64 k) (fun i => 64 - (intOf i).toNat)
  case atStart => exact ⟨0, by omega, rfl⟩
  case round =>
    obtain ⟨k, hk, rfl⟩ := hrel
    by_cases hlt : k < 64
    · have hc := HC.out k (by omega)
      rw [dig_z k (by omega), if_neg (by omega), if_neg (by omega)] at hc
      go_wp2_with fail
      go_round
      case rel => exact ⟨k + 1, by omega, by go_num⟩
      case measure => simp [intOf]; omega
    · have c64 := HC.out 64 (by omega)
      have c65 := HC.out 65 (by omega)
      have c66 := HC.out 66 (by omega)
      rw [dig_z _ (by omega)] at c64 c65 c66
      simp only [if_true, Nat.reduceEqDiff, if_false] at c64 c65 c66
      go_wp2_with fail
      refine (verify_bad _ 0 0 none 0 0 none 0 0 none 0 0 _ (by decide)).mono ?_
      rintro e w8 ⟨rfl, hb8⟩
      have Hb8 := Lib.hid (Hb7.out.trans (hb8.mono Hb7.out.size))
      clear hb8
      go_wp2_with fail
      refine (verify_bad _ 1 0 none 0 0 none 0 0 none 0 0 _ (by decide)).mono ?_
      rintro e w9 ⟨rfl, hb9⟩
      have Hb9 := Lib.hid (Hb8.out.trans (hb9.mono Hb8.out.size))
      clear hb9
      go_wp2_with fail
      go_ret
      exact ⟨rfl, Hb9.out⟩
end Go.Proofs.YtiloaheaglcpbaaDoor
