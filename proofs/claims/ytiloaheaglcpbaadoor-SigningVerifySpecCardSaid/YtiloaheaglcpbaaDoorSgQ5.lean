/- Digests: Climb of the reference. Digests: Climb in general. -/
import Derived.Test.YtiloaheaglcpbaaDoorSgQ3
namespace Go.Proofs.YtiloaheaglcpbaaDoor
open Go.RowKit

set_option maxRecDepth 100000 in
set_option maxHeartbeats 1000000 in
theorem rClimb_ok (d : List UInt8) (hd : d.length = 32) (P : Nat → List UInt8) (at_ n : Nat) (ha : at_ < n) (hx : n ≤ 256) (pa : Option Addr) (L cap : Nat) (w : World) (hL : L = (sd at_ n).length) (hc : L ≤ cap) (hr : Ro w pa L P) :
    Calls Tryd.prog 48 #[arrV d, .int .i64 (at_ : Int), .int .i64 (n : Int), .slice pa L cap] w fun e w' => e = .returned (.tuple #[arrV (clm P d (sd at_ n)), .int .i64 0]) ∧ Below w.heap.size w w' := by
  have HLn := Lib.hid (fun W => length_any n at_ n (Nat.le_refl _) ha hx W)
  have HC := Lib.hid (fun W (hb : Below w.heap.size w W) => rclb_any d hd P n at_ n (Nat.le_refl _) ha hx pa L cap W hL hc (hr.next hb))
  have Hl1 := Lib.hid (show (bc (clm P d (sd at_ n))).length = 32 by rw [bc_len, clm_len])
  have Ho1 := Lib.hid (bc_one (clm P d (sd at_ n)))
  have HlD := Lib.hid (show (bc d).length = 32 by rw [bc_len, hd])
  have i1 : ¬ (1099511627776 : Int) < (n : Int) := by omega
  have i2 : ¬ (at_ : Int) < 0 := by omega
  have i3 : ¬ (n : Int) ≤ (at_ : Int) := by omega
  have i5 : (at_ : Int) < (n : Int) := by omega
  have i6 : (n : Int) ≤ 1099511627776 := by omega
  unfold arrV at HC ⊢
  obtain ⟨D, hD⟩ : ∃ D, bc d = D := ⟨_, rfl⟩
  rw [hD] at HC HlD ⊢
  obtain ⟨l, hl⟩ : ∃ l, (sd at_ n).length = l := ⟨_, rfl⟩
  rw [hl] at HLn hL
  obtain ⟨D1, hD1⟩ : ∃ D1, bc (clm P d (sd at_ n)) = D1 := ⟨_, rfl⟩
  rw [hD1] at HC Hl1 Ho1 ⊢
  subst hL
  have q4 := (Blk.new w 26 D.toArray).alloc (.cells #[.int .u8 0, .int .u8 0, .int .u8 0, .int .u8 0, .int .u8 0, .int .u8 0, .int .u8 0, .int .u8 0, .int .u8 0, .int .u8 0, .int .u8 0, .int .u8 0, .int .u8 0, .int .u8 0, .int .u8 0, .int .u8 0, .int .u8 0, .int .u8 0, .int .u8 0, .int .u8 0, .int .u8 0, .int .u8 0, .int .u8 0, .int .u8 0, .int .u8 0, .int .u8 0, .int .u8 0, .int .u8 0, .int .u8 0, .int .u8 0, .int .u8 0, .int .u8 0] 26)
  have q8 := Blk.new (w.alloc (.cells D.toArray 26)) 26 #[.int .u8 0, .int .u8 0, .int .u8 0, .int .u8 0, .int .u8 0, .int .u8 0, .int .u8 0, .int .u8 0, .int .u8 0, .int .u8 0, .int .u8 0, .int .u8 0, .int .u8 0, .int .u8 0, .int .u8 0, .int .u8 0, .int .u8 0, .int .u8 0, .int .u8 0, .int .u8 0, .int .u8 0, .int .u8 0, .int .u8 0, .int .u8 0, .int .u8 0, .int .u8 0, .int .u8 0, .int .u8 0, .int .u8 0, .int .u8 0, .int .u8 0, .int .u8 0]
  have hbw := (below_alloc w (.cells D.toArray 26)).alloc (by simp) (.cells #[.int .u8 0, .int .u8 0, .int .u8 0, .int .u8 0, .int .u8 0, .int .u8 0, .int .u8 0, .int .u8 0, .int .u8 0, .int .u8 0, .int .u8 0, .int .u8 0, .int .u8 0, .int .u8 0, .int .u8 0, .int .u8 0, .int .u8 0, .int .u8 0, .int .u8 0, .int .u8 0, .int .u8 0, .int .u8 0, .int .u8 0, .int .u8 0, .int .u8 0, .int .u8 0, .int .u8 0, .int .u8 0, .int .u8 0, .int .u8 0, .int .u8 0, .int .u8 0] 26)
  simp only [World.size_alloc] at q8
  have H4 := Lib.hid q4
  have HB := Lib.hid q8
  have Hb := Lib.hid hbw
  clear q4 q8 hbw hd hD hD1 hr hc
  go_enter Tryd.func48, Tryd.ntmps48
  go_wp2_with (first
    | (refine (HLn.out _).mono ?_
       rintro e wh ⟨rfl, rfl⟩)
    | (refine wpList_load_row rfl 26 _ rfl w.heap.size rfl 26 D.toArray (0, 0) _ H4.out Tryd.underlying26 rfl (by rw [List.size_toArray, HlD.out]; exact infoDg) ?_)
    | (refine (HC.out _ Hb.out).mono ?_
       rintro e w8 ⟨rfl, hb8⟩
       have HB8 := Lib.hid (HB.out.below hb8 HB.out.lt)
       have Hb8 := Lib.hid (Hb.out.trans (hb8.mono Hb.out.size))
       clear hb8)
    | (refine wpList_store_row rfl 26 _ _ rfl (w.heap.size + 1) D1.toArray rfl rfl 26 _ HB8.out (by rw [List.size_toArray, Hl1.out]; exact infoDg) (show 32 = D1.length from Hl1.out.symm) (all_oneCell_toArray Ho1.out) ?_))
  refine bodyPost_ret (v := .tuple #[.agg D1.toArray, .int .i64 0]) (results_row_slot rfl _ _ (w.heap.size + 1) D1 _ _ rfl rfl (HB8.out.setRow D1.toArray).range Tryd.underlying26 rfl (by rw [Hl1.out]; exact infoDg)) rfl ?_
  exact ⟨rfl, setRow_below Hb8.out (by omega) _⟩

set_option maxRecDepth 100000 in
set_option maxHeartbeats 1000000 in
theorem rClimb_bad (d : List UInt8) (hd : d.length = 32) (at_ n : Nat) (ha : at_ < n) (hx : n ≤ 256) (pa : Option Addr) (L cap : Nat) (w : World) (hL : L ≠ (sd at_ n).length) :
    Calls Tryd.prog 48 #[arrV d, .int .i64 (at_ : Int), .int .i64 (n : Int), .slice pa L cap] w fun e w' => e = .returned (.tuple #[.agg #[.int .u8 0, .int .u8 0, .int .u8 0, .int .u8 0, .int .u8 0, .int .u8 0, .int .u8 0, .int .u8 0, .int .u8 0, .int .u8 0, .int .u8 0, .int .u8 0, .int .u8 0, .int .u8 0, .int .u8 0, .int .u8 0, .int .u8 0, .int .u8 0, .int .u8 0, .int .u8 0, .int .u8 0, .int .u8 0, .int .u8 0, .int .u8 0, .int .u8 0, .int .u8 0, .int .u8 0, .int .u8 0, .int .u8 0, .int .u8 0, .int .u8 0, .int .u8 0], .int .i64 1]) ∧ Below w.heap.size w w' := by
  have HLn := Lib.hid (fun W => length_any n at_ n (Nat.le_refl _) ha hx W)
  have HlD := Lib.hid (show (bc d).length = 32 by rw [bc_len, hd])
  have i1 : ¬ (1099511627776 : Int) < (n : Int) := by omega
  have i2 : ¬ (at_ : Int) < 0 := by omega
  have i3 : ¬ (n : Int) ≤ (at_ : Int) := by omega
  have i5 : (at_ : Int) < (n : Int) := by omega
  have i6 : (n : Int) ≤ 1099511627776 := by omega
  unfold arrV
  obtain ⟨D, hD⟩ : ∃ D, bc d = D := ⟨_, rfl⟩
  rw [hD] at HlD ⊢
  obtain ⟨l, hl⟩ : ∃ l, (sd at_ n).length = l := ⟨_, rfl⟩
  rw [hl] at HLn hL
  have i4 : ((L : Int) == (l : Int)) = false := by simp; omega
  have i7 : ¬ (L : Int) = (l : Int) := by omega
  have i8 : ¬ L = l := hL
  have q4 := (Blk.new w 26 D.toArray).alloc (.cells #[.int .u8 0, .int .u8 0, .int .u8 0, .int .u8 0, .int .u8 0, .int .u8 0, .int .u8 0, .int .u8 0, .int .u8 0, .int .u8 0, .int .u8 0, .int .u8 0, .int .u8 0, .int .u8 0, .int .u8 0, .int .u8 0, .int .u8 0, .int .u8 0, .int .u8 0, .int .u8 0, .int .u8 0, .int .u8 0, .int .u8 0, .int .u8 0, .int .u8 0, .int .u8 0, .int .u8 0, .int .u8 0, .int .u8 0, .int .u8 0, .int .u8 0, .int .u8 0] 26)
  have q8 := Blk.new (w.alloc (.cells D.toArray 26)) 26 #[.int .u8 0, .int .u8 0, .int .u8 0, .int .u8 0, .int .u8 0, .int .u8 0, .int .u8 0, .int .u8 0, .int .u8 0, .int .u8 0, .int .u8 0, .int .u8 0, .int .u8 0, .int .u8 0, .int .u8 0, .int .u8 0, .int .u8 0, .int .u8 0, .int .u8 0, .int .u8 0, .int .u8 0, .int .u8 0, .int .u8 0, .int .u8 0, .int .u8 0, .int .u8 0, .int .u8 0, .int .u8 0, .int .u8 0, .int .u8 0, .int .u8 0, .int .u8 0]
  have hbw := (below_alloc w (.cells D.toArray 26)).alloc (by simp) (.cells #[.int .u8 0, .int .u8 0, .int .u8 0, .int .u8 0, .int .u8 0, .int .u8 0, .int .u8 0, .int .u8 0, .int .u8 0, .int .u8 0, .int .u8 0, .int .u8 0, .int .u8 0, .int .u8 0, .int .u8 0, .int .u8 0, .int .u8 0, .int .u8 0, .int .u8 0, .int .u8 0, .int .u8 0, .int .u8 0, .int .u8 0, .int .u8 0, .int .u8 0, .int .u8 0, .int .u8 0, .int .u8 0, .int .u8 0, .int .u8 0, .int .u8 0, .int .u8 0] 26)
  simp only [World.size_alloc] at q8
  have H4 := Lib.hid q4
  have HB := Lib.hid q8
  have Hb := Lib.hid hbw
  clear q4 q8 hbw hd hD 
  go_enter Tryd.func48, Tryd.ntmps48
  go_wp2_with (first
    | (refine (HLn.out _).mono ?_
       rintro e wh ⟨rfl, rfl⟩)
    | (refine wpList_store_row rfl 26 _ _ rfl (w.heap.size + 1) #[.int .u8 0, .int .u8 0, .int .u8 0, .int .u8 0, .int .u8 0, .int .u8 0, .int .u8 0, .int .u8 0, .int .u8 0, .int .u8 0, .int .u8 0, .int .u8 0, .int .u8 0, .int .u8 0, .int .u8 0, .int .u8 0, .int .u8 0, .int .u8 0, .int .u8 0, .int .u8 0, .int .u8 0, .int .u8 0, .int .u8 0, .int .u8 0, .int .u8 0, .int .u8 0, .int .u8 0, .int .u8 0, .int .u8 0, .int .u8 0, .int .u8 0, .int .u8 0] rfl rfl 26 _ HB.out infoDg rfl (by decide +kernel) ?_))
  refine bodyPost_ret (v := .tuple #[.agg #[.int .u8 0, .int .u8 0, .int .u8 0, .int .u8 0, .int .u8 0, .int .u8 0, .int .u8 0, .int .u8 0, .int .u8 0, .int .u8 0, .int .u8 0, .int .u8 0, .int .u8 0, .int .u8 0, .int .u8 0, .int .u8 0, .int .u8 0, .int .u8 0, .int .u8 0, .int .u8 0, .int .u8 0, .int .u8 0, .int .u8 0, .int .u8 0, .int .u8 0, .int .u8 0, .int .u8 0, .int .u8 0, .int .u8 0, .int .u8 0, .int .u8 0, .int .u8 0], .int .i64 1]) (results_row_slot rfl _ _ (w.heap.size + 1) [.int .u8 0, .int .u8 0, .int .u8 0, .int .u8 0, .int .u8 0, .int .u8 0, .int .u8 0, .int .u8 0, .int .u8 0, .int .u8 0, .int .u8 0, .int .u8 0, .int .u8 0, .int .u8 0, .int .u8 0, .int .u8 0, .int .u8 0, .int .u8 0, .int .u8 0, .int .u8 0, .int .u8 0, .int .u8 0, .int .u8 0, .int .u8 0, .int .u8 0, .int .u8 0, .int .u8 0, .int .u8 0, .int .u8 0, .int .u8 0, .int .u8 0, .int .u8 0] _ _ rfl rfl (HB.out.setRow #[.int .u8 0, .int .u8 0, .int .u8 0, .int .u8 0, .int .u8 0, .int .u8 0, .int .u8 0, .int .u8 0, .int .u8 0, .int .u8 0, .int .u8 0, .int .u8 0, .int .u8 0, .int .u8 0, .int .u8 0, .int .u8 0, .int .u8 0, .int .u8 0, .int .u8 0, .int .u8 0, .int .u8 0, .int .u8 0, .int .u8 0, .int .u8 0, .int .u8 0, .int .u8 0, .int .u8 0, .int .u8 0, .int .u8 0, .int .u8 0, .int .u8 0, .int .u8 0]).range Tryd.underlying26 rfl infoDg) rfl ?_
  exact ⟨rfl, setRow_below Hb.out (by omega) _⟩

/-- on which side the element lies: true for the right one -/
def rt (at_ n : Nat) : List Bool := (sd at_ n).map (fun b => !b)
theorem rt_len (at_ n : Nat) : (rt at_ n).length = (sd at_ n).length := by rw [rt, List.length_map]
theorem rt_one (at_ n : Nat) (h : n ≤ 1) : rt at_ n = [] := by rw [rt, sd_one _ _ h]; rfl
theorem rt_left (at_ n : Nat) (h : 2 ≤ n) (ha : at_ < hf n) : rt at_ n = false :: rt at_ (hf n) := by rw [rt, sd_left _ _ h ha]; rfl
theorem rt_right (at_ n : Nat) (h : 2 ≤ n) (ha : ¬ at_ < hf n) : rt at_ n = true :: rt (at_ - hf n) (n - hf n) := by rw [rt, sd_right _ _ h ha]; rfl
theorem vb_one (l : List Bool) : ∀ u ∈ l.map Value.bool, u.oneCell' = true := by
  intro u hu
  obtain ⟨b, _, rfl⟩ := List.mem_map.1 hu
  rfl

set_option maxRecDepth 100000 in
set_option maxHeartbeats 1000000 in
theorem climb_bad (d : List UInt8) (at_ n : Nat) (ha : at_ < n) (hx : n ≤ 256) (pa : Option Addr) (L cap : Nat) (w : World) (hL : L ≠ (sd at_ n).length) :
    Calls Tryd.prog 47 #[arrV d, .int .i64 (at_ : Int), .int .i64 (n : Int), .slice pa L cap] w fun e w' => e = .returned (.tuple #[.agg #[.int .u8 0, .int .u8 0, .int .u8 0, .int .u8 0, .int .u8 0, .int .u8 0, .int .u8 0, .int .u8 0, .int .u8 0, .int .u8 0, .int .u8 0, .int .u8 0, .int .u8 0, .int .u8 0, .int .u8 0, .int .u8 0, .int .u8 0, .int .u8 0, .int .u8 0, .int .u8 0, .int .u8 0, .int .u8 0, .int .u8 0, .int .u8 0, .int .u8 0, .int .u8 0, .int .u8 0, .int .u8 0, .int .u8 0, .int .u8 0, .int .u8 0, .int .u8 0], .int .i64 1]) ∧ Below w.heap.size w w' := by
  obtain ⟨iu, hiu, hu0, hu1, hu2⟩ := info_parts infoB
  have HSa := Lib.hid (fun m (h1 : 2 ≤ m) (h2 : m ≤ 256) W => split_any m h1 h2 W)
  have HRl := Lib.hid (show (rt at_ n).length ≤ 256 by have := sd_len n at_ n (Nat.le_refl _); rw [rt_len]; omega)
  have HRL := Lib.hid (rt_len at_ n)
  have i1 : ¬ (n : Int) < 1 := by omega
  have i2 : ¬ (1099511627776 : Int) < (n : Int) := by omega
  have i3 : ¬ (at_ : Int) < 0 := by omega
  have i4 : ¬ (n : Int) ≤ (at_ : Int) := by omega
  have i5 : (1 : Int) ≤ (n : Int) := by omega
  have i6 : (n : Int) ≤ 1099511627776 := by omega
  have i7 : (at_ : Int) < (n : Int) := by omega
  have Hne := Lib.hid hL
  unfold arrV
  obtain ⟨D, hD⟩ : ∃ D, bc d = D := ⟨_, rfl⟩
  rw [hD]
  clear hD hL
  have hg1 := (Blk.new w 26 D.toArray).alloc (.cells #[.int .u8 0, .int .u8 0, .int .u8 0, .int .u8 0, .int .u8 0, .int .u8 0, .int .u8 0, .int .u8 0, .int .u8 0, .int .u8 0, .int .u8 0, .int .u8 0, .int .u8 0, .int .u8 0, .int .u8 0, .int .u8 0, .int .u8 0, .int .u8 0, .int .u8 0, .int .u8 0, .int .u8 0, .int .u8 0, .int .u8 0, .int .u8 0, .int .u8 0, .int .u8 0, .int .u8 0, .int .u8 0, .int .u8 0, .int .u8 0, .int .u8 0, .int .u8 0] 26)
  have hg2 := Blk.new (w.alloc (.cells D.toArray 26)) 26 #[.int .u8 0, .int .u8 0, .int .u8 0, .int .u8 0, .int .u8 0, .int .u8 0, .int .u8 0, .int .u8 0, .int .u8 0, .int .u8 0, .int .u8 0, .int .u8 0, .int .u8 0, .int .u8 0, .int .u8 0, .int .u8 0, .int .u8 0, .int .u8 0, .int .u8 0, .int .u8 0, .int .u8 0, .int .u8 0, .int .u8 0, .int .u8 0, .int .u8 0, .int .u8 0, .int .u8 0, .int .u8 0, .int .u8 0, .int .u8 0, .int .u8 0, .int .u8 0]
  rw [World.size_alloc] at hg2
  have hb := (below_alloc w (.cells D.toArray 26)).alloc (by simp) (.cells #[.int .u8 0, .int .u8 0, .int .u8 0, .int .u8 0, .int .u8 0, .int .u8 0, .int .u8 0, .int .u8 0, .int .u8 0, .int .u8 0, .int .u8 0, .int .u8 0, .int .u8 0, .int .u8 0, .int .u8 0, .int .u8 0, .int .u8 0, .int .u8 0, .int .u8 0, .int .u8 0, .int .u8 0, .int .u8 0, .int .u8 0, .int .u8 0, .int .u8 0, .int .u8 0, .int .u8 0, .int .u8 0, .int .u8 0, .int .u8 0, .int .u8 0, .int .u8 0] 26)
  obtain ⟨w0, hw0⟩ : ∃ w0, (w.alloc (.cells D.toArray 26)).alloc (.cells #[.int .u8 0, .int .u8 0, .int .u8 0, .int .u8 0, .int .u8 0, .int .u8 0, .int .u8 0, .int .u8 0, .int .u8 0, .int .u8 0, .int .u8 0, .int .u8 0, .int .u8 0, .int .u8 0, .int .u8 0, .int .u8 0, .int .u8 0, .int .u8 0, .int .u8 0, .int .u8 0, .int .u8 0, .int .u8 0, .int .u8 0, .int .u8 0, .int .u8 0, .int .u8 0, .int .u8 0, .int .u8 0, .int .u8 0, .int .u8 0, .int .u8 0, .int .u8 0] 26) = w0 := ⟨_, rfl⟩
  rw [hw0] at hg1 hg2 hb
  have HW0 := Lib.hid hw0
  have H1 := Lib.hid hg1
  have H2 := Lib.hid hg2
  have Hb := Lib.hid hb
  have HS0 := Lib.hid (show ([] : List Bool) ++ rt at_ n = rt at_ n ∧ at_ < n ∧ n ≤ 256 from ⟨rfl, ha, hx⟩)
  clear hg1 hg2 hb hw0 ha hx 
  go_enter Tryd.func47, Tryd.ntmps47
  go_wp2_with fail
  rw [HW0.out]
  clear i1 i2 i3 i4 i5 i6 i7
  go_loopw [1, 2, 10] (fun i k r wr => ∃ (a m lp : Nat) (pre : List Bool), Hid (pre ++ rt a m = rt at_ n ∧ a < m ∧ m ≤ 256) ∧ i = .int .i64 (a : Int) ∧ k = .int .i64 (m : Int) ∧ Hid (pre.length = lp) ∧ wr.ownsRow w0.heap.size 4 1 r lp (pre.map Value.bool) ∧ Below w0.heap.size w0 wr) (fun _ k _ _ => (intOf k).toNat)
  case atStart => exact ⟨at_, n, 0, [], HS0, by go_num, by go_num, Lib.hid rfl, World.ownsRow_nil _ _ _ _, Below.refl _ _⟩
  case round =>
    obtain ⟨a, m, lp, pre, Hs, rfl, rfl, Hl, hown, hbw⟩ := hrel
    have Hown := Lib.hid hown
    have Hbw := Lib.hid hbw
    clear hown hbw HS0
    by_cases hm : 2 ≤ m
    · have hF := hf_facts m hm
      have HSp := Lib.hid (fun W => HSa.out m hm Hs.out.2.2 W)
      have j1 : (1 : Int) < (m : Int) := by omega
      have ham := Hs.out.2.1
      have hm9 := Hs.out.2.2
      have Hlp := Lib.hid (show pre.length = lp ∧ lp + (rt a m).length = (rt at_ n).length ∧ lp + 1 ≤ 300 by
        have h := congrArg List.length Hs.out.1
        rw [List.length_append, Hl.out] at h
        have := HRl.out
        exact ⟨Hl.out, h, by omega⟩)
      by_cases hl : a < hf m
      · have Hs2 := Lib.hid (show (pre ++ [false]) ++ rt a (hf m) = rt at_ n ∧ a < hf m ∧ hf m ≤ 256 by
          refine ⟨?_, hl, by omega⟩
          rw [← Hs.out.1, rt_left a m hm hl, List.append_assoc]; rfl)
        have Hl2 := Lib.hid (show (pre ++ [false]).length = lp + 1 by rw [List.length_append, Hl.out]; rfl)
        obtain ⟨k, hk⟩ : ∃ k, hf m = k := ⟨_, rfl⟩
        rw [hk] at hl HSp Hs2 hF
        have j2 : (a : Int) < (k : Int) := by omega
        have j3 : ¬ (k : Int) ≤ (a : Int) := by omega
        have j5 : decide (k ≤ a) = false := by simp; omega
        have j6 : ¬ k ≤ a := by omega
        have hF2 := hF.2.1
        clear hF hk hl hm9 ham hm
        go_wp2_with (first
          | (refine (HSp.out _).mono ?_
             rintro e wh ⟨rfl, rfl⟩)
          | (at_builtin
             refine wpList_append_sl _ rfl (.tmp 34) (.tmp 38) 73 rfl w0.heap.size 4 iu _ 1 Tryd.underlying73 hiu hu0 hu1 hu2 rfl u10 lp (pre.map Value.bool) rfl (Hown.out.alloc _) (.slice (some ⟨wr.heap.size, 0, none⟩) 1 1) 1 [.bool false] rfl ((Blk.new wr 4 #[.bool false]).sl rfl rfl) (by intro u hu; simp at hu; subst hu; rfl) (by have := Hlp.out.2.2; unfold maxLen; omega) (by have := Hlp.out.2.2; omega) (by have := Hbw.out.size; rw [World.size_alloc]; omega) ?_
             intro v7 w7 hown7 hg7
             have hb7 : Below w0.heap.size w0 w7 := (Hbw.out.alloc Hbw.out.size _).grown hg7 (by have := Hbw.out.size; rw [World.size_alloc]; omega) (fun k hk => (Hown.out.lt k hk).1)
             rw [show pre.map Value.bool ++ [.bool false] = (pre ++ [false]).map Value.bool by rw [List.map_append]; rfl] at hown7
             have Hown7 := Lib.hid hown7
             have Hb7 := Lib.hid hb7
             clear hown7 hg7 hb7))
        go_roundw
        case rel => exact ⟨a, k, lp + 1, pre ++ [false], Hs2, by go_num, by go_num, Hl2, Hown7.out, Hb7.out⟩
        case measure => simp [intOf]; omega
      · have Hs2 := Lib.hid (show (pre ++ [true]) ++ rt (a - hf m) (m - hf m) = rt at_ n ∧ a - hf m < m - hf m ∧ m - hf m ≤ 256 by
          refine ⟨?_, by omega, by omega⟩
          rw [← Hs.out.1, rt_right a m hm hl, List.append_assoc]; rfl)
        have Hl2 := Lib.hid (show (pre ++ [true]).length = lp + 1 by rw [List.length_append, Hl.out]; rfl)
        obtain ⟨k, hk⟩ : ∃ k, hf m = k := ⟨_, rfl⟩
        rw [hk] at hl HSp Hs2 hF
        have j2 : ¬ (a : Int) < (k : Int) := by omega
        have j3 : (k : Int) ≤ (a : Int) := by omega
        have j5 : decide (k ≤ a) = true := by simp; omega
        have s2 : IntKind.i64.wrap ((m : Int) - (k : Int)) = ((m - k : Nat) : Int) := by rw [IntKind.wrap_i64]; omega
        have s3 : IntKind.i64.wrap ((a : Int) - (k : Int)) = ((a - k : Nat) : Int) := by rw [IntKind.wrap_i64]; omega
        have hF1 := hF.1
        obtain ⟨a2, ha2⟩ : ∃ a2, a - k = a2 := ⟨_, rfl⟩
        obtain ⟨m2, hm2⟩ : ∃ m2, m - k = m2 := ⟨_, rfl⟩
        rw [ha2] at s3 Hs2
        rw [hm2] at s2 Hs2
        have hmm : m2 < m := by omega
        clear hF hk hl hm9 ham hm ha2 hm2 hF1
        go_wp2_with (first
          | (refine (HSp.out _).mono ?_
             rintro e wh ⟨rfl, rfl⟩)
          | (at_builtin
             refine wpList_append_sl _ rfl (.tmp 34) (.tmp 38) 73 rfl w0.heap.size 4 iu _ 1 Tryd.underlying73 hiu hu0 hu1 hu2 rfl u10 lp (pre.map Value.bool) rfl (Hown.out.alloc _) (.slice (some ⟨wr.heap.size, 0, none⟩) 1 1) 1 [.bool true] rfl ((Blk.new wr 4 #[.bool true]).sl rfl rfl) (by intro u hu; simp at hu; subst hu; rfl) (by have := Hlp.out.2.2; unfold maxLen; omega) (by have := Hlp.out.2.2; omega) (by have := Hbw.out.size; rw [World.size_alloc]; omega) ?_
             intro v7 w7 hown7 hg7
             have hb7 : Below w0.heap.size w0 w7 := (Hbw.out.alloc Hbw.out.size _).grown hg7 (by have := Hbw.out.size; rw [World.size_alloc]; omega) (fun k hk => (Hown.out.lt k hk).1)
             rw [show pre.map Value.bool ++ [.bool true] = (pre ++ [true]).map Value.bool by rw [List.map_append]; rfl] at hown7
             have Hown7 := Lib.hid hown7
             have Hb7 := Lib.hid hb7
             clear hown7 hg7 hb7))
        go_roundw
        case rel => exact ⟨a2, m2, lp + 1, pre ++ [true], Hs2, by go_num, by go_num, Hl2, Hown7.out, Hb7.out⟩
        case measure => simp [intOf]; omega
    · have j1 : ¬ (1 : Int) < (m : Int) := by omega
      have j9 : (m : Int) ≤ 1 := by omega
      have hpre : pre = rt at_ n := by rw [← Hs.out.1, rt_one a m (by omega), List.append_nil]
      have Hll := Lib.hid (show lp = (sd at_ n).length by rw [← Hl.out, hpre, rt_len])
      rw [hpre] at Hown
      clear hpre hm Hs Hl
      obtain ⟨ra, rcap, rfl⟩ := (Sl.of_own Hown.out).form
      have j4 : ((L : Int) == (lp : Int)) = false := by have := Hne.out; have := Hll.out; simp; omega
      have j5 : ¬ (L : Int) = (lp : Int) := by have := Hne.out; have := Hll.out; omega
      have j6 : ¬ L = lp := by have := Hne.out; have := Hll.out; omega
      have H2w := Lib.hid (H2.out.below Hbw.out H2.out.lt)
      have Hbb := Lib.hid (Hb.out.trans (Hbw.out.mono Hb.out.size))
      go_wp2_with (first
        | (refine wpList_store_row rfl 26 _ _ rfl (w.heap.size + 1) #[.int .u8 0, .int .u8 0, .int .u8 0, .int .u8 0, .int .u8 0, .int .u8 0, .int .u8 0, .int .u8 0, .int .u8 0, .int .u8 0, .int .u8 0, .int .u8 0, .int .u8 0, .int .u8 0, .int .u8 0, .int .u8 0, .int .u8 0, .int .u8 0, .int .u8 0, .int .u8 0, .int .u8 0, .int .u8 0, .int .u8 0, .int .u8 0, .int .u8 0, .int .u8 0, .int .u8 0, .int .u8 0, .int .u8 0, .int .u8 0, .int .u8 0, .int .u8 0] rfl rfl 26 _ H2w.out infoDg rfl (by decide +kernel) ?_))
      refine bodyPost_ret (v := .tuple #[.agg #[.int .u8 0, .int .u8 0, .int .u8 0, .int .u8 0, .int .u8 0, .int .u8 0, .int .u8 0, .int .u8 0, .int .u8 0, .int .u8 0, .int .u8 0, .int .u8 0, .int .u8 0, .int .u8 0, .int .u8 0, .int .u8 0, .int .u8 0, .int .u8 0, .int .u8 0, .int .u8 0, .int .u8 0, .int .u8 0, .int .u8 0, .int .u8 0, .int .u8 0, .int .u8 0, .int .u8 0, .int .u8 0, .int .u8 0, .int .u8 0, .int .u8 0, .int .u8 0], .int .i64 1]) (results_row_slot rfl _ _ (w.heap.size + 1) [.int .u8 0, .int .u8 0, .int .u8 0, .int .u8 0, .int .u8 0, .int .u8 0, .int .u8 0, .int .u8 0, .int .u8 0, .int .u8 0, .int .u8 0, .int .u8 0, .int .u8 0, .int .u8 0, .int .u8 0, .int .u8 0, .int .u8 0, .int .u8 0, .int .u8 0, .int .u8 0, .int .u8 0, .int .u8 0, .int .u8 0, .int .u8 0, .int .u8 0, .int .u8 0, .int .u8 0, .int .u8 0, .int .u8 0, .int .u8 0, .int .u8 0, .int .u8 0] _ _ rfl rfl (H2w.out.setRow #[.int .u8 0, .int .u8 0, .int .u8 0, .int .u8 0, .int .u8 0, .int .u8 0, .int .u8 0, .int .u8 0, .int .u8 0, .int .u8 0, .int .u8 0, .int .u8 0, .int .u8 0, .int .u8 0, .int .u8 0, .int .u8 0, .int .u8 0, .int .u8 0, .int .u8 0, .int .u8 0, .int .u8 0, .int .u8 0, .int .u8 0, .int .u8 0, .int .u8 0, .int .u8 0, .int .u8 0, .int .u8 0, .int .u8 0, .int .u8 0, .int .u8 0, .int .u8 0]).range Tryd.underlying26 rfl infoDg) rfl ?_
      exact ⟨rfl, setRow_below Hbb.out (by omega) _⟩
end Go.Proofs.YtiloaheaglcpbaaDoor
