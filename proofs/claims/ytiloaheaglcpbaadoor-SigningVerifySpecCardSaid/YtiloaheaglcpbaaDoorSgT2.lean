/- Signing in the reference: the path of an element in a list of one or two. -/
import Derived.Test.YtiloaheaglcpbaaDoorSgT1
namespace Go.Proofs.YtiloaheaglcpbaaDoor
open Go.RowKit

theorem rpath1_any (g off cap : Nat) (w : World) :
    Calls Tryd.prog 59 #[.slice (some ⟨g, off, none⟩) 1 cap, .int .i64 0] w fun e w' => ∃ v, e = .returned v ∧ w'.ownsRow w.heap.size 26 32 v 0 [] ∧ Below w.heap.size w w' := by
  go_enter Tryd.func59, Tryd.ntmps59
  go_wp2_with fail
  go_ret
  exact ⟨_, rfl, own_empty' w _ (Nat.le_refl _) _ _, below_alloc w _⟩

set_option maxRecDepth 100000 in
set_option maxHeartbeats 1000000 in
theorem rpath2_0 (x : List UInt8) (hx : x.length = 32) (g cap : Nat) (hcap : 2 ≤ cap) (w : World) (hr : w.rangeAt g 32 (bc x)) :
    Calls Tryd.prog 59 #[.slice (some ⟨g, 0, none⟩) 2 cap, .int .i64 0] w fun e w' => ∃ v, e = .returned v ∧ w'.ownsRow w.heap.size 26 32 v 1 (bc (lf x)) ∧ Below w.heap.size w w' := by
  obtain ⟨iu, hiu, hu0, hu1, hu2⟩ := info_parts infoD32
  have hlt : g < w.heap.size := by
    have := hr 0 _ (by rw [bt_cell (d := x) (k := 0) (by omega)])
    exact World.block_lt_of_cell? w _ this
  have HTr := Lib.hid (fun (o c : Nat) W (ho : o = 32) (hb : Below w.heap.size w W) => rtree1_any x hx g o c W (by rw [ho]; exact rangeAt_below hr hb hlt))
  have HP := Lib.hid (fun (o c : Nat) W => rpath1_any g o c W)
  have HH := Lib.hid (fun W => half2_any W)
  have Hl1 := Lib.hid (show (bc (lf x)).length = 32 by rw [bc_len, lf_len])
  have Ho1 := Lib.hid (bc_one (lf x))
  unfold arrV at HTr
  obtain ⟨D1, hD1⟩ : ∃ D1, bc (lf x) = D1 := ⟨_, rfl⟩
  rw [hD1] at HTr Hl1 Ho1 ⊢
  have hd32 : D1.length = 32 := Hl1.out
  clear hr hx hD1 hlt
  have hcap1 : ¬ cap = 1 := by omega
  have j1 : (1 : Int) ≤ (cap : Int) := by omega
  have j2 : (0 : Int) ≤ (cap : Int) := by omega
  have j3 : (1 : Int) < (cap : Int) := by omega
  have j4 : (2 : Int) ≤ (cap : Int) := by omega
  have j5 : 1 ≤ cap := by omega
  go_enter Tryd.func59, Tryd.ntmps59
  go_wp2_with (first
    | (refine (HH.out _).mono ?_
       rintro e wh ⟨rfl, rfl⟩))
  go_region_law (first
    | (go_simp; go_at_call 59; refine (HP.out _ _ _).mono ?_; rintro e w5 ⟨v5, rfl, ho5, hb5⟩
       obtain ⟨a5, c5, rfl⟩ := (Sl.of_own ho5).form
       have hb5' : Below w.heap.size w w5 := Below.trans (by (repeat (first | (with_reducible exact Below.refl _ _) | (with_reducible refine Below.drew ?_)))) (hb5.mono (by simp))
       have ho5' : w5.ownsRow w.heap.size 26 32 (.slice a5 0 c5) 0 [] := own_mono ho5 (by simp))
    | (go_simp; go_at_call 35; refine (HTr.out _ _ _ (by first | rfl | omega) (by (repeat (first | (with_reducible exact hb5') | (with_reducible refine Below.drew ?_))))).mono ?_; rintro e w6 ⟨rfl, hb6⟩
       have hb56 : Below w5.heap.size w5 w6 := Below.trans (by (repeat (first | (with_reducible exact Below.refl _ _) | (with_reducible refine Below.drew ?_)))) (hb6.mono (by simp))
       have hb6' := hb5'.trans (hb56.mono hb5'.size)
       have ho6 := own_next ho5' hb56)
    | ((try rw [fold_all D1 _ (by rw [Hl1.out]; rfl)]); refine step_append_lies _ rfl (.tmp 20) (.tmp 25) 40 rfl w.heap.size 26 iu _ 32 32 Tryd.underlying40 hiu hu0 hu1 hu2 rfl (by omega) (.slice a5 0 c5) 0 [] rfl (by (repeat (first | (with_reducible exact ho6) | (with_reducible refine own_drew ?_) | (with_reducible refine World.ownsRow.alloc ?_ _)))) ⟨_, 0, none⟩ 1 1 D1 rfl (by rw [Hl1.out]) (fun j u hu => by rw [Addr.add_mid]; exact (Blk.range (t := 26) (by (repeat (first | (with_reducible exact blk_at _ _ _ _ (by simp)) | (with_reducible refine Blk.drew ?_) | (with_reducible refine Blk.alloc ?_ _))))) j u hu) Ho1.out (by omega) (by unfold maxLen; omega) (by omega) (by have := hb6'.size; simp; omega) _ rfl ?_
       intro g7 cap7 w7 hown7 hg7 hor7 hlt7
       have hb7 : Below w.heap.size w w7 := Below.grown (by (repeat (first | (with_reducible exact hb6') | (with_reducible refine Below.drew ?_) | (with_reducible refine Below.alloc ?_ (by have := hb6'.size; first | exact this | (simp; omega)) _)))) hg7 (by have := hb6'.size; simp; omega) (fun k hk => (ho5'.lt _ hk).1)))
  all_goals
    go_wp2_with fail
    go_ret
    exact ⟨_, rfl, hown7, hb7⟩
set_option maxRecDepth 100000 in
set_option maxHeartbeats 1000000 in
theorem rpath2_1 (x : List UInt8) (hx : x.length = 32) (g cap : Nat) (hcap : 2 ≤ cap) (w : World) (hr : w.rangeAt g 0 (bc x)) :
    Calls Tryd.prog 59 #[.slice (some ⟨g, 0, none⟩) 2 cap, .int .i64 1] w fun e w' => ∃ v, e = .returned v ∧ w'.ownsRow w.heap.size 26 32 v 1 (bc (lf x)) ∧ Below w.heap.size w w' := by
  obtain ⟨iu, hiu, hu0, hu1, hu2⟩ := info_parts infoD32
  have hlt : g < w.heap.size := by
    have := hr 0 _ (by rw [bt_cell (d := x) (k := 0) (by omega)])
    exact World.block_lt_of_cell? w _ this
  have HTr := Lib.hid (fun (o c : Nat) W (ho : o = 0) (hb : Below w.heap.size w W) => rtree1_any x hx g o c W (by rw [ho]; exact rangeAt_below hr hb hlt))
  have HP := Lib.hid (fun (o c : Nat) W => rpath1_any g o c W)
  have HH := Lib.hid (fun W => half2_any W)
  have Hl1 := Lib.hid (show (bc (lf x)).length = 32 by rw [bc_len, lf_len])
  have Ho1 := Lib.hid (bc_one (lf x))
  unfold arrV at HTr
  obtain ⟨D1, hD1⟩ : ∃ D1, bc (lf x) = D1 := ⟨_, rfl⟩
  rw [hD1] at HTr Hl1 Ho1 ⊢
  have hd32 : D1.length = 32 := Hl1.out
  clear hr hx hD1 hlt
  have hcap1 : ¬ cap = 1 := by omega
  have j1 : (1 : Int) ≤ (cap : Int) := by omega
  have j2 : (0 : Int) ≤ (cap : Int) := by omega
  have j3 : (1 : Int) < (cap : Int) := by omega
  have j4 : (2 : Int) ≤ (cap : Int) := by omega
  have j5 : 1 ≤ cap := by omega
  go_enter Tryd.func59, Tryd.ntmps59
  go_wp2_with (first
    | (refine (HH.out _).mono ?_
       rintro e wh ⟨rfl, rfl⟩))
  go_region_law (first
    | (go_simp; go_at_call 59; refine (HP.out _ _ _).mono ?_; rintro e w5 ⟨v5, rfl, ho5, hb5⟩
       obtain ⟨a5, c5, rfl⟩ := (Sl.of_own ho5).form
       have hb5' : Below w.heap.size w w5 := Below.trans (by (repeat (first | (with_reducible exact Below.refl _ _) | (with_reducible refine Below.drew ?_)))) (hb5.mono (by simp))
       have ho5' : w5.ownsRow w.heap.size 26 32 (.slice a5 0 c5) 0 [] := own_mono ho5 (by simp))
    | (go_simp; go_at_call 35; refine (HTr.out _ _ _ (by first | rfl | omega) (by (repeat (first | (with_reducible exact hb5') | (with_reducible refine Below.drew ?_))))).mono ?_; rintro e w6 ⟨rfl, hb6⟩
       have hb56 : Below w5.heap.size w5 w6 := Below.trans (by (repeat (first | (with_reducible exact Below.refl _ _) | (with_reducible refine Below.drew ?_)))) (hb6.mono (by simp))
       have hb6' := hb5'.trans (hb56.mono hb5'.size)
       have ho6 := own_next ho5' hb56)
    | ((try rw [fold_all D1 _ (by rw [Hl1.out]; rfl)]); refine step_append_lies _ rfl (.tmp 33) (.tmp 38) 40 rfl w.heap.size 26 iu _ 32 32 Tryd.underlying40 hiu hu0 hu1 hu2 rfl (by omega) (.slice a5 0 c5) 0 [] rfl (by (repeat (first | (with_reducible exact ho6) | (with_reducible refine own_drew ?_) | (with_reducible refine World.ownsRow.alloc ?_ _)))) ⟨_, 0, none⟩ 1 1 D1 rfl (by rw [Hl1.out]) (fun j u hu => by rw [Addr.add_mid]; exact (Blk.range (t := 26) (by (repeat (first | (with_reducible exact blk_at _ _ _ _ (by simp)) | (with_reducible refine Blk.drew ?_) | (with_reducible refine Blk.alloc ?_ _))))) j u hu) Ho1.out (by omega) (by unfold maxLen; omega) (by omega) (by have := hb6'.size; simp; omega) _ rfl ?_
       intro g7 cap7 w7 hown7 hg7 hor7 hlt7
       have hb7 : Below w.heap.size w w7 := Below.grown (by (repeat (first | (with_reducible exact hb6') | (with_reducible refine Below.drew ?_) | (with_reducible refine Below.alloc ?_ (by have := hb6'.size; first | exact this | (simp; omega)) _)))) hg7 (by have := hb6'.size; simp; omega) (fun k hk => (ho5'.lt _ hk).1)))
  all_goals
    go_wp2_with fail
    go_ret
    exact ⟨_, rfl, hown7, hb7⟩
theorem rpath_pk (seed : List UInt8) (m : Nat) (hm : m = 1 ∨ m = 2) (ix : Nat) (hix : ix < m) (B : Nat) (v : Value) (w : World) (h : w.ownsRow B 26 32 v m (pkC seed m)) :
    Calls Tryd.prog 43 #[v, .int .i64 (ix : Int)] w fun e w' => ∃ p, e = .returned (.tuple #[p, .int .i64 0]) ∧ w'.ownsRow w.heap.size 26 32 p (m - 1) (ptC seed m ix) ∧ Below w.heap.size w w' := by
  have hP : ∀ W, Below w.heap.size w W → Calls Tryd.prog 59 #[v, .int .i64 (ix : Int)] W fun e w' => ∃ p, e = .returned p ∧ w'.ownsRow W.heap.size 26 32 p (m - 1) (ptC seed m ix) ∧ Below W.heap.size W w' := fun W hb => by
    obtain ⟨g, cap, rfl, hcap, hr⟩ := own_range (own_next h hb) (by omega)
    rcases hm with rfl | rfl
    · obtain rfl : ix = 0 := by omega
      exact rpath1_any g 0 cap W
    · rw [pkC_2] at hr
      rcases (show ix = 0 ∨ ix = 1 by omega) with rfl | rfl
      · exact rpath2_0 (pk1 seed 1) rfl g cap hcap W (by have := range_right (n := 32) hr (by rw [bc_len]; rfl); rwa [Nat.zero_add] at this)
      · exact rpath2_1 (pk1 seed 0) rfl g cap hcap W (range_left hr)
  obtain ⟨va, vc, rfl⟩ := (Sl.of_own h).form
  have HP := Lib.hid hP
  have i1 : ¬ (ix : Int) < 0 := by omega
  have i2 : ¬ (m : Int) ≤ (ix : Int) := by omega
  clear hP h hm
  go_enter Tryd.func43, Tryd.ntmps43
  go_wp2_with (first
    | (refine (HP.out _ (Below.refl _ _)).mono ?_
       rintro e w5 ⟨p, rfl, ho5, hb5⟩))
  refine bodyPost_ret (v := .tuple #[p, .int .i64 0]) (by simp [results, Tryd.results43, go_sem]) rfl ?_
  exact ⟨p, rfl, ho5, hb5⟩
end Go.Proofs.YtiloaheaglcpbaaDoor
