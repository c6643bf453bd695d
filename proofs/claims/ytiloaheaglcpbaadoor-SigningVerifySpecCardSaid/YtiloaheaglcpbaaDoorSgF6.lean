/- Digests: the path of an element in a list of one or two. -/
import Derived.Test.YtiloaheaglcpbaaDoorSgF5
namespace Go.Proofs.YtiloaheaglcpbaaDoor
open Go.RowKit

set_option maxRecDepth 100000 in
theorem path1_any (g cap : Nat) (w : World) :
    Calls Tryd.prog 39 #[.slice (some ⟨g, 0, none⟩) 1 cap, .int .i64 0] w fun e w' => e = .returned (.tuple #[.slice none 0 0, .int .i64 0]) ∧ w' = w := by
  go_enter Tryd.func39, Tryd.ntmps39
  go_wp2_with fail
  go_loopw [0, 1, 4] (fun ds i l wr => ds = .slice (some ⟨g, 0, none⟩) 1 cap ∧ i = .int .i64 0 ∧ l = .slice none 0 0 ∧ w = wr) (fun _ _ _ _ => 0)
  case atStart => exact ⟨rfl, rfl, rfl, rfl⟩
  case round =>
    obtain ⟨rfl, rfl, rfl, rfl⟩ := hrel
    go_wp2_with fail
    go_loopw [7, 8] (fun a b wr => a = .int .i64 0 ∧ b = .int .i64 (-1) ∧ w = wr) (fun _ _ _ => 0)
    case atStart => exact ⟨rfl, rfl, rfl⟩
    case round =>
      obtain ⟨rfl, rfl, rfl⟩ := hrel
      go_wp2_with fail
      refine bodyPost_ret (v := .tuple #[.slice none 0 0, .int .i64 0]) (by simp [results, Tryd.results39, go_sem]) rfl ?_
      exact ⟨rfl, rfl⟩

set_option maxRecDepth 100000 in
set_option maxHeartbeats 1000000 in
theorem path2_0 (x : List UInt8) (hx : x.length = 32) (g cap : Nat) (hcap : 2 ≤ cap) (w : World) (hr : w.rangeAt g 32 (bc x)) (hT : Tabs w) :
    Calls Tryd.prog 39 #[.slice (some ⟨g, 0, none⟩) 2 cap, .int .i64 0] w fun e w' => ∃ v, e = .returned (.tuple #[v, .int .i64 0]) ∧ w'.ownsRow w.heap.size 26 32 v 1 (bc (lf x)) ∧ Below w.heap.size w w' := by
  obtain ⟨iu, hiu, hu0, hu1, hu2⟩ := info_parts infoD32
  have hlt : g < w.heap.size := by
    have := hr 0 _ (by rw [bt_cell (d := x) (k := 0) (by omega)])
    exact World.block_lt_of_cell? w _ this
  have HTr := Lib.hid (fun (o c : Nat) W (ho : o = 32) (hb : Below w.heap.size w W) => tree1_any x hx g o c W (hT.next hb) (by rw [ho]; exact rangeAt_below hr hb hlt))
  rw [show tr1 x = lf x from rfl] at HTr
  have Hl1 := Lib.hid (show (bc (lf x)).length = 32 by rw [bc_len, lf_len])
  have Ho1 := Lib.hid (bc_one (lf x))
  have hd32 : (bc (lf x)).length = 32 := by rw [bc_len, lf_len]
  unfold arrV at HTr
  obtain ⟨D1, hD1⟩ : ∃ D1, bc (lf x) = D1 := ⟨_, rfl⟩
  rw [hD1] at HTr Hl1 Ho1 hd32 ⊢
  clear hT hr hx hD1 hlt
  have hcap1 : ¬ cap = 1 := by omega
  have j1 : (1 : Int) ≤ (cap : Int) := by omega
  have j2 : (0 : Int) ≤ (cap : Int) := by omega
  have j3 : (1 : Int) < (cap : Int) := by omega
  have j4 : (2 : Int) ≤ (cap : Int) := by omega
  have j5 : 1 ≤ cap := by omega
  go_enter Tryd.func39, Tryd.ntmps39
  go_wp2_with fail
  go_loopw [0, 1, 4] (fun ds i l wr => (ds = .slice (some ⟨g, 0, none⟩) 2 cap ∧ i = .int .i64 0 ∧ l = .slice none 0 0 ∧ w = wr) ∨ (∃ off c, ds = .slice (some ⟨g, off, none⟩) 1 c ∧ i = .int .i64 0 ∧ wr.ownsRow w.heap.size 26 32 l 1 D1 ∧ Below w.heap.size w wr)) (fun ds _ _ _ => ownV ds)
  case atStart => exact .inl ⟨rfl, rfl, rfl, rfl⟩
  case round =>
    rcases hrel with ⟨rfl, rfl, rfl, rfl⟩ | ⟨off, c, rfl, rfl, hown, hb⟩
    · go_wp2_with (first
        | (go_at_call 53; refine (split2 _).mono ?_; rintro _ _ ⟨rfl, rfl⟩)
        | (refine (HTr.out _ _ _ (by first | rfl | omega) (Below.refl _ _)).mono ?_
           rintro e w8 ⟨rfl, hb8⟩
           have hB5 := Blk.new w8 26 D1.toArray
           have hb9 := hb8.alloc hb8.size (.cells D1.toArray 26)
           obtain ⟨w9, hw9⟩ : ∃ w9, w8.alloc (.cells D1.toArray 26) = w9 := ⟨_, rfl⟩
           rw [hw9] at hB5 hb9
           have HW9 := Lib.hid hw9
           have HB5 := Lib.hid hB5
           have Hb9 := Lib.hid hb9
           clear hb8 hB5 hb9 hw9)
        | (at_builtin
           rw [fold_all D1 _ (by rw [Hl1.out]; rfl), HW9.out]
           refine wpList_append_lies _ rfl (.tmp 26) (.tmp 31) 40 rfl w.heap.size 26 iu _ 32 32 Tryd.underlying40 hiu hu0 hu1 hu2 rfl (by omega) (.slice none 0 0) 0 [] rfl (World.ownsRow_nil _ _ _ _) ⟨w8.heap.size, 0, none⟩ 1 1 D1 rfl (by rw [Hl1.out]) (fun j u hu => by rw [Addr.add_mid]; exact HB5.out.range j u hu) Ho1.out (by omega) (by unfold maxLen; omega) (by omega) Hb9.out.size w9.heap.size rfl ?_
           intro g7 cap7 w7 hown7 hg7 hor7 hlt7
           have hb7 : Below w.heap.size w w7 := Hb9.out.grown hg7 Hb9.out.size (fun k hk => by cases hk)
           have Hb7 := Lib.hid hb7
           have Hown7 := Lib.hid hown7
           clear hb7 hown7 hg7 hor7 hlt7))
      go_roundw
      case rel => exact .inr ⟨_, _, rfl, rfl, Hown7.out, Hb7.out⟩
      case measure => simp [ownV]
    · obtain ⟨la, lcap, rfl⟩ := (Sl.of_own hown).form
      have Hown := Lib.hid hown
      have Hb := Lib.hid hb
      clear hown hb
      go_wp2_with fail
      go_loopw [7, 8] (fun a b w' => a = .int .i64 0 ∧ b = .int .i64 0 ∧ wr = w') (fun _ _ _ => 0)
      case atStart => exact ⟨rfl, rfl, rfl⟩
      case round =>
        obtain ⟨rfl, rfl, rfl⟩ := hrel
        go_wp2_with fail
        refine bodyPost_ret (v := .tuple #[.slice la 1 lcap, .int .i64 0]) (by simp [results, Tryd.results39, go_sem]) rfl ?_
        exact ⟨_, rfl, Hown.out, Hb.out⟩
set_option maxRecDepth 100000 in
set_option maxHeartbeats 1000000 in
theorem path2_1 (x : List UInt8) (hx : x.length = 32) (g cap : Nat) (hcap : 2 ≤ cap) (w : World) (hr : w.rangeAt g 0 (bc x)) (hT : Tabs w) :
    Calls Tryd.prog 39 #[.slice (some ⟨g, 0, none⟩) 2 cap, .int .i64 1] w fun e w' => ∃ v, e = .returned (.tuple #[v, .int .i64 0]) ∧ w'.ownsRow w.heap.size 26 32 v 1 (bc (lf x)) ∧ Below w.heap.size w w' := by
  obtain ⟨iu, hiu, hu0, hu1, hu2⟩ := info_parts infoD32
  have hlt : g < w.heap.size := by
    have := hr 0 _ (by rw [bt_cell (d := x) (k := 0) (by omega)])
    exact World.block_lt_of_cell? w _ this
  have HTr := Lib.hid (fun (o c : Nat) W (ho : o = 0) (hb : Below w.heap.size w W) => tree1_any x hx g o c W (hT.next hb) (by rw [ho]; exact rangeAt_below hr hb hlt))
  rw [show tr1 x = lf x from rfl] at HTr
  have Hl1 := Lib.hid (show (bc (lf x)).length = 32 by rw [bc_len, lf_len])
  have Ho1 := Lib.hid (bc_one (lf x))
  have hd32 : (bc (lf x)).length = 32 := by rw [bc_len, lf_len]
  unfold arrV at HTr
  obtain ⟨D1, hD1⟩ : ∃ D1, bc (lf x) = D1 := ⟨_, rfl⟩
  rw [hD1] at HTr Hl1 Ho1 hd32 ⊢
  clear hT hr hx hD1 hlt
  have hcap1 : ¬ cap = 1 := by omega
  have j1 : (1 : Int) ≤ (cap : Int) := by omega
  have j2 : (0 : Int) ≤ (cap : Int) := by omega
  have j3 : (1 : Int) < (cap : Int) := by omega
  have j4 : (2 : Int) ≤ (cap : Int) := by omega
  have j5 : 1 ≤ cap := by omega
  go_enter Tryd.func39, Tryd.ntmps39
  go_wp2_with fail
  go_loopw [0, 1, 4] (fun ds i l wr => (ds = .slice (some ⟨g, 0, none⟩) 2 cap ∧ i = .int .i64 1 ∧ l = .slice none 0 0 ∧ w = wr) ∨ (∃ off c, ds = .slice (some ⟨g, off, none⟩) 1 c ∧ i = .int .i64 0 ∧ wr.ownsRow w.heap.size 26 32 l 1 D1 ∧ Below w.heap.size w wr)) (fun ds _ _ _ => ownV ds)
  case atStart => exact .inl ⟨rfl, rfl, rfl, rfl⟩
  case round =>
    rcases hrel with ⟨rfl, rfl, rfl, rfl⟩ | ⟨off, c, rfl, rfl, hown, hb⟩
    · go_wp2_with (first
        | (go_at_call 53; refine (split2 _).mono ?_; rintro _ _ ⟨rfl, rfl⟩)
        | (refine (HTr.out _ _ _ (by first | rfl | omega) (Below.refl _ _)).mono ?_
           rintro e w8 ⟨rfl, hb8⟩
           have hB5 := Blk.new w8 26 D1.toArray
           have hb9 := hb8.alloc hb8.size (.cells D1.toArray 26)
           obtain ⟨w9, hw9⟩ : ∃ w9, w8.alloc (.cells D1.toArray 26) = w9 := ⟨_, rfl⟩
           rw [hw9] at hB5 hb9
           have HW9 := Lib.hid hw9
           have HB5 := Lib.hid hB5
           have Hb9 := Lib.hid hb9
           clear hb8 hB5 hb9 hw9)
        | (at_builtin
           rw [fold_all D1 _ (by rw [Hl1.out]; rfl), HW9.out]
           refine wpList_append_lies _ rfl (.tmp 36) (.tmp 41) 40 rfl w.heap.size 26 iu _ 32 32 Tryd.underlying40 hiu hu0 hu1 hu2 rfl (by omega) (.slice none 0 0) 0 [] rfl (World.ownsRow_nil _ _ _ _) ⟨w8.heap.size, 0, none⟩ 1 1 D1 rfl (by rw [Hl1.out]) (fun j u hu => by rw [Addr.add_mid]; exact HB5.out.range j u hu) Ho1.out (by omega) (by unfold maxLen; omega) (by omega) Hb9.out.size w9.heap.size rfl ?_
           intro g7 cap7 w7 hown7 hg7 hor7 hlt7
           have hb7 : Below w.heap.size w w7 := Hb9.out.grown hg7 Hb9.out.size (fun k hk => by cases hk)
           have Hb7 := Lib.hid hb7
           have Hown7 := Lib.hid hown7
           clear hb7 hown7 hg7 hor7 hlt7))
      go_roundw
      case rel => exact .inr ⟨_, _, rfl, rfl, Hown7.out, Hb7.out⟩
      case measure => simp [ownV]
    · obtain ⟨la, lcap, rfl⟩ := (Sl.of_own hown).form
      have Hown := Lib.hid hown
      have Hb := Lib.hid hb
      clear hown hb
      go_wp2_with fail
      go_loopw [7, 8] (fun a b w' => a = .int .i64 0 ∧ b = .int .i64 0 ∧ wr = w') (fun _ _ _ => 0)
      case atStart => exact ⟨rfl, rfl, rfl⟩
      case round =>
        obtain ⟨rfl, rfl, rfl⟩ := hrel
        go_wp2_with fail
        refine bodyPost_ret (v := .tuple #[.slice la 1 lcap, .int .i64 0]) (by simp [results, Tryd.results39, go_sem]) rfl ?_
        exact ⟨_, rfl, Hown.out, Hb.out⟩
end Go.Proofs.YtiloaheaglcpbaaDoor
