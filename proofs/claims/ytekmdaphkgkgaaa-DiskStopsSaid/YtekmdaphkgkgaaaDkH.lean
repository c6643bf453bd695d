/- Disk: New refuses; sane. -/
import Derived.Test.YtekmdaphkgkgaaaDkG
import Derived.Deep.RegionHeld3
import Derived.Deep.DeepCutAuto
namespace Go.Proofs.Ytekmdaphkgkgaaa
open Go.RowKit

set_option maxRecDepth 100000 in
theorem new_bad (n : Int) (h : n < 1 ∨ 4096 < n) (w : World) :
    Calls Try.prog 10 #[.int .i64 n] w fun e w' => RetDE Dk.zero 1 w e w' := by
  rcases h with h | h
  · go_enter Try.func10, Try.ntmps10
    go_wp2_with fail
    exact bodyPost_ret (v := .tuple #[.agg #[.slice none 0 0, .int .i64 0, .int .i64 0, .bool false], .int .i64 1]) (by simp [results, Try.results10, go_sem, *]) rfl ⟨_, rfl, dkV_zero _, below_alloc w _⟩
  · have h2 : ¬ n < 1 := by omega
    go_enter Try.func10, Try.ntmps10
    go_wp2_with fail
    exact bodyPost_ret (v := .tuple #[.agg #[.slice none 0 0, .int .i64 0, .int .i64 0, .bool false], .int .i64 1]) (by simp [results, Try.results10, go_sem, *]) rfl ⟨_, rfl, dkV_zero _, below_alloc w _⟩

theorem RetDE.lit {D : Dk} {c : Int} {w : World} {e : Ending} {w' : World} (h : RetDE D c w e w') {n : Nat} {l t : Int} {st : Bool} {S : List (List UInt8)} (hD : D = ⟨S, l, t, st⟩) (hn : S.length = n) :
    ∃ a cap, e = .returned (.tuple #[.agg #[.slice a n cap, .int .i64 l, .int .i64 t, .bool st], .int .i64 c]) ∧ Secs w' (.slice a n cap) S ∧ Below w.heap.size w w' := by
  subst hD
  subst hn
  obtain ⟨d, rfl, ⟨v, rfl, hs⟩, hb⟩ := h
  obtain ⟨a, cap, rfl⟩ := hs.len
  exact ⟨a, cap, rfl, hs, hb⟩
theorem RetD.lit {D : Dk} {w : World} {e : Ending} {w' : World} (h : RetD D w e w') {n : Nat} {l t : Int} {st : Bool} {S : List (List UInt8)} (hD : D = ⟨S, l, t, st⟩) (hn : S.length = n) :
    ∃ a cap, e = .returned (.agg #[.slice a n cap, .int .i64 l, .int .i64 t, .bool st]) ∧ Secs w' (.slice a n cap) S ∧ Below w.heap.size w w' := by
  subst hD
  subst hn
  obtain ⟨d, rfl, ⟨v, rfl, hs⟩, hb⟩ := h
  obtain ⟨a, cap, rfl⟩ := hs.len
  exact ⟨a, cap, rfl, hs, hb⟩
theorem Secs.dkV {w : World} {a : Option Addr} {n cap : Nat} {l t : Int} {st : Bool} {S : List (List UInt8)} (h : Secs w (.slice a n cap) S) : DkV w (.agg #[.slice a n cap, .int .i64 l, .int .i64 t, .bool st]) ⟨S, l, t, st⟩ := ⟨_, rfl, h⟩

def z2 : List (List UInt8) := [zeros, zeros]
def y2 : List (List UInt8) := [zeros, List.replicate 3 7 ++ List.replicate 125 0]
theorem sn0 : newD 2 = ⟨z2, -1, 0, false⟩ := by decide +kernel
theorem sn1 : rdE ⟨z2, -1, 0, false⟩ 0 = 0 ∧ rdB ⟨z2, -1, 0, false⟩ 0 = zeros := by decide +kernel
theorem sn2 : wtE ⟨z2, -1, 0, false⟩ 0 (List.replicate 127 0) = 1 ∧ wtD ⟨z2, -1, 0, false⟩ 0 (List.replicate 127 0) = ⟨[], 0, 0, false⟩ := by decide +kernel
theorem sn3 : stE ⟨z2, -1, 0, false⟩ (-2) 0 = 1 ∧ stD ⟨z2, -1, 0, false⟩ (-2) 0 = ⟨[], 0, 0, false⟩ := by decide +kernel
theorem sn4 : stE ⟨z2, -1, 0, false⟩ 0 3 = 0 ∧ stD ⟨z2, -1, 0, false⟩ 0 3 = ⟨z2, 0, 3, false⟩ := by decide +kernel
theorem sn5 : wtE ⟨z2, 0, 3, false⟩ 1 (List.replicate 128 7) = 410 ∧ wtD ⟨z2, 0, 3, false⟩ 1 (List.replicate 128 7) = ⟨y2, 0, 3, true⟩ := by decide +kernel
theorem z2_sz : ∀ s ∈ z2, s.length ≤ 100000000 := by decide +kernel
theorem sn_new0 (w : World) : Calls Try.prog 10 #[.int .i64 0] w fun e w' => RetDE ⟨[], 0, 0, false⟩ 1 w e w' := new_bad 0 (by omega) w
theorem sn_new2 (w : World) : Calls Try.prog 10 #[.int .i64 2] w fun e w' => RetDE ⟨z2, -1, 0, false⟩ 0 w e w' := by
  have := new_any 2 (by omega) (by omega) w
  rw [sn0] at this
  exact this
/-- a slice of zeros is read -/
theorem sn_read (w : World) (a : Option Addr) (cap : Nat) (hs : Secs w (.slice a 2 cap) z2) : Calls Try.prog 18 #[.agg #[.slice a 2 cap, .int .i64 (-1), .int .i64 0, .bool false], .int .i64 0] w fun e w' =>
    ∃ x c, e = .returned (.tuple #[.slice x 128 c, .int .i64 0]) ∧ Below w.heap.size w w' := by
  refine (read_any ⟨z2, -1, 0, false⟩ _ 0 w hs.dkV z2_sz).mono ?_
  rintro e w' ⟨v, rfl, hsl, hb⟩
  rw [sn1.2] at hsl
  obtain ⟨x, c, rfl⟩ := hsl.form
  exact ⟨x, c, by rw [sn1.1, zeros_len], hb⟩

/-- a write of 127 bytes is refused -/
theorem sn_w127 (w W : World) (a : Option Addr) (cap g : Nat) (hs : Secs w (.slice a 2 cap) z2) (hb : Below w.heap.size w W) (hg : Blk W g 5 (zc 127)) :
    Calls Try.prog 16 #[.agg #[.slice a 2 cap, .int .i64 (-1), .int .i64 0, .bool false], .int .i64 0, .slice (some ⟨g, 0, none⟩) 127 127] W fun e w' =>
      ∃ x c, e = .returned (.tuple #[.agg #[.slice x 0 c, .int .i64 0, .int .i64 0, .bool false], .int .i64 1]) ∧ Below W.heap.size W w' ∧ Below w.heap.size w w' := by
  have hsl : Sl W 1 (.slice (some ⟨g, 0, none⟩) 127 127) (List.replicate 127 (0 : UInt8)).length (bc (List.replicate 127 0)) := by
    have := hg.sl (n := 127) zc_127 (by simp [bc])
    simpa using this
  refine (wt_any ⟨z2, -1, 0, false⟩ _ 0 (List.replicate 127 0) _ W (hs.next hb).dkV hsl (by simp only []; omega) (by simp [maxLen])).mono ?_
  intro e w' hr
  rw [sn2.1, sn2.2] at hr
  obtain ⟨x, c, h1, _, h2⟩ := hr.lit rfl rfl
  exact ⟨x, c, h1, h2, hb.trans (h2.mono hb.size)⟩
theorem blk_new2 (w : World) (o : Obj) (t : TypeId) (cs : Array Value) : Blk ((w.alloc o).alloc (.cells cs t)) (w.heap.size + 1) t cs := by
  have := Blk.new (w.alloc o) t cs
  simpa using this
/-- what the middle of sane knows: the disk d lies in block B -/
def SnRel (w : World) (B : Nat) (a : Option Addr) (cap : Nat) (W : World) : Prop :=
  Blk W B 26 #[.slice a 2 cap, .int .i64 (-1), .int .i64 0, .bool false] ∧ Secs W (.slice a 2 cap) z2 ∧ Below w.heap.size w W
theorem SnRel.next {w : World} {B : Nat} {a : Option Addr} {cap : Nat} {W W' : World} (h : SnRel w B a cap W) (hb : Below W.heap.size W W') : SnRel w B a cap W' :=
  ⟨h.1.below hb h.1.lt, h.2.1.next hb, h.2.2.trans (hb.mono h.2.2.size)⟩

theorem sn_stop1 (W : World) (a : Option Addr) (cap : Nat) (hs : Secs W (.slice a 2 cap) z2) : Calls Try.prog 20 #[.agg #[.slice a 2 cap, .int .i64 (-1), .int .i64 0, .bool false], .int .i64 (-2), .int .i64 0] W fun e w' =>
    ∃ x c, e = .returned (.tuple #[.agg #[.slice x 0 c, .int .i64 0, .int .i64 0, .bool false], .int .i64 1]) ∧ Below W.heap.size W w' := by
  refine (stop_any ⟨z2, -1, 0, false⟩ _ (-2) 0 W hs.dkV).mono ?_
  intro e w' hr
  rw [sn3.1, sn3.2] at hr
  obtain ⟨x, c, h1, _, h2⟩ := hr.lit rfl rfl
  exact ⟨x, c, h1, h2⟩
theorem sn_stop2 (W : World) (a : Option Addr) (cap : Nat) (hs : Secs W (.slice a 2 cap) z2) : Calls Try.prog 20 #[.agg #[.slice a 2 cap, .int .i64 (-1), .int .i64 0, .bool false], .int .i64 0, .int .i64 3] W fun e w' =>
    ∃ x c, e = .returned (.tuple #[.agg #[.slice x 2 c, .int .i64 0, .int .i64 3, .bool false], .int .i64 0]) ∧ Secs w' (.slice x 2 c) z2 ∧ Below W.heap.size W w' := by
  refine (stop_any ⟨z2, -1, 0, false⟩ _ 0 3 W hs.dkV).mono ?_
  intro e w' hr
  rw [sn4.1, sn4.2] at hr
  obtain ⟨x, c, h1, h3, h2⟩ := hr.lit (S := z2) rfl rfl
  exact ⟨x, c, h1, h3, h2⟩
theorem sn_whole (w W : World) (hb : Below w.heap.size w W) : Calls Try.prog 15 #[.int .u8 7] W fun e w' =>
    ∃ x c, e = .returned (.slice x 128 c) ∧ Sl w' 1 (.slice x 128 c) 128 (bc (List.replicate 128 7)) ∧ Below W.heap.size W w' ∧ Below w.heap.size w w' := by
  refine (whole_any 7 W).mono ?_
  rintro e w' ⟨v, rfl, hs, h2⟩
  rw [List.length_replicate] at hs
  obtain ⟨x, c, rfl⟩ := hs.form
  exact ⟨x, c, rfl, hs, h2, hb.trans (h2.mono hb.size)⟩
theorem blk_ne {w : World} {g g' o : Nat} {T : TypeId} {a b c d v : Value} (h : Blk w g T #[a, b, c, d]) (hc : w.cell? ⟨g', o, none⟩ = some v) (ha : v ≠ a) (hb : v ≠ b) (hcc : v ≠ c) (hd : v ≠ d) : g' ≠ g := by
  rintro rfl
  rw [h.cell o] at hc
  match o with
  | 0 => exact ha (Option.some.inj hc).symm
  | 1 => exact hb (Option.some.inj hc).symm
  | 2 => exact hcc (Option.some.inj hc).symm
  | 3 => exact hd (Option.some.inj hc).symm
  | o + 4 => simp at hc
/-- the last write of sane -/
theorem sn_wx (w W : World) (a ab : Option Addr) (cap cb : Nat) (hs : Secs w (.slice a 2 cap) z2) (hb : Below w.heap.size w W) (hv : Sl W 1 (.slice ab 128 cb) 128 (bc (List.replicate 128 7))) :
    Calls Try.prog 16 #[.agg #[.slice a 2 cap, .int .i64 0, .int .i64 3, .bool false], .int .i64 1, .slice ab 128 cb] W fun e w' =>
      ∃ gy oy cy gs os cs, e = .returned (.tuple #[.agg #[.slice (some ⟨gy, oy, none⟩) 2 cy, .int .i64 0, .int .i64 3, .bool true], .int .i64 410]) ∧
        w'.cell? ⟨gy, oy + 1, none⟩ = some (.slice (some ⟨gs, os, none⟩) 128 cs) ∧ w'.cell? ⟨gs, os + 2, none⟩ = some (.int .u8 7) ∧ w'.cell? ⟨gs, os + 3, none⟩ = some (.int .u8 0) ∧
        (∀ g, Blk W g 26 #[.slice none 0 0, .int .i64 0, .int .i64 0, .bool false] → Blk w' g 26 #[.slice none 0 0, .int .i64 0, .int .i64 0, .bool false] ∧ gy ≠ g ∧ gs ≠ g) ∧
        gy < w'.heap.size ∧ gs < w'.heap.size ∧ 2 ≤ cy ∧ Below W.heap.size W w' ∧ Below w.heap.size w w' := by
  have hv' : Sl W 1 (.slice ab 128 cb) (List.replicate 128 (7 : UInt8)).length (bc (List.replicate 128 7)) := by rw [List.length_replicate]; exact hv
  refine (wt_any ⟨z2, 0, 3, false⟩ _ 1 (List.replicate 128 7) _ W (hs.next hb).dkV hv' (by simp only []; omega) (by simp [maxLen])).mono ?_
  intro e w' hr
  rw [sn5.1, sn5.2] at hr
  obtain ⟨x, c, h1, h3, h2⟩ := hr.lit (S := y2) rfl rfl
  obtain ⟨gy, oy, rfl, hcy, hcs⟩ := h3.at_ (show 0 < y2.length by decide)
  obtain ⟨ad, cs, hc1, hs1⟩ := hcs 1 (List.replicate 3 7 ++ List.replicate 125 0) rfl
  have hl : (List.replicate 3 (7 : UInt8) ++ List.replicate 125 0).length = 128 := by simp
  rw [hl] at hc1 hs1
  obtain ⟨gs, os, rfl, _, hcc⟩ := hs1.pos (by omega)
  have c2 := hcc 2 (.int .u8 7) (by kernel_rfl)
  have c3 := hcc 3 (.int .u8 0) (by kernel_rfl)
  refine ⟨gy, oy, c, gs, os, cs, h1, hc1, c2, c3, fun g hg => ?_, World.block_lt_of_cell? w' _ hc1, World.block_lt_of_cell? w' _ c2, hcy, h2, hb.trans (h2.mono hb.size)⟩
  have hg' := hg.below h2 hg.lt
  exact ⟨hg', blk_ne hg' hc1 (by simp) (by simp) (by simp) (by simp), blk_ne hg' c2 (by simp) (by simp) (by simp) (by simp)⟩

/-- ... where a variable lies already in block g -/
theorem sn_wxZ (w W : World) (a ab : Option Addr) (cap cb g : Nat) (hZ : Blk W g 26 #[.slice none 0 0, .int .i64 0, .int .i64 0, .bool false]) (hs : Secs w (.slice a 2 cap) z2) (hb : Below w.heap.size w W) (hv : Sl W 1 (.slice ab 128 cb) 128 (bc (List.replicate 128 7))) :
    Calls Try.prog 16 #[.agg #[.slice a 2 cap, .int .i64 0, .int .i64 3, .bool false], .int .i64 1, .slice ab 128 cb] W fun e w' =>
      ∃ gy oy cy gs os cs, e = .returned (.tuple #[.agg #[.slice (some ⟨gy, oy, none⟩) 2 cy, .int .i64 0, .int .i64 3, .bool true], .int .i64 410]) ∧
        w'.cell? ⟨gy, oy + 1, none⟩ = some (.slice (some ⟨gs, os, none⟩) 128 cs) ∧ w'.cell? ⟨gs, os + 2, none⟩ = some (.int .u8 7) ∧ w'.cell? ⟨gs, os + 3, none⟩ = some (.int .u8 0) ∧
        Blk w' g 26 #[.slice none 0 0, .int .i64 0, .int .i64 0, .bool false] ∧ gy ≠ g ∧ gs ≠ g ∧
        2 ≤ cy ∧ Below W.heap.size W w' ∧ Below w.heap.size w w' := by
  refine (sn_wx w W a ab cap cb hs hb hv).mono ?_
  rintro e w' ⟨gy, oy, cy, gs, os, cs, rfl, e1, e2, e3, hav, _, _, hcy, hb9, hb9'⟩
  obtain ⟨h1, h2, h3⟩ := hav g hZ
  exact ⟨gy, oy, cy, gs, os, cs, rfl, e1, e2, e3, h1, h2, h3, hcy, hb9, hb9'⟩
/-- what the end of sane knows -/
def SnEnd (w : World) (B : Nat) (a : Option Addr) (cap : Nat) (s13 : Value) (W : World) : Prop :=
  ∃ g13 gy oy cy gs os cs, s13 = .pointer (some ⟨g13, 0, none⟩) ∧ Blk W B 26 #[.slice a 2 cap, .int .i64 (-1), .int .i64 0, .bool false] ∧
    Blk W g13 26 #[.slice (some ⟨gy, oy, none⟩) 2 cy, .int .i64 0, .int .i64 3, .bool true] ∧ W.cell? ⟨gy, oy + 1, none⟩ = some (.slice (some ⟨gs, os, none⟩) 128 cs) ∧
    W.cell? ⟨gs, os + 2, none⟩ = some (.int .u8 7) ∧ W.cell? ⟨gs, os + 3, none⟩ = some (.int .u8 0) ∧ 2 ≤ cy ∧ Below w.heap.size w W
theorem sn_fin1 {w w7 w9 : World} {B : Nat} {a : Option Addr} {cap g13 gy oy cy gs os cs : Nat} (hR : SnRel w B a cap w7) (hb : Below w7.heap.size w7 w9) (hg : w7.heap.size ≤ g13)
    (hZ : Blk w9 g13 26 #[.slice none 0 0, .int .i64 0, .int .i64 0, .bool false] ∧ gy ≠ g13 ∧ gs ≠ g13)
    (e1 : w9.cell? ⟨gy, oy + 1, none⟩ = some (.slice (some ⟨gs, os, none⟩) 128 cs)) (e2 : w9.cell? ⟨gs, os + 2, none⟩ = some (.int .u8 7)) (e3 : w9.cell? ⟨gs, os + 3, none⟩ = some (.int .u8 0)) (hcy : 2 ≤ cy) :
    SnEnd w B a cap (.pointer (some ⟨g13, 0, none⟩)) ((((w9.setCell ⟨g13, 0, none⟩ (.slice (some ⟨gy, oy, none⟩) 2 cy)).setCell ⟨g13, 1, none⟩ (.int .i64 0)).setCell ⟨g13, 2, none⟩ (.int .i64 3)).setCell ⟨g13, 3, none⟩ (.bool true)) := by
  have hBel : Below w7.heap.size w7 ((((w9.setCell ⟨g13, 0, none⟩ (.slice (some ⟨gy, oy, none⟩) 2 cy)).setCell ⟨g13, 1, none⟩ (.int .i64 0)).setCell ⟨g13, 2, none⟩ (.int .i64 3)).setCell ⟨g13, 3, none⟩ (.bool true)) :=
    (((hb.setCell (p := ⟨g13, 0, none⟩) hg _).setCell (p := ⟨g13, 1, none⟩) hg _).setCell (p := ⟨g13, 2, none⟩) hg _).setCell (p := ⟨g13, 3, none⟩) hg _
  have hR' := hR.next hBel
  have far : ∀ g o, g ≠ g13 → ((((w9.setCell ⟨g13, 0, none⟩ (.slice (some ⟨gy, oy, none⟩) 2 cy)).setCell ⟨g13, 1, none⟩ (.int .i64 0)).setCell ⟨g13, 2, none⟩ (.int .i64 3)).setCell ⟨g13, 3, none⟩ (.bool true)).cell? ⟨g, o, none⟩ = w9.cell? ⟨g, o, none⟩ := fun g o h => by
    repeat (rw [World.cell?_setCell_other _ _ _ _ (by intro h'; have := congrArg Addr.block h'; simp at this; omega)])
  exact ⟨g13, gy, oy, cy, gs, os, cs, rfl, hR'.1, (((hZ.1.set_ 0 _).set_ 1 _).set_ 2 _).set_ 3 _, (far _ _ hZ.2.1).trans e1, (far _ _ hZ.2.2).trans e2, (far _ _ hZ.2.2).trans e3, hcy, hR'.2.2⟩
theorem sn_fin2 {w w7 w9 : World} {B : Nat} {a : Option Addr} {cap gy oy cy gs os cs : Nat} (hR : SnRel w B a cap w7) (hb : Below w7.heap.size w7 w9)
    (e1 : w9.cell? ⟨gy, oy + 1, none⟩ = some (.slice (some ⟨gs, os, none⟩) 128 cs)) (e2 : w9.cell? ⟨gs, os + 2, none⟩ = some (.int .u8 7)) (e3 : w9.cell? ⟨gs, os + 3, none⟩ = some (.int .u8 0)) (hcy : 2 ≤ cy) :
    SnEnd w B a cap (.pointer (some ⟨w9.heap.size, 0, none⟩)) (w9.alloc (.cells #[.slice (some ⟨gy, oy, none⟩) 2 cy, .int .i64 0, .int .i64 3, .bool true] 26)) := by
  have hBel := hb.alloc hb.size (.cells #[.slice (some ⟨gy, oy, none⟩) 2 cy, .int .i64 0, .int .i64 3, .bool true] 26)
  have hR' := hR.next hBel
  have l1 := World.block_lt_of_cell? w9 _ e1
  have l2 := World.block_lt_of_cell? w9 _ e2
  exact ⟨_, gy, oy, cy, gs, os, cs, rfl, hR'.1, Blk.new _ _ _, (World.cell?_alloc_lt w9 _ ⟨gy, oy + 1, none⟩ l1).trans e1, (World.cell?_alloc_lt w9 _ ⟨gs, os + 2, none⟩ l2).trans e2, (World.cell?_alloc_lt w9 _ ⟨gs, os + 3, none⟩ l2).trans e3, hcy, hR'.2.2⟩

set_option maxRecDepth 100000 in
set_option maxHeartbeats 12000000 in
theorem sane_any (w : World) : Calls Try.prog 9 #[] w fun e w' => e = .returned (.bool true) ∧ Below w.heap.size w w' := by
  go_enter Try.func9, Try.ntmps9
  go_wp2_with fail
  refine (sn_new0 w).mono ?_
  intro e w1 hr
  obtain ⟨az, cz, rfl, _, hb1⟩ := hr.lit rfl rfl
  clear hr
  go_wp2_with fail
  refine (sn_new2 _).mono ?_
  intro e w2 hr
  obtain ⟨a, cap, rfl, hs, hb2⟩ := hr.lit (S := z2) rfl rfl
  have hB2 : Below w.heap.size w w2 := (hb1.alloc hb1.size _).trans (hb2.mono (by have := hb1.size; simp; omega))
  clear hr hb1 hb2
  go_wp2_with fail
  have hB3 := Blk.new w2 26 #[.slice a 2 cap, .int .i64 (-1), .int .i64 0, .bool false]
  have hs3 := hs.next (below_alloc w2 (.cells #[.slice a 2 cap, .int .i64 (-1), .int .i64 0, .bool false] 26))
  refine (sn_read _ a cap hs3).mono ?_
  rintro e w3 ⟨xb, cb, rfl, hb3⟩
  have hrel : SnRel w w2.heap.size a cap w3 := ⟨hB3.below hb3 (by simp), hs3.next hb3, (hB2.alloc hB2.size _).trans (hb3.mono (by have := hB2.size; simp; omega))⟩
  obtain ⟨B, hBe⟩ : ∃ B, w2.heap.size = B := ⟨_, rfl⟩
  rw [hBe] at hrel ⊢
  clear hB3 hs3 hs hB2 hb3 hBe
  have HR := Lib.hid hrel
  clear hrel
  go_wp2_with fail
  go_cut [8] (fun s8 wx => s8 = .int .i64 1 ∧ SnRel w B a cap wx)
  case first =>
    have hBB := HR.out.1
    obtain ⟨b0, b1, b2, b3, f0, f1, f2, f3⟩ := dkCells hBB
    have hl0 := hBB.lt
    have hl1 : B < w3.heap.size + 1 := by omega
    have hl2 : B < w3.heap.size + 1 + 1 := by omega
    have hne : ¬ B = w3.heap.size := by omega
    have hne2 : ¬ B = w3.heap.size + 1 := by omega
    have hmk := mk127
    clear hBB
    go_region_held3 (fun w' => w'.cell? ⟨B, 0, none⟩ = some (.slice a 2 cap) ∧ w'.cell? ⟨B, 1, none⟩ = some (.int .i64 (-1)) ∧ w'.cell? ⟨B, 2, none⟩ = some (.int .i64 0) ∧ w'.cell? ⟨B, 3, none⟩ = some (.bool false))
      (first | go_keep | (go_split_ands; refine ⟨?_, ?_, ?_, ?_⟩ <;> ((repeat (rw [World.cell?_setCell_other _ _ _ _ (by intro h; have := congrArg Addr.block h; simp at this; omega)])); assumption)))
      (first
        | (go_at_call 16; refine (sn_w127 w3 _ a cap _ HR.out.2.1 (by (repeat (first | (refine Below.alloc ?_ (by simp) _) | (refine Below.drew ?_))); exact Below.refl _ _) (by first | exact Blk.new _ _ _ | exact (Blk.new _ _ _).alloc _ | exact blk_new2 _ _ _ _)).mono ?_; rintro e w' ⟨x, c, rfl, hb4, hb5⟩; obtain ⟨hcc, hff⟩ := bcell hb4; have hn5 : ¬ B = w'.heap.size := (by have := hb4.size; simp at this; omega); have hl5 : B < w'.heap.size := (by have := hb4.size; simp at this; omega)))
    all_goals
      go_wp2_with fail
      go_meet
      exact ⟨rfl, HR.out.next (by (repeat (first | (refine Below.setCell ?_ (by first | exact Nat.le_refl _ | (simp; done) | (simp; omega)) _) | (refine Below.alloc ?_ (by have := hb5.size; simp; omega) _) | (refine Below.drew ?_))); exact hb5)⟩
  case rest =>
    obtain ⟨rfl, hrel⟩ := hcut
    have hBB := hrel.1
    obtain ⟨b0, b1, b2, b3, f0, f1, f2, f3⟩ := dkCells hBB
    have HR2 := Lib.hid hrel
    clear hrel hBB HR
    go_wp2_with fail
    refine (sn_stop1 _ a cap HR2.out.2.1).mono ?_
    rintro e w4 ⟨x4, c4, rfl, hb4⟩
    have HR4 := Lib.hid (HR2.out.next hb4)
    clear HR2 b0 b1 b2 b3 f0 f1 f2 f3 hb4
    obtain ⟨b0, b1, b2, b3, f0, f1, f2, f3⟩ := dkCells HR4.out.1
    have hl0 := HR4.out.1.lt
    go_wp2_with fail
    have HR5 := Lib.hid (HR4.out.next (below_alloc w4 (.cells #[.slice x4 0 c4, .int .i64 0, .int .i64 0, .bool false] 26)))
    refine (sn_stop2 _ a cap HR5.out.2.1).mono ?_
    rintro e w6 ⟨x6, c6, rfl, hs6, hb6⟩
    have HR6 := Lib.hid (HR5.out.next hb6)
    clear HR4 HR5 b0 b1 b2 b3 f0 f1 f2 f3 hb6 hl0
    go_wp2_with fail
    have hR7 := HR6.out.next (below_alloc w6 (.cells #[.slice x6 2 c6, .int .i64 0, .int .i64 3, .bool false] 26))
    have hX7 := Blk.new w6 26 #[.slice x6 2 c6, .int .i64 0, .int .i64 3, .bool false]
    have hs7 := hs6.next (below_alloc w6 (.cells #[.slice x6 2 c6, .int .i64 0, .int .i64 3, .bool false] 26))
    obtain ⟨w7, hw7⟩ : ∃ W, W = w6.alloc (.cells #[.slice x6 2 c6, .int .i64 0, .int .i64 3, .bool false] 26) := ⟨_, rfl⟩
    obtain ⟨X, hX⟩ : ∃ X, w6.heap.size = X := ⟨_, rfl⟩
    rw [← hw7] at hR7 hX7 hs7 ⊢
    rw [hX] at hX7 ⊢
    have HR7 := Lib.hid hR7
    have HX7 := Lib.hid hX7
    have HS7 := Lib.hid hs7
    clear hw7 hX hR7 hX7 hs7 HR6 hs6
    go_cut [13, 14] (fun s13 s14 wx => s14 = .int .i64 410 ∧ SnEnd w B a cap s13 wx)
    case first =>
      obtain ⟨b0, b1, b2, b3, f0, f1, f2, f3⟩ := dkCells HX7.out
      have hl0 := HX7.out.lt
      have hl1 : X < w7.heap.size + 1 := by omega
      have hne : ¬ X = w7.heap.size := by omega
      go_region_held3 (fun w' => w'.cell? ⟨X, 0, none⟩ = some (.slice x6 2 c6) ∧ w'.cell? ⟨X, 1, none⟩ = some (.int .i64 0) ∧ w'.cell? ⟨X, 2, none⟩ = some (.int .i64 3) ∧ w'.cell? ⟨X, 3, none⟩ = some (.bool false))
        (first
          | (with_reducible exact ⟨b0, b1, b2, b3⟩)
          | (simp only [World.cell?_drew]; with_reducible exact ⟨b0, b1, b2, b3⟩)
          | (go_split_ands; refine ⟨?_, ?_, ?_, ?_⟩ <;> (rw [hcc9 _ _ (by first | omega | (simp; omega))]; assumption))
          | (go_split_ands; refine ⟨?_, ?_, ?_, ?_⟩ <;> (rw [hcc5 _ _ (by first | omega | (simp; omega))]; assumption))
          | (go_split_ands; refine ⟨?_, ?_, ?_, ?_⟩ <;> (rw [World.cell?_alloc_past _ _ _ (by first | omega | (simp; omega))]; assumption))
          | (go_split_ands; refine ⟨?_, ?_, ?_, ?_⟩ <;> (rw [World.cell?_drew, World.cell?_alloc_past _ _ _ (by first | omega | (simp; omega))]; assumption))
          | (go_split_ands; refine ⟨?_, ?_, ?_, ?_⟩ <;> ((repeat (rw [World.cell?_setCell_other _ _ _ _ (by intro h; have := congrArg Addr.block h; simp at this; omega)])); assumption)))
        (first
          | (go_at_call 15; refine (sn_whole w7 _ (by (repeat (first | (refine Below.alloc ?_ (by simp) _) | (refine Below.drew ?_))); exact Below.refl _ _)).mono ?_; rintro e w5 ⟨xw, cw, rfl, hsw, hb5, hb5'⟩; obtain ⟨hcc5, hff5⟩ := bcell hb5; have hk5 := fun g T cs (h : Blk _ g T cs) => h.below hb5 h.lt; have hn5 : ¬ X = w5.heap.size := (by have := hb5'.size; omega); have hl5 : X < w5.heap.size := (by have := hb5'.size; omega); have hl5' : X < w5.heap.size + 1 := (by omega))
          | (go_at_call 16; refine (sn_wxZ w7 _ x6 xw c6 cw _ (hk5 _ _ _ (Blk.new _ _ _)) HS7.out (by (repeat (first | (refine Below.alloc ?_ (by have := hb5'.size; simp; omega) _) | (refine Below.drew ?_))); exact hb5') (by first | exact hsw | exact hsw.alloc _)).mono ?_; rintro e w9 ⟨gy, oy, cy, gs, os, cs, rfl, e1, e2, e3, hZ, hg1, hg2, hcy, hb9, hb9'⟩; obtain ⟨z0, z1, z2, z3, q0, q1, q2, q3⟩ := dkCells hZ; obtain ⟨hcc9, hff9⟩ := bcell hb9; have hn9 : ¬ X = w9.heap.size := (by have := hb9'.size; omega); have hl9 : X < w9.heap.size := (by have := hb9'.size; omega); have d0 := (hb9'.cell (p := ⟨X, 0, none⟩) hl0).trans b0; have d1 := (hb9'.cell (p := ⟨X, 1, none⟩) hl0).trans b1; have d2 := (hb9'.cell (p := ⟨X, 2, none⟩) hl0).trans b2; have d3 := (hb9'.cell (p := ⟨X, 3, none⟩) hl0).trans b3)
          | (go_at_call 16; refine (sn_wxZ w7 _ x6 xw c6 cw _ (Blk.new _ _ _) HS7.out (by (repeat (first | (refine Below.alloc ?_ (by have := hb5'.size; simp; omega) _) | (refine Below.drew ?_))); exact hb5') (by first | exact hsw | exact hsw.alloc _)).mono ?_; rintro e w9 ⟨gy, oy, cy, gs, os, cs, rfl, e1, e2, e3, hZ, hg1, hg2, hcy, hb9, hb9'⟩; obtain ⟨z0, z1, z2, z3, q0, q1, q2, q3⟩ := dkCells hZ; obtain ⟨hcc9, hff9⟩ := bcell hb9; have hn9 : ¬ X = w9.heap.size := (by have := hb9'.size; omega); have hl9 : X < w9.heap.size := (by have := hb9'.size; omega); have d0 := (hb9'.cell (p := ⟨X, 0, none⟩) hl0).trans b0; have d1 := (hb9'.cell (p := ⟨X, 1, none⟩) hl0).trans b1; have d2 := (hb9'.cell (p := ⟨X, 2, none⟩) hl0).trans b2; have d3 := (hb9'.cell (p := ⟨X, 3, none⟩) hl0).trans b3)
          | (go_at_call 16; refine (sn_wx w7 _ x6 xw c6 cw HS7.out (by (repeat (first | (refine Below.alloc ?_ (by have := hb5'.size; simp; omega) _) | (refine Below.drew ?_))); exact hb5') hsw).mono ?_; rintro e w9 ⟨gy, oy, cy, gs, os, cs, rfl, e1, e2, e3, _, _, _, hcy, hb9, hb9'⟩; obtain ⟨hcc9, hff9⟩ := bcell hb9; have hn9 : ¬ X = w9.heap.size := (by have := hb9'.size; omega); have hl9 : X < w9.heap.size := (by have := hb9'.size; omega); have d0 := (hb9'.cell (p := ⟨X, 0, none⟩) hl0).trans b0; have d1 := (hb9'.cell (p := ⟨X, 1, none⟩) hl0).trans b1; have d2 := (hb9'.cell (p := ⟨X, 2, none⟩) hl0).trans b2; have d3 := (hb9'.cell (p := ⟨X, 3, none⟩) hl0).trans b3))
      all_goals
        go_wp2_with fail
        go_meet
        refine ⟨rfl, ?_⟩
        first
          | (with_reducible exact sn_fin2 HR7.out hb9' e1 e2 e3 hcy)
          | (with_reducible exact sn_fin1 HR7.out hb9' (Nat.le_refl _) ⟨hZ, hg1, hg2⟩ e1 e2 e3 hcy)
          | (with_reducible exact sn_fin1 HR7.out hb9' hb5'.size ⟨hZ, hg1, hg2⟩ e1 e2 e3 hcy)
    case rest =>
      obtain ⟨rfl, g13, gy, oy, cy, gs, os, cs, rfl, hBd, hBy, e1, e2, e3, hcy, hbF⟩ := hcut
      obtain ⟨b0, b1, b2, b3, f0, f1, f2, f3⟩ := dkCells hBd
      obtain ⟨y0, y1, y2, y3, k0, k1, k2, k3⟩ := dkCells hBy
      clear hBd hBy
      go_wp2_with fail
      go_ret
      exact ⟨rfl, hbF⟩
end Go.Proofs.Ytekmdaphkgkgaaa
