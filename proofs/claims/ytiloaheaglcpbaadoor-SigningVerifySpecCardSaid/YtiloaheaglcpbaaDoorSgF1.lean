/- Signing: chains. -/
import Derived.Test.YtiloaheaglcpbaaDoorSgS9
namespace Go.Proofs.YtiloaheaglcpbaaDoor
open Go.RowKit

def chainB : List UInt8 := sB ⟨#[99, 104, 97, 105, 110]⟩
/-- a value of a chain, k steps on from the one numbered a -/
def flw (i j : Nat) (d : List UInt8) (a : Nat) : Nat → List UInt8
  | 0 => d
  | k + 1 => tg chainB ([UInt8.ofNat i, UInt8.ofNat j, UInt8.ofNat (a + k)] ++ flw i j d a k)
theorem flw_len (i j : Nat) (d : List UInt8) (hd : d.length = 32) (a k : Nat) : (flw i j d a k).length = 32 := by
  cases k with
  | zero => exact hd
  | succ k => rfl
theorem bc3 {i j n : Nat} (hi : i < 256) (hj : j < 256) (hn : n < 256) : bc [UInt8.ofNat i, UInt8.ofNat j, UInt8.ofNat n] = [.int .u8 (i : Int), .int .u8 (j : Int), .int .u8 (n : Int)] := by
  have e : ∀ m : Nat, m < 256 → (UInt8.ofNat m).toNat = m := fun m h => by rw [UInt8.toNat_ofNat']; omega
  simp only [bc, List.map_cons, List.map_nil, e i hi, e j hj, e n hn]
/-- a row that a literal has made -/
theorem own_new (w : World) (B : Nat) (hB : B ≤ w.heap.size) (e : TypeId) (cs : List Value) (n : Nat) (hn : cs.length = n) (hm : n ≤ 1000) : (w.alloc (.cells cs.toArray e)).ownsRow B e 1 (.slice (some ⟨w.heap.size, 0, none⟩) n n) n cs :=
  ⟨by omega, .inr ⟨w.heap.size, n, cs.toArray, rfl, hB, heap_alloc_new w _, Nat.le_refl _, by unfold maxLen; omega, by simp; omega, by rw [List.take_of_length_le (by simp; omega)]⟩⟩

set_option maxRecDepth 100000 in
set_option maxHeartbeats 1000000 in
theorem follow_any (d : List UInt8) (hd : d.length = 32) (i j a b : Nat) (hi : i < 256) (hj : j < 256) (hb : b < 256) (w : World) (hT : Tabs w) :
    Calls Tryd.prog 46 #[arrV d, .int .i64 (i : Int), .int .i64 (j : Int), .int .i64 (a : Int), .int .i64 (b : Int)] w fun e w' => e = .returned (arrV (flw i j d a (b - a))) ∧ Below w.heap.size w w' := by
  obtain ⟨iu, hiu, hu0, hu1, hu2⟩ := info_parts infoU8
  have HT := Lib.hid hT
  have Hfl := Lib.hid (flw_len i j d hd a)
  have h1 := (Blk.new w 26 (bc d).toArray).alloc (.cells #[.int .u8 0, .int .u8 0, .int .u8 0, .int .u8 0, .int .u8 0, .int .u8 0, .int .u8 0, .int .u8 0, .int .u8 0, .int .u8 0, .int .u8 0, .int .u8 0, .int .u8 0, .int .u8 0, .int .u8 0, .int .u8 0, .int .u8 0, .int .u8 0, .int .u8 0, .int .u8 0, .int .u8 0, .int .u8 0, .int .u8 0, .int .u8 0, .int .u8 0, .int .u8 0, .int .u8 0, .int .u8 0, .int .u8 0, .int .u8 0, .int .u8 0, .int .u8 0] 26)
  have h2 := Blk.new (w.alloc (.cells (bc d).toArray 26)) 26 #[.int .u8 0, .int .u8 0, .int .u8 0, .int .u8 0, .int .u8 0, .int .u8 0, .int .u8 0, .int .u8 0, .int .u8 0, .int .u8 0, .int .u8 0, .int .u8 0, .int .u8 0, .int .u8 0, .int .u8 0, .int .u8 0, .int .u8 0, .int .u8 0, .int .u8 0, .int .u8 0, .int .u8 0, .int .u8 0, .int .u8 0, .int .u8 0, .int .u8 0, .int .u8 0, .int .u8 0, .int .u8 0, .int .u8 0, .int .u8 0, .int .u8 0, .int .u8 0]
  rw [World.size_alloc] at h2
  have Hb := Lib.hid ((below_alloc w (.cells (bc d).toArray 26)).alloc (by simp) (.cells #[.int .u8 0, .int .u8 0, .int .u8 0, .int .u8 0, .int .u8 0, .int .u8 0, .int .u8 0, .int .u8 0, .int .u8 0, .int .u8 0, .int .u8 0, .int .u8 0, .int .u8 0, .int .u8 0, .int .u8 0, .int .u8 0, .int .u8 0, .int .u8 0, .int .u8 0, .int .u8 0, .int .u8 0, .int .u8 0, .int .u8 0, .int .u8 0, .int .u8 0, .int .u8 0, .int .u8 0, .int .u8 0, .int .u8 0, .int .u8 0, .int .u8 0, .int .u8 0] 26))
  have H1 := Lib.hid h1
  have H2 := Lib.hid h2
  have HZ := Lib.hid (show (#[.int .u8 0, .int .u8 0, .int .u8 0, .int .u8 0, .int .u8 0, .int .u8 0, .int .u8 0, .int .u8 0, .int .u8 0, .int .u8 0, .int .u8 0, .int .u8 0, .int .u8 0, .int .u8 0, .int .u8 0, .int .u8 0, .int .u8 0, .int .u8 0, .int .u8 0, .int .u8 0, .int .u8 0, .int .u8 0, .int .u8 0, .int .u8 0, .int .u8 0, .int .u8 0, .int .u8 0, .int .u8 0, .int .u8 0, .int .u8 0, .int .u8 0, .int .u8 0] : Array Value).size = 32 from rfl)
  obtain ⟨Z, hZ⟩ : ∃ Z : Array Value, #[.int .u8 0, .int .u8 0, .int .u8 0, .int .u8 0, .int .u8 0, .int .u8 0, .int .u8 0, .int .u8 0, .int .u8 0, .int .u8 0, .int .u8 0, .int .u8 0, .int .u8 0, .int .u8 0, .int .u8 0, .int .u8 0, .int .u8 0, .int .u8 0, .int .u8 0, .int .u8 0, .int .u8 0, .int .u8 0, .int .u8 0, .int .u8 0, .int .u8 0, .int .u8 0, .int .u8 0, .int .u8 0, .int .u8 0, .int .u8 0, .int .u8 0, .int .u8 0] = Z := ⟨_, rfl⟩
  clear hT hd h1 h2
  unfold arrV
  go_enter Tryd.func46, Tryd.ntmps46
  go_wp2_with fail
  rw [hZ] at H1 H2 Hb HZ
  go_loopw [11] (fun n wr => ∃ (k m : Nat), Hid (m = a + k ∧ (k ≤ b - a)) ∧ n = .int .i64 (m : Int) ∧ Blk wr w.heap.size 26 (bc (flw i j d a k)).toArray ∧ Blk wr (w.heap.size + 1) 26 Z ∧ Below w.heap.size w wr) (fun n _ => b - (intOf n).toNat)
  case atStart => exact ⟨0, a, Lib.hid ⟨rfl, Nat.zero_le _⟩, rfl, H1.out, H2.out, Hb.out⟩
  case round =>
    clear H1 H2 Hb hZ
    obtain ⟨k, m, Hk, rfl, h1, h2, hbw⟩ := hrel
    have H1 := Lib.hid h1
    have H2 := Lib.hid h2
    have Hb := Lib.hid hbw
    clear h1 h2 hbw
    have hl := Hfl.out k
    have Hl := Lib.hid (show (bc (flw i j d a k)).length = 32 by rw [bc_len, hl])
    by_cases hlt : m < b
    · have hm9 : m < 256 := by omega
      have h3 := bc3 hi hj hm9
      have Hk1 := Lib.hid (show m + 1 = a + (k + 1) ∧ (k + 1 ≤ b - a) by have := Hk.out; omega)
      have htg : tg chainB ([UInt8.ofNat i, UInt8.ofNat j, UInt8.ofNat m] ++ flw i j d a k) = flw i j d a (k + 1) := by rw [flw, ← Hk.out.1]
      have Htg := Lib.hid (fun v W (hs : Sl W 1 v 35 (bc ([UInt8.ofNat i, UInt8.ofNat j, UInt8.ofNat m] ++ flw i j d a k))) hT => tagged_any ⟨#[99, 104, 97, 105, 110]⟩ (by decide) ([UInt8.ofNat i, UInt8.ofNat j, UInt8.ofNat m] ++ flw i j d a k) 35 (by rw [List.length_append, hl]; rfl) (by omega) (by omega) v W hs hT)
      rw [show sB ⟨#[99, 104, 97, 105, 110]⟩ = chainB from rfl, htg, bc_app, h3] at Htg
      have Hl2 := Lib.hid (show (bc (flw i j d a (k + 1))).length = 32 by rw [bc_len]; rfl)
      have Ho2 := Lib.hid (bc_one (flw i j d a (k + 1)))
      have Ho := Lib.hid (bc_one (flw i j d a k))
      unfold arrV at Htg
      obtain ⟨D1, hD1⟩ : ∃ D1, bc (flw i j d a (k + 1)) = D1 := ⟨_, rfl⟩
      obtain ⟨D, hD⟩ : ∃ D, bc (flw i j d a k) = D := ⟨_, rfl⟩
      rw [hD1] at Htg Hl2 Ho2
      rw [hD] at Htg H1 Hl Ho
      have HD1 := Lib.hid hD1
      clear hD hD1 htg h3 hl
      go_wp2_with (first
        | (at_builtin; refine wpList_append_sl _ rfl (.tmp 24) (.tmp 25) 22 rfl wr.heap.size 5 iu _ 1 Tryd.underlying22 hiu hu0 hu1 hu2 rfl (.slice (some ⟨wr.heap.size, 0, none⟩) 3 3) 3 [.int .u8 (i : Int), .int .u8 (j : Int), .int .u8 (m : Int)] rfl (own_new wr wr.heap.size (Nat.le_refl _) _ _ 3 rfl (by omega)) (.slice (some ⟨w.heap.size, 0, none⟩) 32 32) 32 D rfl ((H1.out.alloc _).sl rfl Hl.out) Ho.out (by unfold maxLen; omega) (by omega) (by simp) ?_; intro v6 w6 hown6 hg6
           have hb6 : Below wr.heap.size wr w6 := (below_alloc wr _).grown hg6 (by simp) (fun k hk => by cases hk; exact Nat.le_refl _))
        | (refine (Htg.out _ _ (Sl.of_own hown6) (HT.out.next (Hb.out.trans (hb6.mono Hb.out.size)))).mono ?_
           rintro e w7 ⟨rfl, hb7⟩
           have HBa := Lib.hid ((H1.out.below hb6 H1.out.lt).below hb7 (by have := H1.out.lt; have := hb6.size; omega))
           have HBb := Lib.hid ((H2.out.below hb6 H2.out.lt).below hb7 (by have := H2.out.lt; have := hb6.size; omega))
           have Hb7 := Lib.hid ((Hb.out.trans (hb6.mono Hb.out.size)).trans (hb7.mono (by have := Hb.out.size; have := hb6.size; omega)))
           clear hb6 hb7 hown6 hg6)
        | (refine wpList_store_row rfl 26 _ _ rfl w.heap.size D1.toArray rfl rfl 26 _ HBa.out (by rw [List.size_toArray, Hl2.out]; exact infoDg) (show D.length = D1.length by rw [Hl.out, Hl2.out]) (all_oneCell_toArray Ho2.out) ?_))
      go_roundw
      case rel => exact ⟨k + 1, m + 1, Hk1, by go_num, by rw [HD1.out]; exact HBa.out.setRow _, HBb.out.farRow (by omega) _, setRow_below Hb7.out (Nat.le_refl _) _⟩
      case measure => simp [intOf]; omega
    · have hk9 : k = b - a := by have := Hk.out; omega
      have Hk9 := Lib.hid hk9
      have Ho := Lib.hid (bc_one (flw i j d a k))
      obtain ⟨D, hD⟩ : ∃ D, bc (flw i j d a k) = D := ⟨_, rfl⟩
      rw [hD] at H1 Hl Ho
      have HD := Lib.hid (show bc (flw i j d a (b - a)) = D by rw [← hk9]; exact hD)
      clear hD hk9
      go_wp2_with (first
        | (refine wpList_load_row rfl 26 _ rfl w.heap.size rfl 26 D.toArray (0, 0) _ H1.out Tryd.underlying26 rfl (by rw [List.size_toArray, Hl.out]; exact infoDg) ?_)
        | (refine wpList_store_row rfl 26 _ _ rfl (w.heap.size + 1) D.toArray rfl rfl 26 _ H2.out (by rw [List.size_toArray, Hl.out]; exact infoDg) (show Z.size = D.length by rw [HZ.out, Hl.out]) (all_oneCell_toArray Ho.out) ?_))
      refine bodyPost_ret (v := .agg D.toArray) (results_cell_row rfl _ _ (w.heap.size + 1) 26 D.toArray (0, 0) _ rfl (H2.out.setRow D.toArray) Tryd.underlying26 rfl (by rw [List.size_toArray, Hl.out]; exact infoDg)) rfl ?_
      exact ⟨by rw [HD.out], setRow_below Hb.out (by omega) _⟩
end Go.Proofs.YtiloaheaglcpbaaDoor
