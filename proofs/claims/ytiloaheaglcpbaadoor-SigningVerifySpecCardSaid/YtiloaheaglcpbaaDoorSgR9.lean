/- Signing in the reference: chains. Signing in the reference: the first value of a chain. Signing in the reference: a one-time public key out of the ends. Signing in the reference: the one-time public keys. -/
import Derived.Test.YtiloaheaglcpbaaDoorSgR5
import Derived.Test.YtiloaheaglcpbaaDoorSgF7
import Derived.Test.YtiloaheaglcpbaaDoorSgG3
namespace Go.Proofs.YtiloaheaglcpbaaDoor
open Go.RowKit

set_option maxRecDepth 100000 in
set_option maxHeartbeats 1000000 in
theorem rclimb_any (d : List UInt8) (hd : d.length = 32) (i j a b : Nat) (hi : i < 256) (hj : j < 256) (hb : b < 256) (w : World) :
    Calls Tryd.prog 41 #[arrV d, .int .i64 (i : Int), .int .i64 (j : Int), .int .i64 (a : Int), .int .i64 (b : Int)] w fun e w' => e = .returned (arrV (flw i j d a (b - a))) ∧ Below w.heap.size w w' := by
  obtain ⟨iu, hiu, hu0, hu1, hu2⟩ := info_parts infoU8
  have Hfl := Lib.hid (flw_len i j d hd a)
  have h1 := (Blk.new w 26 (bc d).toArray).alloc (.cells #[.int .u8 0, .int .u8 0, .int .u8 0, .int .u8 0, .int .u8 0, .int .u8 0, .int .u8 0, .int .u8 0, .int .u8 0, .int .u8 0, .int .u8 0, .int .u8 0, .int .u8 0, .int .u8 0, .int .u8 0, .int .u8 0, .int .u8 0, .int .u8 0, .int .u8 0, .int .u8 0, .int .u8 0, .int .u8 0, .int .u8 0, .int .u8 0, .int .u8 0, .int .u8 0, .int .u8 0, .int .u8 0, .int .u8 0, .int .u8 0, .int .u8 0, .int .u8 0] 26)
  have h2 := Blk.new (w.alloc (.cells (bc d).toArray 26)) 26 #[.int .u8 0, .int .u8 0, .int .u8 0, .int .u8 0, .int .u8 0, .int .u8 0, .int .u8 0, .int .u8 0, .int .u8 0, .int .u8 0, .int .u8 0, .int .u8 0, .int .u8 0, .int .u8 0, .int .u8 0, .int .u8 0, .int .u8 0, .int .u8 0, .int .u8 0, .int .u8 0, .int .u8 0, .int .u8 0, .int .u8 0, .int .u8 0, .int .u8 0, .int .u8 0, .int .u8 0, .int .u8 0, .int .u8 0, .int .u8 0, .int .u8 0, .int .u8 0]
  rw [World.size_alloc] at h2
  have Hb := Lib.hid ((below_alloc w (.cells (bc d).toArray 26)).alloc (by simp) (.cells #[.int .u8 0, .int .u8 0, .int .u8 0, .int .u8 0, .int .u8 0, .int .u8 0, .int .u8 0, .int .u8 0, .int .u8 0, .int .u8 0, .int .u8 0, .int .u8 0, .int .u8 0, .int .u8 0, .int .u8 0, .int .u8 0, .int .u8 0, .int .u8 0, .int .u8 0, .int .u8 0, .int .u8 0, .int .u8 0, .int .u8 0, .int .u8 0, .int .u8 0, .int .u8 0, .int .u8 0, .int .u8 0, .int .u8 0, .int .u8 0, .int .u8 0, .int .u8 0] 26))
  have H1 := Lib.hid h1
  have H2 := Lib.hid h2
  have HZ := Lib.hid (show (#[.int .u8 0, .int .u8 0, .int .u8 0, .int .u8 0, .int .u8 0, .int .u8 0, .int .u8 0, .int .u8 0, .int .u8 0, .int .u8 0, .int .u8 0, .int .u8 0, .int .u8 0, .int .u8 0, .int .u8 0, .int .u8 0, .int .u8 0, .int .u8 0, .int .u8 0, .int .u8 0, .int .u8 0, .int .u8 0, .int .u8 0, .int .u8 0, .int .u8 0, .int .u8 0, .int .u8 0, .int .u8 0, .int .u8 0, .int .u8 0, .int .u8 0, .int .u8 0] : Array Value).size = 32 from rfl)
  obtain ⟨Z, hZ⟩ : ∃ Z : Array Value, #[.int .u8 0, .int .u8 0, .int .u8 0, .int .u8 0, .int .u8 0, .int .u8 0, .int .u8 0, .int .u8 0, .int .u8 0, .int .u8 0, .int .u8 0, .int .u8 0, .int .u8 0, .int .u8 0, .int .u8 0, .int .u8 0, .int .u8 0, .int .u8 0, .int .u8 0, .int .u8 0, .int .u8 0, .int .u8 0, .int .u8 0, .int .u8 0, .int .u8 0, .int .u8 0, .int .u8 0, .int .u8 0, .int .u8 0, .int .u8 0, .int .u8 0, .int .u8 0] = Z := ⟨_, rfl⟩
  clear hd h1 h2
  unfold arrV
  go_enter Tryd.func41, Tryd.ntmps41
  go_wp2_with fail
  rw [hZ] at H1 H2 Hb HZ
  go_loopw [11] (fun n wr => ∃ (k m : Nat), Hid (m = a + k ∧ (k ≤ b - a)) ∧ n = .int .i64 (m : Int) ∧ Blk wr w.heap.size 26 (bc (flw i j d a k)).toArray ∧ Blk wr (w.heap.size + 1) 26 Z ∧ Below w.heap.size w wr) (fun n _ => b - (intOf n).toNat)
  case atStart => exact ⟨0, a, Lib.hid ⟨rfl, Nat.zero_le _⟩, rfl, H1.out, H2.out, Hb.out⟩
  case round =>
    clear H1 H2 Hb hZ
    obtain ⟨k, m, Hk, rfl, h1, h2, hbw⟩ := hrel
    have H1 := Lib.hid h1
    have H2 := Lib.hid h2
    have Hb := Lib.hid hbw
    clear h1 h2 hbw
    have hl := Hfl.out k
    have Hl := Lib.hid (show (bc (flw i j d a k)).length = 32 by rw [bc_len, hl])
    by_cases hlt : m < b
    · have hm9 : m < 256 := by omega
      have h3 := bc3 hi hj hm9
      have Hk1 := Lib.hid (show m + 1 = a + (k + 1) ∧ (k + 1 ≤ b - a) by have := Hk.out; omega)
      have htg : tg chainB ([UInt8.ofNat i, UInt8.ofNat j, UInt8.ofNat m] ++ flw i j d a k) = flw i j d a (k + 1) := by rw [flw, ← Hk.out.1]
      have Htg := Lib.hid (fun v W (hs : Sl W 1 v 35 (bc ([UInt8.ofNat i, UInt8.ofNat j, UInt8.ofNat m] ++ flw i j d a k))) => rtagged_any ⟨#[99, 104, 97, 105, 110]⟩ (by decide) ([UInt8.ofNat i, UInt8.ofNat j, UInt8.ofNat m] ++ flw i j d a k) 35 (by rw [List.length_append, hl]; rfl) (by omega) v W hs)
      rw [show sB ⟨#[99, 104, 97, 105, 110]⟩ = chainB from rfl, htg, bc_app, h3] at Htg
      have Hl2 := Lib.hid (show (bc (flw i j d a (k + 1))).length = 32 by rw [bc_len]; rfl)
      have Ho2 := Lib.hid (bc_one (flw i j d a (k + 1)))
      have Ho := Lib.hid (bc_one (flw i j d a k))
      unfold arrV at Htg
      obtain ⟨D1, hD1⟩ : ∃ D1, bc (flw i j d a (k + 1)) = D1 := ⟨_, rfl⟩
      obtain ⟨D, hD⟩ : ∃ D, bc (flw i j d a k) = D := ⟨_, rfl⟩
      rw [hD1] at Htg Hl2 Ho2
      rw [hD] at Htg H1 Hl Ho
      have HD1 := Lib.hid hD1
      clear hD hD1 htg h3 hl
      go_wp2_with (first
        | (at_builtin; refine wpList_append_sl _ rfl (.tmp 24) (.tmp 25) 22 rfl wr.heap.size 5 iu _ 1 Tryd.underlying22 hiu hu0 hu1 hu2 rfl (.slice (some ⟨wr.heap.size, 0, none⟩) 3 3) 3 [.int .u8 (i : Int), .int .u8 (j : Int), .int .u8 (m : Int)] rfl (own_new wr wr.heap.size (Nat.le_refl _) _ _ 3 rfl (by omega)) (.slice (some ⟨w.heap.size, 0, none⟩) 32 32) 32 D rfl ((H1.out.alloc _).sl rfl Hl.out) Ho.out (by unfold maxLen; omega) (by omega) (by simp) ?_; intro v6 w6 hown6 hg6
           have hb6 : Below wr.heap.size wr w6 := (below_alloc wr _).grown hg6 (by simp) (fun k hk => by cases hk; exact Nat.le_refl _))
        | (refine (Htg.out _ _ (Sl.of_own hown6)).mono ?_
           rintro e w7 ⟨rfl, hb7⟩
           have HBa := Lib.hid ((H1.out.below hb6 H1.out.lt).below hb7 (by have := H1.out.lt; have := hb6.size; omega))
           have HBb := Lib.hid ((H2.out.below hb6 H2.out.lt).below hb7 (by have := H2.out.lt; have := hb6.size; omega))
           have Hb7 := Lib.hid ((Hb.out.trans (hb6.mono Hb.out.size)).trans (hb7.mono (by have := Hb.out.size; have := hb6.size; omega)))
           clear hb6 hb7 hown6 hg6)
        | (refine wpList_store_row rfl 26 _ _ rfl w.heap.size D1.toArray rfl rfl 26 _ HBa.out (by rw [List.size_toArray, Hl2.out]; exact infoDg) (show D.length = D1.length by rw [Hl.out, Hl2.out]) (all_oneCell_toArray Ho2.out) ?_))
      go_roundw
      case rel => exact ⟨k + 1, m + 1, Hk1, by go_num, by rw [HD1.out]; exact HBa.out.setRow _, HBb.out.farRow (by omega) _, setRow_below Hb7.out (Nat.le_refl _) _⟩
      case measure => simp [intOf]; omega
    · have hk9 : k = b - a := by have := Hk.out; omega
      have Hk9 := Lib.hid hk9
      have Ho := Lib.hid (bc_one (flw i j d a k))
      obtain ⟨D, hD⟩ : ∃ D, bc (flw i j d a k) = D := ⟨_, rfl⟩
      rw [hD] at H1 Hl Ho
      have HD := Lib.hid (show bc (flw i j d a (b - a)) = D by rw [← hk9]; exact hD)
      clear hD hk9
      go_wp2_with (first
        | (refine wpList_load_row rfl 26 _ rfl w.heap.size rfl 26 D.toArray (0, 0) _ H1.out Tryd.underlying26 rfl (by rw [List.size_toArray, Hl.out]; exact infoDg) ?_)
        | (refine wpList_store_row rfl 26 _ _ rfl (w.heap.size + 1) D.toArray rfl rfl 26 _ H2.out (by rw [List.size_toArray, Hl.out]; exact infoDg) (show Z.size = D.length by rw [HZ.out, Hl.out]) (all_oneCell_toArray Ho.out) ?_))
      refine bodyPost_ret (v := .agg D.toArray) (results_cell_row rfl _ _ (w.heap.size + 1) 26 D.toArray (0, 0) _ rfl (H2.out.setRow D.toArray) Tryd.underlying26 rfl (by rw [List.size_toArray, Hl.out]; exact infoDg)) rfl ?_
      exact ⟨by rw [HD.out], setRow_below Hb.out (by omega) _⟩

def stt (seed : List UInt8) (ix c : Nat) : List UInt8 := tg secretB (seed ++ [UInt8.ofNat ix, UInt8.ofNat c])
theorem stt_len (seed : List UInt8) (ix c : Nat) : (stt seed ix c).length = 32 := rfl
theorem vlu_stt (seed : List UInt8) (ix c nn : Nat) : flw ix c (stt seed ix c) 0 (nn - 0) = vlu seed ix c nn := by rw [Nat.sub_zero]; rfl
set_option maxRecDepth 100000 in
set_option maxHeartbeats 1000000 in
theorem rstart_any (seed : List UInt8) (n : Nat) (hn : seed.length = n) (hn9 : n ≤ 100) (a : Option Addr) (cap : Nat) (many used : Int) (ix c : Nat) (hix : ix < 256) (hc : c < 256) (w : World) (hs : Sl w 1 (.slice a n cap) n (bc seed)) :
    Calls Tryd.prog 42 #[.agg #[.slice a n cap, .int .i64 many, .int .i64 used], .int .i64 (ix : Int), .int .i64 (c : Int)] w fun e w' => e = .returned (arrV (stt seed ix c)) ∧ Below w.heap.size w w' := by
  obtain ⟨iu, hiu, hu0, hu1, hu2⟩ := info_parts infoU8
  have h2 := bc2 hix hc
  have Htg := Lib.hid (fun v W (hs : Sl W 1 v (n + 2) (bc (seed ++ [UInt8.ofNat ix, UInt8.ofNat c]))) => rtagged_any ⟨#[115, 101, 99, 114, 101, 116]⟩ (by decide) (seed ++ [UInt8.ofNat ix, UInt8.ofNat c]) (n + 2) (by rw [List.length_append, hn]; rfl) (by omega) v W hs)
  rw [show sB ⟨#[115, 101, 99, 114, 101, 116]⟩ = secretB from rfl, show tg secretB (seed ++ [UInt8.ofNat ix, UInt8.ofNat c]) = stt seed ix c from rfl, bc_app, h2] at Htg
  have Hl1 := Lib.hid (show (bc (stt seed ix c)).length = 32 by rw [bc_len]; rfl)
  have Ho1 := Lib.hid (bc_one (stt seed ix c))
  unfold arrV at Htg ⊢
  obtain ⟨S, hS⟩ : ∃ S, bc seed = S := ⟨_, rfl⟩
  obtain ⟨D1, hD1⟩ : ∃ D1, bc (stt seed ix c) = D1 := ⟨_, rfl⟩
  have HSo := Lib.hid (show ∀ v ∈ S, v.oneCell' = true by rw [← hS]; exact bc_one seed)
  rw [hS] at hs Htg
  rw [hD1] at Htg Hl1 Ho1 ⊢
  have hg1 := (Blk.new w 24 #[.slice a n cap, .int .i64 many, .int .i64 used]).alloc (.cells #[.int .u8 0, .int .u8 0, .int .u8 0, .int .u8 0, .int .u8 0, .int .u8 0, .int .u8 0, .int .u8 0, .int .u8 0, .int .u8 0, .int .u8 0, .int .u8 0, .int .u8 0, .int .u8 0, .int .u8 0, .int .u8 0, .int .u8 0, .int .u8 0, .int .u8 0, .int .u8 0, .int .u8 0, .int .u8 0, .int .u8 0, .int .u8 0, .int .u8 0, .int .u8 0, .int .u8 0, .int .u8 0, .int .u8 0, .int .u8 0, .int .u8 0, .int .u8 0] 26)
  have hg2 := Blk.new (w.alloc (.cells #[.slice a n cap, .int .i64 many, .int .i64 used] 24)) 26 #[.int .u8 0, .int .u8 0, .int .u8 0, .int .u8 0, .int .u8 0, .int .u8 0, .int .u8 0, .int .u8 0, .int .u8 0, .int .u8 0, .int .u8 0, .int .u8 0, .int .u8 0, .int .u8 0, .int .u8 0, .int .u8 0, .int .u8 0, .int .u8 0, .int .u8 0, .int .u8 0, .int .u8 0, .int .u8 0, .int .u8 0, .int .u8 0, .int .u8 0, .int .u8 0, .int .u8 0, .int .u8 0, .int .u8 0, .int .u8 0, .int .u8 0, .int .u8 0]
  rw [World.size_alloc] at hg2
  have hb := (below_alloc w (.cells #[.slice a n cap, .int .i64 many, .int .i64 used] 24)).alloc (by simp) (.cells #[.int .u8 0, .int .u8 0, .int .u8 0, .int .u8 0, .int .u8 0, .int .u8 0, .int .u8 0, .int .u8 0, .int .u8 0, .int .u8 0, .int .u8 0, .int .u8 0, .int .u8 0, .int .u8 0, .int .u8 0, .int .u8 0, .int .u8 0, .int .u8 0, .int .u8 0, .int .u8 0, .int .u8 0, .int .u8 0, .int .u8 0, .int .u8 0, .int .u8 0, .int .u8 0, .int .u8 0, .int .u8 0, .int .u8 0, .int .u8 0, .int .u8 0, .int .u8 0] 26)
  have hsz : ((w.alloc (.cells #[.slice a n cap, .int .i64 many, .int .i64 used] 24)).alloc (.cells #[.int .u8 0, .int .u8 0, .int .u8 0, .int .u8 0, .int .u8 0, .int .u8 0, .int .u8 0, .int .u8 0, .int .u8 0, .int .u8 0, .int .u8 0, .int .u8 0, .int .u8 0, .int .u8 0, .int .u8 0, .int .u8 0, .int .u8 0, .int .u8 0, .int .u8 0, .int .u8 0, .int .u8 0, .int .u8 0, .int .u8 0, .int .u8 0, .int .u8 0, .int .u8 0, .int .u8 0, .int .u8 0, .int .u8 0, .int .u8 0, .int .u8 0, .int .u8 0] 26)).heap.size = w.heap.size + 1 + 1 := by simp
  have ho := own_empty' ((w.alloc (.cells #[.slice a n cap, .int .i64 many, .int .i64 used] 24)).alloc (.cells #[.int .u8 0, .int .u8 0, .int .u8 0, .int .u8 0, .int .u8 0, .int .u8 0, .int .u8 0, .int .u8 0, .int .u8 0, .int .u8 0, .int .u8 0, .int .u8 0, .int .u8 0, .int .u8 0, .int .u8 0, .int .u8 0, .int .u8 0, .int .u8 0, .int .u8 0, .int .u8 0, .int .u8 0, .int .u8 0, .int .u8 0, .int .u8 0, .int .u8 0, .int .u8 0, .int .u8 0, .int .u8 0, .int .u8 0, .int .u8 0, .int .u8 0, .int .u8 0] 26)) (w.heap.size + 1 + 1) (by simp) 5 1
  rw [hsz] at ho
  obtain ⟨c0, _, _, f0, _, _⟩ := cells3 (hg1.alloc (.cells #[] 5))
  obtain ⟨b0, _, _, _, _, _⟩ := cells3 hg1
  have HSL := Lib.hid (((hs.next hb).alloc (.cells #[] 5)))
  have H2 := Lib.hid (hg2.alloc (.cells #[] 5))
  have Hb := Lib.hid (hb.alloc (by simp; omega) (.cells #[] 5))
  have HO := Lib.hid ho
  clear hs hn hS hD1 hg1 hg2 hb h2 ho hsz
  go_enter Tryd.func42, Tryd.ntmps42
  go_wp2_with (first
    | (at_builtin; refine wpList_append_sl _ rfl (.tmp 7) (.tmp 9) 22 rfl (w.heap.size + 1 + 1) 5 iu _ 1 Tryd.underlying22 hiu hu0 hu1 hu2 rfl (.slice (some ⟨w.heap.size + 1 + 1, 0, none⟩) 0 0) 0 [] rfl HO.out (.slice a n cap) n S rfl HSL.out HSo.out (by unfold maxLen; omega) (by omega) (by simp) ?_
       intro v6 w6 hown6 hg6
       rw [Nat.zero_add, List.nil_append] at hown6
       have hb6 := Hb.out.grown hg6 Hb.out.size (fun k hk => by simp [Value.ownBlock] at hk; omega)
       have hB6 := blk_grown H2.out hg6 (fun e => by have h : w.heap.size + 1 = w.heap.size + 1 + 1 := Option.some.inj e; omega)
       have Hown := Lib.hid hown6
       have Hb6 := Lib.hid hb6
       have HB6 := Lib.hid hB6
       have Hs6 := Lib.hid (show w.heap.size + 1 + 1 ≤ w6.heap.size by have := hB6.lt; omega)
       clear hown6 hg6 hb6 hB6)
    | (at_builtin; refine wpList_append_sl _ rfl (.tmp 10) (.tmp 15) 22 rfl (w.heap.size + 1 + 1) 5 iu _ 1 Tryd.underlying22 hiu hu0 hu1 hu2 rfl v6 n S rfl (Hown.out.alloc _) (.slice (some ⟨w6.heap.size, 0, none⟩) 2 2) 2 [.int .u8 (ix : Int), .int .u8 (c : Int)] rfl ((Blk.new w6 5 #[.int .u8 (ix : Int), .int .u8 (c : Int)]).sl rfl rfl) (by intro u hu; simp at hu; rcases hu with rfl | rfl <;> rfl) (by unfold maxLen; omega) (by omega) (by have := Hs6.out; rw [World.size_alloc]; omega) ?_
       intro v7 w7 hown7 hg7
       have hb7 := (Hb6.out.alloc Hb6.out.size _).grown hg7 (by have := Hb6.out.size; rw [World.size_alloc]; omega) (fun k hk => by have := (Hown.out.lt _ hk).1; omega)
       have hB7 := blk_grown (HB6.out.alloc _) hg7 (fun e => by have := (Hown.out.lt _ e.symm).1; omega)
       have Hs7 := Lib.hid (Sl.of_own hown7)
       have Hb7 := Lib.hid hb7
       have HB7 := Lib.hid hB7
       clear hown7 hg7 hb7 hB7)
    | (refine (Htg.out _ _ Hs7.out).mono ?_
       rintro e w8 ⟨rfl, hb8⟩
       have HB8 := Lib.hid (HB7.out.below hb8 HB7.out.lt)
       have Hb8 := Lib.hid (Hb7.out.trans (hb8.mono Hb7.out.size))
       clear hb8)
    | (refine wpList_store_row rfl 26 _ _ rfl (w.heap.size + 1) D1.toArray rfl rfl 26 _ HB8.out (by rw [List.size_toArray, Hl1.out]; exact infoDg) (show 32 = D1.length from Hl1.out.symm) (all_oneCell_toArray Ho1.out) ?_))
  refine bodyPost_ret (v := .agg D1.toArray) (results_cell_row rfl _ _ (w.heap.size + 1) 26 D1.toArray (0, 0) _ rfl (HB8.out.setRow D1.toArray) Tryd.underlying26 rfl (by rw [List.size_toArray, Hl1.out]; exact infoDg)) rfl ?_
  exact ⟨rfl, setRow_below Hb8.out (by omega) _⟩

theorem sl_range {W : World} {g o n : Nat} {xs : List Value} (h : W.rangeAt g o xs) (hn : xs.length = n) : Sl W 1 (.slice (some ⟨g, o, none⟩) n n) n xs :=
  ⟨by omega, _, _, rfl, Nat.le_refl _, .inr ⟨g, o, rfl, fun j u hu => h j u hu⟩⟩
set_option maxRecDepth 100000 in
set_option maxHeartbeats 1000000 in
theorem rone_any (E : Nat → List UInt8) (hE : ∀ j, (E j).length = 32) (g cap : Nat) (w : World) (hr : w.rangeAt g 0 (bc (ends E 67))) :
    Calls Tryd.prog 49 #[.slice (some ⟨g, 0, none⟩) 67 cap] w fun e w' => e = .returned (arrV (opub E)) ∧ Below w.heap.size w w' := by
  obtain ⟨iu, hiu, hu0, hu1, hu2⟩ := info_parts infoU8
  have hlt : g < w.heap.size := by
    have h0 := ends_at (o := 0) E hE 67 hr 0 (by omega) 0 _ (by rw [bt_cell (d := E 0) (k := 0) (by rw [hE]; omega)])
    exact World.block_lt_of_cell? w _ h0
  have HR := Lib.hid (fun k W (hk : k < 67) (hb : Below w.heap.size w W) => rangeAt_below (ends_at (o := 0) E hE 67 hr k hk) hb hlt)
  have HL := Lib.hid (fun k => show (bc (E k)).length = 32 by rw [bc_len, hE])
  have HEl := Lib.hid hE
  have Htg := Lib.hid (fun v W (hs : Sl W 1 v 2144 (bc (ends E 67))) => rtagged_any ⟨#[111, 110, 101]⟩ (by decide) (ends E 67) 2144 (by rw [ends_len E hE]) (by omega) v W hs)
  rw [show tg (sB ⟨#[111, 110, 101]⟩) (ends E 67) = opub E from rfl] at Htg
  have Hl1 := Lib.hid (show (bc (opub E)).length = 32 by rw [bc_len]; rfl)
  have Ho1 := Lib.hid (bc_one (opub E))
  unfold arrV at Htg
  obtain ⟨D1, hD1⟩ : ∃ D1, bc (opub E) = D1 := ⟨_, rfl⟩
  rw [hD1] at Htg Hl1 Ho1
  have HA := Lib.hid (show arrV (opub E) = .agg D1.toArray by unfold arrV; rw [hD1])
  have hg := (Blk.new w 26 #[.int .u8 0, .int .u8 0, .int .u8 0, .int .u8 0, .int .u8 0, .int .u8 0, .int .u8 0, .int .u8 0, .int .u8 0, .int .u8 0, .int .u8 0, .int .u8 0, .int .u8 0, .int .u8 0, .int .u8 0, .int .u8 0, .int .u8 0, .int .u8 0, .int .u8 0, .int .u8 0, .int .u8 0, .int .u8 0, .int .u8 0, .int .u8 0, .int .u8 0, .int .u8 0, .int .u8 0, .int .u8 0, .int .u8 0, .int .u8 0, .int .u8 0, .int .u8 0]).alloc (.cells #[] 5)
  have hb := (below_alloc w (.cells #[.int .u8 0, .int .u8 0, .int .u8 0, .int .u8 0, .int .u8 0, .int .u8 0, .int .u8 0, .int .u8 0, .int .u8 0, .int .u8 0, .int .u8 0, .int .u8 0, .int .u8 0, .int .u8 0, .int .u8 0, .int .u8 0, .int .u8 0, .int .u8 0, .int .u8 0, .int .u8 0, .int .u8 0, .int .u8 0, .int .u8 0, .int .u8 0, .int .u8 0, .int .u8 0, .int .u8 0, .int .u8 0, .int .u8 0, .int .u8 0, .int .u8 0, .int .u8 0] 26)).alloc (by simp) (.cells #[] 5)
  have ho := own_empty' (w.alloc (.cells #[.int .u8 0, .int .u8 0, .int .u8 0, .int .u8 0, .int .u8 0, .int .u8 0, .int .u8 0, .int .u8 0, .int .u8 0, .int .u8 0, .int .u8 0, .int .u8 0, .int .u8 0, .int .u8 0, .int .u8 0, .int .u8 0, .int .u8 0, .int .u8 0, .int .u8 0, .int .u8 0, .int .u8 0, .int .u8 0, .int .u8 0, .int .u8 0, .int .u8 0, .int .u8 0, .int .u8 0, .int .u8 0, .int .u8 0, .int .u8 0, .int .u8 0, .int .u8 0] 26)) (w.heap.size + 1) (by simp) 5 1
  rw [World.size_alloc] at ho
  have HG := Lib.hid hg
  have Hb := Lib.hid hb
  have HO := Lib.hid ho
  clear hr hE hD1 hg hb ho hlt
  go_enter Tryd.func49, Tryd.ntmps49
  go_wp2_with fail
  obtain ⟨Z, hZ⟩ : ∃ Z : Array Value, #[.int .u8 0, .int .u8 0, .int .u8 0, .int .u8 0, .int .u8 0, .int .u8 0, .int .u8 0, .int .u8 0, .int .u8 0, .int .u8 0, .int .u8 0, .int .u8 0, .int .u8 0, .int .u8 0, .int .u8 0, .int .u8 0, .int .u8 0, .int .u8 0, .int .u8 0, .int .u8 0, .int .u8 0, .int .u8 0, .int .u8 0, .int .u8 0, .int .u8 0, .int .u8 0, .int .u8 0, .int .u8 0, .int .u8 0, .int .u8 0, .int .u8 0, .int .u8 0] = Z := ⟨_, rfl⟩
  have HZ := Lib.hid (show Z.size = 32 by rw [← hZ]; rfl)
  rw [hZ] at HG HO Hb ⊢
  clear hZ
  go_loopw [3, 4] (fun v i wr => ∃ (k : Nat), k ≤ 67 ∧ i = .int .i64 (k : Int) ∧ wr.ownsRow (w.heap.size + 1) 5 1 v (k * 32) (bc (ends E k)) ∧ Blk wr w.heap.size 26 Z ∧ Below w.heap.size w wr) (fun _ i _ => 67 - (intOf i).toNat)
  case atStart => exact ⟨0, by omega, rfl, HO.out, HG.out, Hb.out⟩
  case round =>
    clear HG HO Hb
    obtain ⟨k, hk, rfl, hown, hB, hb⟩ := hrel
    obtain ⟨ba, bcap, rfl⟩ := (Sl.of_own hown).form
    have HB := Lib.hid hB
    have Hb := Lib.hid hb
    have Hown := Lib.hid hown
    clear hB hb hown
    by_cases hlt : k < 67
    · have Ho2 := Lib.hid (bc_one (E k))
      have Hap := Lib.hid (show bc (ends E k) ++ bc (E k) = bc (ends E (k + 1)) by rw [ends_succ, bc_app])
      have hra := HR.out k wr hlt Hb.out
      have hla := HL.out k
      rw [Nat.zero_add] at hra
      obtain ⟨D, hD⟩ : ∃ D, bc (E k) = D := ⟨_, rfl⟩
      rw [hD] at Ho2 Hap hra hla
      have Hsl := Lib.hid (sl_range hra hla)
      have Hsz := Lib.hid (show w.heap.size + 1 ≤ wr.heap.size from HB.out.lt)
      have i1 : (0 : Int) ≤ (k : Int) := by omega
      have i2 : (k : Int) < 67 := by omega
      clear hD hra hla
      go_wp2_with (first
        | (at_builtin; refine wpList_append_sl _ rfl (.tmp 12) (.tmp 16) 22 rfl (w.heap.size + 1) 5 iu _ 1 Tryd.underlying22 hiu hu0 hu1 hu2 rfl (.slice ba (k * 32) bcap) (k * 32) (bc (ends E k)) rfl Hown.out (.slice (some ⟨g, k * 32, none⟩) 32 32) 32 D rfl Hsl.out Ho2.out (by unfold maxLen; omega) (by omega) Hsz.out ?_
           intro v7 w7 hown7 hg7
           have hb7 : Below w.heap.size w w7 := Hb.out.grown hg7 (by have := Hsz.out; omega) (fun k hk => by have := (Hown.out.lt _ hk).1; omega)
           have hB7 := blk_grown HB.out hg7 (fun e => by have := (Hown.out.lt _ e.symm).1; omega)
           rw [Hap.out, show k * 32 + 32 = (k + 1) * 32 by omega] at hown7
           have Hb7 := Lib.hid hb7
           have HB7 := Lib.hid hB7
           have Hown7 := Lib.hid hown7
           clear hb7 hB7 hown7 hg7))
      go_roundw
      case rel => exact ⟨k + 1, by omega, by go_num, Hown7.out, HB7.out, Hb7.out⟩
      case measure => simp [intOf]; omega
    · have hk9 : k = 67 := by omega
      subst hk9
      clear hlt hk
      have Hs := Lib.hid (Sl.of_own Hown.out)
      go_wp2_with (first
        | (refine (Htg.out _ _ Hs.out).mono ?_
           rintro e w8 ⟨rfl, hb8⟩
           have HB8 := Lib.hid (HB.out.below hb8 HB.out.lt)
           have Hb8 := Lib.hid (Hb.out.trans (hb8.mono Hb.out.size))
           clear hb8)
        | (refine wpList_store_row rfl 26 _ _ rfl w.heap.size D1.toArray rfl rfl 26 _ HB8.out (by rw [List.size_toArray, Hl1.out]; exact infoDg) (show Z.size = D1.length by rw [HZ.out, Hl1.out]) (all_oneCell_toArray Ho1.out) ?_))
      refine bodyPost_ret (v := .agg D1.toArray) (results_cell_row rfl _ _ w.heap.size 26 D1.toArray (0, 0) _ rfl (HB8.out.setRow D1.toArray) Tryd.underlying26 rfl (by rw [List.size_toArray, Hl1.out]; exact infoDg)) rfl ?_
      exact ⟨by rw [HA.out], setRow_below Hb8.out (Nat.le_refl _) _⟩

set_option maxRecDepth 100000 in
set_option maxHeartbeats 2000000 in
theorem rkeys_any (seed : List UInt8) (n : Nat) (hn : seed.length = n) (hn9 : n ≤ 100) (a : Option Addr) (cap : Nat) (many : Nat) (used : Int) (hm : many ≤ 256) (w : World) (hs : Sl w 1 (.slice a n cap) n (bc seed)) :
    Calls Tryd.prog 36 #[.agg #[.slice a n cap, .int .i64 (many : Int), .int .i64 used]] w fun e w' => ∃ v, e = .returned v ∧ w'.ownsRow w.heap.size 26 32 v many (pkC seed many) ∧ Below w.heap.size w w' := by
  obtain ⟨iu, hiu, hu0, hu1, hu2⟩ := info_parts infoD32
  have HSt := Lib.hid (fun (i c : Nat) W (hi : i < 256) (hc : c < 256) (hb : Below w.heap.size w W) => rstart_any seed n hn hn9 a cap (many : Int) used i c hi hc W (hs.next hb))
  have HCl := Lib.hid (fun (i c : Nat) W (hi : i < 256) (hc : c < 67) => rclimb_any (stt seed i c) (stt_len _ _ _) i c 0 15 hi (by omega) (by omega) W)
  simp only [vlu_stt] at HCl
  have HOn := Lib.hid (fun (E : Nat → List UInt8) hE g cap W hr => rone_any E hE g cap W hr)
  have hB := (Blk.new w 24 #[.slice a n cap, .int .i64 (many : Int), .int .i64 used]).alloc (.cells #[] 26)
  have hb := (below_alloc w (.cells #[.slice a n cap, .int .i64 (many : Int), .int .i64 used] 24)).alloc (by simp) (.cells #[] 26)
  have ho := own_empty' (w.alloc (.cells #[.slice a n cap, .int .i64 (many : Int), .int .i64 used] 24)) (w.heap.size + 1) (by simp) 26 32
  rw [World.size_alloc] at ho
  have HB := Lib.hid hB
  have Hb := Lib.hid hb
  have HO := Lib.hid ho
  unfold arrV at HSt HCl HOn
  clear hs hn hB hb ho
  go_enter Tryd.func36, Tryd.ntmps36
  go_wp2_with fail
  go_loopw [3, 4] (fun b i wr => ∃ k : Nat, k ≤ many ∧ i = .int .i64 k ∧ wr.ownsRow (w.heap.size + 1) 26 32 b k (pkC seed k) ∧ Blk wr w.heap.size 24 #[.slice a n cap, .int .i64 (many : Int), .int .i64 used] ∧ Below w.heap.size w wr) (fun _ i _ => many - (intOf i).toNat)
  case atStart => exact ⟨0, by omega, rfl, HO.out, HB.out, Hb.out⟩
  case round =>
    clear HB Hb HO
    obtain ⟨wo, rfl⟩ : ∃ wo, wo = wr := ⟨_, rfl⟩
    obtain ⟨k, hk, rfl, hown, hB, hb⟩ := hrel
    obtain ⟨ba, bcap, rfl⟩ := (Sl.of_own hown).form
    have HB := Lib.hid hB
    have Hb := Lib.hid hb
    have Hown := Lib.hid hown
    clear hB hb hown
    obtain ⟨c0, c1, c2, f0, f1, f2⟩ := cells3 HB.out
    by_cases hlt : k < many
    · go_wp2_with fail
      have hl0 : w.heap.size < wo.heap.size := HB.out.lt
      obtain ⟨wi, hwi⟩ : ∃ wi, wo.alloc (.cells #[] 26) = wi := ⟨_, rfl⟩
      have hbi : Below wo.heap.size wo wi := by rw [← hwi]; exact below_alloc wo _
      have hoi : wi.ownsRow wo.heap.size 26 32 (.slice (some ⟨wo.heap.size, 0, none⟩) 0 0) 0 [] := by rw [← hwi]; exact own_empty' wo _ (Nat.le_refl _) _ _
      rw [hwi]
      have Hoi := Lib.hid hoi
      have Hbi := Lib.hid hbi
      clear hwi hoi hbi c0 c1 c2 f0 f1 f2
      go_loopw [5, 6] (fun b j wr => ∃ q : Nat, q ≤ 67 ∧ j = .int .i64 q ∧ wr.ownsRow wo.heap.size 26 32 b q (bc (ends (fun c => vlu seed k c 15) q)) ∧ Below wo.heap.size wo wr) (fun _ j _ => 67 - (intOf j).toNat)
      case atStart => exact ⟨0, by omega, rfl, Hoi.out, Hbi.out⟩
      case round =>
        clear Hoi Hbi
        obtain ⟨q, hq, rfl, howq, hbq⟩ := hrel
        obtain ⟨ea, ecap, rfl⟩ := (Sl.of_own howq).form
        have HOq := Lib.hid howq
        have Hbq := Lib.hid hbq
        have Hbw := Lib.hid (Hb.out.trans (hbq.mono Hb.out.size))
        have HBq := Lib.hid (HB.out.below hbq HB.out.lt)
        clear howq hbq
        by_cases hltq : q < 67
        · have Hl1 := Lib.hid (show (bc (vlu seed k q 15)).length = 32 by rw [bc_len, vlu_len])
          have Ho1 := Lib.hid (bc_one (vlu seed k q 15))
          have Hap := Lib.hid (show bc (ends (fun c => vlu seed k c 15) q) ++ bc (vlu seed k q 15) = bc (ends (fun c => vlu seed k c 15) (q + 1)) by rw [ends_succ, bc_app])
          have HSk := Lib.hid (fun W hb => HSt.out k q W (by omega) (by omega) hb)
          have HCk := Lib.hid (fun W => HCl.out k q W (by omega) hltq)
          obtain ⟨D0, hD0⟩ : ∃ D, bc (stt seed k q) = D := ⟨_, rfl⟩
          obtain ⟨D1, hD1⟩ : ∃ D, bc (vlu seed k q 15) = D := ⟨_, rfl⟩
          rw [hD0] at HSk HCk
          rw [hD1] at HCk Hl1 Ho1 Hap
          clear hD0 hD1
          have hd32 : D1.length = 32 := Hl1.out
          obtain ⟨c0, c1, c2, f0, f1, f2⟩ := cells3 HBq.out
          go_wp2_with (first
            | (refine (HSk.out _ Hbw.out).mono ?_
               rintro e w7 ⟨rfl, hb7⟩
               have Hb7 := Lib.hid hb7
               clear hb7)
            | (refine (HCk.out _).mono ?_
               rintro e w8 ⟨rfl, hb8⟩
               have hb78 := Hb7.out.trans (hb8.mono Hb7.out.size)
               have hB5 := Blk.new w8 26 D1.toArray
               have hb9 := hb78.alloc hb78.size (.cells D1.toArray 26)
               obtain ⟨w9, hw9⟩ : ∃ w9, w8.alloc (.cells D1.toArray 26) = w9 := ⟨_, rfl⟩
               rw [hw9] at hB5 hb9
               have HW9 := Lib.hid hw9
               have HB5 := Lib.hid hB5
               have Hb9 := Lib.hid (Hbq.out.trans (hb9.mono Hbq.out.size))
               have HO9 := Lib.hid (own_next HOq.out hb9)
               have Hsz9 := Lib.hid (show wo.heap.size ≤ w9.heap.size from Hb9.out.size)
               clear hb8 hb78 hB5 hb9 hw9)
            | (at_builtin
               rw [fold_all D1 _ (by rw [Hl1.out]; rfl), HW9.out]
               refine wpList_append_lies _ rfl (.tmp 19) (.tmp 27) 40 rfl wo.heap.size 26 iu _ 32 32 Tryd.underlying40 hiu hu0 hu1 hu2 rfl (by omega) (.slice ea q ecap) q (bc (ends (fun c => vlu seed k c 15) q)) rfl HO9.out ⟨w8.heap.size, 0, none⟩ 1 1 D1 rfl (by rw [Hl1.out]) (fun j u hu => by rw [Addr.add_mid]; exact HB5.out.range j u hu) Ho1.out (by omega) (by unfold maxLen; omega) (by omega) Hsz9.out w9.heap.size rfl ?_
               intro g7 cap7 wx hown7 hg7 hor7 hlt7
               have hbx : Below wo.heap.size wo wx := Hb9.out.grown hg7 Hsz9.out (fun k hk => (HO9.out.lt _ hk).1)
               rw [Hap.out] at hown7
               have Hbx := Lib.hid hbx
               have Hown7 := Lib.hid hown7
               clear hbx hown7 hg7 hor7 hlt7))
          go_roundw
          case rel => exact ⟨q + 1, by omega, by go_num, Hown7.out, Hbx.out⟩
          case measure => simp [intOf]; omega
        · have hq9 : q = 67 := by omega
          subst hq9
          obtain ⟨eg, ecap', he, _, her⟩ := own_range HOq.out (by omega)
          cases he
          have Hl1 := Lib.hid (show (bc (pk1 seed k)).length = 32 by rw [bc_len, pk1_len])
          have Ho1 := Lib.hid (bc_one (pk1 seed k))
          have Hap := Lib.hid (pkC_succ seed k)
          have HOk := Lib.hid (HOn.out (fun c => vlu seed k c 15) (fun c => vlu_len _ _ _ _) eg ecap wr her)
          rw [show (opub fun c => vlu seed k c 15) = pk1 seed k from rfl] at HOk
          obtain ⟨D1, hD1⟩ : ∃ D1, bc (pk1 seed k) = D1 := ⟨_, rfl⟩
          rw [hD1] at HOk Hl1 Ho1 Hap
          have hd32 : D1.length = 32 := Hl1.out
          have Hownq := Lib.hid (own_next Hown.out Hbq.out)
          clear hD1 her hq hltq
          go_wp2_with (first
            | (refine HOk.out.mono ?_
               rintro e w8 ⟨rfl, hb8⟩
               have hB5 := Blk.new w8 26 D1.toArray
               have hb9 := hb8.alloc hb8.size (.cells D1.toArray 26)
               obtain ⟨w9, hw9⟩ : ∃ w9, w8.alloc (.cells D1.toArray 26) = w9 := ⟨_, rfl⟩
               rw [hw9] at hB5 hb9
               have HW9 := Lib.hid hw9
               have HB5 := Lib.hid hB5
               have HB2 := Lib.hid (HBq.out.below hb9 HBq.out.lt)
               have Hb9 := Lib.hid (Hbw.out.trans (hb9.mono Hbw.out.size))
               have Hown9 := Lib.hid (own_next Hownq.out hb9)
               have Hsz9 := Lib.hid (show w.heap.size + 1 ≤ w9.heap.size from HB2.out.lt)
               clear hb8 hB5 hb9 hw9)
            | (at_builtin
               rw [fold_all D1 _ (by rw [Hl1.out]; rfl), HW9.out]
               refine wpList_append_lies _ rfl (.tmp 29) (.tmp 32) 40 rfl (w.heap.size + 1) 26 iu _ 32 32 Tryd.underlying40 hiu hu0 hu1 hu2 rfl (by omega) (.slice ba k bcap) k (pkC seed k) rfl Hown9.out ⟨w8.heap.size, 0, none⟩ 1 1 D1 rfl (by rw [Hl1.out]) (fun j u hu => by rw [Addr.add_mid]; exact HB5.out.range j u hu) Ho1.out (by omega) (by unfold maxLen; omega) (by omega) Hsz9.out w9.heap.size rfl ?_
               intro g7 cap7 w7 hown7 hg7 hor7 hlt7
               have hb7 : Below w.heap.size w w7 := Hb9.out.grown hg7 (by have := Hsz9.out; omega) (fun k hk => by have := (Hown9.out.lt _ hk).1; omega)
               have hB7 := blk_grown HB2.out hg7 (fun e => by have := (Hown9.out.lt _ e.symm).1; omega)
               rw [Hap.out] at hown7
               have Hb7 := Lib.hid hb7
               have HB7 := Lib.hid hB7
               have Hown7 := Lib.hid hown7
               clear hb7 hB7 hown7 hg7 hor7 hlt7))
          refine ⟨⟨k + 1, by omega, by go_num, Hown7.out, HB7.out, Hb7.out⟩, ?_⟩
          simp [intOf]; omega
    · have hk9 : k = many := by omega
      subst hk9
      go_wp2_with fail
      go_ret
      exact ⟨_, rfl, own_mono Hown.out (by omega), Hb.out⟩
end Go.Proofs.YtiloaheaglcpbaaDoor
