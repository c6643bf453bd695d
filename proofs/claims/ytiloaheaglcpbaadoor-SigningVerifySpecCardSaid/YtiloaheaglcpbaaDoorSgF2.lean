/- Signing: a value of a chain, its end. -/
import Derived.Test.YtiloaheaglcpbaaDoorSgF1
import Derived.Test.YtiloaheaglcpbaaDoorSgB
namespace Go.Proofs.YtiloaheaglcpbaaDoor
open Go.RowKit

def secretB : List UInt8 := sB ⟨#[115, 101, 99, 114, 101, 116]⟩
/-- a value of a chain -/
def vlu (seed : List UInt8) (ix c n : Nat) : List UInt8 := flw ix c (tg secretB (seed ++ [UInt8.ofNat ix, UInt8.ofNat c])) 0 n
theorem vlu_len (seed : List UInt8) (ix c n : Nat) : (vlu seed ix c n).length = 32 := flw_len _ _ _ rfl _ _
theorem bc2 {i j : Nat} (hi : i < 256) (hj : j < 256) : bc [UInt8.ofNat i, UInt8.ofNat j] = [.int .u8 (i : Int), .int .u8 (j : Int)] := by
  have e : ∀ m : Nat, m < 256 → (UInt8.ofNat m).toNat = m := fun m h => by rw [UInt8.toNat_ofNat']; omega
  simp only [bc, List.map_cons, List.map_nil, e i hi, e j hj]
theorem cells4 {w : World} {g : Nat} {T : TypeId} {a b c d : Value} (h : Blk w g T #[a, b, c, d]) :
    w.cell? ⟨g, 0, none⟩ = some a ∧ w.cell? ⟨g, 1, none⟩ = some b ∧ w.cell? ⟨g, 2, none⟩ = some c ∧ w.cell? ⟨g, 3, none⟩ = some d :=
  ⟨by rw [h.cell]; rfl, by rw [h.cell]; rfl, by rw [h.cell]; rfl, by rw [h.cell]; rfl⟩

set_option maxRecDepth 100000 in
set_option maxHeartbeats 1000000 in
theorem value_any (seed : List UInt8) (n : Nat) (hn : seed.length = n) (hn9 : n ≤ 64) (a : Option Addr) (cap : Nat) (many used : Int) (ix c nn : Nat) (hix : ix < 256) (hc : c < 256) (hnn : nn < 256) (w : World) (hs : Sl w 1 (.slice a n cap) n (bc seed)) (hT : Tabs w) :
    Calls Tryd.prog 38 #[.agg #[.slice a n cap, .int .i64 many, .int .i64 used, .int .i64 (ix : Int)], .int .i64 (c : Int), .int .i64 (nn : Int)] w fun e w' => e = .returned (arrV (vlu seed ix c nn)) ∧ Below w.heap.size w w' := by
  obtain ⟨iu, hiu, hu0, hu1, hu2⟩ := info_parts infoU8
  have HT := Lib.hid hT
  have HS := Lib.hid hs
  have Hn := Lib.hid hn
  have h2 := bc2 hix hc
  have Htg := Lib.hid (fun v W (hs : Sl W 1 v (n + 2) (bc (seed ++ [UInt8.ofNat ix, UInt8.ofNat c]))) hT => tagged_any ⟨#[115, 101, 99, 114, 101, 116]⟩ (by decide) (seed ++ [UInt8.ofNat ix, UInt8.ofNat c]) (n + 2) (by rw [List.length_append, hn]; rfl) (by omega) (by omega) v W hs hT)
  rw [show sB ⟨#[115, 101, 99, 114, 101, 116]⟩ = secretB from rfl, bc_app, h2] at Htg
  have Hfo := Lib.hid (fun W hT => follow_any (tg secretB (seed ++ [UInt8.ofNat ix, UInt8.ofNat c])) rfl ix c 0 nn hix hc hnn W hT)
  have Hl1 := Lib.hid (show (bc (tg secretB (seed ++ [UInt8.ofNat ix, UInt8.ofNat c]))).length = 32 by rw [bc_len]; rfl)
  have Ho1 := Lib.hid (bc_one (tg secretB (seed ++ [UInt8.ofNat ix, UInt8.ofNat c])))
  have Hl2 := Lib.hid (show (bc (vlu seed ix c nn)).length = 32 by rw [bc_len, vlu_len])
  have Ho2 := Lib.hid (bc_one (vlu seed ix c nn))
  have hv : flw ix c (tg secretB (seed ++ [UInt8.ofNat ix, UInt8.ofNat c])) 0 (nn - 0) = vlu seed ix c nn := by rw [Nat.sub_zero]; rfl
  rw [hv] at Hfo
  unfold arrV at Htg Hfo ⊢
  obtain ⟨S, hS⟩ : ∃ S, bc seed = S := ⟨_, rfl⟩
  have HSl := Lib.hid (show S.length = n by rw [← hS, bc_len, hn])
  obtain ⟨D1, hD1⟩ : ∃ D1, bc (tg secretB (seed ++ [UInt8.ofNat ix, UInt8.ofNat c])) = D1 := ⟨_, rfl⟩
  obtain ⟨D2, hD2⟩ : ∃ D2, bc (vlu seed ix c nn) = D2 := ⟨_, rfl⟩
  have HSo := Lib.hid (show ∀ v ∈ S, v.oneCell' = true by rw [← hS]; exact bc_one seed)
  rw [hS] at HS Htg
  rw [hD1] at Htg Hfo Hl1 Ho1
  rw [hD2] at Hfo Hl2 Ho2 ⊢
  have hg1 := (Blk.new w 61 #[.slice a n cap, .int .i64 many, .int .i64 used, .int .i64 (ix : Int)]).alloc (.cells #[.int .u8 0, .int .u8 0, .int .u8 0, .int .u8 0, .int .u8 0, .int .u8 0, .int .u8 0, .int .u8 0, .int .u8 0, .int .u8 0, .int .u8 0, .int .u8 0, .int .u8 0, .int .u8 0, .int .u8 0, .int .u8 0, .int .u8 0, .int .u8 0, .int .u8 0, .int .u8 0, .int .u8 0, .int .u8 0, .int .u8 0, .int .u8 0, .int .u8 0, .int .u8 0, .int .u8 0, .int .u8 0, .int .u8 0, .int .u8 0, .int .u8 0, .int .u8 0] 26)
  have hg2 := Blk.new (w.alloc (.cells #[.slice a n cap, .int .i64 many, .int .i64 used, .int .i64 (ix : Int)] 61)) 26 #[.int .u8 0, .int .u8 0, .int .u8 0, .int .u8 0, .int .u8 0, .int .u8 0, .int .u8 0, .int .u8 0, .int .u8 0, .int .u8 0, .int .u8 0, .int .u8 0, .int .u8 0, .int .u8 0, .int .u8 0, .int .u8 0, .int .u8 0, .int .u8 0, .int .u8 0, .int .u8 0, .int .u8 0, .int .u8 0, .int .u8 0, .int .u8 0, .int .u8 0, .int .u8 0, .int .u8 0, .int .u8 0, .int .u8 0, .int .u8 0, .int .u8 0, .int .u8 0]
  rw [World.size_alloc] at hg2
  have hb := (below_alloc w (.cells #[.slice a n cap, .int .i64 many, .int .i64 used, .int .i64 (ix : Int)] 61)).alloc (by simp) (.cells #[.int .u8 0, .int .u8 0, .int .u8 0, .int .u8 0, .int .u8 0, .int .u8 0, .int .u8 0, .int .u8 0, .int .u8 0, .int .u8 0, .int .u8 0, .int .u8 0, .int .u8 0, .int .u8 0, .int .u8 0, .int .u8 0, .int .u8 0, .int .u8 0, .int .u8 0, .int .u8 0, .int .u8 0, .int .u8 0, .int .u8 0, .int .u8 0, .int .u8 0, .int .u8 0, .int .u8 0, .int .u8 0, .int .u8 0, .int .u8 0, .int .u8 0, .int .u8 0] 26)
  obtain ⟨w0, hw0⟩ : ∃ w0, (w.alloc (.cells #[.slice a n cap, .int .i64 many, .int .i64 used, .int .i64 (ix : Int)] 61)).alloc (.cells #[.int .u8 0, .int .u8 0, .int .u8 0, .int .u8 0, .int .u8 0, .int .u8 0, .int .u8 0, .int .u8 0, .int .u8 0, .int .u8 0, .int .u8 0, .int .u8 0, .int .u8 0, .int .u8 0, .int .u8 0, .int .u8 0, .int .u8 0, .int .u8 0, .int .u8 0, .int .u8 0, .int .u8 0, .int .u8 0, .int .u8 0, .int .u8 0, .int .u8 0, .int .u8 0, .int .u8 0, .int .u8 0, .int .u8 0, .int .u8 0, .int .u8 0, .int .u8 0] 26) = w0 := ⟨_, rfl⟩
  rw [hw0] at hg1 hg2 hb
  have HW0 := Lib.hid hw0
  have H1 := Lib.hid hg1
  have H2 := Lib.hid hg2
  have Hb := Lib.hid hb
  have ho := own_empty' ((w.alloc (.cells #[.slice a n cap, .int .i64 many, .int .i64 used, .int .i64 (ix : Int)] 61)).alloc (.cells #[.int .u8 0, .int .u8 0, .int .u8 0, .int .u8 0, .int .u8 0, .int .u8 0, .int .u8 0, .int .u8 0, .int .u8 0, .int .u8 0, .int .u8 0, .int .u8 0, .int .u8 0, .int .u8 0, .int .u8 0, .int .u8 0, .int .u8 0, .int .u8 0, .int .u8 0, .int .u8 0, .int .u8 0, .int .u8 0, .int .u8 0, .int .u8 0, .int .u8 0, .int .u8 0, .int .u8 0, .int .u8 0, .int .u8 0, .int .u8 0, .int .u8 0, .int .u8 0] 26)) (w.heap.size + 1 + 1) (by simp) 5 1
  simp only [World.size_alloc] at ho
  have HO := Lib.hid ho
  have hsz : w0.heap.size = w.heap.size + 1 + 1 := by rw [← hw0]; simp
  have HSZ := Lib.hid hsz
  obtain ⟨c0, c1, c2, c3⟩ := cells4 hg1
  have hl0 : w.heap.size < w0.heap.size := hg1.lt
  have HSL := Lib.hid ((HS.out.next Hb.out).alloc (.cells #[] 5))
  clear hs hT hn hS hD1 hD2 hg1 hg2 hb hw0 h2 hv ho
  have e0 : (w.alloc (.cells #[.slice a n cap, .int .i64 many, .int .i64 used, .int .i64 (ix : Int)] 61)).cell? ⟨w.heap.size, 0, none⟩ = some (.slice a n cap) := by rw [(Blk.new w _ _).cell]; rfl
  go_enter Tryd.func38, Tryd.ntmps38
  go_wp2_with (first
    | (at_builtin; refine wpList_append_sl _ rfl (.tmp 9) (.tmp 12) 22 rfl (w.heap.size + 1 + 1) 5 iu _ 1 Tryd.underlying22 hiu hu0 hu1 hu2 rfl (.slice (some ⟨w.heap.size + 1 + 1, 0, none⟩) 0 0) 0 [] rfl HO.out (.slice a n cap) n S rfl (by rw [HW0.out]; exact HSL.out) HSo.out (by unfold maxLen; omega) (by omega) (by simp) ?_
       intro v6 w6 hown6 hg6
       rw [HW0.out] at hg6
       rw [Nat.zero_add] at hown6
       have hb6 : Below w0.heap.size w0 w6 := (below_alloc w0 _).grown hg6 (by simp) (fun k hk => by cases hk; rw [HSZ.out]; exact Nat.le_refl _)
       obtain ⟨d0, d1, d2, d3⟩ := cells4 (H1.out.below hb6 H1.out.lt)
       have Hown := Lib.hid hown6
       have Hs6 := hb6.size
       clear hown6 hg6)
    | (at_builtin; refine wpList_append_sl _ rfl (.tmp 14) (.tmp 20) 22 rfl (w.heap.size + 1 + 1) 5 iu _ 1 Tryd.underlying22 hiu hu0 hu1 hu2 rfl v6 n S rfl (Hown.out.alloc _) (.slice (some ⟨w6.heap.size, 0, none⟩) 2 2) 2 [.int .u8 (ix : Int), .int .u8 (c : Int)] rfl ((Blk.new w6 5 #[.int .u8 (ix : Int), .int .u8 (c : Int)]).sl rfl rfl) (by intro u hu; simp at hu; rcases hu with rfl | rfl <;> rfl) (by unfold maxLen; omega) (by omega) (by have := HSZ.out; rw [World.size_alloc]; omega) ?_
       intro v7 w7 hown7 hg7
       have hb7 : Below w0.heap.size w0 w7 := (hb6.alloc hb6.size _).grown hg7 (by have := hb6.size; rw [World.size_alloc]; omega) (fun k hk => by have := (Hown.out.lt _ hk).1; have := HSZ.out; omega)
       have Hs7 := Lib.hid (Sl.of_own hown7)
       clear hown7 hg7)
    | (refine (Htg.out _ _ Hs7.out (HT.out.next (Hb.out.trans (hb7.mono Hb.out.size)))).mono ?_
       rintro e w8 ⟨rfl, hb8⟩
       have hb8' := hb7.trans (hb8.mono hb7.size)
       have hB5 := Blk.new w8 26 #[.int .u8 0, .int .u8 0, .int .u8 0, .int .u8 0, .int .u8 0, .int .u8 0, .int .u8 0, .int .u8 0, .int .u8 0, .int .u8 0, .int .u8 0, .int .u8 0, .int .u8 0, .int .u8 0, .int .u8 0, .int .u8 0, .int .u8 0, .int .u8 0, .int .u8 0, .int .u8 0, .int .u8 0, .int .u8 0, .int .u8 0, .int .u8 0, .int .u8 0, .int .u8 0, .int .u8 0, .int .u8 0, .int .u8 0, .int .u8 0, .int .u8 0, .int .u8 0]
       have hB5' := hB5.setRow D1.toArray
       have hB2 := ((H2.out.below hb8' H2.out.lt).alloc (.cells #[.int .u8 0, .int .u8 0, .int .u8 0, .int .u8 0, .int .u8 0, .int .u8 0, .int .u8 0, .int .u8 0, .int .u8 0, .int .u8 0, .int .u8 0, .int .u8 0, .int .u8 0, .int .u8 0, .int .u8 0, .int .u8 0, .int .u8 0, .int .u8 0, .int .u8 0, .int .u8 0, .int .u8 0, .int .u8 0, .int .u8 0, .int .u8 0, .int .u8 0, .int .u8 0, .int .u8 0, .int .u8 0, .int .u8 0, .int .u8 0, .int .u8 0, .int .u8 0] 26)).farRow (g' := w8.heap.size) (by have := H2.out.lt; have := hb8'.size; omega) D1.toArray
       have hB1 := ((H1.out.below hb8' H1.out.lt).alloc (.cells #[.int .u8 0, .int .u8 0, .int .u8 0, .int .u8 0, .int .u8 0, .int .u8 0, .int .u8 0, .int .u8 0, .int .u8 0, .int .u8 0, .int .u8 0, .int .u8 0, .int .u8 0, .int .u8 0, .int .u8 0, .int .u8 0, .int .u8 0, .int .u8 0, .int .u8 0, .int .u8 0, .int .u8 0, .int .u8 0, .int .u8 0, .int .u8 0, .int .u8 0, .int .u8 0, .int .u8 0, .int .u8 0, .int .u8 0, .int .u8 0, .int .u8 0, .int .u8 0] 26)).farRow (g' := w8.heap.size) (by have := H1.out.lt; have := hb8'.size; omega) D1.toArray
       have hb9 := setRow_below (g := w8.heap.size) (hb8'.alloc hb8'.size (.cells #[.int .u8 0, .int .u8 0, .int .u8 0, .int .u8 0, .int .u8 0, .int .u8 0, .int .u8 0, .int .u8 0, .int .u8 0, .int .u8 0, .int .u8 0, .int .u8 0, .int .u8 0, .int .u8 0, .int .u8 0, .int .u8 0, .int .u8 0, .int .u8 0, .int .u8 0, .int .u8 0, .int .u8 0, .int .u8 0, .int .u8 0, .int .u8 0, .int .u8 0, .int .u8 0, .int .u8 0, .int .u8 0, .int .u8 0, .int .u8 0, .int .u8 0, .int .u8 0] 26)) hb8'.size D1.toArray
       obtain ⟨w9, hw9⟩ : ∃ w9, (w8.alloc (.cells #[.int .u8 0, .int .u8 0, .int .u8 0, .int .u8 0, .int .u8 0, .int .u8 0, .int .u8 0, .int .u8 0, .int .u8 0, .int .u8 0, .int .u8 0, .int .u8 0, .int .u8 0, .int .u8 0, .int .u8 0, .int .u8 0, .int .u8 0, .int .u8 0, .int .u8 0, .int .u8 0, .int .u8 0, .int .u8 0, .int .u8 0, .int .u8 0, .int .u8 0, .int .u8 0, .int .u8 0, .int .u8 0, .int .u8 0, .int .u8 0, .int .u8 0, .int .u8 0] 26)).setRow w8.heap.size D1.toArray = w9 := ⟨_, rfl⟩
       rw [hw9] at hB5' hB2 hB1 hb9
       have HW9 := Lib.hid hw9
       have HB5 := Lib.hid hB5
       have HB5' := Lib.hid hB5'
       have HB2 := Lib.hid hB2
       obtain ⟨f0, f1, f2, f3⟩ := cells4 hB1
       have Hb9 := Lib.hid (Hb.out.trans (hb9.mono Hb.out.size))
       clear hb6 hb7 hb8 hb8' hB5 hB5' hB2 hB1 hb9 hw9 d0 d1 d2 d3 c0 c1 c2 c3)
    | (refine wpList_store_row rfl 26 _ _ rfl w8.heap.size D1.toArray rfl rfl 26 _ HB5.out (by rw [List.size_toArray, Hl1.out]; exact infoDg) (show 32 = D1.length from Hl1.out.symm) (all_oneCell_toArray Ho1.out) ?_
       rw [HW9.out])
    | (refine wpList_load_row rfl 26 _ rfl w8.heap.size rfl 26 D1.toArray (0, 0) _ HB5'.out Tryd.underlying26 rfl (by rw [List.size_toArray, Hl1.out]; exact infoDg) ?_)
    | (refine (Hfo.out _ (HT.out.next Hb9.out)).mono ?_
       rintro e w10 ⟨rfl, hb10⟩
       have HB2b := Lib.hid (HB2.out.below hb10 HB2.out.lt)
       have Hb10 := Lib.hid (Hb9.out.trans (hb10.mono Hb9.out.size))
       clear hb10)
    | (refine wpList_store_row rfl 26 _ _ rfl (w.heap.size + 1) D2.toArray rfl rfl 26 _ HB2b.out (by rw [List.size_toArray, Hl2.out]; exact infoDg) (show 32 = D2.length from Hl2.out.symm) (all_oneCell_toArray Ho2.out) ?_))
  refine bodyPost_ret (v := .agg D2.toArray) (results_cell_row rfl _ _ (w.heap.size + 1) 26 D2.toArray (0, 0) _ rfl (HB2b.out.setRow D2.toArray) Tryd.underlying26 rfl (by rw [List.size_toArray, Hl2.out]; exact infoDg)) rfl ?_
  exact ⟨rfl, setRow_below Hb10.out (by omega) _⟩
end Go.Proofs.YtiloaheaglcpbaaDoor
