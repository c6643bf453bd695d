/- Signing: the public key of a one-time key. -/
import Derived.Test.YtiloaheaglcpbaaDoorSgF2
import Derived.Laws.EntriesVeiled
namespace Go.Proofs.YtiloaheaglcpbaaDoor
open Go.RowKit

def oneB : List UInt8 := sB ⟨#[111, 110, 101]⟩
/-- the ends of the chains one behind the other -/
def ends (E : Nat → List UInt8) (k : Nat) : List UInt8 := (List.range k).flatMap E
theorem ends_succ (E : Nat → List UInt8) (k : Nat) : ends E (k + 1) = ends E k ++ E k := by
  unfold ends
  rw [List.range_succ, List.flatMap_append, List.flatMap_cons, List.flatMap_nil, List.append_nil]
theorem ends_len (E : Nat → List UInt8) (hE : ∀ j, (E j).length = 32) (k : Nat) : (ends E k).length = k * 32 := by
  induction k with
  | zero => rfl
  | succ k ih => rw [ends_succ, List.length_append, ih, hE]; omega
/-- the public key for the ends of the chains -/
def opub (E : Nat → List UInt8) : List UInt8 := tg oneB (ends E 67)
theorem own_next {w w' : World} {B : Nat} {e : TypeId} {size : Nat} {v : Value} {n : Nat} {xs : List Value} (h : w.ownsRow B e size v n xs) (hb : Below w.heap.size w w') : w'.ownsRow B e size v n xs := by
  rcases h with ⟨h1, h2 | ⟨g, cap, cur, e1, e2, e3, r⟩⟩
  · exact ⟨h1, .inl h2⟩
  · exact ⟨h1, .inr ⟨g, cap, cur, e1, e2, (hb.block g (by rcases Nat.lt_or_ge g w.heap.size with h | h; exact h; rw [Array.getElem?_eq_none h] at e3; cases e3)).trans e3, r⟩⟩

theorem blk_grown {w w' : World} {g : Nat} {t : TypeId} {cs : Array Value} {row : Option Nat} (h : Blk w g t cs) (hb : w.grownBy w' row) (hg : some g ≠ row) : Blk w' g t cs := (hb.block g h.lt hg).trans h
theorem opub_len (E : Nat → List UInt8) : (opub E).length = 32 := rfl

set_option maxRecDepth 100000 in
theorem end_any (seed : List UInt8) (n : Nat) (hn : seed.length = n) (hn9 : n ≤ 64) (a : Option Addr) (cap : Nat) (many used : Int) (ix c : Nat) (hix : ix < 256) (hc : c < 256) (w : World) (hs : Sl w 1 (.slice a n cap) n (bc seed)) (hT : Tabs w) :
    Calls Tryd.prog 55 #[.agg #[.slice a n cap, .int .i64 many, .int .i64 used, .int .i64 (ix : Int)], .int .i64 (c : Int)] w fun e w' => e = .returned (arrV (vlu seed ix c 15)) ∧ Below w.heap.size w w' := by
  have HV := Lib.hid (fun W (hb : Below w.heap.size w W) => value_any seed n hn hn9 a cap many used ix c 15 hix hc (by omega) W (hs.next hb) (hT.next hb))
  have Hl2 := Lib.hid (show (bc (vlu seed ix c 15)).length = 32 by rw [bc_len, vlu_len])
  have Ho2 := Lib.hid (bc_one (vlu seed ix c 15))
  unfold arrV at HV ⊢
  obtain ⟨D2, hD2⟩ : ∃ D2, bc (vlu seed ix c 15) = D2 := ⟨_, rfl⟩
  rw [hD2] at HV Hl2 Ho2 ⊢
  have hg1 := (Blk.new w 61 #[.slice a n cap, .int .i64 many, .int .i64 used, .int .i64 (ix : Int)]).alloc (.cells #[.int .u8 0, .int .u8 0, .int .u8 0, .int .u8 0, .int .u8 0, .int .u8 0, .int .u8 0, .int .u8 0, .int .u8 0, .int .u8 0, .int .u8 0, .int .u8 0, .int .u8 0, .int .u8 0, .int .u8 0, .int .u8 0, .int .u8 0, .int .u8 0, .int .u8 0, .int .u8 0, .int .u8 0, .int .u8 0, .int .u8 0, .int .u8 0, .int .u8 0, .int .u8 0, .int .u8 0, .int .u8 0, .int .u8 0, .int .u8 0, .int .u8 0, .int .u8 0] 26)
  have hg2 := Blk.new (w.alloc (.cells #[.slice a n cap, .int .i64 many, .int .i64 used, .int .i64 (ix : Int)] 61)) 26 #[.int .u8 0, .int .u8 0, .int .u8 0, .int .u8 0, .int .u8 0, .int .u8 0, .int .u8 0, .int .u8 0, .int .u8 0, .int .u8 0, .int .u8 0, .int .u8 0, .int .u8 0, .int .u8 0, .int .u8 0, .int .u8 0, .int .u8 0, .int .u8 0, .int .u8 0, .int .u8 0, .int .u8 0, .int .u8 0, .int .u8 0, .int .u8 0, .int .u8 0, .int .u8 0, .int .u8 0, .int .u8 0, .int .u8 0, .int .u8 0, .int .u8 0, .int .u8 0]
  rw [World.size_alloc] at hg2
  have H2 := Lib.hid hg2
  have Hb := Lib.hid ((below_alloc w (.cells #[.slice a n cap, .int .i64 many, .int .i64 used, .int .i64 (ix : Int)] 61)).alloc (by simp) (.cells #[.int .u8 0, .int .u8 0, .int .u8 0, .int .u8 0, .int .u8 0, .int .u8 0, .int .u8 0, .int .u8 0, .int .u8 0, .int .u8 0, .int .u8 0, .int .u8 0, .int .u8 0, .int .u8 0, .int .u8 0, .int .u8 0, .int .u8 0, .int .u8 0, .int .u8 0, .int .u8 0, .int .u8 0, .int .u8 0, .int .u8 0, .int .u8 0, .int .u8 0, .int .u8 0, .int .u8 0, .int .u8 0, .int .u8 0, .int .u8 0, .int .u8 0, .int .u8 0] 26))
  obtain ⟨c0, c1, c2, c3⟩ := cells4 hg1
  clear hs hT hn hD2 hg1 hg2
  go_enter Tryd.func55, Tryd.ntmps55
  go_wp2_with fail
  refine (HV.out _ Hb.out).mono ?_
  rintro e w7 ⟨rfl, hb7⟩
  have HB7 := Lib.hid (H2.out.below hb7 H2.out.lt)
  have Hb7 := Lib.hid (Hb.out.trans (hb7.mono Hb.out.size))
  clear hb7 H2 Hb c0 c1 c2 c3
  go_wp2_with (refine wpList_store_row rfl 26 _ _ rfl (w.heap.size + 1) D2.toArray rfl rfl 26 _ HB7.out (by rw [List.size_toArray, Hl2.out]; exact infoDg) (show 32 = D2.length from Hl2.out.symm) (all_oneCell_toArray Ho2.out) ?_)
  refine bodyPost_ret (v := .agg D2.toArray) (results_cell_row rfl _ _ (w.heap.size + 1) 26 D2.toArray (0, 0) _ rfl (HB7.out.setRow D2.toArray) Tryd.underlying26 rfl (by rw [List.size_toArray, Hl2.out]; exact infoDg)) rfl ?_
  exact ⟨rfl, setRow_below Hb7.out (by omega) _⟩

set_option maxRecDepth 100000 in
set_option maxHeartbeats 1000000 in
theorem opub_end (seed : List UInt8) (n : Nat) (hn : seed.length = n) (hn9 : n ≤ 64) (a : Option Addr) (cap : Nat) (many used : Int) (ix : Nat) (hix : ix < 256) (w : World) (hs : Sl w 1 (.slice a n cap) n (bc seed)) (hT : Tabs w) :
    Calls Tryd.prog 44 #[.func (.func 55) #[.agg #[.slice a n cap, .int .i64 many, .int .i64 used, .int .i64 (ix : Int)]] #[]] w fun e w' => e = .returned (arrV (opub fun c => vlu seed ix c 15)) ∧ Below w.heap.size w w' := by
  have HE := Lib.hid (fun (k : Nat) W (hk : k < 67) (hb : Below w.heap.size w W) => end_any seed n hn hn9 a cap many used ix k hix (by omega) W (hs.next hb) (hT.next hb))
  have hEl : ∀ j, ((fun c => vlu seed ix c 15) j).length = 32 := fun j => vlu_len _ _ _ _
  have hE1 : ∀ k, (fun c => vlu seed ix c 15) k = vlu seed ix k 15 := fun k => rfl
  obtain ⟨E, hEd⟩ : ∃ E, (fun c => vlu seed ix c 15) = E := ⟨_, rfl⟩
  rw [hEd] at hEl ⊢
  have hE2 : ∀ k, vlu seed ix k 15 = E k := fun k => by rw [← hEd]
  simp only [hE2] at HE
  clear hs hn hEd hE1 hE2
  have HEl := Lib.hid hEl
  have HT := Lib.hid hT
  obtain ⟨iu, hiu, hu0, hu1, hu2⟩ := info_parts infoU8
  have HB := Lib.hid (Blk.new w 26 #[.int .u8 0, .int .u8 0, .int .u8 0, .int .u8 0, .int .u8 0, .int .u8 0, .int .u8 0, .int .u8 0, .int .u8 0, .int .u8 0, .int .u8 0, .int .u8 0, .int .u8 0, .int .u8 0, .int .u8 0, .int .u8 0, .int .u8 0, .int .u8 0, .int .u8 0, .int .u8 0, .int .u8 0, .int .u8 0, .int .u8 0, .int .u8 0, .int .u8 0, .int .u8 0, .int .u8 0, .int .u8 0, .int .u8 0, .int .u8 0, .int .u8 0, .int .u8 0])
  have Hb := Lib.hid (below_alloc w (.cells #[.int .u8 0, .int .u8 0, .int .u8 0, .int .u8 0, .int .u8 0, .int .u8 0, .int .u8 0, .int .u8 0, .int .u8 0, .int .u8 0, .int .u8 0, .int .u8 0, .int .u8 0, .int .u8 0, .int .u8 0, .int .u8 0, .int .u8 0, .int .u8 0, .int .u8 0, .int .u8 0, .int .u8 0, .int .u8 0, .int .u8 0, .int .u8 0, .int .u8 0, .int .u8 0, .int .u8 0, .int .u8 0, .int .u8 0, .int .u8 0, .int .u8 0, .int .u8 0] 26))
  have Htg := Lib.hid (fun v W (hs : Sl W 1 v 2144 (bc (ends E 67))) hT => tagged_any ⟨#[111, 110, 101]⟩ (by decide) (ends E 67) 2144 (by rw [ends_len E hEl]) (by omega) (by omega) v W hs hT)
  rw [show tg (sB ⟨#[111, 110, 101]⟩) (ends E 67) = opub E from rfl] at Htg
  have Hl2 := Lib.hid (show (bc (opub E)).length = 32 by rw [bc_len, opub_len])
  have Ho2 := Lib.hid (bc_one (opub E))
  unfold arrV at HE Htg ⊢
  obtain ⟨D2, hD2⟩ : ∃ D2, bc (opub E) = D2 := ⟨_, rfl⟩
  rw [hD2] at Htg Hl2 Ho2 ⊢
  clear hEl hT hD2
  go_enter Tryd.func44, Tryd.ntmps44
  go_wp2_with fail
  go_loopw [3, 6] (fun b i wr => ∃ k : Nat, k ≤ 67 ∧ i = .int .i64 k ∧ wr.ownsRow (w.heap.size + 1) 5 1 b (k * 32) (bc (ends E k)) ∧ Blk wr w.heap.size 26 #[.int .u8 0, .int .u8 0, .int .u8 0, .int .u8 0, .int .u8 0, .int .u8 0, .int .u8 0, .int .u8 0, .int .u8 0, .int .u8 0, .int .u8 0, .int .u8 0, .int .u8 0, .int .u8 0, .int .u8 0, .int .u8 0, .int .u8 0, .int .u8 0, .int .u8 0, .int .u8 0, .int .u8 0, .int .u8 0, .int .u8 0, .int .u8 0, .int .u8 0, .int .u8 0, .int .u8 0, .int .u8 0, .int .u8 0, .int .u8 0, .int .u8 0, .int .u8 0] ∧ Below w.heap.size w wr) (fun _ i _ => 67 - (intOf i).toNat)
  case atStart => exact ⟨0, by omega, rfl, World.ownsRow_nil _ _ _ _, HB.out, Hb.out⟩
  case round =>
    clear HB Hb
    obtain ⟨k, hk, rfl, hown, hB, hb⟩ := hrel
    obtain ⟨ba, bcap, rfl⟩ := (Sl.of_own hown).form
    have HB := Lib.hid hB
    have Hb := Lib.hid hb
    have Hown := Lib.hid hown
    clear hB hb hown
    by_cases hlt : k < 67
    · have Hl1 := Lib.hid (show (bc (E k)).length = 32 by rw [bc_len, HEl.out])
      have Ho1 := Lib.hid (bc_one (E k))
      have Hap := Lib.hid (show bc (ends E k) ++ bc (E k) = bc (ends E (k + 1)) by rw [ends_succ, bc_app])
      have HEk := Lib.hid (HE.out k)
      obtain ⟨D1, hD1⟩ : ∃ D1, bc (E k) = D1 := ⟨_, rfl⟩
      rw [hD1] at HEk Hl1 Ho1 Hap
      clear hD1
      have k1 : (67 : Int) - ((k : Int) + 1) = 66 - k := by omega
      go_wp2_with (first
        | (refine (HEk.out _ (by omega) Hb.out).mono ?_
           rintro e w8 ⟨rfl, hb8⟩
           have hB5 := Blk.new w8 26 #[.int .u8 0, .int .u8 0, .int .u8 0, .int .u8 0, .int .u8 0, .int .u8 0, .int .u8 0, .int .u8 0, .int .u8 0, .int .u8 0, .int .u8 0, .int .u8 0, .int .u8 0, .int .u8 0, .int .u8 0, .int .u8 0, .int .u8 0, .int .u8 0, .int .u8 0, .int .u8 0, .int .u8 0, .int .u8 0, .int .u8 0, .int .u8 0, .int .u8 0, .int .u8 0, .int .u8 0, .int .u8 0, .int .u8 0, .int .u8 0, .int .u8 0, .int .u8 0]
           have hB5' := hB5.setRow D1.toArray
           have hb9 := setRow_below (g := w8.heap.size) (hb8.alloc hb8.size (.cells #[.int .u8 0, .int .u8 0, .int .u8 0, .int .u8 0, .int .u8 0, .int .u8 0, .int .u8 0, .int .u8 0, .int .u8 0, .int .u8 0, .int .u8 0, .int .u8 0, .int .u8 0, .int .u8 0, .int .u8 0, .int .u8 0, .int .u8 0, .int .u8 0, .int .u8 0, .int .u8 0, .int .u8 0, .int .u8 0, .int .u8 0, .int .u8 0, .int .u8 0, .int .u8 0, .int .u8 0, .int .u8 0, .int .u8 0, .int .u8 0, .int .u8 0, .int .u8 0] 26)) hb8.size D1.toArray
           obtain ⟨w9, hw9⟩ : ∃ w9, (w8.alloc (.cells #[.int .u8 0, .int .u8 0, .int .u8 0, .int .u8 0, .int .u8 0, .int .u8 0, .int .u8 0, .int .u8 0, .int .u8 0, .int .u8 0, .int .u8 0, .int .u8 0, .int .u8 0, .int .u8 0, .int .u8 0, .int .u8 0, .int .u8 0, .int .u8 0, .int .u8 0, .int .u8 0, .int .u8 0, .int .u8 0, .int .u8 0, .int .u8 0, .int .u8 0, .int .u8 0, .int .u8 0, .int .u8 0, .int .u8 0, .int .u8 0, .int .u8 0, .int .u8 0] 26)).setRow w8.heap.size D1.toArray = w9 := ⟨_, rfl⟩
           rw [hw9] at hB5' hb9
           have HW9 := Lib.hid hw9
           have HB5 := Lib.hid hB5
           have HB5' := Lib.hid hB5'
           have HB2 := Lib.hid (HB.out.below hb9 HB.out.lt)
           have Hb9 := Lib.hid (Hb.out.trans (hb9.mono Hb.out.size))
           have Hown9 := Lib.hid (own_next Hown.out hb9)
           have Hsz9 := Lib.hid (show w.heap.size + 1 ≤ w9.heap.size from HB2.out.lt)
           clear hb8 hB5 hB5' hb9 hw9)
        | (refine wpList_store_row rfl 26 _ _ rfl w8.heap.size D1.toArray rfl rfl 26 _ HB5.out (by rw [List.size_toArray, Hl1.out]; exact infoDg) (show 32 = D1.length from Hl1.out.symm) (all_oneCell_toArray Ho1.out) ?_
           rw [HW9.out])
        | (at_builtin; refine wpList_append_sl _ rfl (.tmp 12) (.tmp 13) 22 rfl (w.heap.size + 1) 5 iu _ 1 Tryd.underlying22 hiu hu0 hu1 hu2 rfl (.slice ba (k * 32) bcap) (k * 32) (bc (ends E k)) rfl Hown9.out (.slice (some ⟨w8.heap.size, 0, none⟩) 32 32) 32 D1 rfl (HB5'.out.sl rfl Hl1.out) Ho1.out (by unfold maxLen; omega) (by omega) Hsz9.out ?_
           intro v7 w7 hown7 hg7
           have hb7 : Below w.heap.size w w7 := Hb9.out.grown hg7 (by have := Hsz9.out; omega) (fun k hk => by have := (Hown9.out.lt _ hk).1; omega)
           have hB7 : Blk w7 w.heap.size 26 #[.int .u8 0, .int .u8 0, .int .u8 0, .int .u8 0, .int .u8 0, .int .u8 0, .int .u8 0, .int .u8 0, .int .u8 0, .int .u8 0, .int .u8 0, .int .u8 0, .int .u8 0, .int .u8 0, .int .u8 0, .int .u8 0, .int .u8 0, .int .u8 0, .int .u8 0, .int .u8 0, .int .u8 0, .int .u8 0, .int .u8 0, .int .u8 0, .int .u8 0, .int .u8 0, .int .u8 0, .int .u8 0, .int .u8 0, .int .u8 0, .int .u8 0, .int .u8 0] := blk_grown HB2.out hg7 (fun e => by have := (Hown9.out.lt _ e.symm).1; omega)
           rw [Hap.out] at hown7
           have Hb7 := Lib.hid hb7
           have HB7 := Lib.hid hB7
           have Hown7 := Lib.hid hown7
           clear hb7 hB7 hown7 hg7))
      go_roundw
      case rel => exact ⟨k + 1, by omega, by go_num, by rw [Nat.add_mul]; exact Hown7.out, HB7.out, Hb7.out⟩
      case measure => simp [intOf]; omega
    · have hk9 : k = 67 := by omega
      subst hk9
      clear hlt hk
      go_wp2_with fail
      refine (Htg.out _ _ (Sl.of_own Hown.out) (HT.out.next Hb.out)).mono ?_
      rintro e w7 ⟨rfl, hb7⟩
      have HB7 := Lib.hid (HB.out.below hb7 HB.out.lt)
      have Hb7 := Lib.hid (Hb.out.trans (hb7.mono Hb.out.size))
      clear hb7 HB Hb
      go_wp2_with (refine wpList_store_row rfl 26 _ _ rfl w.heap.size D2.toArray rfl rfl 26 _ HB7.out (by rw [List.size_toArray, Hl2.out]; exact infoDg) (show 32 = D2.length from Hl2.out.symm) (all_oneCell_toArray Ho2.out) ?_)
      refine bodyPost_ret (v := .agg D2.toArray) (results_cell_row rfl _ _ w.heap.size 26 D2.toArray (0, 0) _ rfl (HB7.out.setRow D2.toArray) Tryd.underlying26 rfl (by rw [List.size_toArray, Hl2.out]; exact infoDg)) rfl ?_
      exact ⟨rfl, setRow_below Hb7.out (Nat.le_refl _) _⟩
end Go.Proofs.YtiloaheaglcpbaaDoor
