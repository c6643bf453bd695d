/- Signing: the one-time public keys. -/
import Derived.Test.YtiloaheaglcpbaaDoorSgF3
namespace Go.Proofs.YtiloaheaglcpbaaDoor
open Go.RowKit

theorem infoD32 : (Tryd.prog.info? 26).map (fun t => (t.zero, t.size, t.bytes)) = some (some (.agg #[.int .u8 0, .int .u8 0, .int .u8 0, .int .u8 0, .int .u8 0, .int .u8 0, .int .u8 0, .int .u8 0, .int .u8 0, .int .u8 0, .int .u8 0, .int .u8 0, .int .u8 0, .int .u8 0, .int .u8 0, .int .u8 0, .int .u8 0, .int .u8 0, .int .u8 0, .int .u8 0, .int .u8 0, .int .u8 0, .int .u8 0, .int .u8 0, .int .u8 0, .int .u8 0, .int .u8 0, .int .u8 0, .int .u8 0, .int .u8 0, .int .u8 0, .int .u8 0]), 32, 32) := by kernel_rfl
theorem own_mono {w : World} {B B' : Nat} {e : TypeId} {size : Nat} {v : Value} {n : Nat} {xs : List Value} (h : w.ownsRow B e size v n xs) (hb : B' ≤ B) : w.ownsRow B' e size v n xs := by
  rcases h with ⟨h1, h2 | ⟨g, cap, cur, e1, e2, r⟩⟩
  · exact ⟨h1, .inl h2⟩
  · exact ⟨h1, .inr ⟨g, cap, cur, e1, by omega, r⟩⟩
theorem fold_zip (D : List Value) : ∀ (cs : Array Value) (k : Nat), k + D.length ≤ cs.size →
    ((D.zipIdx k).foldl (fun cs x => cs.setIfInBounds x.snd x.fst) cs).size = cs.size ∧ ∀ j, ((D.zipIdx k).foldl (fun cs x => cs.setIfInBounds x.snd x.fst) cs)[j]? = if k ≤ j ∧ j < k + D.length then D[j - k]? else cs[j]? := by
  induction D with
  | nil => intro cs k _; exact ⟨rfl, fun j => by rw [if_neg (by rintro ⟨h1, h2⟩; simp only [List.length_nil] at h2; omega)]; rfl⟩
  | cons d D ih =>
    intro cs k h
    rw [List.length_cons] at h
    rw [List.zipIdx_cons, List.foldl_cons]
    obtain ⟨h1, h2⟩ := ih (cs.setIfInBounds k d) (k + 1) (by simp; omega)
    refine ⟨by rw [h1]; simp, fun j => ?_⟩
    rw [h2 j, List.length_cons]
    by_cases hj : k + 1 ≤ j ∧ j < k + 1 + D.length
    · rw [if_pos hj, if_pos (by omega), show j - k = (j - (k + 1)) + 1 by omega, List.getElem?_cons_succ]
    · rw [if_neg hj]
      by_cases hk : j = k
      · subst hk
        rw [if_pos (by omega), Nat.sub_self, List.getElem?_cons_zero, Array.getElem?_setIfInBounds_self_of_lt (by omega)]
      · rw [if_neg (by omega), Array.getElem?_setIfInBounds_ne (by omega)]
theorem fold_all (D : List Value) (cs : Array Value) (h : D.length = cs.size) : D.zipIdx.foldl (fun cs x => cs.setIfInBounds x.snd x.fst) cs = D.toArray := by
  obtain ⟨h1, h2⟩ := fold_zip D cs 0 (by omega)
  refine Array.ext_getElem? fun j => ?_
  rw [h2 j]
  by_cases hj : j < D.length
  · rw [if_pos (by omega), Nat.sub_zero, List.getElem?_toArray]
  · rw [if_neg (by omega), Array.getElem?_eq_none (by omega), Array.getElem?_eq_none (by rw [List.size_toArray]; omega)]
/-- the public key of a one-time key -/
def pk1 (seed : List UInt8) (i : Nat) : List UInt8 := opub fun c => vlu seed i c 15
theorem pk1_len (seed : List UInt8) (i : Nat) : (pk1 seed i).length = 32 := rfl
/-- the cells of the first k -/
def pkC (seed : List UInt8) (k : Nat) : List Value := bc (ends (pk1 seed) k)
theorem pkC_len (seed : List UInt8) (k : Nat) : (pkC seed k).length = k * 32 := by rw [pkC, bc_len, ends_len _ (pk1_len seed)]
theorem pkC_succ (seed : List UInt8) (k : Nat) : pkC seed k ++ bc (pk1 seed k) = pkC seed (k + 1) := by rw [pkC, pkC, ends_succ, bc_app]

set_option maxRecDepth 100000 in
set_option maxHeartbeats 1000000 in
theorem publicKeys_any (seed : List UInt8) (n : Nat) (hn : seed.length = n) (hn9 : n ≤ 64) (a : Option Addr) (cap : Nat) (many : Nat) (used : Int) (hm : many ≤ 256) (w : World) (hs : Sl w 1 (.slice a n cap) n (bc seed)) (hT : Tabs w) :
    Calls Tryd.prog 34 #[.agg #[.slice a n cap, .int .i64 (many : Int), .int .i64 used]] w fun e w' => ∃ v, e = .returned v ∧ w'.ownsRow w.heap.size 26 32 v many (pkC seed many) ∧ Below w.heap.size w w' := by
  obtain ⟨iu, hiu, hu0, hu1, hu2⟩ := info_parts infoD32
  have HE := Lib.hid (fun (k : Nat) W (hk : k < 256) (hb : Below w.heap.size w W) => opub_end seed n hn hn9 a cap (many : Int) used k hk W (hs.next hb) (hT.next hb))
  have HB := Lib.hid (Blk.new w 24 #[.slice a n cap, .int .i64 (many : Int), .int .i64 used])
  have Hb := Lib.hid (below_alloc w (.cells #[.slice a n cap, .int .i64 (many : Int), .int .i64 used] 24))
  unfold arrV at HE
  obtain ⟨c0, c1, c2, f0, f1, f2⟩ := cells3 HB.out
  clear hs hn hT
  go_enter Tryd.func34, Tryd.ntmps34
  go_wp2_with fail
  go_loopw [2, 6] (fun b i wr => ∃ k : Nat, k ≤ many ∧ i = .int .i64 k ∧ wr.ownsRow (w.heap.size + 1) 26 32 b k (pkC seed k) ∧ Blk wr w.heap.size 24 #[.slice a n cap, .int .i64 (many : Int), .int .i64 used] ∧ Below w.heap.size w wr) (fun _ i _ => many - (intOf i).toNat)
  case atStart => exact ⟨0, by omega, rfl, World.ownsRow_nil _ _ _ _, HB.out, Hb.out⟩
  case round =>
    clear HB Hb c0 c1 c2 f0 f1 f2
    obtain ⟨k, hk, rfl, hown, hB, hb⟩ := hrel
    obtain ⟨ba, bcap, rfl⟩ := (Sl.of_own hown).form
    have HB := Lib.hid hB
    have Hb := Lib.hid hb
    have Hown := Lib.hid hown
    clear hB hb hown
    by_cases hlt : k < many
    · have Hl1 := Lib.hid (show (bc (pk1 seed k)).length = 32 by rw [bc_len, pk1_len])
      have Ho1 := Lib.hid (bc_one (pk1 seed k))
      have Hap := Lib.hid (pkC_succ seed k)
      have HEk := Lib.hid (fun W (hb : Below w.heap.size w W) => HE.out k W (by omega) hb)
      rw [show (opub fun c => vlu seed k c 15) = pk1 seed k from rfl] at HEk
      obtain ⟨D1, hD1⟩ : ∃ D1, bc (pk1 seed k) = D1 := ⟨_, rfl⟩
      rw [hD1] at HEk Hl1 Ho1 Hap
      clear hD1
      have hd32 : D1.length = 32 := Hl1.out
      obtain ⟨c0, c1, c2, f0, f1, f2⟩ := cells3 HB.out
      go_wp2_with (first
        | (refine (HEk.out _ Hb.out).mono ?_
           rintro e w8 ⟨rfl, hb8⟩
           have hB5 := Blk.new w8 26 D1.toArray
           have hb9 := hb8.alloc hb8.size (.cells D1.toArray 26)
           obtain ⟨w9, hw9⟩ : ∃ w9, w8.alloc (.cells D1.toArray 26) = w9 := ⟨_, rfl⟩
           rw [hw9] at hB5 hb9
           have HW9 := Lib.hid hw9
           have HB5 := Lib.hid hB5
           have HB2 := Lib.hid (HB.out.below hb9 HB.out.lt)
           have Hb9 := Lib.hid (Hb.out.trans (hb9.mono Hb.out.size))
           have Hown9 := Lib.hid (own_next Hown.out hb9)
           have Hsz9 := Lib.hid (show w.heap.size + 1 ≤ w9.heap.size from HB2.out.lt)
           clear hb8 hB5 hb9 hw9)
        | (at_builtin
           rw [fold_all D1 _ (by rw [Hl1.out]; rfl), HW9.out]
           refine wpList_append_lies _ rfl (.tmp 9) (.tmp 15) 40 rfl (w.heap.size + 1) 26 iu _ 32 32 Tryd.underlying40 hiu hu0 hu1 hu2 rfl (by omega) (.slice ba k bcap) k (pkC seed k) rfl Hown9.out ⟨w8.heap.size, 0, none⟩ 1 1 D1 rfl (by rw [Hl1.out]) (fun j u hu => by rw [Addr.add_mid]; exact HB5.out.range j u hu) Ho1.out (by omega) (by unfold maxLen; omega) (by omega) Hsz9.out w9.heap.size rfl ?_
           intro g7 cap7 w7 hown7 hg7 hor7 hlt7
           have hb7 : Below w.heap.size w w7 := Hb9.out.grown hg7 (by have := Hsz9.out; omega) (fun k hk => by have := (Hown9.out.lt _ hk).1; omega)
           have hB7 := blk_grown HB2.out hg7 (fun e => by have := (Hown9.out.lt _ e.symm).1; omega)
           rw [Hap.out] at hown7
           have Hb7 := Lib.hid hb7
           have HB7 := Lib.hid hB7
           have Hown7 := Lib.hid hown7
           clear hb7 hB7 hown7 hg7 hor7 hlt7))
      go_roundw
      case rel => exact ⟨k + 1, by omega, by go_num, Hown7.out, HB7.out, Hb7.out⟩
      case measure => simp [intOf]; omega
    · have hk9 : k = many := by omega
      subst hk9
      go_wp2_with fail
      go_ret
      exact ⟨_, rfl, own_mono Hown.out (by omega), Hb.out⟩
end Go.Proofs.YtiloaheaglcpbaaDoor
