/- Intervals: IntervalUnionOnce. -/
import Derived.Test.YtnjpjjefhpbfgaaIvZP
import Derived.Test.YtnjpjjefhpbfgaaIvO
namespace Go.Proofs.Ytnjpjjefhpbfgaa
open Go.RowKit

theorem empty_own (W : World) (B : Nat) (hB : B ≤ W.heap.size) : Ow (W.alloc (.cells #[] 23)) B (.slice (some ⟨W.heap.size, 0, none⟩) 0 0) [] :=
  ⟨rfl, .inr ⟨W.heap.size, 0, #[], rfl, hB, heap_alloc_new W _, Nat.le_refl _, by unfold maxLen; omega, rfl, rfl⟩⟩
set_option maxRecDepth 100000 in
set_option maxHeartbeats 4000000 in
theorem once_any (l : List Iv) (n : Nat) (hn : l.length = n) (a : Option Addr) (cap : Nat) (N : Int) (hN : 0 ≤ N ∧ N ≤ 18446744073709551615) (w : World) (hr : Rd w (.slice a n cap) l) :
    Calls Try.prog 7 #[.slice a n cap, .int .u64 N] w fun e w' => e = .returned (.bool true) ∧ Below w.heap.size w w' := by
  have HR := Lib.hid hr
  have HN := Lib.hid hN
  have HS := Lib.hid (sane_any w)
  clear hr hN
  by_cases h60 : (60 : Int) < (n : Int)
  · clear hn
    go_enter Try.func7, Try.ntmps7
    go_wp2_with fail
    refine HS.out.mono ?_
    rintro _ w1 ⟨rfl, hb1⟩
    have Hb1 := Lib.hid hb1
    clear hb1
    go_wp2_with fail
    go_ret
    exact ⟨rfl, Hb1.out⟩
  have hle : n ≤ 60 := by omega
  have hok := ckL_ok (l := l)
  have hun : unR l = if ckL l = 0 then uni l else [] := rfl
  have HU := Lib.hid (fun X (hX : Below w.heap.size w X) => union_any l n hn (by omega) a cap X (HR.out.next hX))
  obtain ⟨ce, hce⟩ : ∃ x, ckL l = x := ⟨_, rfl⟩
  rw [hce] at HU hok hun
  have Hn := Lib.hid hn
  have Hle := Lib.hid hle
  clear hle hce hn
  by_cases h0 : ce = 0
  · subst h0
    rw [if_pos rfl] at hun
    have Hck := Lib.hid (hok rfl)
    have Hun := Lib.hid hun
    clear hok hun
    go_enter Try.func7, Try.ntmps7
    go_wp2_with fail
    refine HS.out.mono ?_
    rintro _ w1 ⟨rfl, hb1⟩
    have Hb1 := Lib.hid hb1
    clear hb1
    go_wp2_with fail
    refine (HU.out _ Hb1.out).mono ?_
    rintro _ w2 ⟨u, rfl, hu, hb2⟩
    rw [Hun.out] at hu
    obtain ⟨ua, uc, rfl⟩ := (Ow.rd hu).len
    have hm := uni_len l
    rw [Hn.out] at hm
    obtain ⟨m, hmm⟩ : ∃ m, (uni l).length = m := ⟨_, rfl⟩
    rw [hmm] at hu hm ⊢
    have Hu := Lib.hid (Ow.rd hu)
    have Hb2 := Lib.hid (Hb1.out.trans (hb2.mono Hb1.out.size))
    have HV := Lib.hid (union_any (uni l) m hmm (by have := Hle.out; omega) ua uc w2 (Ow.rd hu))
    rw [show unR (uni l) = uni l by rw [unR, if_pos (ckL_all (uni_ck Hck.out)), uni_uni Hck.out], ckL_all (uni_ck Hck.out)] at HV
    have Hmm := Lib.hid hmm
    have Hm := Lib.hid hm
    clear hu hb2 hmm hm
    go_wp2_with fail
    refine HV.out.mono ?_
    rintro _ w3 ⟨v, rfl, hv, hb3⟩
    obtain ⟨va, vc, rfl⟩ := (Ow.rd hv).len
    rw [Hmm.out] at hv ⊢
    have Hv := Lib.hid (Ow.rd hv)
    have Hu3 := Lib.hid (Hu.out.next hb3)
    have Hb3 := Lib.hid (Hb2.out.trans (hb3.mono Hb2.out.size))
    have hb4 := below_alloc w3 (.cells #[] 23)
    have Hb4 := Lib.hid hb4
    have HE := Lib.hid (empty_own w3 w3.heap.size (Nat.le_refl _))
    have s0 : IntKind.i64.wrap ((n : Int) - 1) = (n : Int) - 1 := by rw [IntKind.wrap_i64]; have := Hle.out; omega
    clear hv hb3 hb4 h60
    go_wp2_with fail
    go_loopw [9, 10] (fun s i wr => ∃ (k g cap : Nat) (z : Int), Hid (k ≤ n) ∧ Hid (z = (n : Int) - 1 - k) ∧ i = .int .i64 z ∧ s = .slice (some ⟨g, 0, none⟩) k cap ∧ Hid (Ow wr w3.heap.size (.slice (some ⟨g, 0, none⟩) k cap) (l.reverse.take k)) ∧ Hid (Below w3.heap.size w3 wr)) (fun _ i _ => (intOf i + 1).toNat)
    case atStart => exact ⟨0, _, _, _, Lib.hid (Nat.zero_le _), Lib.hid (by omega), rfl, rfl, HE, Hb4⟩
    case round =>
      obtain ⟨k, g, bc, z, Hk, Hz, rfl, rfl, HO, HB⟩ := hrel
      by_cases hk : k < n
      · obtain ⟨j, rfl⟩ : ∃ j : Nat, z = (j : Int) := ⟨n - 1 - k, by have := Hz.out; omega⟩
        have hjk : j = n - 1 - k := by have := Hz.out; omega
        have hjn : j < n := by omega
        obtain ⟨g2, off, rfl, _, hcap, hat⟩ := (HR.out.next (Hb3.out.trans (HB.out.mono Hb3.out.size))).at_ (by omega)
        obtain ⟨x, hx⟩ : ∃ x, l[j]? = some x := ⟨_, List.getElem?_eq_getElem (by rw [Hn.out]; exact hjn)⟩
        obtain ⟨c0, c1⟩ := hat j x hx
        have Hst := Lib.hid (back_step Hn.out hk (by rw [← hjk]; exact hx))
        obtain ⟨lo, hi⟩ := x
        simp only [] at c0 c1
        have hgb := HO.out.blk
        obtain ⟨A, hA⟩ : ∃ A, l.reverse.take k = A := ⟨_, rfl⟩
        rw [hA] at HO Hst
        obtain ⟨it, hit, hz0, hz1, hz2⟩ := info_parts infoIv
        have hcl := World.news_of_block (Blk.new wr 23 #[.int .i64 lo, .int .i64 hi])
        have hAl : A.length = k := by rw [← hA, List.length_take, List.length_reverse, Hn.out]; omega
        have hownA : (wr.alloc (.cells #[.int .i64 lo, .int .i64 hi] 23)).ownsRow w3.heap.size 23 2 (.slice (some ⟨g, 0, none⟩) k bc) k (ivs A) := by
          have := HO.out.next (below_alloc wr (.cells #[.int .i64 lo, .int .i64 hi] 23))
          unfold Ow at this
          rw [hAl] at this
          exact this
        have hbz : w3.heap.size ≤ (wr.alloc (.cells #[.int .i64 lo, .int .i64 hi] 23)).heap.size := by have := HB.out.size; simp; omega
        have i0 : (0 : Int) ≤ (j : Int) := by omega
        have i1 : (j : Int) < (n : Int) := by omega
        have s1 : IntKind.i64.wrap ((j : Int) - 1) = (j : Int) - 1 := by rw [IntKind.wrap_i64]; have := Hle.out; omega
        have hle2 := Hle.out
        have Hgb := Lib.hid hgb
        have Hk2 := Lib.hid hk
        have Hjk := Lib.hid hjk
        have HAl := Lib.hid hAl
        clear hat hx hgb hA hAl hjk
        go_wp2_with (at_builtin; refine wpList_append_mine _ rfl (.tmp 41) (.tmp 46) 30 rfl w3.heap.size 23 it _ 2 16 Try.underlying30 hit hz0 hz1 hz2 rfl (.slice (some ⟨g, 0, none⟩) k bc) k (ivs A) rfl hownA ⟨wr.heap.size, 0, none⟩ 1 1 [.int .i64 lo, .int .i64 hi] rfl rfl hcl (by intro u hu; simp at hu; rcases hu with rfl | rfl <;> rfl) (by omega) (by unfold maxLen; omega) (by omega) hbz ?_)
        intro g6 cap6 w6 hown6 hgr6 hg6
        have hu6 : Upd (fun k => k = g) wr w6 := ((Upd.refl (fun k => k = g) wr).alloc (.cells #[.int .i64 lo, .int .i64 hi] 23)).grown hgr6 (fun k hk => by cases hk; exact .inl rfl)
        have Hb6 := Lib.hid (HB.out.trans (hu6.below HB.out.size (fun k hk hs => by have := Hgb.out; omega)))
        have Ho6 := Lib.hid (show Ow w6 w3.heap.size (.slice (some ⟨g6, 0, none⟩) (k + 1) cap6) (l.reverse.take (k + 1)) by
          rw [Hst.out]
          unfold Ow
          rw [ivs_snoc, List.length_append, List.length_singleton, HAl.out]
          exact hown6)
        clear hown6 hgr6 hg6 hu6 hcl hownA hbz c0 c1
        go_wp2_with fail
        exact ⟨⟨k + 1, g6, cap6, _, Lib.hid Hk2.out, Lib.hid (by have := Hjk.out; have := Hk2.out; omega), rfl, rfl, Ho6, Hb6⟩, by simp [intOf]⟩
      · have hkn : k = n := by have := Hk.out; omega
        subst hkn
        have hz1 : z = -1 := by have := Hz.out; omega
        subst hz1
        have Hrev := Lib.hid (show l.reverse.take k = l.reverse from List.take_of_length_le (by rw [List.length_reverse, Hn.out]; omega))
        clear hk
        have ho := HO.out
        rw [Hrev.out] at ho
        have HO2 := Lib.hid ho
        have HBw := Lib.hid (Hb3.out.trans (HB.out.mono Hb3.out.size))
        have Hu5 := Lib.hid (Hu3.out.next HB.out)
        have Hv5 := Lib.hid (Hv.out.next HB.out)
        have hrl : l.reverse.length = k := by rw [List.length_reverse, Hn.out]
        have hle2 := Hle.out
        clear HO ho
        by_cases hk0 : k = 0
        · have HT := Lib.hid (union_any l.reverse k hrl (by omega) (some ⟨g, 0, none⟩) bc wr (by have := Ow.rd HO2.out; exact this))
          rw [show unR l.reverse = uni l by rw [unR, if_pos (ckL_all (fun i hi => Hck.out i (List.mem_reverse.1 hi))), uni_same Hck.out (fun i => List.mem_reverse)], ckL_all (fun i hi => Hck.out i (List.mem_reverse.1 hi))] at HT
          have j1 : ¬ (0 : Int) < (k : Int) := by omega
          clear hrl hle2 hk0
          go_wp2_with fail
          refine HT.out.mono ?_
          rintro _ w7 ⟨u7, rfl, hu7, hb7⟩
          obtain ⟨ta, tc, rfl⟩ := (Ow.rd hu7).len
          rw [Hmm.out] at hu7 ⊢
          have HBw7 := Lib.hid (HBw.out.trans (hb7.mono HBw.out.size))
          have Hu7 := Lib.hid (Hu5.out.next hb7)
          have Hv7 := Lib.hid (Hv5.out.next hb7)
          have Ht7 := Lib.hid (Ow.rd hu7)
          have HS1 := Lib.hid (same_self (uni l) m Hmm.out (by have := Hm.out; have := Hle.out; unfold maxLen; omega) ua uc va vc w7 Hu7.out Hv7.out)
          clear hu7 hb7
          go_wp2_with fail
          refine HS1.out.mono ?_
          rintro _ w8 ⟨rfl, hb8⟩
          have HBw8 := Lib.hid (HBw7.out.trans (hb8.mono HBw7.out.size))
          have HS2 := Lib.hid (same_self (uni l) m Hmm.out (by have := Hm.out; have := Hle.out; unfold maxLen; omega) ua uc ta tc w8 (Hu7.out.next hb8) (Ht7.out.next hb8))
          clear hb8
          go_wp2_with fail
          refine HS2.out.mono ?_
          rintro _ w9 ⟨rfl, hb9⟩
          have HBw9 := Lib.hid (HBw8.out.trans (hb9.mono HBw8.out.size))
          clear hb9
          go_wp2_with fail
          go_ret
          exact ⟨ret_bool (by first | rfl | simp), HBw9.out⟩
        · obtain ⟨j, hj⟩ : ∃ j : Nat, (j : Int) = N % (k : Int) := ⟨(N % (k : Int)).toNat, Int.toNat_of_nonneg (Int.emod_nonneg _ (by omega))⟩
          have hjk : j < k := by have := Int.emod_lt_of_pos N (show (0 : Int) < (k : Int) by omega); omega
          obtain ⟨g2, off, hag, _, hcap, hat⟩ := (HR.out.next HBw.out).at_ (by omega)
          obtain ⟨x, hx⟩ : ∃ x, l[j]? = some x := ⟨_, List.getElem?_eq_getElem (by rw [Hn.out]; exact hjk)⟩
          obtain ⟨c0, c1⟩ := hat j x hx
          have Hxm := Lib.hid (List.mem_of_getElem? hx)
          obtain ⟨lo, hi⟩ := x
          simp only [] at c0 c1
          subst hag
          have hgb := HO2.out.blk
          obtain ⟨it, hit, hz0, hz1, hz2⟩ := info_parts infoIv
          have hcl := World.news_of_block (Blk.new wr 23 #[.int .i64 lo, .int .i64 hi])
          have hownA : (wr.alloc (.cells #[.int .i64 lo, .int .i64 hi] 23)).ownsRow w3.heap.size 23 2 (.slice (some ⟨g, 0, none⟩) k bc) k (ivs l.reverse) := by
            have := HO2.out.next (below_alloc wr (.cells #[.int .i64 lo, .int .i64 hi] 23))
            unfold Ow at this
            rw [hrl] at this
            exact this
          have hbz : w3.heap.size ≤ (wr.alloc (.cells #[.int .i64 lo, .int .i64 hi] 23)).heap.size := by have := HB.out.size; simp; omega
          have i0 : (0 : Int) ≤ (j : Int) := by omega
          have i1 : (j : Int) < (k : Int) := by omega
          have e1 : IntKind.u64.wrap (k : Int) = (k : Int) := by rw [IntKind.wrap_u64]; omega
          have e2 : N.tmod (k : Int) = (j : Int) := by rw [Int.tmod_eq_emod_of_nonneg HN.out.1, hj]
          have e3 : N % (k : Int) = (j : Int) := hj.symm
          have e4 : IntKind.u64.wrap (j : Int) = (j : Int) := by rw [IntKind.wrap_u64]; omega
          have e5 : IntKind.i64.wrap (j : Int) = (j : Int) := by rw [IntKind.wrap_i64]; omega
          have e6 : ((k : Int) == 0) = false := by simp; omega
          have j1 : (0 : Int) < (k : Int) := by omega
          have Hgb := Lib.hid hgb
          have Hrl := Lib.hid hrl
          have Hjk := Lib.hid hjk
          clear hat hx hgb hrl hj hjk hk0
          go_wp2_with (at_builtin; refine wpList_append_mine _ rfl (.tmp 51) (.tmp 61) 30 rfl w3.heap.size 23 it _ 2 16 Try.underlying30 hit hz0 hz1 hz2 rfl (.slice (some ⟨g, 0, none⟩) k bc) k (ivs l.reverse) rfl hownA ⟨wr.heap.size, 0, none⟩ 1 1 [.int .i64 lo, .int .i64 hi] rfl rfl hcl (by intro u hu; simp at hu; rcases hu with rfl | rfl <;> rfl) (by omega) (by unfold maxLen; omega) (by omega) hbz ?_)
          intro g6 cap6 w6 hown6 hgr6 hg6
          have hu6 : Upd (fun k => k = g) wr w6 := ((Upd.refl (fun k => k = g) wr).alloc (.cells #[.int .i64 lo, .int .i64 hi] 23)).grown hgr6 (fun k hk => by cases hk; exact .inl rfl)
          have hb6 := HB.out.trans (hu6.below HB.out.size (fun k hk hs => by have := Hgb.out; omega))
          have HB6 := Lib.hid hb6
          have HBw := Lib.hid (Hb3.out.trans (hb6.mono Hb3.out.size))
          have Hu5 := Lib.hid (Hu3.out.next hb6)
          have Hv5 := Lib.hid (Hv.out.next hb6)
          have ho6 : Ow w6 w3.heap.size (.slice (some ⟨g6, 0, none⟩) (k + 1) cap6) (l.reverse ++ [(lo, hi)]) := by
            unfold Ow
            rw [ivs_snoc, List.length_append, List.length_singleton, Hrl.out]
            exact hown6
          have hmem := back_mem Hxm.out
          have hckb : ∀ i ∈ l.reverse ++ [(lo, hi)], ck i = 0 := fun i hi => Hck.out i ((hmem i).1 hi)
          have HT := Lib.hid (union_any (l.reverse ++ [(lo, hi)]) (k + 1) (by rw [List.length_append, List.length_singleton, Hrl.out]) (by omega) (some ⟨g6, 0, none⟩) cap6 w6 (Ow.rd ho6))
          rw [show unR (l.reverse ++ [(lo, hi)]) = uni l by rw [unR, if_pos (ckL_all hckb), uni_same Hck.out hmem], ckL_all hckb] at HT
          clear hown6 hgr6 hg6 hu6 hcl hownA hbz c0 c1 hb6 ho6 hmem hckb e1 e2 e3 e4 e5 e6 i0 i1 j1
          go_wp2_with fail
          refine HT.out.mono ?_
          rintro _ w7 ⟨u7, rfl, hu7, hb7⟩
          obtain ⟨ta, tc, rfl⟩ := (Ow.rd hu7).len
          rw [Hmm.out] at hu7 ⊢
          have HBw7 := Lib.hid (HBw.out.trans (hb7.mono HBw.out.size))
          have Hu7 := Lib.hid (Hu5.out.next hb7)
          have Hv7 := Lib.hid (Hv5.out.next hb7)
          have Ht7 := Lib.hid (Ow.rd hu7)
          have HS1 := Lib.hid (same_self (uni l) m Hmm.out (by have := Hm.out; have := Hle.out; unfold maxLen; omega) ua uc va vc w7 Hu7.out Hv7.out)
          clear hu7 hb7
          go_wp2_with fail
          refine HS1.out.mono ?_
          rintro _ w8 ⟨rfl, hb8⟩
          have HBw8 := Lib.hid (HBw7.out.trans (hb8.mono HBw7.out.size))
          have HS2 := Lib.hid (same_self (uni l) m Hmm.out (by have := Hm.out; have := Hle.out; unfold maxLen; omega) ua uc ta tc w8 (Hu7.out.next hb8) (Ht7.out.next hb8))
          clear hb8
          go_wp2_with fail
          refine HS2.out.mono ?_
          rintro _ w9 ⟨rfl, hb9⟩
          have HBw9 := Lib.hid (HBw8.out.trans (hb9.mono HBw8.out.size))
          clear hb9
          go_wp2_with fail
          go_ret
          exact ⟨ret_bool (by first | rfl | simp), HBw9.out⟩
  · rw [if_neg h0] at hun
    have Hun := Lib.hid hun
    have f0 : ((ce : Int) != 0) = true := by simpa using h0
    clear hok hun h0
    go_enter Try.func7, Try.ntmps7
    go_wp2_with fail
    refine HS.out.mono ?_
    rintro _ w1 ⟨rfl, hb1⟩
    have Hb1 := Lib.hid hb1
    clear hb1
    go_wp2_with fail
    refine (HU.out _ Hb1.out).mono ?_
    rintro _ w2 ⟨u, rfl, hu, hb2⟩
    rw [Hun.out] at hu
    obtain ⟨ua, uc, rfl⟩ := (Ow.rd hu).len
    have Hb2 := Lib.hid (Hb1.out.trans (hb2.mono Hb1.out.size))
    clear hu hb2
    go_wp2_with fail
    go_ret
    exact ⟨rfl, Hb2.out⟩
end Go.Proofs.Ytnjpjjefhpbfgaa
