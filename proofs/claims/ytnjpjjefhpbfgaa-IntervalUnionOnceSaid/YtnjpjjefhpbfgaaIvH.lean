/- Intervals: cut. -/
import Derived.Test.YtnjpjjefhpbfgaaIvD
import Derived.Test.YtnjpjjefhpbfgaaIvF
namespace Go.Proofs.Ytnjpjjefhpbfgaa
open Go.RowKit

theorem ivs_snoc (A : List Iv) (x : Iv) : ivs (A ++ [x]) = ivs A ++ [.int .i64 x.1, .int .i64 x.2] := by rw [ivs_app]; rfl
theorem Ow.blk {w : World} {B g n cap : Nat} {l : List Iv} (h : Ow w B (.slice (some ⟨g, 0, none⟩) n cap) l) : B ≤ g ∧ g < w.heap.size := h.lt g rfl
theorem Ow.init {w : World} {B g m n cap : Nat} {A : List Iv} {x : Iv} (h : Ow w B (.slice (some ⟨g, 0, none⟩) n cap) (A ++ [x])) (hm : A.length = m) : Ow w B (.slice (some ⟨g, 0, none⟩) m cap) A := by
  subst hm
  obtain ⟨_, ⟨h0, _⟩ | ⟨g', cap', cur, he, hB, hg, hnc, hcm, hcs, htake⟩⟩ := h
  · cases h0
  · simp only [Value.slice.injEq, Option.some.injEq, Addr.mk.injEq] at he
    obtain ⟨⟨rfl, _, _⟩, rfl, rfl⟩ := he
    have hl : (A ++ [x]).length = A.length + 1 := by simp
    refine ⟨ivs_len A, .inr ⟨g, cap, cur, rfl, hB, hg, by omega, hcm, hcs, ?_⟩⟩
    rw [ivs_app] at htake
    have h2 : cur.toList.take (A.length * 2) = (cur.toList.take ((A ++ [x]).length * 2)).take (A.length * 2) := by rw [List.take_take]; congr 1; omega
    rw [h2, htake, List.take_left' (by rw [ivs_len])]
set_option maxRecDepth 100000 in
theorem cut_nil (olo ohi : Int) (a : Option Addr) (cap : Nat) (w : World) :
    Calls Try.prog 40 #[.slice a 0 cap, .agg #[.int .i64 olo, .int .i64 ohi]] w fun e w' => e = .returned (.slice a 0 cap) ∧ Below w.heap.size w w' := by
  have Hb := Lib.hid (below_alloc w (.cells #[.int .i64 olo, .int .i64 ohi] 23))
  go_enter Try.func40, Try.ntmps40
  go_wp2_with fail
  go_ret
  exact ⟨rfl, Hb.out⟩
set_option maxRecDepth 100000 in
set_option maxHeartbeats 4000000 in
theorem cut_snoc (A : List Iv) (xlo xhi olo ohi : Int) (m M : Nat) (hm : A.length = m) (hM : M = m + 1) (hml : m ≤ 1000000) (g cap B : Nat) (w : World) (ho : Ow w B (.slice (some ⟨g, 0, none⟩) M cap) (A ++ [(xlo, xhi)])) (hB : B ≤ w.heap.size)
    (hob : -1099511627777 ≤ olo ∧ olo ≤ 1099511627777 ∧ -1099511627777 ≤ ohi ∧ ohi ≤ 1099511627777) :
    Calls Try.prog 40 #[.slice (some ⟨g, 0, none⟩) M cap, .agg #[.int .i64 olo, .int .i64 ohi]] w fun e w' => ∃ u, e = .returned u ∧ Ow w' B u (cutI (A ++ [(xlo, xhi)]) (olo, ohi)) ∧ Upd (fun k => k = g) w w' ∧ ∀ k, u.ownBlock = some k → k = g ∨ w.heap.size ≤ k := by
  have Hcut := Lib.hid (cutI_snoc A (xlo, xhi) (olo, ohi))
  have hgl := ho.blk.2
  have HinO := Lib.hid (ho.init hm)
  have hlen : (A ++ [(xlo, xhi)]).length = M := by simp [hm, hM]
  obtain ⟨g', off', he, _, hcap, hat⟩ := ho.rd.at_ (by omega)
  cases he
  have hx := hat m (xlo, xhi) (by rw [← hm]; simp)
  obtain ⟨c0, c1⟩ := hx
  simp only [Nat.zero_add] at c0 c1
  have hq3 := (Blk.new w 23 #[.int .i64 olo, .int .i64 ohi]).alloc (.cells #[.int .i64 xlo, .int .i64 xhi] 23)
  have hq5 := blk_new2 w (.cells #[.int .i64 olo, .int .i64 ohi] 23) 23 #[.int .i64 xlo, .int .i64 xhi]
  have hb5 := (below_alloc w (.cells #[.int .i64 olo, .int .i64 ohi] 23)).alloc (by simp) (.cells #[.int .i64 xlo, .int .i64 xhi] 23)
  obtain ⟨W5, hW5⟩ : ∃ W, (w.alloc (.cells #[.int .i64 olo, .int .i64 ohi] 23)).alloc (.cells #[.int .i64 xlo, .int .i64 xhi] 23) = W := ⟨_, rfl⟩
  rw [hW5] at hq3 hq5 hb5
  have HQ3 := Lib.hid hq3
  have HQ5 := Lib.hid hq5
  have Hb5 := Lib.hid hb5
  have HW5 := Lib.hid hW5
  have HB := Lib.hid hB
  have Hgl := Lib.hid hgl
  have Hml := Lib.hid hml
  have HO := Lib.hid ho
  obtain ⟨x0, x1, _, _⟩ := cells2 hq3
  obtain ⟨y0, y1, _, _⟩ := cells2 hq5
  have s0 : IntKind.i64.wrap ((M : Int) - 1) = (m : Int) := by rw [IntKind.wrap_i64]; omega
  have s1 : IntKind.i64.wrap (olo - 1) = olo - 1 := by rw [IntKind.wrap_i64]; omega
  have s2 : IntKind.i64.wrap (ohi + 1) = ohi + 1 := by rw [IntKind.wrap_i64]; omega
  have i0 : (0 : Int) ≤ (m : Int) := by omega
  have i1 : (m : Int) < (M : Int) := by omega
  have i2 : (m : Int) ≤ (cap : Int) := by omega
  have i3 : ((M : Int) == 0) = false := by simp; omega
  have hgne : ¬ g = w.heap.size := by omega
  have HM := Lib.hid hM
  have Hm := Lib.hid hm
  clear hq3 hq5 hb5 hW5 hB ho hat hlen hcap hml hob hM hm
  have hUr : Hid (∀ W', Below W5.heap.size W5 W' → Upd (fun k => k = g) w W') := Lib.hid fun W' hb => Upd.mono (Upd.of_below (Hb5.out.trans (hb.mono Hb5.out.size))) (fun k hk hs => by omega)
  have hUg : Hid (∀ W', Upd (fun k => k = g) W5 W' → Upd (fun k => k = g) w W') := Lib.hid fun W' hu => Upd.trans (Upd.mono (Upd.of_below Hb5.out) (fun k hk hs => by omega)) hu
  by_cases h1 : ohi < xlo
  · have Hc := Lib.hid (Hcut.out.trans (if_pos (.inl h1)))
    clear Hcut
    go_enter Try.func40, Try.ntmps40
    go_wp2_with (rw [HW5.out])
    go_ret
    exact ⟨_, rfl, by rw [Hc.out]; exact HO.out.next Hb5.out, hUr.out _ (Below.refl _ _), fun k hk => .inl (Option.some.inj hk).symm⟩
  by_cases h2 : xhi < olo
  · have Hc := Lib.hid (Hcut.out.trans (if_pos (.inr h2)))
    clear Hcut
    go_enter Try.func40, Try.ntmps40
    go_wp2_with (rw [HW5.out])
    go_ret
    exact ⟨_, rfl, by rw [Hc.out]; exact HO.out.next Hb5.out, hUr.out _ (Below.refl _ _), fun k hk => .inl (Option.some.inj hk).symm⟩
  have hc := Hcut.out.trans (if_neg (fun h => h.elim h1 h2))
  simp only [] at hc
  clear Hcut
  obtain ⟨it, hit, hz0, hz1, hz2⟩ := info_parts infoIv
  by_cases h3 : xlo < olo
  · rw [if_pos h3] at hc
    have hcl := World.news_of_block (Blk.new W5 23 #[.int .i64 xlo, .int .i64 (olo - 1)])
    have hownA : (W5.alloc (.cells #[.int .i64 xlo, .int .i64 (olo - 1)] 23)).ownsRow B 23 2 (.slice (some ⟨g, 0, none⟩) m cap) m (ivs A) := by
      have := (HinO.out.next Hb5.out).next (below_alloc W5 (.cells #[.int .i64 xlo, .int .i64 (olo - 1)] 23))
      unfold Ow at this
      rw [Hm.out] at this
      exact this
    have hbz : B ≤ (W5.alloc (.cells #[.int .i64 xlo, .int .i64 (olo - 1)] 23)).heap.size := by have := HB.out; have := Hb5.out.size; simp; omega
    have hm6 := Hml.out
    by_cases h4 : ohi < xhi
    · rw [if_pos h4] at hc
      have Hc := Lib.hid hc
      clear hc
      go_enter Try.func40, Try.ntmps40
      go_wp2_with (first
        | (rw [HW5.out])
        | (at_builtin; refine wpList_append_mine _ rfl (.tmp 39) (.tmp 46) 30 rfl B 23 it _ 2 16 Try.underlying30 hit hz0 hz1 hz2 rfl (.slice (some ⟨g, 0, none⟩) m cap) m (ivs A) rfl hownA ⟨W5.heap.size, 0, none⟩ 1 1 [.int .i64 xlo, .int .i64 (olo - 1)] rfl rfl hcl (by intro u hu; simp at hu; rcases hu with rfl | rfl <;> rfl) (by omega) (by unfold maxLen; omega) (by omega) hbz ?_))
      intro g6 cap6 w6 hown6 hgr6 hg6
      have hn3 : some w.heap.size ≠ (Value.slice (some ⟨g, 0, none⟩) m cap).ownBlock := fun e => by have e2 : w.heap.size = g := Option.some.inj e; have := Hgl.out; omega
      have hn5 : some (w.heap.size + 1) ≠ (Value.slice (some ⟨g, 0, none⟩) m cap).ownBlock := fun e => by have e2 : w.heap.size + 1 = g := Option.some.inj e; have := Hgl.out; omega
      have q3 := Blk.grown (HQ3.out.alloc (.cells #[.int .i64 xlo, .int .i64 (olo - 1)] 23)) hgr6 hn3
      have q5 := Blk.grown (HQ5.out.alloc (.cells #[.int .i64 xlo, .int .i64 (olo - 1)] 23)) hgr6 hn5
      have hu6 : Upd (fun k => k = g) W5 w6 := ((Upd.refl (fun k => k = g) W5).alloc (.cells #[.int .i64 xlo, .int .i64 (olo - 1)] 23)).grown hgr6 (fun k hk => by cases hk; exact .inl rfl)
      have Hu6 := Lib.hid (hUg.out w6 hu6)
      have hs6 := hgr6.size
      have hg7 : g6 = g ∨ w.heap.size + 2 ≤ g6 := by
        rcases hg6 with h | h
        · cases h; exact .inl rfl
        · have := HQ5.out.lt; right; rw [h]; simp; omega
      have Hg7 := Lib.hid hg7
      clear x0 x1 y0 y1 hownA hcl hgr6 hg6 hn3 hn5 hu6 hbz hg7
      obtain ⟨x0, x1, _, _⟩ := cells2 q3
      obtain ⟨y0, y1, _, _⟩ := cells2 q5
      have hcl := World.news_of_block (Blk.new w6 23 #[.int .i64 (ohi + 1), .int .i64 xhi])
      have hownB : (w6.alloc (.cells #[.int .i64 (ohi + 1), .int .i64 xhi] 23)).ownsRow B 23 2 (.slice (some ⟨g6, 0, none⟩) (m + 1) cap6) (m + 1) (ivs A ++ [.int .i64 xlo, .int .i64 (olo - 1)]) := (Upd.of_below (below_alloc w6 _)).own hown6 (fun k hk hs => by have := (hown6.lt k hk).2; omega)
      have hbz : B ≤ (w6.alloc (.cells #[.int .i64 (ohi + 1), .int .i64 xhi] 23)).heap.size := by have := HB.out; have := Hb5.out.size; simp at hs6; simp; omega
      have Hs6 := Lib.hid (show w.heap.size ≤ w6.heap.size by have := Hb5.out.size; simp at hs6; omega)
      clear hs6 hown6 q3 q5
      go_wp2_with (at_builtin; refine wpList_append_mine _ rfl (.tmp 53) (.tmp 60) 30 rfl B 23 it _ 2 16 Try.underlying30 hit hz0 hz1 hz2 rfl (.slice (some ⟨g6, 0, none⟩) (m + 1) cap6) (m + 1) (ivs A ++ [.int .i64 xlo, .int .i64 (olo - 1)]) rfl hownB ⟨w6.heap.size, 0, none⟩ 1 1 [.int .i64 (ohi + 1), .int .i64 xhi] rfl rfl hcl (by intro u hu; simp at hu; rcases hu with rfl | rfl <;> rfl) (by omega) (by unfold maxLen; omega) (by omega) hbz ?_)
      intro g8 cap8 w8 hown8 hgr8 hg8
      have Hg8 := Lib.hid (show g8 = g ∨ w.heap.size ≤ g8 by
        have h7 := Hg7.out
        have h6 := Hs6.out
        rcases hg8 with h | h
        · have e2 : g6 = g8 := Option.some.inj h
          omega
        · right; rw [h]; omega)
      have Hown8 := Lib.hid hown8
      have hu8 : Upd (fun k => k = g) w w8 := (Hu6.out.alloc (.cells #[.int .i64 (ohi + 1), .int .i64 xhi] 23)).grown hgr8 (fun k hk => by
        have e2 : g6 = k := Option.some.inj hk
        have := Hg7.out
        rcases this with h | h
        · exact .inl (by omega)
        · right; omega)
      have Hu8 := Lib.hid hu8
      clear hown8 hgr8 hg8 hownB hcl hbz x0 x1 y0 y1 hu8
      go_wp2_with fail
      go_ret
      refine ⟨_, rfl, ?_, Hu8.out, fun k hk => by have e2 : g8 = k := Option.some.inj hk; rw [← e2]; exact Hg8.out⟩
      rw [Hc.out]
      have e : ivs (A ++ ([(xlo, olo - 1)] ++ [(ohi + 1, xhi)])) = ivs A ++ [.int .i64 xlo, .int .i64 (olo - 1), .int .i64 (ohi + 1), .int .i64 xhi] := by rw [← List.append_assoc, ivs_snoc, ivs_snoc, List.append_assoc]; rfl
      have el : (A ++ ([(xlo, olo - 1)] ++ [(ohi + 1, xhi)])).length = m + 1 + 1 := by simp [Hm.out]
      unfold Ow
      rw [e, el]
      exact Hown8.out
    · rw [if_neg h4] at hc
      have Hc := Lib.hid hc
      clear hc
      go_enter Try.func40, Try.ntmps40
      go_wp2_with (first
        | (rw [HW5.out])
        | (at_builtin; refine wpList_append_mine _ rfl (.tmp 39) (.tmp 46) 30 rfl B 23 it _ 2 16 Try.underlying30 hit hz0 hz1 hz2 rfl (.slice (some ⟨g, 0, none⟩) m cap) m (ivs A) rfl hownA ⟨W5.heap.size, 0, none⟩ 1 1 [.int .i64 xlo, .int .i64 (olo - 1)] rfl rfl hcl (by intro u hu; simp at hu; rcases hu with rfl | rfl <;> rfl) (by omega) (by unfold maxLen; omega) (by omega) hbz ?_))
      intro g6 cap6 w6 hown6 hgr6 hg6
      have Hg7 := Lib.hid (show g6 = g ∨ w.heap.size ≤ g6 by
        rcases hg6 with h | h
        · have e2 : g = g6 := Option.some.inj h
          exact .inl e2.symm
        · have := Hb5.out.size; right; rw [h]; omega)
      have hn3 : some w.heap.size ≠ (Value.slice (some ⟨g, 0, none⟩) m cap).ownBlock := fun e => by have e2 : w.heap.size = g := Option.some.inj e; have := Hgl.out; omega
      have hn5 : some (w.heap.size + 1) ≠ (Value.slice (some ⟨g, 0, none⟩) m cap).ownBlock := fun e => by have e2 : w.heap.size + 1 = g := Option.some.inj e; have := Hgl.out; omega
      have q3 := Blk.grown (HQ3.out.alloc (.cells #[.int .i64 xlo, .int .i64 (olo - 1)] 23)) hgr6 hn3
      have q5 := Blk.grown (HQ5.out.alloc (.cells #[.int .i64 xlo, .int .i64 (olo - 1)] 23)) hgr6 hn5
      have hu6 : Upd (fun k => k = g) W5 w6 := ((Upd.refl (fun k => k = g) W5).alloc (.cells #[.int .i64 xlo, .int .i64 (olo - 1)] 23)).grown hgr6 (fun k hk => by cases hk; exact .inl rfl)
      have Hu6 := Lib.hid (hUg.out w6 hu6)
      have Hown6 := Lib.hid hown6
      clear x0 x1 y0 y1 hownA hcl hgr6 hg6 hn3 hn5 hu6 hbz hown6
      obtain ⟨x0, x1, _, _⟩ := cells2 q3
      obtain ⟨y0, y1, _, _⟩ := cells2 q5
      clear q3 q5
      go_wp2_with fail
      go_ret
      refine ⟨_, rfl, ?_, Hu6.out, fun k hk => by have e2 : g6 = k := Option.some.inj hk; rw [← e2]; exact Hg7.out⟩
      rw [Hc.out, List.append_nil]
      have el : (A ++ [(xlo, olo - 1)]).length = m + 1 := by simp [Hm.out]
      unfold Ow
      rw [ivs_snoc, el]
      exact Hown6.out
  · rw [if_neg h3, List.nil_append] at hc
    by_cases h4 : ohi < xhi
    · rw [if_pos h4] at hc
      have Hc := Lib.hid hc
      have hcl := World.news_of_block (Blk.new W5 23 #[.int .i64 (ohi + 1), .int .i64 xhi])
      have hownA : (W5.alloc (.cells #[.int .i64 (ohi + 1), .int .i64 xhi] 23)).ownsRow B 23 2 (.slice (some ⟨g, 0, none⟩) m cap) m (ivs A) := by
        have := (HinO.out.next Hb5.out).next (below_alloc W5 (.cells #[.int .i64 (ohi + 1), .int .i64 xhi] 23))
        unfold Ow at this
        rw [Hm.out] at this
        exact this
      have hbz : B ≤ (W5.alloc (.cells #[.int .i64 (ohi + 1), .int .i64 xhi] 23)).heap.size := by have := HB.out; have := Hb5.out.size; simp; omega
      have hm6 := Hml.out
      clear hc
      go_enter Try.func40, Try.ntmps40
      go_wp2_with (first
        | (rw [HW5.out])
        | (at_builtin; refine wpList_append_mine _ rfl (.tmp 53) (.tmp 60) 30 rfl B 23 it _ 2 16 Try.underlying30 hit hz0 hz1 hz2 rfl (.slice (some ⟨g, 0, none⟩) m cap) m (ivs A) rfl hownA ⟨W5.heap.size, 0, none⟩ 1 1 [.int .i64 (ohi + 1), .int .i64 xhi] rfl rfl hcl (by intro u hu; simp at hu; rcases hu with rfl | rfl <;> rfl) (by omega) (by unfold maxLen; omega) (by omega) hbz ?_))
      intro g6 cap6 w6 hown6 hgr6 hg6
      have Hg7 := Lib.hid (show g6 = g ∨ w.heap.size ≤ g6 by
        rcases hg6 with h | h
        · have e2 : g = g6 := Option.some.inj h
          exact .inl e2.symm
        · have := Hb5.out.size; right; rw [h]; omega)
      have hu6 : Upd (fun k => k = g) W5 w6 := ((Upd.refl (fun k => k = g) W5).alloc (.cells #[.int .i64 (ohi + 1), .int .i64 xhi] 23)).grown hgr6 (fun k hk => by cases hk; exact .inl rfl)
      have Hu6 := Lib.hid (hUg.out w6 hu6)
      have Hown6 := Lib.hid hown6
      clear x0 x1 y0 y1 hownA hcl hgr6 hg6 hu6 hbz hown6
      go_wp2_with fail
      go_ret
      refine ⟨_, rfl, ?_, Hu6.out, fun k hk => by have e2 : g6 = k := Option.some.inj hk; rw [← e2]; exact Hg7.out⟩
      rw [Hc.out]
      have el : (A ++ [(ohi + 1, xhi)]).length = m + 1 := by simp [Hm.out]
      unfold Ow
      rw [ivs_snoc, el]
      exact Hown6.out
    · rw [if_neg h4, List.append_nil] at hc
      have Hc := Lib.hid hc
      clear hc
      go_enter Try.func40, Try.ntmps40
      go_wp2_with (rw [HW5.out])
      go_ret
      exact ⟨_, rfl, by rw [Hc.out]; exact HinO.out.next Hb5.out, hUr.out _ (Below.refl _ _), fun k hk => .inl (Option.some.inj hk).symm⟩
end Go.Proofs.Ytnjpjjefhpbfgaa
