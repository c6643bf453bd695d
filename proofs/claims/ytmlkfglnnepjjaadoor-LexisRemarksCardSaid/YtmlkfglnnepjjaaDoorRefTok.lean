/- Layer 1, the reference: Tokens. -/
import Derived.Test.YtmlkfglnnepjjaaDoorRef5
import Derived.Test.YtmlkfglnnepjjaaDoorTok2
namespace Go.Proofs.YtmlkfglnnepjjaaDoor
open Go.RowKit

/-- what holds at the head of the reference's loop -/
def RelR (l : List UInt8) (w wr : World) (v vb last' at' : Value) : Prop :=
  ∃ (j f : Nat) (acc : List (Int × Nat × Nat)) (bacc : List Nat) (last : Int),
    at' = .int .i64 j ∧ last' = .int .i64 last ∧ j ≤ l.length ∧ l.length - j ≤ f ∧ acc ++ tkL l f j = toks l ∧ bacc ++ bdL l f j last = bads l ∧ acc.length ≤ j ∧
    wr.ownsRow w.heap.size 35 3 v acc.length (tc l acc) ∧
    wr.ownsRow w.heap.size 39 2 vb (bacc.take 64).length (pc (bacc.take 64)) ∧ (∀ g, v.ownBlock = some g → vb.ownBlock ≠ some g) ∧ Below w.heap.size w wr
theorem RelR.below {l : List UInt8} {w wr : World} {v vb a b : Value} (h : RelR l w wr v vb a b) : Below w.heap.size w wr := by
  obtain ⟨_, _, _, _, _, _, _, _, _, _, _, _, _, _, _, h⟩ := h
  exact h

theorem upd_two {wr wA w2 : World} {row : Option Nat} (hb : Below wr.heap.size wr wA) (hgr : wA.grownBy w2 row) : Upd (fun k => row = some k) wr w2 :=
  Upd.grown ((Upd.of_below hb).mono (fun k hk h => by omega)) hgr (fun k hk => .inl hk)

section
variable {l : List UInt8} {w wr wA w2 : World} {v vb : Value} {j f en g cap : Nat} {kd : Int} {acc : List (Int × Nat × Nat)} {bacc : List Nat} {last : Int}

theorem relR_tok (hlt : j < l.length) (hf : l.length - j ≤ f) (hacc : acc ++ tkL l f j = toks l) (hbacc : bacc ++ bdL l f j last = bads l) (haj : acc.length ≤ j)
    (hov : wr.ownsRow w.heap.size 35 3 v acc.length (tc l acc)) (hob : wr.ownsRow w.heap.size 39 2 vb (bacc.take 64).length (pc (bacc.take 64)))
    (hne : ∀ g, v.ownBlock = some g → vb.ownBlock ≠ some g) (hbel : Below w.heap.size w wr) (hsc : sc l j = (kd, en)) (hkd : kd ≠ 0)
    (hb : Below wr.heap.size wr wA)
    (hown : w2.ownsRow w.heap.size 35 3 (.slice (some ⟨g, 0, none⟩) (acc.length + 1) cap) (acc.length + 1) (tc l acc ++ [.int .i64 kd, .string (mkS (sub l j en)), .int .i64 (j : Int)]))
    (hgr : wA.grownBy w2 v.ownBlock) (hat : v.ownBlock = some g ∨ g = wA.heap.size) :
    RelR l w w2 (.slice (some ⟨g, 0, none⟩) (acc.length + 1) cap) vb (.int .i64 last) (.int .i64 (sk false l en : Nat)) := by
  have hbd := sc_bd hlt
  rw [hsc] at hbd
  simp only [] at hbd
  obtain ⟨f', rfl⟩ : ∃ f', f = f' + 1 := ⟨f - 1, by omega⟩
  have hsk := sk_le (b := false) hbd.2
  have hsg := sk_ge false l en
  have hu := upd_two hb hgr
  refine ⟨sk false l en, f', acc ++ [(kd, j, en)], bacc, last, rfl, rfl, hsk, by omega, ?_, ?_, by simp; omega, ?_, ?_, ?_, ?_⟩
  · rw [← hacc]; simp [tkL, hlt, hsc, hkd]
  · rw [← hbacc]; simp [bdL, hlt, hsc, hkd]
  · rw [tc_snoc, List.length_append]; exact hown
  · exact hu.own hob (fun k hk e => hne k e hk)
  · intro g' hg' hg2
    simp only [Value.ownBlock, Option.some.injEq] at hg'
    subst hg'
    rcases hat with h | h
    · exact hne _ h hg2
    · have := (hob.lt _ hg2).2; have := hb.size; omega
  · exact hbel.trans (hu.below hbel.size (fun k hk e => by have := (hov.lt _ e).1; omega))

theorem relR_bad {vb' : Value} (hlt : j < l.length) (hf : l.length - j ≤ f) (hacc : acc ++ tkL l f j = toks l) (hbacc : bacc ++ bdL l f j last = bads l) (haj : acc.length ≤ j)
    (hov : wr.ownsRow w.heap.size 35 3 v acc.length (tc l acc)) (hob : wr.ownsRow w.heap.size 39 2 vb (bacc.take 64).length (pc (bacc.take 64)))
    (hne : ∀ g, v.ownBlock = some g → vb.ownBlock ≠ some g) (hbel : Below w.heap.size w wr) (hsc : sc l j = (0, en))
    (hb : Below wr.heap.size wr wA)
    (hown : w2.ownsRow w.heap.size 39 2 vb' ((if (j : Int) = last then bacc else bacc ++ [j]).take 64).length (pc ((if (j : Int) = last then bacc else bacc ++ [j]).take 64)))
    (hgr : wA.grownBy w2 vb.ownBlock) (hat : ∀ g, vb'.ownBlock = some g → vb.ownBlock = some g ∨ wA.heap.size ≤ g) :
    RelR l w w2 v vb' (.int .i64 en) (.int .i64 (sk false l en : Nat)) := by
  have hbd := sc_bd hlt
  rw [hsc] at hbd
  simp only [] at hbd
  obtain ⟨f', rfl⟩ : ∃ f', f = f' + 1 := ⟨f - 1, by omega⟩
  have hsk := sk_le (b := false) hbd.2
  have hsg := sk_ge false l en
  have hu := upd_two hb hgr
  refine ⟨sk false l en, f', acc, if (j : Int) = last then bacc else bacc ++ [j], (en : Int), rfl, rfl, hsk, by omega, ?_, ?_, by omega, ?_, hown, ?_, ?_⟩
  · rw [← hacc]; simp [tkL, hlt, hsc]
  · rw [← hbacc]; simp only [bdL, hlt, hsc, if_true]; split <;> simp
  · exact hu.own hov (fun k hk e => hne k hk e)
  · intro g' hg' hg2
    rcases hat g' hg2 with h | h
    · exact hne _ hg' h
    · have := (hov.lt _ hg').2; have := hb.size; omega
  · exact hbel.trans (hu.below hbel.size (fun k hk e => by have := (hob.lt _ e).1; omega))

theorem relR_end {o : Obj} (hj : ¬ j < l.length) (hacc : acc ++ tkL l f j = toks l) (hbacc : bacc ++ bdL l f j last = bads l)
    (hov : wr.ownsRow w.heap.size 35 3 v acc.length (tc l acc)) (hob : wr.ownsRow w.heap.size 39 2 vb (bacc.take 64).length (pc (bacc.take 64)))
    (hne : ∀ g, v.ownBlock = some g → vb.ownBlock ≠ some g) (hbel : Below w.heap.size w wr)
    (hown : w2.ownsRow w.heap.size 35 3 (.slice (some ⟨g, 0, none⟩) (acc.length + 1) cap) (acc.length + 1) (tc l acc ++ [.int .i64 4, .string ⟨#[]⟩, .int .i64 (l.length : Int)]))
    (hgr : (wr.alloc o).grownBy w2 v.ownBlock) :
    TokOut l w (.returned (.tuple #[.slice (some ⟨g, 0, none⟩) (acc.length + 1) cap, vb, .int .i64 0])) w2 := by
  have hu : Upd (fun k => v.ownBlock = some k) wr w2 := Upd.grown ((Upd.refl _ wr).alloc o) hgr (fun k hk => .inl hk)
  rw [tkL_end (by omega), List.append_nil] at hacc
  rw [bdL_end (by omega), List.append_nil] at hbacc
  subst hacc hbacc
  exact ⟨_, _, rfl, Sl.of_own hown, Sl.of_own (hu.own hob (fun k hk e => hne k e hk)), hbel.trans (hu.below hbel.size (fun k hk e => by have := (hov.lt _ e).1; omega))⟩
end

set_option maxRecDepth 100000 in
theorem refTokens_long (l : List UInt8) (v : Value) (w : World) (hv : Sl w 1 v l.length (bc l)) (hl : 65536 < l.length) :
    Calls Tryd.prog 13 #[v] w fun e w' => e = .returned (.tuple #[.slice none 0 0, .slice none 0 0, .int .i64 2]) ∧ Below w.heap.size w w' := by
  obtain ⟨_, a, cap, rfl, _⟩ := hv
  go_enter Tryd.func13, Tryd.ntmps13
  go_wp2
  go_ret3
  exact ⟨rfl, Below.refl _ _⟩


set_option maxRecDepth 100000 in
set_option maxHeartbeats 1000000 in
theorem refTokens_short (l : List UInt8) (v : Value) (w : World) (hv : Sl w 1 v l.length (bc l)) (hl : l.length ≤ 65536) :
    Calls Tryd.prog 13 #[v] w (TokOut l w) := by
  obtain ⟨a, cap, rfl⟩ := hv.form
  have S0 := Lib.hid (skipped_any l _ 0 w hv (by omega) (Nat.zero_le _))
  obtain ⟨i0, hi0, hz0, hz1, hz2⟩ := info_parts infoToken
  obtain ⟨p0, hp0, hy0, hy1, hy2⟩ := info_parts infoProblem
  go_enter Tryd.func13, Tryd.ntmps13
  go_wp2_with fail
  refine (S0.out).mono ?_
  rintro e w' ⟨rfl, rfl⟩
  clear S0
  go_wp2_with fail
  go_loopw [5, 6, 7, 8] (fun v vb last' at' wr => RelR l w wr v vb last' at') (fun _ _ _ at' _ => l.length - (intOf at').toNat)
  case atStart =>
    exact ⟨sk false l 0, l.length, [], [], -1, rfl, rfl, sk_le (Nat.zero_le _), by omega, rfl, rfl, Nat.zero_le _, World.ownsRow_nil _ _ _ _, World.ownsRow_nil _ _ _ _, by simp [Value.ownBlock], Below.refl _ _⟩
  case round =>
    obtain ⟨j, f, acc, bacc, last, rfl, rfl, hj, hf, hacc, hbacc, haj, hov, hob, hne, hbel⟩ := hrel
    have HA := Lib.hid hacc
    have HB := Lib.hid hbacc
    clear hacc hbacc
    have hvr := hv.next hbel
    by_cases hlt : j < l.length
    · obtain ⟨kd, en, hsc⟩ : ∃ kd en, sc l j = (kd, en) := ⟨_, _, rfl⟩
      have hbd := sc_bd hlt
      rw [hsc] at hbd
      simp only [] at hbd
      have HT := Lib.hid (token_any l _ j wr hvr (by omega) hlt)
      have HSC := Lib.hid hsc
      clear hsc
      have hsg := sk_ge false l en
      have hsl := sk_le (b := false) hbd.2
      have hskip := fun w3 (h3 : Below w.heap.size w w3) => skipped_any l _ en w3 (hv.next h3) (by omega) hbd.2
      have HK := Lib.hid hskip
      clear hskip
      by_cases hkd : kd = 0
      · subst hkd
        obtain ⟨bl, hbl⟩ : ∃ bl, bl = bacc.take 64 := ⟨_, rfl⟩
        obtain ⟨ab, capb, hvb⟩ := own_form hob
        rw [← hbl] at hvb
        have HR := Lib.hid (fun wA w2 vb' => relR_bad (wA := wA) (w2 := w2) (vb' := vb') hlt hf HA.out HB.out haj hov hob hne hbel HSC.out)
        rw [← hbl] at hob
        have Hbl := Lib.hid hbl
        clear hbl hov hne
        subst hvb
        by_cases hadd : (j : Int) ≠ last ∧ bl.length < 64
        · have hnb : (last != (j : Int)) = true := by simp; omega
          have hn64 := hadd.2
          have hadd1 := Lib.hid hadd.1
          clear hadd
          go_wp2_with fail
          refine (HT.out).mono ?_
          rintro e wA ⟨t, rfl, ht, hbA⟩
          have Ht := Lib.hid ht
          clear ht
          have hobA := (Upd.of_below hbA).own hob (fun k hk h => by have := (hob.lt k hk).2; omega)
          rw [HSC.out]
          have hszA := hbA.size
          have hszB := hbel.size
          go_wp2_with (first | (at_builtin; refine wpList_append_lies _ rfl _ _ 25 rfl w.heap.size 39 p0 _ 2 16 Tryd.underlying25 hp0 hy0 hy1 hy2 rfl (by omega) _ bl.length (pc bl) rfl ((hobA.alloc _).alloc _) ⟨wA.heap.size + 1, 0, none⟩ 1 1 [.int .i64 j, .int .i64 10] rfl rfl ?c1 ?c2 ?c3 ?c4 ?c5 ?c6 (wA.heap.size + 2) ?c7 ?_))
          case c1 => have h := news_at (wA.alloc (.cells #[.int .i64 0, .string t, .int .i64 j] 35)) [.int .i64 j, .int .i64 10] 39; simpa using h
          case c2 => simp [Value.oneCell']
          case c3 => omega
          case c4 => unfold maxLen; omega
          case c5 => omega
          case c6 => simp; omega
          case c7 => simp
          intro g gcap w2 hown hgr hat hgl
          have R2 := HR.out _ w2 (.slice (some ⟨g, 0, none⟩) (bl.length + 1) gcap) ((hbA.alloc (by omega) _).alloc (by simp; omega) _) (by
            rw [if_neg hadd1.out]
            have e1 : (bacc ++ [j]).take 64 = bl ++ [j] := by
              have h64 : bacc.length < 64 := by have := Hbl.out; rw [this] at hn64; simp at hn64; omega
              rw [List.take_of_length_le (by simp; omega), Hbl.out, List.take_of_length_le (by omega)]
            rw [e1, List.length_append, pc_snoc]
            exact hown) hgr (fun g' hg' => by
              simp [Value.ownBlock] at hg'
              subst hg'
              rcases hat with h | h
              · exact .inl h
              · exact .inr (by simp; omega))
          have HR2 := Lib.hid R2
          clear R2 hown hgr hat hob hobA
          go_wp2_with fail
          refine (HK.out w2 HR2.out.below).mono ?_
          rintro e w' ⟨rfl, rfl⟩
          go_wp2_with fail
          go_roundw
          case rel => exact HR2.out
          case measure => simp [intOf]; omega
        · have hz : (last != (j : Int)) = false ∨ ((last != (j : Int)) = true ∧ decide ((bl.length : Int) < 64) = false) := by
            by_cases h : (j : Int) = last
            · left; simp [h]
            · right; refine ⟨by simp; omega, by simp; omega⟩
          have hres : (if (j : Int) = last then bacc else bacc ++ [j]).take 64 = bl := by
            split
            · exact Hbl.out.symm
            · rename_i h
              have h64 : 64 ≤ bacc.length := by
                have h2 := Hbl.out
                have h3 : ¬ bl.length < 64 := fun h4 => hadd ⟨h, h4⟩
                rw [h2] at h3; simp at h3; omega
              rw [Hbl.out]
              exact List.take_append_of_le_length h64
          have Hres := Lib.hid hres
          clear hres hadd
          rcases hz with hz | ⟨hz, hz2⟩
          · go_wp2_with fail
            refine (HT.out).mono ?_
            rintro e wA ⟨t, rfl, ht, hbA⟩
            have Ht := Lib.hid ht
            clear ht
            have hobA := (Upd.of_below hbA).own hob (fun k hk h => by have := (hob.lt k hk).2; omega)
            rw [HSC.out]
            have hszA := hbA.size
            have hszB := hbel.size
            have R2 := HR.out _ (wA.alloc (.cells #[.int .i64 0, .string t, .int .i64 j] 35)) (.slice ab bl.length capb) (hbA.alloc (by omega) (.cells #[.int .i64 0, .string t, .int .i64 j] 35)) (by
              rw [Hres.out]
              exact hobA.alloc _) (World.grownBy.refl _ _) (fun g' hg' => .inl hg')
            have HR2 := Lib.hid R2
            clear R2 hob hobA
            go_wp2_with fail
            refine (HK.out _ HR2.out.below).mono ?_
            rintro e w' ⟨rfl, rfl⟩
            go_wp2_with fail
            go_roundw
            case rel => exact HR2.out
            case measure => simp [intOf]; omega
          · go_wp2_with fail
            refine (HT.out).mono ?_
            rintro e wA ⟨t, rfl, ht, hbA⟩
            have Ht := Lib.hid ht
            clear ht
            have hobA := (Upd.of_below hbA).own hob (fun k hk h => by have := (hob.lt k hk).2; omega)
            rw [HSC.out]
            have hszA := hbA.size
            have hszB := hbel.size
            have R2 := HR.out _ (wA.alloc (.cells #[.int .i64 0, .string t, .int .i64 j] 35)) (.slice ab bl.length capb) (hbA.alloc (by omega) (.cells #[.int .i64 0, .string t, .int .i64 j] 35)) (by
              rw [Hres.out]
              exact hobA.alloc _) (World.grownBy.refl _ _) (fun g' hg' => .inl hg')
            have HR2 := Lib.hid R2
            clear R2 hob hobA
            go_wp2_with fail
            refine (HK.out _ HR2.out.below).mono ?_
            rintro e w' ⟨rfl, rfl⟩
            go_wp2_with fail
            go_roundw
            case rel => exact HR2.out
            case measure => simp [intOf]; omega
      · have hkb : (kd != 0) = true := by simp [hkd]
        have HR := Lib.hid (fun wA w2 g cap => relR_tok (wA := wA) (w2 := w2) (g := g) (cap := cap) hlt hf HA.out HB.out haj hov hob hne hbel HSC.out hkd)
        have Hkd := Lib.hid hkd
        clear hob hne hkd
        go_wp2_with fail
        refine (HT.out).mono ?_
        rintro e wA ⟨t, rfl, ht, hbA⟩
        have hovA := (Upd.of_below hbA).own hov (fun k hk h => by have := (hov.lt k hk).2; omega)
        rw [HSC.out]
        rw [HSC.out] at ht
        obtain rfl := ht Hkd.out
        have hszA := hbA.size
        have hszB := hbel.size
        clear ht
        go_wp2_with (first | (at_builtin; refine wpList_append_lies _ rfl _ _ 24 rfl w.heap.size 35 i0 _ 3 32 Tryd.underlying24 hi0 hz0 hz1 hz2 rfl (by omega) u5 acc.length (tc l acc) rfl ((hovA.alloc _).alloc _) ⟨wA.heap.size + 1, 0, none⟩ 1 1 [.int .i64 kd, .string (mkS (sub l j en)), .int .i64 (j : Int)] rfl rfl ?c1 ?c2 ?c3 ?c4 ?c5 ?c6 (wA.heap.size + 2) ?c7 ?_))
        case c1 => have h := news_at (wA.alloc (.cells #[.int .i64 kd, .string (mkS (sub l j en)), .int .i64 j] 35)) [.int .i64 kd, .string (mkS (sub l j en)), .int .i64 j] 35; simpa using h
        case c2 => simp [Value.oneCell']
        case c3 => omega
        case c4 => unfold maxLen; omega
        case c5 => omega
        case c6 => simp; omega
        case c7 => simp
        intro g gcap w2 hown hgr hat hgl
        have R2 := HR.out _ w2 g gcap ((hbA.alloc (by omega) _).alloc (by simp; omega) _) hown hgr (by simpa using hat)
        have HR2 := Lib.hid R2
        clear R2 hown hgr hat hov hovA
        go_wp2_with fail
        refine (HK.out w2 HR2.out.below).mono ?_
        rintro e w' ⟨rfl, rfl⟩
        go_wp2_with fail
        go_roundw
        case rel => exact HR2.out
        case measure => simp [intOf]; omega
    · obtain ⟨bl, hbl⟩ : ∃ bl, bl = bacc.take 64 := ⟨_, rfl⟩
      have HE := Lib.hid (fun g cap w2 o => relR_end (g := g) (cap := cap) (w2 := w2) (o := o) hlt HA.out HB.out hov hob hne hbel)
      have hszB := hbel.size
      clear hob hne hbl
      go_wp2_with (first | (at_builtin; refine wpList_append_lies _ rfl _ _ 24 rfl w.heap.size 35 i0 _ 3 32 Tryd.underlying24 hi0 hz0 hz1 hz2 rfl (by omega) u5 acc.length (tc l acc) rfl (hov.alloc _) ⟨wr.heap.size, 0, none⟩ 1 1 [.int .i64 4, .string ⟨#[]⟩, .int .i64 l.length] rfl rfl ?c1 ?c2 ?c3 ?c4 ?c5 ?c6 (wr.heap.size + 1) ?c7 ?_))
      case c1 => exact news_at wr [.int .i64 4, .string ⟨#[]⟩, .int .i64 l.length] _
      case c2 => simp [Value.oneCell']
      case c3 => omega
      case c4 => unfold maxLen; omega
      case c5 => omega
      case c6 => simp; omega
      case c7 => simp
      intro g gcap w2 hown hgr hat hgl
      have HF := Lib.hid (HE.out g gcap w2 _ hown hgr)
      clear hown hgr hat
      go_wp2
      go_ret3
      exact HF.out
end Go.Proofs.YtmlkfglnnepjjaaDoor
