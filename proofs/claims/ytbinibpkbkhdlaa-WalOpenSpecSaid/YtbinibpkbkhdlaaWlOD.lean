/- Wal: the reference's Records. -/
import Derived.Test.YtbinibpkbkhdlaaWlOC
namespace Go.Proofs.Ytbinibpkbkhdlaa
open Go.RowKit

theorem own_own_ne {w : World} {B B' n n' : Nat} {v v' : Value} {xs xs' : List Value} {e e' : TypeId} (h : w.ownsRow B e 1 v n xs) (h' : w.ownsRow B' e' 1 v' n' xs') (hne : e ≠ e') : v.ownBlock = none ∨ v.ownBlock ≠ v'.ownBlock := by
  obtain ⟨_, ⟨rfl, _⟩ | ⟨g, cap, cur, rfl, hb, hheap, _⟩⟩ := h'
  · cases hv : v.ownBlock
    · exact .inl rfl
    · right; simp [Value.ownBlock]
  · right
    show v.ownBlock ≠ some g
    exact own_blk_ne h hheap hne
/-- a row of k copies -/
def CpRel (w : World) (B k : Nat) (S : List (List UInt8)) (v : Value) (wr : World) : Prop :=
  ∃ vs : List Value, wr.ownsRow B 25 1 v k vs ∧ (∀ (i : Nat) (s : List UInt8), i < k → S[i]? = some s → ∃ x, vs[i]? = some x ∧ wr.ownsRow B 5 1 x s.length (bc s)) ∧ Below w.heap.size w wr
theorem cp_step {w wr w5 Y w1 : World} {B k gg gcap : Nat} {S : List (List UInt8)} {s : List UInt8} {v v5 : Value} {vs : List Value}
    (hown : wr.ownsRow B 25 1 v k vs) (hvs : ∀ (i : Nat) (s : List UInt8), i < k → S[i]? = some s → ∃ x, vs[i]? = some x ∧ wr.ownsRow B 5 1 x s.length (bc s)) (hb : Below w.heap.size w wr) (hB : w.heap.size ≤ B)
    (hjs : S[k]? = some s) (hb5 : Below wr.heap.size wr w5) (hown5 : w5.ownsRow wr.heap.size 5 1 v5 s.length (bc s)) (hBw : B ≤ wr.heap.size) (hY : Below w5.heap.size w5 Y)
    (hown1 : w1.ownsRow B 25 1 (.slice (some ⟨gg, 0, none⟩) (k + 1) gcap) (k + 1) (vs ++ [v5])) (hgrow : Y.grownBy w1 v.ownBlock) :
    CpRel w B (k + 1) S (.slice (some ⟨gg, 0, none⟩) (k + 1) gcap) w1 := by
  have hl : vs.length = k := by have := hown.1; omega
  have hY0 : Below wr.heap.size wr Y := hb5.trans (hY.mono hb5.size)
  have hownY : Y.ownsRow B 25 1 v k vs := (Upd.of_below (B := wr.heap.size) hY0).own hown (fun q hq h => by have := (hown.lt q hq).2; omega)
  have keep : ∀ {x : Value} {r : List UInt8}, Y.ownsRow B 5 1 x r.length (bc r) → w1.ownsRow B 5 1 x r.length (bc r) := fun h => h.kept hgrow (own_own_ne h hownY (by decide))
  refine ⟨_, hown1, fun i r hi hr => ?_, ?_⟩
  · rcases Nat.lt_or_ge i k with h | h
    · obtain ⟨x, h1, h2⟩ := hvs i r h hr
      exact ⟨x, by rw [List.getElem?_append_left (by omega)]; exact h1, keep ((Upd.of_below (B := wr.heap.size) hY0).own h2 (fun q hq h => by have := (h2.lt q hq).2; omega))⟩
    · have hik : i = k := by omega
      subst hik
      rw [hjs] at hr
      cases hr
      refine ⟨v5, by rw [List.getElem?_append_right (by omega), hl, Nat.sub_self]; rfl, keep ?_⟩
      exact own_mono ((Upd.of_below (B := w5.heap.size) hY).own hown5 (fun q hq h => by have := (hown5.lt q hq).2; omega)) hBw
  · exact (hb.trans (hY0.mono hb.size)).grown hgrow (by have := hY0.size; have := hb.size; omega) (fun q hq => by have := (hown.lt q hq).1; omega)
theorem cp_secs {w wr W : World} {B : Nat} {S : List (List UInt8)} {v : Value} (h : CpRel w B S.length S v wr) (hU : Upd (fun q => q < B) wr W) : Secs W v S := by
  obtain ⟨vs, hown, hvs, _⟩ := h
  refine ⟨vs, Sl.of_own (hU.own hown (fun q hq e => by have := (hown.lt q hq).1; omega)), fun i s hs => ?_⟩
  obtain ⟨x, h1, h2⟩ := hvs i s (List.getElem?_eq_some_iff.1 hs).1 hs
  exact ⟨x, h1, Sl.of_own (hU.own h2 (fun q hq e => by have := (h2.lt q hq).1; omega))⟩
theorem cp_secs1 {w wr w5 W : World} {B : Nat} {S : List (List UInt8)} {v : Value} (h : CpRel w B S.length S v wr) (hb : Below wr.heap.size wr w5) (hU : Upd (fun q => q < B) w5 W) : Secs W v S := by
  obtain ⟨vs, hown, hvs, _⟩ := h
  have keep : ∀ {e : TypeId} {x : Value} {n : Nat} {xs : List Value}, wr.ownsRow B e 1 x n xs → W.ownsRow B e 1 x n xs := fun ho => by
    have h5 := (Upd.of_below (B := wr.heap.size) hb).own ho (fun q hq h => by have := (ho.lt q hq).2; omega)
    exact hU.own h5 (fun q hq e => by have := (h5.lt q hq).1; omega)
  refine ⟨vs, Sl.of_own (keep hown), fun i s hs => ?_⟩
  obtain ⟨x, h1, h2⟩ := hvs i s (List.getElem?_eq_some_iff.1 hs).1 hs
  exact ⟨x, h1, Sl.of_own (keep h2)⟩
theorem okB_cut (S : List (List UInt8)) (k n : Nat) (hn : n ≠ 0) (hk : k + n ≤ S.length) : cutB S (num4 (S.getD k []) 0) (k + n) = !(decide (k + n < S.length) && okB S k n) := by
  unfold cutB okB
  rw [decide_eq_false hn]
  by_cases h : k + n = S.length
  · rw [decide_eq_true h, decide_eq_false (show ¬ k + n < S.length by omega)]; rfl
  · rw [decide_eq_false h, decide_eq_true (show k + n < S.length by omega)]
    by_cases h2 : num4 (S.getD (k + n) []) 0 = num4 (S.getD k []) 0
    · rw [decide_eq_true h2, decide_eq_false (not_not_intro h2)]
      cases gdB (S.getD (k + n) []) (k + n) <;> cases begB (S.getD (k + n) []) <;> rfl
    · rw [decide_eq_false h2, decide_eq_true (p := num4 (S.getD (k + n) []) 0 ≠ num4 (S.getD k []) 0) h2]
      cases gdB (S.getD (k + n) []) (k + n) <;> cases begB (S.getD (k + n) []) <;> rfl
theorem gd_end {s : List UInt8} {k : Nat} (h : gdB s k = true) : endB s = decide (2 ≤ bt s 10) := by
  have h3 := (of_decide_eq_true h : Gd s k).2.2.2.1
  rw [endB, Nat.mod_eq_of_lt (by omega)]
theorem okB_gd {S : List (List UInt8)} {k n : Nat} (hok : okB S k n = true) : gdB (S.getD (k + n) []) (k + n) = true := by
  unfold okB at hok
  cases hg : gdB (S.getD (k + n) []) (k + n)
  · rw [hg] at hok; simp at hok
  · rfl
theorem inn_yes (S : List (List UInt8)) (b : W32) (f k : Nat) (acc : List UInt8) (he : endB (S.getD k []) = true) : inn S b (f + 1) k acc = some (acc ++ pay (S.getD k []), k + 1) := by rw [inn, if_pos he]
theorem rcd_inn (S : List (List UInt8)) (k : Nat) (f : Nat) : ∀ (n : Nat) (acc : List UInt8), k + n < S.length → okB S k n = true → S.length - (k + n) ≤ f →
    rcd S k f n acc = (inn S (num4 (S.getD k []) 0) f (k + n) acc).map fun p => (p.1, p.2 - k) := by
  induction f with
  | zero => intro n acc h _ hf; omega
  | succ f ih =>
    intro n acc h hok hf
    have hg := gd_end (okB_gd hok)
    by_cases h2 : 2 ≤ bt (S.getD (k + n) []) 10
    · rw [decide_eq_true h2] at hg
      rw [rcd_end S k (f + 1) n acc _ (by omega) h rfl hok h2, inn_yes S _ f (k + n) acc hg, Option.map_some]
      have : k + n + 1 - k = n + 1 := by omega
      rw [this]
    · rw [decide_eq_false h2] at hg
      have hc := okB_cut S k (n + 1) (by omega) (by omega)
      rw [rcd_on S k (f + 1) n acc _ (by omega) h rfl hok h2, Nat.add_sub_cancel]
      by_cases h3 : k + (n + 1) < S.length ∧ okB S k (n + 1) = true
      · rw [decide_eq_true h3.1, h3.2] at hc
        rw [inn_on S _ f (k + n) acc _ rfl hg hc]
        exact ih (n + 1) _ h3.1 h3.2 (by omega)
      · have hc2 : cutB S (num4 (S.getD k []) 0) (k + n + 1) = true := by
          refine hc.trans ?_
          by_cases h4 : k + (n + 1) < S.length
          · have : okB S k (n + 1) = false := by simpa [h4] using h3
            rw [this]; simp
          · rw [decide_eq_false h4]; rfl
        rw [inn_cut S _ (f + 1) (k + n) acc _ rfl hg hc2]
        by_cases h4 : k + (n + 1) < S.length
        · exact rcd_no _ _ _ _ _ (by simpa [h4] using h3)
        · exact rcd_stop _ _ _ _ _ h4
theorem inn_le (S : List (List UInt8)) (b : W32) : ∀ (f k : Nat) (acc r : List UInt8) (k' : Nat), k < S.length → inn S b f k acc = some (r, k') → k' ≤ S.length
  | 0, _, _, _, _, _, h => by simp [inn] at h
  | f + 1, k, acc, r, k', hk, h => by
    rw [inn] at h
    split at h
    · cases h; omega
    · split at h
      · cases h
      · rename_i hc
        refine inn_le S b f _ _ _ _ ?_ h
        have : ¬ k + 1 = S.length := fun e => hc (by unfold cutB; rw [decide_eq_true e]; rfl)
        omega
theorem rcd_none (S : List (List UInt8)) (k f : Nat) (b : W32) (h : rcd S k S.length 0 [] = none) : outr S f k b = [] := by
  by_cases hk : k < S.length
  · cases hok : okB S k 0
    · refine outr_no S f k b ?_
      unfold okB at hok
      unfold begsB
      rw [Nat.add_zero] at hok
      revert hok
      cases gdB (S.getD k []) k <;> cases begB (S.getD k []) <;> simp
    · refine outr_cut S f k b ?_
      rw [rcd_inn S k _ 0 [] (by omega) hok (by omega), Nat.add_zero] at h
      simpa using h
  · exact outr_end S f k b hk
theorem rcd_some (S : List (List UInt8)) (k m : Nat) (r : List UInt8) (h : rcd S k S.length 0 [] = some (r, m)) :
    k < S.length ∧ 1 ≤ m ∧ k + m ≤ S.length ∧ gdB (S.getD k []) k = true ∧ begB (S.getD k []) = true ∧ inn S (num4 (S.getD k []) 0) S.length k [] = some (r, k + m) := by
  by_cases hk : k < S.length
  · cases hok : okB S k 0
    · rw [rcd_no _ _ _ _ _ hok] at h; cases h
    · rw [rcd_inn S k _ 0 [] (by omega) hok (by omega), Nat.add_zero] at h
      obtain ⟨⟨r', k'⟩, h1, h2⟩ := Option.map_eq_some_iff.1 h
      cases h2
      have hlt := inn_lt _ _ _ _ _ _ _ h1
      have hle := inn_le _ _ _ _ _ _ _ hk h1
      have hgb : gdB (S.getD k []) k = true ∧ begB (S.getD k []) = true := by
        unfold okB at hok
        rw [Nat.add_zero] at hok
        revert hok
        cases gdB (S.getD k []) k <;> cases begB (S.getD k []) <;> simp
      exact ⟨hk, by omega, by omega, hgb.1, hgb.2, by rw [h1]; congr 2; omega⟩
  · rw [rcd_stop _ _ _ _ _ (by omega)] at h; cases h
set_option maxRecDepth 100000 in
set_option maxHeartbeats 8000000 in
theorem rrecords_any (S : List (List UInt8)) (h128 : ∀ s ∈ S, s.length = 128) (hlen : S.length ≤ 4096) (v : Value) (w : World) (hv : Secs w v S) :
    Calls Try.prog 32 #[v] w fun e w' => ∃ u, e = .returned u ∧ (∀ W, Upd (fun q => q < w.heap.size) w' W → Secs W u (recs S)) ∧ (recs S).length ≤ S.length ∧ Below w.heap.size w w' := by
  obtain ⟨a, cap, rfl⟩ := hv.len
  have HV := Lib.hid hv
  have H128 := Lib.hid h128
  have Hlen := Lib.hid hlen
  have HRec := Lib.hid (fun k hk W (hb : Below w.heap.size w W) => record_any S h128 hlen _ W (hv.next hb) k hk)
  obtain ⟨R, hR⟩ : ∃ R, recs S = R := ⟨_, rfl⟩
  have HR := Lib.hid hR
  rw [hR]
  obtain ⟨i0, hi, hz0, hz1, hz2⟩ := info_parts infoSl
  have Hoi := Lib.hid (own_empty w 25 1)
  have Hb0 := Lib.hid (below_alloc w (.cells #[] 25))
  clear hv h128 hlen hR
  go_enter Try.func32, Try.ntmps32
  go_wp2_with fail
  go_loopw [3, 4, 5] (fun o i l wr => ∃ (f k j : Nat) (b : W32), Hid (k ≤ S.length ∧ j ≤ k) ∧ Hid (S.length < f + k) ∧ Hid (R = R.take j ++ outr S f k b ∧ (R.take j).length = j) ∧ i = .int .i64 (k : Int) ∧ l = .int .u64 (b.toNat : Int) ∧ Hid (CpRel w w.heap.size j R o wr)) (fun _ i _ _ => S.length - (intOf i).toNat)
  case atStart =>
    refine ⟨S.length + 1, 0, 0, 0#32, Lib.hid ⟨Nat.zero_le _, Nat.zero_le _⟩, Lib.hid (by omega), Lib.hid ⟨HR.out.symm, rfl⟩, rfl, rfl, Lib.hid ⟨[], ?_, fun i s h => by omega, Hb0.out⟩⟩
    simpa using Hoi.out
  case round =>
    clear Hoi Hb0
    obtain ⟨f, k, j, b, Hk, Hf, Hrec, rfl, rfl, Hcp⟩ := hrel
    have hbw := Hcp.out.choose_spec.2.2
    have Hb := Lib.hid hbw
    have hRc := HRec.out k Hk.out.1 wr hbw
    clear hbw
    have HRc := Lib.hid hRc
    clear hRc
    go_wp2_with fail
    refine HRc.out.mono ?_
    rintro e w5 ⟨hb5, ⟨hno, rfl⟩ | ⟨r, m, a5, c5, hsome, rfl, hown5⟩⟩
    · have hend := rcd_none S k f b hno
      have HRj := Lib.hid (show R.length = j by have := Hrec.out.1; rw [hend, List.append_nil] at this; rw [this]; exact Hrec.out.2)
      have Hb5 := Lib.hid hb5
      obtain ⟨ao, co, ho⟩ : ∃ ao co, _ := (Sl.of_own Hcp.out.choose_spec.1).form
      subst ho
      clear hno hend hb5
      go_wp2_with fail
      go_ret
      refine ⟨.slice ao j co, rfl, ?_, ?_, Hb.out.trans (Hb5.out.mono Hb.out.size)⟩
      · exact fun W hU => cp_secs1 (show CpRel w w.heap.size R.length R (.slice ao j co) wr by rw [HRj.out]; exact Hcp.out) Hb5.out hU
      · have := Hk.out; have := HRj.out; omega
    · obtain ⟨hks, hm1, hmk, hgd, hbg, hin⟩ := rcd_some S k m r hsome
      have Hb5 := Lib.hid hb5
      have hbw5 := Hb.out.trans (hb5.mono Hb.out.size)
      obtain ⟨g, off, rfl⟩ : ∃ g off, a = some ⟨g, off, none⟩ := by
        obtain ⟨g, off, e, _⟩ := HV.out.at_ (by omega)
        exact ⟨g, off, e⟩
      obtain ⟨gs, os, cs, hcs, hsn, hsw⟩ := secs_at HV.out H128.out g off cap rfl k hks
      obtain ⟨hsec, hsl⟩ := hsw w5 hbw5
      have l4 : ((S.getD k []).take 4).length = 4 := by rw [List.length_take, hsn]; omega
      have hv4 : Sl w5 1 (.slice (some ⟨gs, os, none⟩) 4 cs) 4 (bc ((S.getD k []).take 4)) := by
        have h : Sl w5 1 (.slice (some ⟨gs, os, none⟩) (S.getD k []).length cs) (S.getD k []).length (bc (S.getD k [])) := by rw [hsn]; exact hsl
        exact h.take (by omega)
      have hN := rnum_any _ 4 l4 (by omega) _ cs w5 hv4
      have t4 : num4 ((S.getD k []).take 4) 0 = num4 (S.getD k []) 0 := by have := num4_sub (S.getD k []) 0 4 (by omega) (by omega); simpa using this
      rw [nb4 _ l4, t4] at hN
      obtain ⟨nk, hnk⟩ : ∃ x, num4 (S.getD k []) 0 = x := ⟨_, rfl⟩
      rw [hnk] at hN hin
      have HN := Lib.hid hN
      have f0 : ((m : Int) == 0) = false := by simp; omega
      have j3 : (k : Int) < (S.length : Int) := by omega
      have j4 : (0 : Int) ≤ (k : Int) := by omega
      have j5 : (4 : Int) ≤ (cs : Int) := by omega
      have Hown5 := Lib.hid hown5
      have Hks := Lib.hid (⟨hks, hm1, hmk⟩ : k < S.length ∧ 1 ≤ m ∧ k + m ≤ S.length)
      have Hin := Lib.hid (show inn S (num4 (S.getD k []) 0) S.length k [] = some (r, k + m) by rw [hnk]; exact hin)
      have Hgb := Lib.hid (⟨hgd, hbg⟩ : gdB (S.getD k []) k = true ∧ begB (S.getD k []) = true)
      have Hnk := Lib.hid hnk
      clear hsome hks hm1 hmk hgd hbg hin hb5 hsn hsw hsl l4 hv4 hN t4 hnk hown5 hcs
      by_cases hol : nk.toNat < b.toNat
      · have f1 : (nk.toNat : Int) < (b.toNat : Int) := by omega
        have hend := outr_no S f k b (by unfold begsB; rw [Hnk.out, decide_eq_false (show ¬ b.toNat ≤ nk.toNat by omega)]; simp)
        have HRj := Lib.hid (show R.length = j by have := Hrec.out.1; rw [hend, List.append_nil] at this; rw [this]; exact Hrec.out.2)
        obtain ⟨ao, co, ho⟩ : ∃ ao co, _ := (Sl.of_own Hcp.out.choose_spec.1).form
        subst ho
        clear hend hol
        go_wp2_with fail
        refine HN.out.mono ?_
        rintro e w6 ⟨rfl, rfl⟩
        go_wp2_with fail
        go_ret
        refine ⟨.slice ao j co, rfl, ?_, ?_, Hb.out.trans (Hb5.out.mono Hb.out.size)⟩
        · exact fun W hU => cp_secs1 (show CpRel w w.heap.size R.length R (.slice ao j co) wr by rw [HRj.out]; exact Hcp.out) Hb5.out hU
        · have := Hk.out; have := HRj.out; omega
      · have f1 : ¬ (nk.toNat : Int) < (b.toNat : Int) := by omega
        obtain ⟨f', hf'⟩ : ∃ f', f = f' + 1 := ⟨f - 1, by have := Hf.out; have := Hks.out; omega⟩
        subst hf'
        have hon := outr_on S f' k b Hks.out.1 (by unfold begsB; rw [Hgb.out.1, Hgb.out.2, Hnk.out, decide_eq_true (show b.toNat ≤ nk.toNat by omega)]; rfl) r (k + m) Hin.out
        rw [Hnk.out] at hon
        have hRr : R = R.take j ++ r :: outr S f' (k + m) nk := by have := Hrec.out.1; rw [hon] at this; exact this
        have hjs : R[j]? = some r := by
          rw [hRr, List.getElem?_append_right (by rw [Hrec.out.2]; exact Nat.le_refl _), Hrec.out.2, Nat.sub_self]; rfl
        have hjl : j < R.length := (List.getElem?_eq_some_iff.1 hjs).1
        have htk : R.take (j + 1) = R.take j ++ [r] := by
          rw [List.take_succ_eq_append_getElem hjl]
          congr 2
          exact (List.getElem?_eq_some_iff.1 hjs).2
        have HR2 := Lib.hid (show R = R.take (j + 1) ++ outr S f' (k + m) nk ∧ (R.take (j + 1)).length = j + 1 from ⟨by rw [htk, List.append_assoc]; exact hRr, by rw [List.length_take]; omega⟩)
        have Hjs := Lib.hid hjs
        obtain ⟨vs, hown, hvs, hbcp⟩ := Hcp.out
        obtain ⟨ao, co, ho⟩ : ∃ ao co, _ := (Sl.of_own hown).form
        subst ho
        have Hvs := Lib.hid hvs
        have Hown := Lib.hid hown
        have hk9 := Hk.out
        have hl9 := Hlen.out
        have hm9 := Hks.out
        have s1 : IntKind.i64.wrap ((k : Int) + (m : Int)) = ((k + m : Nat) : Int) := by rw [IntKind.wrap_i64]; omega
        have hown6 := (((Upd.of_below (B := wr.heap.size) Hb5.out).own hown (fun q hq h => by have := (hown.lt q hq).2; omega)).alloc (.cells #[.slice a5 r.length c5] 25))
        have hsz := Nat.le_trans Hb.out.size Hb5.out.size
        clear hon hRr hjs hjl htk hvs hbcp hown hol Hrec
        go_wp2_with fail
        refine HN.out.mono ?_
        rintro e w6 ⟨rfl, rfl⟩
        go_wp2_with fail
        refine HN.out.mono ?_
        rintro e w6 ⟨rfl, rfl⟩
        go_wp2_with (at_builtin; refine wpList_append_sl _ rfl (.tmp 34) (.tmp 36) 22 rfl w.heap.size 25 i0 _ 24 Try.underlying22 hi hz0 hz1 hz2 rfl (.slice ao j co) j vs rfl hown6 (.slice (some ⟨w5.heap.size, 0, none⟩) 1 1) 1 [.slice a5 r.length c5] rfl ((Blk.new w5 25 #[.slice a5 r.length c5]).sl rfl rfl) (by intro u hu; simp at hu; subst hu; rfl) (by unfold maxLen; omega) (by omega) (by simp; omega) ?_)
        intro v7 w7 hown7 hg7
        obtain ⟨g7, cap7, rfl, _, _⟩ := hown7.form (by omega)
        have hst := Lib.hid (cp_step (k := j) (S := R) Hown.out Hvs.out Hb.out (Nat.le_refl _) Hjs.out Hb5.out Hown5.out Hb.out.size (below_alloc w5 _) hown7 hg7)
        clear hown6 hown7 hg7 hsec
        go_wp2_with fail
        exact ⟨⟨f', k + m, j + 1, nk, Lib.hid ⟨hm9.2.2, by omega⟩, Lib.hid (by have := Hf.out; omega), HR2, by go_num, rfl, hst⟩, by simp [intOf]; omega⟩
end Go.Proofs.Ytbinibpkbkhdlaa
