/- Wal: the reference's record. -/
import Derived.Test.YtbinibpkbkhdlaaWlOB
import Derived.Test.YtbinibpkbkhdlaaWlI
import Derived.BigQuiet
namespace Go.Proofs.Ytbinibpkbkhdlaa
open Go.RowKit

def okB (S : List (List UInt8)) (k n : Nat) : Bool := gdB (S.getD (k + n) []) (k + n) && ((begB (S.getD (k + n) []) == decide (n = 0)) && (decide (n = 0) || decide (num4 (S.getD (k + n) []) 0 = num4 (S.getD k []) 0)))
/-- the reference's record from a sector on, and how many sectors it has -/
def rcd (S : List (List UInt8)) (k : Nat) : Nat → Nat → List UInt8 → Option (List UInt8 × Nat)
  | 0, _, _ => none
  | f + 1, n, acc => if k + n < S.length then
      if okB S k n then
        if 2 ≤ bt (S.getD (k + n) []) 10 then some (acc ++ pay (S.getD (k + n) []), n + 1) else rcd S k f (n + 1) (acc ++ pay (S.getD (k + n) []))
      else none
    else none
def RecR (S : List (List UInt8)) (k : Nat) (w : World) (e : Ending) (w' : World) : Prop :=
  Below w.heap.size w w' ∧ ((rcd S k S.length 0 [] = none ∧ e = .returned (.tuple #[.slice none 0 0, .int .i64 0])) ∨
    ∃ r m a c, rcd S k S.length 0 [] = some (r, m) ∧ e = .returned (.tuple #[.slice a r.length c, .int .i64 (m : Nat)]) ∧ w'.ownsRow w.heap.size 5 1 (.slice a r.length c) r.length (bc r))
theorem rcd_stop (S : List (List UInt8)) (k f n : Nat) (acc : List UInt8) (h : ¬ k + n < S.length) : rcd S k f n acc = none := by
  cases f with
  | zero => rfl
  | succ f => rw [rcd, if_neg h]
theorem rcd_no (S : List (List UInt8)) (k f n : Nat) (acc : List UInt8) (h : okB S k n = false) : rcd S k f n acc = none := by
  cases f with
  | zero => rfl
  | succ f => rw [rcd]; split <;> simp [h]
theorem rcd_end (S : List (List UInt8)) (k f n : Nat) (acc s : List UInt8) (hf : 0 < f) (hk : k + n < S.length) (hs : S.getD (k + n) [] = s) (h : okB S k n = true) (h2 : 2 ≤ bt s 10) : rcd S k f n acc = some (acc ++ pay s, n + 1) := by
  subst hs
  cases f with
  | zero => omega
  | succ f => rw [rcd, if_pos hk, if_pos h, if_pos h2]
theorem rcd_on (S : List (List UInt8)) (k f n : Nat) (acc s : List UInt8) (hf : 0 < f) (hk : k + n < S.length) (hs : S.getD (k + n) [] = s) (h : okB S k n = true) (h2 : ¬ 2 ≤ bt s 10) : rcd S k f n acc = rcd S k (f - 1) (n + 1) (acc ++ pay s) := by
  subst hs
  cases f with
  | zero => omega
  | succ f => rw [rcd, if_pos hk, if_pos h, if_neg h2]; rfl
theorem cell_of_sl {w : World} {g off n cap k : Nat} {s : List UInt8} (h : Sl w 1 (.slice (some ⟨g, off, none⟩) n cap) n (bc s)) (hs : s.length = n) (hk : k < n) : w.cell? ⟨g, off + k, none⟩ = some (.int .u8 (bt s k : Int)) := by
  obtain ⟨_, _, _, he, _, h0 | ⟨_, _, he2, hat⟩⟩ := h
  · omega
  cases he; cases he2
  exact hat k _ (bt_at (by omega))
set_option maxRecDepth 100000 in
set_option maxHeartbeats 8000000 in
theorem record_any (S : List (List UInt8)) (h128 : ∀ s ∈ S, s.length = 128) (hlen : S.length ≤ 4096) (v : Value) (w : World) (hv : Secs w v S) (k : Nat) (hk : k ≤ S.length) :
    Calls Try.prog 51 #[v, .int .i64 (k : Int)] w fun e w' => RecR S k w e w' := by
  obtain ⟨a, cap, rfl⟩ := hv.len
  have HV := Lib.hid hv
  have H128 := Lib.hid h128
  have Hlen := Lib.hid hlen
  have Hk := Lib.hid hk
  have Hoi := Lib.hid (own_empty w 5 1)
  have Hb0 := Lib.hid (below_alloc w (.cells #[] 5))
  obtain ⟨iu, hiu, hu0, hu1, hu2⟩ := info_parts infoU8
  clear hv h128 hlen hk
  go_enter Try.func51, Try.ntmps51
  go_wp2_with fail
  go_loopw [6, 7] (fun o i wr => ∃ (n : Nat) (acc : List UInt8), Hid (k + n ≤ S.length) ∧ Hid (rcd S k S.length 0 [] = rcd S k (S.length - n) n acc) ∧ Hid (acc.length ≤ 112 * n) ∧ i = .int .i64 (n : Int) ∧ Hid (wr.ownsRow w.heap.size 5 1 o acc.length (bc acc)) ∧ Hid (Below w.heap.size w wr)) (fun _ i _ => S.length - (intOf i).toNat)
  case atStart => exact ⟨0, [], Lib.hid (by have := Hk.out; omega), Lib.hid rfl, Lib.hid (Nat.zero_le _), rfl, Hoi, Hb0⟩
  case round =>
    clear Hoi Hb0
    obtain ⟨n, acc, Hkn, Hrc, Hacc, rfl, Hown, Hb⟩ := hrel
    obtain ⟨ao, co, rfl⟩ := (Sl.of_own Hown.out).form
    obtain ⟨q, hq⟩ : ∃ q, k + n = q := ⟨_, rfl⟩
    have Hq := Lib.hid hq
    have s0 : IntKind.i64.wrap ((k : Int) + (n : Int)) = (q : Int) := by rw [IntKind.wrap_i64]; have := Hkn.out; have := Hlen.out; omega
    by_cases hqs : q < S.length
    · have Hqs := Lib.hid hqs
      have hks : k < S.length := by omega
      obtain ⟨g, off, rfl⟩ : ∃ g off, a = some ⟨g, off, none⟩ := by
        obtain ⟨g, off, e, _⟩ := HV.out.at_ (by omega)
        exact ⟨g, off, e⟩
      have hcap : S.length ≤ cap := by
        obtain ⟨g, off, _, h, _⟩ := HV.out.at_ (by omega)
        exact h
      obtain ⟨gs, os, cs, hcs, hsn, hsw⟩ := secs_at HV.out H128.out g off cap rfl q hqs
      obtain ⟨gt, ot, ct, hct, htn, htw⟩ := secs_at HV.out H128.out g off cap rfl k hks
      obtain ⟨hsec, hsl⟩ := hsw wr Hb.out
      obtain ⟨hsec0, hsl0⟩ := htw wr Hb.out
      have Hsw := Lib.hid hsw
      clear hsw htw
      have hb1 := blw_drewN (Below.refl wr.heap.size wr)
      have HG := Lib.hid (fun m => rgood_any (S.getD q []) hsn gs os cs hcs q (by have := Hlen.out; omega) (wr.drewN m) (hsl.drewN m))
      have l4 : ((S.getD q []).take 4).length = 4 := by rw [List.length_take, hsn]; omega
      have l4' : ((S.getD k []).take 4).length = 4 := by rw [List.length_take, htn]; omega
      have hv4 : Sl wr 1 (.slice (some ⟨gs, os, none⟩) 4 cs) 4 (bc ((S.getD q []).take 4)) := by
        have h : Sl wr 1 (.slice (some ⟨gs, os, none⟩) (S.getD q []).length cs) (S.getD q []).length (bc (S.getD q [])) := by rw [hsn]; exact hsl
        exact h.take (by omega)
      have hv4' : Sl wr 1 (.slice (some ⟨gt, ot, none⟩) 4 ct) 4 (bc ((S.getD k []).take 4)) := by
        have h : Sl wr 1 (.slice (some ⟨gt, ot, none⟩) (S.getD k []).length ct) (S.getD k []).length (bc (S.getD k [])) := by rw [htn]; exact hsl0
        exact h.take (by omega)
      have HNa := Lib.hid (fun m => calls_flip (rnum_any _ 4 l4 (by omega) _ cs (wr.drewN m) (hv4.drewN m)))
      have HNb := Lib.hid (fun m => calls_flip (rnum_any _ 4 l4' (by omega) _ ct (wr.drewN m) (hv4'.drewN m)))
      have t4 : num4 ((S.getD q []).take 4) 0 = num4 (S.getD q []) 0 := by have := num4_sub (S.getD q []) 0 4 (by omega) (by omega); simpa using this
      have t4' : num4 ((S.getD k []).take 4) 0 = num4 (S.getD k []) 0 := by have := num4_sub (S.getD k []) 0 4 (by omega) (by omega); simpa using this
      rw [nb4 _ l4, t4] at HNa
      rw [nb4 _ l4', t4'] at HNb
      have c10 := cell_of_sl hsl (k := 10) hsn (by omega)
      have c11 := cell_of_sl hsl (k := 11) hsn (by omega)
      have Hokd := Lib.hid (show okB S k n = (gdB (S.getD q []) q && ((begB (S.getD q []) == decide (n = 0)) && (decide (n = 0) || decide (num4 (S.getD q []) 0 = num4 (S.getD k []) 0)))) by rw [okB, hq])
      obtain ⟨s, hs⟩ : ∃ s, S.getD q [] = s := ⟨_, rfl⟩
      rw [hs] at HG HNa c10 c11 hsn Hokd
      rw [hs] at Hsw
      have Hs := Lib.hid (show S.getD (k + n) [] = s by rw [hq]; exact hs)
      obtain ⟨fl, hfl⟩ : ∃ x, bt s 10 = x := ⟨_, rfl⟩
      obtain ⟨sz, hsz⟩ : ∃ x, bt s 11 = x := ⟨_, rfl⟩
      rw [hfl] at c10
      rw [hsz] at c11
      obtain ⟨na, hna⟩ : ∃ x, num4 s 0 = x := ⟨_, rfl⟩
      obtain ⟨nk, hnk⟩ : ∃ x, num4 (S.getD k []) 0 = x := ⟨_, rfl⟩
      rw [hna] at HNa Hokd
      rw [hnk] at HNb Hokd
      have Hbg := Lib.hid (show begB s = decide (fl % 2 = 1) by rw [begB, hfl])
      rw [Hbg.out] at Hokd
      have Hfl := Lib.hid hfl
      have Hsz := Lib.hid hsz
      have Hsn := Lib.hid hsn
      have Hcs := Lib.hid hcs
      have j1 : (q : Int) < (S.length : Int) := by omega
      have j2 : (0 : Int) ≤ (q : Int) := by omega
      have j3 : (k : Int) < (S.length : Int) := by omega
      have j4 : (0 : Int) ≤ (k : Int) := by omega
      have j5 : (4 : Int) ≤ (cs : Int) := by omega
      have j6 : (4 : Int) ≤ (ct : Int) := by omega
      have s1 : IntKind.i64.wrap ((n : Int) + 1) = ((n + 1 : Nat) : Int) := by rw [IntKind.wrap_i64]; have := Hkn.out; have := Hlen.out; omega
      clear hs hq hqs hks hcap hsl hsl0 hb1 l4 l4' hv4 hv4' t4 t4' hfl hsz hna hnk hsn htn hcs hct
      go_wp2_with fail
      refine wp_region_quiet_lit (by kernel_rfl) (by kernel_rfl) ?_
      cases hgd : gdB s q
      · rw [hgd] at HG
        have Hno := Lib.hid (show rcd S k S.length 0 [] = none by rw [Hrc.out]; exact rcd_no _ _ _ _ _ (by rw [Hokd.out, hgd]; rfl))
        clear hgd
        try clear hbg
        try clear hnn
        repeat (go_big_quiet_step ((first | (go_at_call 58; with_reducible exact Calls.quiet_of (HG.out _)) | (go_at_call 52; with_reducible exact Calls.quiet_of_same (HNa.out _)) | (go_at_call 52; with_reducible exact Calls.quiet_of_same (HNb.out _)))))
        refine wpQuiet_nil ?_
        intro _ hw'
        obtain ⟨nq, hw''⟩ := hw'
        subst hw''
        go_wp2_with fail
        exact bodyPost_ret (v := .tuple #[.slice none 0 0, .int .i64 0]) (by simp [results, Try.results51, go_sem, *]) rfl ⟨blw_drewN Hb.out _, .inl ⟨Hno.out, rfl⟩⟩
      · have Hz112 := Lib.hid (show sz ≤ 112 by rw [← Hsz.out]; exact (of_decide_eq_true hgd : Gd s q).2.2.2.2.1)
        rw [hgd] at HG
        obtain ⟨az, haz⟩ : ∃ x, 12 + sz = x := ⟨_, rfl⟩
        have s2 : IntKind.i64.wrap (12 + (sz : Int)) = (az : Int) := by rw [IntKind.wrap_i64]; have := Hz112.out; omega
        have Haz := Lib.hid haz
        have Hpl := Lib.hid (show (pay s).length = sz by rw [pay]; have := Hsn.out; have := Hsz.out; have := Hz112.out; simp; omega)
        have i1 : (12 : Int) ≤ (az : Int) := by omega
        have i2 : (az : Int) ≤ (cs : Int) := by have := Hz112.out; have := Hcs.out; omega
        have i3 : ¬ cs = 12 := by have := Hcs.out; omega
        have i4 : sz < 256 := by have := Hz112.out; omega
        clear haz
        by_cases hn0 : n = 0
        · have f3 : ((n : Int) == 0) = true := by simp; omega
          have f4 : decide (0 < n) = false := decide_eq_false (by omega)
          have Hn0 := Lib.hid hn0
          clear hn0
          by_cases hbg : fl % 2 = 1
          · have f5 : ((fl : Int) % 2 == 1) = true := by simp; omega
            have f5b : ((fl : Int).tmod 2 == 1) = true := by rw [Int.tmod_eq_emod_of_nonneg (by omega)]; simp; omega
            have Hok := Lib.hid (show okB S k n = true from by rw [Hokd.out, hgd, decide_eq_true hbg, decide_eq_true Hn0.out]; rfl)
            clear hgd
            try clear hbg
            try clear hnn
            repeat (go_big_quiet_step ((first | (go_at_call 58; with_reducible exact Calls.quiet_of (HG.out _)) | (go_at_call 52; with_reducible exact Calls.quiet_of_same (HNa.out _)) | (go_at_call 52; with_reducible exact Calls.quiet_of_same (HNb.out _)))))
            refine wpQuiet_nil ?_
            intro _ hw'
            obtain ⟨nq, hw''⟩ := hw'
            subst hw''
            obtain ⟨w2, hw2⟩ : ∃ w2, wr.drewN nq = w2 := ⟨_, rfl⟩
            have Hb2 := Lib.hid (show Below w.heap.size w w2 by rw [← hw2]; exact blw_drewN Hb.out _)
            have Hown2 := Lib.hid (show w2.ownsRow w.heap.size 5 1 (.slice ao acc.length co) acc.length (bc acc) by rw [← hw2]; exact Hown.out)
            rw [hw2]
            obtain ⟨_, hsl2⟩ := Hsw.out w2 Hb2.out
            have Hpay : Hid (Sl w2 1 (.slice (some ⟨gs, os + 12, none⟩) (az - 12) (cs - 12)) (az - 12) (bc (pay s))) := Lib.hid (by
              rw [← Haz.out, pay, Hsz.out]
              exact sl_sub hsl2 (A := 12) (B := 12 + sz) (by omega) (by have := Hz112.out; omega) _ (cs - 12) rfl (by have := Hcs.out; have := Hz112.out; omega))
            have c11b := cell_of_sl hsl2 (k := 11) Hsn.out (by omega)
            rw [Hsz.out] at c11b
            clear hw2 hsl2 c10 c11 HG HNa HNb
            go_wp2_with (first
              | (at_builtin; refine wpList_append_sl _ rfl (.tmp 56) (.tmp 63) 25 rfl w.heap.size 5 iu _ _ Try.underlying25 hiu hu0 hu1 hu2 rfl (.slice ao acc.length co) acc.length (bc acc) rfl Hown2.out (.slice (some ⟨gs, os + 12, none⟩) (az - 12) (cs - 12)) (az - 12) (bc (pay s)) rfl Hpay.out (bc_one _) (by unfold maxLen; have := Hacc.out; have := Hq.out; have := Hqs.out; have := Hlen.out; have := Haz.out; have := Hz112.out; omega) (by have := Hacc.out; have := Hq.out; have := Hqs.out; have := Hlen.out; have := Haz.out; have := Hz112.out; omega) Hb2.out.size ?_))
            intro v' w5 hown5 hgr5
            have hb5 : Below w.heap.size w w5 := Hb2.out.grown hgr5 Hb2.out.size (fun j hj => (Hown2.out.lt j hj).1)
            obtain ⟨a5, c5, rfl⟩ := (Sl.of_own hown5).form
            have hown5 : w5.ownsRow w.heap.size 5 1 (.slice a5 (acc.length + (az - 12)) c5) (acc ++ pay s).length (bc (acc ++ pay s)) := by
              rw [List.length_append, Hpl.out, bc_app, show acc.length + sz = acc.length + (az - 12) by have := Haz.out; omega]; exact hown5
            obtain ⟨_, hsl5⟩ := Hsw.out w5 hb5
            have c10 := cell_of_sl hsl5 (k := 10) Hsn.out (by omega)
            rw [Hfl.out] at c10
            have hll : acc.length + (az - 12) = (acc ++ pay s).length := by rw [List.length_append, Hpl.out]; have := Haz.out; omega
            rw [hll] at hown5 ⊢
            have Hown5 := Lib.hid hown5
            have Hb5 := Lib.hid hb5
            clear hown5 hb5 hsl5 hgr5 c11b hll
            by_cases h2 : 2 ≤ fl
            · have f2 : (2 : Int) ≤ (fl : Int) := by omega
              have Hend := Lib.hid (show rcd S k S.length 0 [] = some (acc ++ pay s, n + 1) by rw [Hrc.out]; exact rcd_end S k _ n acc s (by have := Hqs.out; have := Hq.out; omega) (by have := Hqs.out; have := Hq.out; omega) Hs.out Hok.out (by rw [Hfl.out]; exact h2))
              clear h2
              go_wp2_with fail
              exact bodyPost_ret (v := .tuple #[.slice a5 (acc ++ pay s).length c5, .int .i64 ((n + 1 : Nat) : Int)]) (by simp [results, Try.results51, go_sem, *]) rfl ⟨Hb5.out, .inr ⟨acc ++ pay s, n + 1, a5, c5, Hend.out, rfl, Hown5.out⟩⟩
            · have f2 : ¬ (2 : Int) ≤ (fl : Int) := by omega
              have Hon := Lib.hid (show rcd S k S.length 0 [] = rcd S k (S.length - n - 1) (n + 1) (acc ++ pay s) by rw [Hrc.out]; exact rcd_on S k _ n acc s (by have := Hqs.out; have := Hq.out; omega) (by have := Hqs.out; have := Hq.out; omega) Hs.out Hok.out (by rw [Hfl.out]; exact h2))
              clear h2
              go_wp2_with fail
              exact ⟨⟨n + 1, acc ++ pay s, Lib.hid (by have := Hqs.out; have := Hq.out; omega), Lib.hid (by rw [Hon.out]; rfl), Lib.hid (by rw [List.length_append, Hpl.out]; have := Hacc.out; have := Hz112.out; omega), by go_num, Hown5, Hb5⟩, by have := Hqs.out; have := Hq.out; simp [intOf]; omega⟩
          · have f5 : ((fl : Int) % 2 == 1) = false := by simp; omega
            have f5b : ((fl : Int).tmod 2 == 1) = false := by rw [Int.tmod_eq_emod_of_nonneg (by omega)]; simp; omega
            have Hno := Lib.hid (show rcd S k S.length 0 [] = none by rw [Hrc.out]; exact rcd_no _ _ _ _ _ (by rw [Hokd.out, hgd, decide_eq_false hbg, decide_eq_true Hn0.out]; rfl))
            clear hgd
            try clear hbg
            try clear hnn
            repeat (go_big_quiet_step ((first | (go_at_call 58; with_reducible exact Calls.quiet_of (HG.out _)) | (go_at_call 52; with_reducible exact Calls.quiet_of_same (HNa.out _)) | (go_at_call 52; with_reducible exact Calls.quiet_of_same (HNb.out _)))))
            refine wpQuiet_nil ?_
            intro _ hw'
            obtain ⟨nq, hw''⟩ := hw'
            subst hw''
            go_wp2_with fail
            exact bodyPost_ret (v := .tuple #[.slice none 0 0, .int .i64 0]) (by simp [results, Try.results51, go_sem, *]) rfl ⟨blw_drewN Hb.out _, .inl ⟨Hno.out, rfl⟩⟩
        · have f3 : ((n : Int) == 0) = false := by simp; omega
          have f4 : decide (0 < n) = true := decide_eq_true (by omega)
          have Hn0 := Lib.hid hn0
          clear hn0
          by_cases hbg : fl % 2 = 1
          · have f5 : ((fl : Int) % 2 == 1) = true := by simp; omega
            have f5b : ((fl : Int).tmod 2 == 1) = true := by rw [Int.tmod_eq_emod_of_nonneg (by omega)]; simp; omega
            have Hno := Lib.hid (show rcd S k S.length 0 [] = none by rw [Hrc.out]; exact rcd_no _ _ _ _ _ (by rw [Hokd.out, hgd, decide_eq_true hbg, decide_eq_false Hn0.out]; rfl))
            clear hgd
            try clear hbg
            try clear hnn
            repeat (go_big_quiet_step ((first | (go_at_call 58; with_reducible exact Calls.quiet_of (HG.out _)) | (go_at_call 52; with_reducible exact Calls.quiet_of_same (HNa.out _)) | (go_at_call 52; with_reducible exact Calls.quiet_of_same (HNb.out _)))))
            refine wpQuiet_nil ?_
            intro _ hw'
            obtain ⟨nq, hw''⟩ := hw'
            subst hw''
            go_wp2_with fail
            exact bodyPost_ret (v := .tuple #[.slice none 0 0, .int .i64 0]) (by simp [results, Try.results51, go_sem, *]) rfl ⟨blw_drewN Hb.out _, .inl ⟨Hno.out, rfl⟩⟩
          · have f5 : ((fl : Int) % 2 == 1) = false := by simp; omega
            have f5b : ((fl : Int).tmod 2 == 1) = false := by rw [Int.tmod_eq_emod_of_nonneg (by omega)]; simp; omega
            by_cases hnn : na = nk
            · have f6 : ((na.toNat : Int) != (nk.toNat : Int)) = false := by rw [bne, toNat_beq, decide_eq_true hnn]; rfl
              have Hok := Lib.hid (show okB S k n = true from by rw [Hokd.out, hgd, decide_eq_false hbg, decide_eq_false Hn0.out, decide_eq_true hnn]; rfl)
              clear hgd
              try clear hbg
              try clear hnn
              repeat (go_big_quiet_step ((first | (go_at_call 58; with_reducible exact Calls.quiet_of (HG.out _)) | (go_at_call 52; with_reducible exact Calls.quiet_of_same (HNa.out _)) | (go_at_call 52; with_reducible exact Calls.quiet_of_same (HNb.out _)))))
              refine wpQuiet_nil ?_
              intro _ hw'
              obtain ⟨nq, hw''⟩ := hw'
              subst hw''
              obtain ⟨w2, hw2⟩ : ∃ w2, wr.drewN nq = w2 := ⟨_, rfl⟩
              have Hb2 := Lib.hid (show Below w.heap.size w w2 by rw [← hw2]; exact blw_drewN Hb.out _)
              have Hown2 := Lib.hid (show w2.ownsRow w.heap.size 5 1 (.slice ao acc.length co) acc.length (bc acc) by rw [← hw2]; exact Hown.out)
              rw [hw2]
              obtain ⟨_, hsl2⟩ := Hsw.out w2 Hb2.out
              have Hpay : Hid (Sl w2 1 (.slice (some ⟨gs, os + 12, none⟩) (az - 12) (cs - 12)) (az - 12) (bc (pay s))) := Lib.hid (by
                rw [← Haz.out, pay, Hsz.out]
                exact sl_sub hsl2 (A := 12) (B := 12 + sz) (by omega) (by have := Hz112.out; omega) _ (cs - 12) rfl (by have := Hcs.out; have := Hz112.out; omega))
              have c11b := cell_of_sl hsl2 (k := 11) Hsn.out (by omega)
              rw [Hsz.out] at c11b
              clear hw2 hsl2 c10 c11 HG HNa HNb
              go_wp2_with (first
                | (at_builtin; refine wpList_append_sl _ rfl (.tmp 56) (.tmp 63) 25 rfl w.heap.size 5 iu _ _ Try.underlying25 hiu hu0 hu1 hu2 rfl (.slice ao acc.length co) acc.length (bc acc) rfl Hown2.out (.slice (some ⟨gs, os + 12, none⟩) (az - 12) (cs - 12)) (az - 12) (bc (pay s)) rfl Hpay.out (bc_one _) (by unfold maxLen; have := Hacc.out; have := Hq.out; have := Hqs.out; have := Hlen.out; have := Haz.out; have := Hz112.out; omega) (by have := Hacc.out; have := Hq.out; have := Hqs.out; have := Hlen.out; have := Haz.out; have := Hz112.out; omega) Hb2.out.size ?_))
              intro v' w5 hown5 hgr5
              have hb5 : Below w.heap.size w w5 := Hb2.out.grown hgr5 Hb2.out.size (fun j hj => (Hown2.out.lt j hj).1)
              obtain ⟨a5, c5, rfl⟩ := (Sl.of_own hown5).form
              have hown5 : w5.ownsRow w.heap.size 5 1 (.slice a5 (acc.length + (az - 12)) c5) (acc ++ pay s).length (bc (acc ++ pay s)) := by
                rw [List.length_append, Hpl.out, bc_app, show acc.length + sz = acc.length + (az - 12) by have := Haz.out; omega]; exact hown5
              obtain ⟨_, hsl5⟩ := Hsw.out w5 hb5
              have c10 := cell_of_sl hsl5 (k := 10) Hsn.out (by omega)
              rw [Hfl.out] at c10
              have hll : acc.length + (az - 12) = (acc ++ pay s).length := by rw [List.length_append, Hpl.out]; have := Haz.out; omega
              rw [hll] at hown5 ⊢
              have Hown5 := Lib.hid hown5
              have Hb5 := Lib.hid hb5
              clear hown5 hb5 hsl5 hgr5 c11b hll
              by_cases h2 : 2 ≤ fl
              · have f2 : (2 : Int) ≤ (fl : Int) := by omega
                have Hend := Lib.hid (show rcd S k S.length 0 [] = some (acc ++ pay s, n + 1) by rw [Hrc.out]; exact rcd_end S k _ n acc s (by have := Hqs.out; have := Hq.out; omega) (by have := Hqs.out; have := Hq.out; omega) Hs.out Hok.out (by rw [Hfl.out]; exact h2))
                clear h2
                go_wp2_with fail
                exact bodyPost_ret (v := .tuple #[.slice a5 (acc ++ pay s).length c5, .int .i64 ((n + 1 : Nat) : Int)]) (by simp [results, Try.results51, go_sem, *]) rfl ⟨Hb5.out, .inr ⟨acc ++ pay s, n + 1, a5, c5, Hend.out, rfl, Hown5.out⟩⟩
              · have f2 : ¬ (2 : Int) ≤ (fl : Int) := by omega
                have Hon := Lib.hid (show rcd S k S.length 0 [] = rcd S k (S.length - n - 1) (n + 1) (acc ++ pay s) by rw [Hrc.out]; exact rcd_on S k _ n acc s (by have := Hqs.out; have := Hq.out; omega) (by have := Hqs.out; have := Hq.out; omega) Hs.out Hok.out (by rw [Hfl.out]; exact h2))
                clear h2
                go_wp2_with fail
                exact ⟨⟨n + 1, acc ++ pay s, Lib.hid (by have := Hqs.out; have := Hq.out; omega), Lib.hid (by rw [Hon.out]; rfl), Lib.hid (by rw [List.length_append, Hpl.out]; have := Hacc.out; have := Hz112.out; omega), by go_num, Hown5, Hb5⟩, by have := Hqs.out; have := Hq.out; simp [intOf]; omega⟩
            · have f6 : ((na.toNat : Int) != (nk.toNat : Int)) = true := by rw [bne, toNat_beq, decide_eq_false hnn]; rfl
              have Hno := Lib.hid (show rcd S k S.length 0 [] = none by rw [Hrc.out]; exact rcd_no _ _ _ _ _ (by rw [Hokd.out, hgd, decide_eq_false hbg, decide_eq_false Hn0.out, decide_eq_false hnn]; rfl))
              clear hgd
              try clear hbg
              try clear hnn
              repeat (go_big_quiet_step ((first | (go_at_call 58; with_reducible exact Calls.quiet_of (HG.out _)) | (go_at_call 52; with_reducible exact Calls.quiet_of_same (HNa.out _)) | (go_at_call 52; with_reducible exact Calls.quiet_of_same (HNb.out _)))))
              refine wpQuiet_nil ?_
              intro _ hw'
              obtain ⟨nq, hw''⟩ := hw'
              subst hw''
              go_wp2_with fail
              exact bodyPost_ret (v := .tuple #[.slice none 0 0, .int .i64 0]) (by simp [results, Try.results51, go_sem, *]) rfl ⟨blw_drewN Hb.out _, .inl ⟨Hno.out, rfl⟩⟩
    · have j1 : ¬ (q : Int) < (S.length : Int) := by omega
      have Hno := Lib.hid (show rcd S k S.length 0 [] = none by rw [Hrc.out]; exact rcd_stop _ _ _ _ _ (by omega))
      clear hqs hq
      go_wp2_with fail
      exact bodyPost_ret (v := .tuple #[.slice none 0 0, .int .i64 0]) (by simp [results, Try.results51, go_sem, *]) rfl ⟨Hb.out, .inl ⟨Hno.out, rfl⟩⟩
end Go.Proofs.Ytbinibpkbkhdlaa
