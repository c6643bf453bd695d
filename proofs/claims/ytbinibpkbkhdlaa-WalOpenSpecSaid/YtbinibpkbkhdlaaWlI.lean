/- Wal: the iterator over the records. -/
import Derived.Test.YtbinibpkbkhdlaaWlR
import Derived.WalkMore
import Derived.Deep.DeepCutAuto
namespace Go.Proofs.Ytbinibpkbkhdlaa
open Go.RowKit

/-- what holds between two rounds -/
structure St (w0 : World) (B b1 : Nat) (v : Value) (J : List Rc → World → Prop) (xs : List Rc) (W : World) : Prop where
  bel : Below w0.heap.size w0 W
  size : B ≤ W.heap.size
  cell : W.cell? ⟨b1, 0, none⟩ = some v
  came : Came w0.heap.size W.heap.size W xs
  j : J xs W
/-- a sector in the world -/
theorem secs_at {w0 : World} {v : Value} {S : List (List UInt8)} (hv : Secs w0 v S) (h128 : ∀ s ∈ S, s.length = 128) (g off cap : Nat) (he : v = .slice (some ⟨g, off, none⟩) S.length cap) (k : Nat) (hk : k < S.length) :
    ∃ gs os c, 128 ≤ c ∧ (S.getD k []).length = 128 ∧ ∀ W, Below w0.heap.size w0 W → W.cell? ⟨g, off + k, none⟩ = some (.slice (some ⟨gs, os, none⟩) 128 c) ∧ Sl W 1 (.slice (some ⟨gs, os, none⟩) 128 c) 128 (bc (S.getD k [])) := by
  subst he
  obtain ⟨_, _, e, _, hcs⟩ := hv.at_ (by omega)
  cases e
  have hs : S[k]? = some (S.getD k []) := by rw [List.getD, List.getElem?_eq_getElem hk]; rfl
  have hl := h128 _ (List.mem_of_getElem? hs)
  obtain ⟨ad, c, h1, h2⟩ := hcs k _ hs
  rw [hl] at h1 h2
  obtain ⟨gs, os, rfl, hc, _⟩ := h2.pos (by omega)
  exact ⟨gs, os, c, hc, hl, fun W hb => ⟨(hb.cell (p := ⟨g, off + k, none⟩) (World.block_lt_of_cell? w0 _ h1)).trans h1, h2.next hb⟩⟩
theorem upd_drewN (S : Nat → Prop) (W : World) (n : Nat) : Upd S W (W.drewN n) := ⟨rfl, rfl, rfl, Nat.le_refl _, fun _ _ _ => rfl⟩
theorem St.drewN {w0 W : World} {B b1 : Nat} {v : Value} {J : List Rc → World → Prop} {xs : List Rc} (h : St w0 B b1 v J xs W) (hJ : ∀ pre W W', J pre W → It B W W' → J pre W') (n : Nat) : St w0 B b1 v J xs (W.drewN n) :=
  ⟨blw_drewN h.bel n, h.size, h.cell, h.came, hJ _ _ _ h.j (upd_drewN _ W n)⟩
theorem inn_end (S : List (List UInt8)) (b : W32) (f k : Nat) (acc s : List UInt8) (hs : S.getD k [] = s) (hf : 0 < f) (he : endB s = true) : inn S b f k acc = some (acc ++ pay s, k + 1) := by
  obtain ⟨f, rfl⟩ : ∃ f0, f = f0 + 1 := ⟨f - 1, by omega⟩
  rw [inn, hs, if_pos he]
theorem inn_cut (S : List (List UInt8)) (b : W32) (f k : Nat) (acc s : List UInt8) (hs : S.getD k [] = s) (he : endB s = false) (hc : cutB S b (k + 1) = true) : inn S b f k acc = none := by
  cases f with
  | zero => rfl
  | succ f => rw [inn, hs, if_neg (by simp [he]), if_pos hc]
theorem inn_on (S : List (List UInt8)) (b : W32) (f k : Nat) (acc s : List UInt8) (hs : S.getD k [] = s) (he : endB s = false) (hc : cutB S b (k + 1) = false) : inn S b (f + 1) k acc = inn S b f (k + 1) (acc ++ pay s) := by
  rw [inn, hs, if_neg (by simp [he]), if_neg (by simp [hc])]
theorem St.step {w0 W W' : World} {B Bk b1 : Nat} {v : Value} {J : List Rc → World → Prop} {xs : List Rc} {T : Nat → Prop} (h : St w0 B b1 v J xs W) (hc : Came w0.heap.size Bk W xs) (hJ : ∀ pre W W', J pre W → It B W W' → J pre W')
    (hu : Upd T W W') (hT : ∀ k, T k → Bk ≤ k ∧ U8 W k) (hB : B ≤ Bk) (hb : b1 < B) (h0 : w0.heap.size ≤ B) (hk : Bk ≤ W.heap.size) : St w0 B b1 v J xs W' ∧ Came w0.heap.size Bk W' xs := by
  have hc' := hc.upd hu (fun k h1 h2 => by have := (hT k h2).1; omega)
  exact ⟨⟨h.bel.trans (hu.below (by omega) (fun k h1 h2 => by have := (hT k h2).1; omega)), Nat.le_trans h.size hu.size, (Upd.cell hu (p := ⟨b1, 0, none⟩) (Nat.lt_of_lt_of_le hb h.size) (fun h2 => by have := (hT _ h2).1; simp only [] at this; omega)).trans h.cell, hc'.mono (Nat.le_trans hk hu.size), hJ _ _ _ h.j (hu.mono (fun k _ h2 => ⟨Nat.le_trans hB (hT k h2).1, (hT k h2).2⟩))⟩, hc'⟩
theorem own_mono {w : World} {B B' : Nat} {e : TypeId} {size : Nat} {v : Value} {n : Nat} {xs : List Value} (h : w.ownsRow B e size v n xs) (hb : B' ≤ B) : w.ownsRow B' e size v n xs := by
  rcases h with ⟨h1, h2 | ⟨g, cap, cur, e1, e2, r⟩⟩
  · exact ⟨h1, .inl h2⟩
  · exact ⟨h1, .inr ⟨g, cap, cur, e1, by omega, r⟩⟩
theorem St.round {w0 W W' : World} {B Bk b1 : Nat} {v : Value} {J : List Rc → World → Prop} {xs : List Rc} (h : St w0 B b1 v J xs W) (x : Rc) (hc : Came w0.heap.size Bk W xs) (hx : W.ownsRow Bk 5 1 x.v x.b.length (bc x.b))
    (h0 : w0.heap.size ≤ B) (hB : B ≤ Bk) (hk : Bk ≤ W.heap.size) (hb : b1 < B) (hj : J (xs ++ [x]) W') (hu : Bd w0.heap.size b1 W W') : St w0 B b1 v J (xs ++ [x]) W' :=
  ⟨h.bel.trans (hu.below h.bel.size), Nat.le_trans h.size hu.size, (Upd.cell hu (p := ⟨b1, 0, none⟩) (Nat.lt_of_lt_of_le hb h.size) (fun h2 => h2.2.1 rfl)).trans h.cell, fun y hy => by
    rcases List.mem_append.1 hy with hy | hy
    · exact ⟨hu.own (hc y hy).1, fun k hk' => by have := (hc y hy).2 k hk'; have := hu.size; omega⟩
    · rw [List.mem_singleton] at hy
      subst hy
      exact ⟨own_mono (hu.own hx) (by omega), fun k hk' => Nat.lt_of_lt_of_le (hx.lt k hk').2 hu.size⟩, hj⟩
set_option maxRecDepth 100000 in
set_option maxHeartbeats 4000000 in
theorem recs_it (S : List (List UInt8)) (h128 : ∀ s ∈ S, s.length = 128) (hlen : S.length ≤ 4096) (w0 : World) (v : Value) (hv : Secs w0 v S) (B b1 : Nat) (hB0 : w0.heap.size ≤ B) (hb1 : b1 < B) (n l : Nat)
    (J : List Rc → World → Prop) (W : World) (hSt : St w0 B b1 v J [] W) (hJ : ∀ pre W W', J pre W → It B W W' → J pre W')
    (hY : ∀ pre x W1, J pre W1 → pre.length < 4096 → YieldAt Fence.wide n Try.prog l #[.slice x.a x.n x.c] W1 fun e W' => e = .returned (.bool true) ∧ J (pre ++ [x]) W' ∧ Bd w0.heap.size b1 W1 W') :
    Calls Try.prog 48 #[.func (.yield l) #[] #[], .pointer (some ⟨b1, 0, none⟩)] W fun e W' => (∃ v, e = .returned v) ∧ ∃ xs, (xs.map Rc.b = recs S ∧ Came w0.heap.size W'.heap.size W' xs) ∧ J xs W' := by
  obtain ⟨a, cap, rfl⟩ := hv.len
  have HSt := Lib.hid hSt
  have HJ := Lib.hid hJ
  have HY := Lib.hid hY
  have HV := Lib.hid hv
  have H128 := Lib.hid h128
  have Hlen := Lib.hid hlen
  have HB0 := Lib.hid hB0
  have Hb1 := Lib.hid hb1
  clear hSt hJ hY hv h128 hlen hB0 hb1
  go_enter Try.func48, Try.ntmps48
  go_wp2_with fail
  go_step3
  go_wp2_with fail
  go_step3
  go_wp2_with fail
  go_loopw [3, 4] (fun bf i wr => ∃ (f k : Nat) (b : W32) (xs : List Rc), Hid (k ≤ S.length ∧ xs.length ≤ k) ∧ Hid (S.length < f + k) ∧ Hid (recs S = xs.map Rc.b ++ outr S f k b) ∧ bf = wv b ∧ i = .int .i64 (k : Int) ∧ Hid (St w0 B b1 (.slice a S.length cap) J xs wr)) (fun _ i _ => S.length - (intOf i).toNat)
  case atStart => exact ⟨S.length + 1, 0, 0#32, [], Lib.hid ⟨Nat.zero_le _, Nat.le_refl _⟩, Lib.hid (by omega), Lib.hid rfl, rfl, rfl, HSt⟩
  case round =>
    obtain ⟨f, k, b, xs, Hk, Hf, Hrec, rfl, rfl, HS⟩ := hrel
    have hcell := HS.out.cell
    by_cases hk : k < S.length
    · have j1 : (k : Int) < (S.length : Int) := by omega
      obtain ⟨g, off, rfl⟩ : ∃ g off, a = some ⟨g, off, none⟩ := by
        obtain ⟨g, off, e, _⟩ := HV.out.at_ (by omega)
        exact ⟨g, off, e⟩
      obtain ⟨gs, os, cs, hcs, hsn, hsw⟩ := secs_at HV.out H128.out g off cap rfl k hk
      obtain ⟨hsec, hsl⟩ := hsw wr HS.out.bel
      clear hsw
      have HG := Lib.hid (fun W (hb : Below wr.heap.size wr W) => good_any (S.getD k []) hsn gs os cs hcs k W (hsl.next hb))
      have HNm := Lib.hid (fun W (hb : Below wr.heap.size wr W) => number_any (S.getD k []) 128 hsn (by omega) _ cs W (hsl.next hb))
      obtain ⟨_, _, _, he, _, hz | ⟨_, _, he2, hat⟩⟩ := hsl
      · omega
      cases he; cases he2
      have c10 := hat 10 _ (bt_at (d := S.getD k []) (k := 10) (by omega))
      obtain ⟨s, hs⟩ : ∃ s, S.getD k [] = s := ⟨_, rfl⟩
      rw [hs] at HG HNm c10 hsn
      have HS1 := Lib.hid (fun n => HS.out.drewN HJ.out n)
      have Hs := Lib.hid hs
      have Hkl := Lib.hid hk
      clear hat hs hk hsn
      unfold wv
      cases hgd : gdB s k
      · rw [hgd] at HG
        have Hno := Lib.hid (outr_no S f k b (by rw [begsB, Hs.out, hgd]; rfl))
        clear hgd
        go_wp2_with fail
        refine (HG.out _ (Below.refl _ _)).mono ?_
        rintro e w1 ⟨rfl, m1, rfl⟩
        go_wp2_with fail
        try rw [Exit.noGoto_ret]
        first | go_end0 | (refine bodyPost_ret (results_none rfl _ _ _) rfl ?_)
        exact ⟨⟨_, rfl⟩, xs, ⟨by rw [Hrec.out, Hno.out, List.append_nil], (HS1.out _).came⟩, (HS1.out _).j⟩
      · rw [hgd] at HG
        have hGd : Gd s k := of_decide_eq_true hgd
        have hf3 := hGd.2.2.2.1
        obtain ⟨fl, hfl⟩ : ∃ x, bt s 10 = x := ⟨_, rfl⟩
        rw [hfl] at c10 hf3
        obtain ⟨e2, e1⟩ := flag_and fl hf3
        have HGd := Lib.hid hGd
        by_cases hbg : fl % 2 = 0
        · rw [if_pos hbg] at e1
          have Hno := Lib.hid (outr_no S f k b (by rw [begsB, Hs.out, begB, hfl, decide_eq_false (by omega)]; simp))
          clear hgd hGd hf3 hfl hbg e2
          go_wp2_with fail
          refine (HG.out _ (Below.refl _ _)).mono ?_
          rintro e w1 ⟨rfl, m1, rfl⟩
          go_wp2_with fail
          try rw [Exit.noGoto_ret]
          first | go_end0 | (refine bodyPost_ret (results_none rfl _ _ _) rfl ?_)
          exact ⟨⟨_, rfl⟩, xs, ⟨by rw [Hrec.out, Hno.out, List.append_nil], (HS1.out _).came⟩, (HS1.out _).j⟩
        · rw [if_neg hbg] at e1
          by_cases hol : (num4 s 0).toNat < b.toNat
          · have f1 : ((num4 s 0).toNat : Int) < (b.toNat : Int) := by omega
            have Hno := Lib.hid (outr_no S f k b (by rw [begsB, Hs.out, decide_eq_false (show ¬ b.toNat ≤ (num4 s 0).toNat by omega)]; simp))
            clear hgd hGd hf3 hfl hbg e2 hol
            unfold wv at HNm
            go_wp2_with fail
            refine (HG.out _ (Below.refl _ _)).mono ?_
            rintro e w1 ⟨rfl, m1, rfl⟩
            go_wp2_with fail
            refine (HNm.out _ (blw_drewN (Below.refl _ _) _)).mono ?_
            rintro e w1 ⟨rfl, m2, rfl⟩
            go_wp2_with fail
            try rw [Exit.noGoto_ret]
            first | go_end0 | (refine bodyPost_ret (results_none rfl _ _ _) rfl ?_)
            exact ⟨⟨_, rfl⟩, xs, ⟨by rw [Hrec.out, Hno.out, List.append_nil], (HS1.out _).came⟩, (HS1.out _).j⟩
          · have f1 : ¬ ((num4 s 0).toNat : Int) < (b.toNat : Int) := by omega
            have Hyes := Lib.hid (show begsB S b k = true by rw [begsB, Hs.out, hgd, begB, hfl, decide_eq_true (show fl % 2 = 1 by omega), decide_eq_true (show b.toNat ≤ (num4 s 0).toNat by omega)]; rfl)
            have Hn := Lib.hid (show num4 (S.getD k []) 0 = num4 s 0 by rw [Hs.out])
            clear hgd hGd hf3 hfl hbg e2 hol
            obtain ⟨nb, hnb⟩ : ∃ x, num4 s 0 = x := ⟨_, rfl⟩
            rw [hnb] at HNm Hn f1
            unfold wv at HNm
            clear hnb
            go_wp2_with fail
            refine (HG.out _ (Below.refl _ _)).mono ?_
            rintro e w1 ⟨rfl, m1, rfl⟩
            go_wp2_with fail
            refine (HNm.out _ (blw_drewN (Below.refl _ _) _)).mono ?_
            rintro e w1 ⟨rfl, m2, rfl⟩
            go_wp2_with fail
            refine (HNm.out _ (blw_drewN (Below.refl _ _) _)).mono ?_
            rintro e w1 ⟨rfl, m3, rfl⟩
            have HS2 := Lib.hid ((HS1.out (m1 + m2)).drewN HJ.out m3)
            obtain ⟨wa, hwa⟩ : ∃ wa, (wr.drewN (m1 + m2)).drewN m3 = wa := ⟨_, rfl⟩
            rw [hwa] at HS2 ⊢
            clear hwa hcell hsec c10 f1 e1 HNm HG HS1
            have hcell := HS2.out.cell
            have hoi := own_empty wa 5 1
            have hb6 : Upd (fun _ => False) wa (wa.alloc (.cells #[] 5)) := (Upd.refl _ _).alloc _
            have HS3 := Lib.hid (show St w0 B b1 (.slice (some ⟨g, off, none⟩) S.length cap) J xs (wa.alloc (.cells #[] 5)) from
              ⟨HS2.out.bel.alloc (Nat.le_trans HB0.out HS2.out.size) _, Nat.le_trans HS2.out.size (by simp), (Upd.cell hb6 (p := ⟨b1, 0, none⟩) (Nat.lt_of_lt_of_le Hb1.out HS2.out.size) id).trans hcell, (HS2.out.came.upd hb6 (fun _ _ h => h)).mono (by simp), HJ.out _ _ _ HS2.out.j (hb6.mono (fun _ _ h => h.elim))⟩)
            have HCm := Lib.hid (show Came w0.heap.size wa.heap.size (wa.alloc (.cells #[] 5)) xs from HS2.out.came.upd hb6 (fun _ _ h => h))
            have Hoi := Lib.hid hoi
            have HBk := Lib.hid HS2.out.size
            clear hb6 hoi
            obtain ⟨wo, rfl⟩ : ∃ wo, wo = wr := ⟨_, rfl⟩
            obtain ⟨iu, hiu, hu0, hu1, hu2⟩ := info_parts infoU8
            go_wp2_with fail
            go_loopw [4, 6] (fun i r wr => ∃ (f' k' : Nat) (acc : List UInt8), Hid (k' < S.length ∧ k ≤ k') ∧ Hid (S.length ≤ f' + k') ∧ Hid (inn S nb S.length k [] = inn S nb f' k' acc) ∧ Hid (acc.length ≤ 112 * k') ∧ Hid (Gd (S.getD k' []) k') ∧ i = .int .i64 (k' : Int) ∧ Hid (wr.ownsRow wa.heap.size 5 1 r acc.length (bc acc)) ∧ Hid (St w0 B b1 (.slice (some ⟨g, off, none⟩) S.length cap) J xs wr) ∧ Hid (Came w0.heap.size wa.heap.size wr xs) ∧ Hid (wa.heap.size ≤ wr.heap.size)) (fun i _ _ => S.length - (intOf i).toNat)
            case atStart => exact ⟨S.length, k, [], Lib.hid ⟨Hkl.out, Nat.le_refl _⟩, Lib.hid (by omega), Lib.hid rfl, Lib.hid (Nat.zero_le _), Lib.hid (by rw [Hs.out]; exact HGd.out), rfl, Lib.hid Hoi.out, HS3, HCm, Lib.hid (by simp)⟩
            case round =>
              clear HS3 HCm Hoi
              obtain ⟨f', k', acc, Hk', Hf', Hin, Hacc, Hgd, rfl, Hown, HSi, HCi, Hsz⟩ := hrel
              have hcell := HSi.out.cell
              obtain ⟨gs', os', cs', hcs', hsn', hsw'⟩ := secs_at HV.out H128.out g off cap rfl k' Hk'.out.1
              obtain ⟨hsec', hsl'⟩ := hsw' wr HSi.out.bel
              obtain ⟨s', hs'⟩ : ∃ s', S.getD k' [] = s' := ⟨_, rfl⟩
              rw [hs'] at hsl' hsn' Hgd hsw'
              have Hsw := Lib.hid hsw'
              clear hsw'
              have hf3 := Hgd.out.2.2.2.1
              have hz112 := Hgd.out.2.2.2.2.1
              have hsl2 := hsl'
              obtain ⟨_, _, _, he, _, hz | ⟨_, _, he2, hat⟩⟩ := hsl'
              · omega
              cases he; cases he2
              have c10 := hat 10 _ (bt_at (d := s') (k := 10) (by omega))
              have c11 := hat 11 _ (bt_at (d := s') (k := 11) (by omega))
              obtain ⟨e2, e1⟩ := flag_and (bt s' 10) hf3
              have Hpay : Hid (Sl wr 1 (.slice (some ⟨gs', os' + 12, none⟩) (12 + bt s' 11 - 12) (cs' - 12)) (12 + bt s' 11 - 12) (bc (pay s'))) := Lib.hid (sl_sub hsl2 (A := 12) (B := 12 + bt s' 11) (by omega) (by omega) _ (cs' - 12) rfl (by omega))
              have Hfl := Lib.hid (show endB s' = decide (2 ≤ bt s' 10 % 4) from rfl)
              have Hpl := Lib.hid (show (pay s').length = bt s' 11 by rw [pay]; simp; omega)
              obtain ⟨sz, hsz'⟩ : ∃ x, bt s' 11 = x := ⟨_, rfl⟩
              obtain ⟨fl, hfl⟩ : ∃ x, bt s' 10 = x := ⟨_, rfl⟩
              rw [hsz'] at c11 Hpay hz112 Hpl
              rw [hfl] at c10 e1 e2 Hfl hf3
              obtain ⟨az, haz⟩ : ∃ x, 12 + sz = x := ⟨_, rfl⟩
              rw [haz] at Hpay
              have s1 : IntKind.i64.wrap (12 + (sz : Int)) = (az : Int) := by rw [IntKind.wrap_i64]; omega
              obtain ⟨k1, hk1⟩ : ∃ x, k' + 1 = x := ⟨_, rfl⟩
              have s2 : IntKind.i64.wrap ((k' : Int) + 1) = (k1 : Int) := by rw [IntKind.wrap_i64]; have := Hk'.out; have := Hlen.out; omega
              have Hk1 := Lib.hid hk1
              clear hk1
              have i1 : 12 ≤ az := by omega
              have i2 : az ≤ cs' := by omega
              have i3 : ¬ cs' = 12 := by omega
              have i4 : (k' : Int) < (S.length : Int) := by have := Hk'.out; omega
              have Haz := Lib.hid haz
              have Hz112 := Lib.hid hz112
              have Hs' := Lib.hid hs'
              have Hcs := Lib.hid hcs'
              have Hsn := Lib.hid hsn'
              have Hfb := Lib.hid hfl
              have b11 : sz < 256 := by omega
              clear hat hsl2 hsn' hsz' hfl haz hz112 hs' hf3 hcs'
              go_wp2_with (first
                | (at_builtin; refine wpList_append_sl _ rfl (.tmp 40) (.tmp 47) 25 rfl wa.heap.size 5 iu _ _ Try.underlying25 hiu hu0 hu1 hu2 rfl _ acc.length (bc acc) rfl Hown.out _ (az - 12) (bc (pay s')) rfl Hpay.out (bc_one _) (by unfold maxLen; have := Hacc.out; have := Hk'.out; have := Hlen.out; have := Haz.out; have := Hz112.out; omega) (by have := Hacc.out; have := Hk'.out; have := Hlen.out; have := Haz.out; have := Hz112.out; omega) Hsz.out ?_))
              intro v' w5 hown5 hgr5
              obtain ⟨a5, c5, rfl⟩ := (Sl.of_own hown5).form
              obtain ⟨hSt5, hC5⟩ := HSi.out.step HCi.out HJ.out (Upd.of_grown hgr5) (fun k hk => ⟨(Hown.out.lt k hk).1, own_u8 Hown.out k hk⟩) HBk.out Hb1.out HB0.out Hsz.out
              have hsz5 := Nat.le_trans Hsz.out hgr5.size
              obtain ⟨_, _, _, _, he, _, hz | ⟨_, _, he2, hat⟩⟩ := Hsw.out w5 hSt5.bel
              · omega
              cases he; cases he2
              have c10 := hat 10 _ (bt_at (d := s') (k := 10) (by have := Hsn.out; omega))
              rw [Hfb.out] at c10
              have Hown5 := Lib.hid (show w5.ownsRow wa.heap.size 5 1 (.slice a5 (acc.length + (az - 12)) c5) (acc ++ pay s').length (bc (acc ++ pay s')) by
                rw [List.length_append, Hpl.out, bc_app, show acc.length + sz = acc.length + (az - 12) by have := Haz.out; omega]; exact hown5)
              have HSt5 := Lib.hid hSt5
              have HC5 := Lib.hid hC5
              have Hsz5 := Lib.hid hsz5
              have hcell := hSt5.cell
              clear hat hown5 hgr5 hSt5 hC5 hsz5 hsec' c11 hcell
              by_cases hen : fl % 4 < 2
              · rw [if_pos hen] at e2
                have Hne := Lib.hid (show endB s' = false by rw [Hfl.out]; exact decide_eq_false (by omega))
                have Hcut := Lib.hid (fun h => inn_cut S nb f' k' acc s' Hs'.out Hne.out h)
                clear hen
                rw [Hk1.out] at Hcut
                by_cases hkl : k1 = S.length
                · have f1 : ((k1 : Int) == (S.length : Int)) = true := by simp; omega
                  have Hc := Lib.hid (show cutB S nb k1 = true by rw [cutB, decide_eq_true hkl]; rfl)
                  clear hkl
                  have hcell := HSt5.out.cell
                  go_wp2_with fail
                  have Hno := Lib.hid (outr_cut S f k b (by rw [Hn.out, Hin.out]; exact Hcut.out Hc.out))
                  try rw [Exit.noGoto_ret]
                  first | go_end0 | (refine bodyPost_ret (results_none rfl _ _ _) rfl ?_)
                  exact ⟨⟨_, rfl⟩, xs, ⟨by rw [Hrec.out, Hno.out, List.append_nil], HSt5.out.came⟩, HSt5.out.j⟩
                · have f1 : ((k1 : Int) == (S.length : Int)) = false := by simp; omega
                  have hk1l : k1 < S.length := by have := Hk1.out; have := Hk'.out; omega
                  have i5 : (k1 : Int) < (S.length : Int) := by omega
                  obtain ⟨gt, ot, ct, hct, htn, htw⟩ := secs_at HV.out H128.out g off cap rfl k1 hk1l
                  obtain ⟨hsect, hslt⟩ := htw w5 HSt5.out.bel
                  have HGt := Lib.hid (fun W (hb : Below w5.heap.size w5 W) => good_any (S.getD k1 []) htn gt ot ct hct k1 W (hslt.next hb))
                  have HNt := Lib.hid (fun W (hb : Below w5.heap.size w5 W) => number_any (S.getD k1 []) 128 htn (by omega) _ ct W (hslt.next hb))
                  obtain ⟨_, _, _, he, _, hz | ⟨_, _, he2, hat⟩⟩ := hslt
                  · omega
                  cases he; cases he2
                  have c10t := hat 10 _ (bt_at (d := S.getD k1 []) (k := 10) (by omega))
                  obtain ⟨t, ht⟩ : ∃ t, S.getD k1 [] = t := ⟨_, rfl⟩
                  rw [ht] at HGt HNt c10t
                  have hcell := HSt5.out.cell
                  have Hkl := Lib.hid hkl
                  have HS5 := Lib.hid (fun n => HSt5.out.drewN HJ.out n)
                  clear hat htn htw hkl
                  unfold wv at HNt
                  cases hgd : gdB t k1
                  · rw [hgd] at HGt
                    have Hc := Lib.hid (show cutB S nb k1 = true by rw [cutB, ht, hgd]; simp)
                    clear hgd
                    go_wp2_with fail
                    refine (HGt.out _ (Below.refl _ _)).mono ?_
                    rintro e w1 ⟨rfl, m4, rfl⟩
                    go_wp2_with fail
                    have Hno := Lib.hid (outr_cut S f k b (by rw [Hn.out, Hin.out]; exact Hcut.out Hc.out))
                    try rw [Exit.noGoto_ret]
                    first | go_end0 | (refine bodyPost_ret (results_none rfl _ _ _) rfl ?_)
                    exact ⟨⟨_, rfl⟩, xs, ⟨by rw [Hrec.out, Hno.out, List.append_nil], (HS5.out _).came⟩, (HS5.out _).j⟩
                  · rw [hgd] at HGt
                    have hGd : Gd t k1 := of_decide_eq_true hgd
                    have hf3 := hGd.2.2.2.1
                    obtain ⟨ft, hft⟩ : ∃ x, bt t 10 = x := ⟨_, rfl⟩
                    rw [hft] at c10t hf3
                    clear e1
                    obtain ⟨_, e1t⟩ := flag_and ft hf3
                    by_cases hnn : num4 t 0 = nb
                    · rw [hnn] at HNt
                      have f2 : ((nb.toNat : Int) != (nb.toNat : Int)) = false := by simp
                      by_cases hbg : ft % 2 = 0
                      · rw [if_pos hbg] at e1t
                        have Hc := Lib.hid (show cutB S nb k1 = false by rw [cutB, ht, hgd, hnn, begB, hft, decide_eq_false Hkl.out, decide_eq_false (show ¬ ft % 2 = 1 by omega)]; simp)
                        have Hgt := Lib.hid (show Gd (S.getD k1 []) k1 by rw [ht]; exact hGd)
                        clear hgd hGd hf3 hft hbg hnn ht
                        go_wp2_with fail
                        refine (HGt.out _ (Below.refl _ _)).mono ?_
                        rintro e w1 ⟨rfl, m4, rfl⟩
                        go_wp2_with fail
                        refine (HNt.out _ (blw_drewN (Below.refl _ _) _)).mono ?_
                        rintro e w1 ⟨rfl, m5, rfl⟩
                        go_wp2_with fail
                        have hff : f' = f' - 1 + 1 := by have := Hf'.out; have := Hk'.out; omega
                        exact ⟨⟨f' - 1, k1, acc ++ pay s', Lib.hid ⟨by have := i5; omega, by have := Hk'.out; have := Hk1.out; omega⟩, Lib.hid (by have := Hf'.out; have := Hk'.out; have := Hk1.out; omega),
                          Lib.hid (by rw [Hin.out, hff, inn_on S nb (f' - 1) k' acc s' Hs'.out Hne.out (by rw [Hk1.out]; exact Hc.out), Hk1.out]; rfl),
                          Lib.hid (by rw [List.length_append, Hpl.out]; have := Hacc.out; have := Hk1.out; have := Hz112.out; omega), Hgt, rfl, Lib.hid (Upd.own (upd_drewN (fun _ => False) w5 _) Hown5.out (fun _ _ h => h)), Lib.hid (HS5.out _), Lib.hid (HC5.out.upd (upd_drewN (fun _ => False) w5 _) (fun _ _ h => h)), Lib.hid Hsz5.out⟩, by have := Hk'.out; have := Hk1.out; simp [intOf]; omega⟩
                      · rw [if_neg hbg] at e1t
                        have Hc := Lib.hid (show cutB S nb k1 = true by rw [cutB, ht, hgd, hnn, begB, hft, decide_eq_true (show ft % 2 = 1 by omega)]; simp)
                        clear hgd hGd hf3 hft hbg hnn ht
                        go_wp2_with fail
                        refine (HGt.out _ (Below.refl _ _)).mono ?_
                        rintro e w1 ⟨rfl, m4, rfl⟩
                        go_wp2_with fail
                        refine (HNt.out _ (blw_drewN (Below.refl _ _) _)).mono ?_
                        rintro e w1 ⟨rfl, m5, rfl⟩
                        go_wp2_with fail
                        have Hno := Lib.hid (outr_cut S f k b (by rw [Hn.out, Hin.out]; exact Hcut.out Hc.out))
                        try rw [Exit.noGoto_ret]
                        first | go_end0 | (refine bodyPost_ret (results_none rfl _ _ _) rfl ?_)
                        exact ⟨⟨_, rfl⟩, xs, ⟨by rw [Hrec.out, Hno.out, List.append_nil], (HS5.out _).came⟩, (HS5.out _).j⟩
                    · have f2 : (((num4 t 0).toNat : Int) != (nb.toNat : Int)) = true := by rw [bne, toNat_beq, decide_eq_false hnn]; rfl
                      have Hc := Lib.hid (show cutB S nb k1 = true by rw [cutB, ht, hgd, decide_eq_true (show num4 t 0 ≠ nb from hnn)]; simp)
                      clear hgd hGd hf3 hft hnn e1t
                      obtain ⟨nt, hnt⟩ : ∃ x, num4 t 0 = x := ⟨_, rfl⟩
                      rw [hnt] at HNt f2
                      clear hnt ht
                      go_wp2_with fail
                      refine (HGt.out _ (Below.refl _ _)).mono ?_
                      rintro e w1 ⟨rfl, m4, rfl⟩
                      go_wp2_with fail
                      refine (HNt.out _ (blw_drewN (Below.refl _ _) _)).mono ?_
                      rintro e w1 ⟨rfl, m5, rfl⟩
                      go_wp2_with fail
                      have Hno := Lib.hid (outr_cut S f k b (by rw [Hn.out, Hin.out]; exact Hcut.out Hc.out))
                      try rw [Exit.noGoto_ret]
                      first | go_end0 | (refine bodyPost_ret (results_none rfl _ _ _) rfl ?_)
                      exact ⟨⟨_, rfl⟩, xs, ⟨by rw [Hrec.out, Hno.out, List.append_nil], (HS5.out _).came⟩, (HS5.out _).j⟩
              · rw [if_neg hen] at e2
                go_upto_region 11 with fail
                have Hfin := Lib.hid (inn_end S nb f' k' acc s' Hs'.out (by have := Hf'.out; have := Hk'.out; omega) (by rw [Hfl.out]; exact decide_eq_true (by omega)))
                obtain ⟨fn, tmps, assign, body, hy, hR⟩ := HY.out xs (Rc.mk a5 (acc.length + (az - 12)) c5 (acc ++ pay s')) w5 HSt5.out.j (by have := Hk.out; have := Hk'.out; have := Hlen.out; omega)
                refine (wpIn_wide (n := n + 1)).1 ?_
                have HR := Lib.hid hR
                clear hR e2 c10 hen
                gi_wp2
                refine HR.out.mono ?_
                rintro e W6 ⟨rfl, hj6, hbd6⟩
                have HS6 := Lib.hid (HSt5.out.round (Rc.mk a5 (acc.length + (az - 12)) c5 (acc ++ pay s')) HC5.out Hown5.out HB0.out HBk.out Hsz5.out Hb1.out hj6 hbd6)
                have hfx : f = f - 1 + 1 := by have := Hf.out; omega
                have Hrec6 := Lib.hid (show recs S = (xs ++ [(Rc.mk a5 (acc.length + (az - 12)) c5 (acc ++ pay s'))]).map Rc.b ++ outr S (f - 1) (k' + 1) nb by
                  rw [Hrec.out, hfx, outr_on S (f - 1) k b Hkl.out Hyes.out (acc ++ pay s') (k' + 1) (by rw [Hn.out, Hin.out]; exact Hfin.out), Hn.out]; simp)
                rw [Hk1.out] at Hrec6
                clear hj6 hbd6 hfx
                gi_wp2
                go_wp2_with fail
                exact ⟨⟨f - 1, k1, nb, xs ++ [(Rc.mk a5 (acc.length + (az - 12)) c5 (acc ++ pay s'))], Lib.hid (by have := Hk.out; have := Hk'.out; have := Hk1.out; simp; omega), Lib.hid (by have := Hf.out; have := Hk'.out; have := Hk1.out; omega), Hrec6, rfl, rfl, HS6⟩, by have := Hk'.out; have := Hk1.out; simp [intOf]; omega⟩
    · have j1 : ¬ (k : Int) < (S.length : Int) := by omega
      have Hko := Lib.hid hk
      clear hk
      unfold wv
      go_wp2_with fail
      have Hno := Lib.hid (outr_end S f k b Hko.out)
      try rw [Exit.noGoto_ret]
      first | go_end0 | (refine bodyPost_ret (results_none rfl _ _ _) rfl ?_)
      exact ⟨⟨_, rfl⟩, xs, ⟨by rw [Hrec.out, Hno.out, List.append_nil], HS.out.came⟩, HS.out.j⟩
end Go.Proofs.Ytbinibpkbkhdlaa
