/- Intervals: reduce, checkOneAndAll. -/
import Derived.Test.YtnjpjjefhpbfgaaIvG
import Derived.Test.YtnjpjjefhpbfgaaIvH
namespace Go.Proofs.Ytnjpjjefhpbfgaa
open Go.RowKit

theorem cutI_len (A : List Iv) (o : Iv) : (cutI A o).length ≤ A.length + 1 := by
  rcases List.eq_nil_or_concat A with rfl | ⟨A', x, rfl⟩
  · simp [cutI]
  · rw [List.concat_eq_append, cutI_snoc]
    split
    · simp
    · have h1 : (if x.1 < o.1 then [((x.1, o.1 - 1) : Iv)] else []).length ≤ 1 := by split <;> simp
      have h2 : (if o.2 < x.2 then [((o.2 + 1, x.2) : Iv)] else []).length ≤ 1 := by split <;> simp
      simp only [List.length_append, List.length_singleton]
      omega
theorem cut_all (A : List Iv) (olo ohi : Int) (n : Nat) (hn : A.length = n) (hml : n ≤ 1000000) (a : Option Addr) (cap B : Nat) (w : World) (ho : Ow w B (.slice a n cap) A) (hB : B ≤ w.heap.size)
    (hob : -1099511627777 ≤ olo ∧ olo ≤ 1099511627777 ∧ -1099511627777 ≤ ohi ∧ ohi ≤ 1099511627777) :
    Calls Try.prog 40 #[.slice a n cap, .agg #[.int .i64 olo, .int .i64 ohi]] w fun e w' => ∃ u, e = .returned u ∧ Ow w' B u (cutI A (olo, ohi)) ∧ Upd (fun k => (Value.slice a n cap).ownBlock = some k) w w' ∧ ∀ k, u.ownBlock = some k → (Value.slice a n cap).ownBlock = some k ∨ w.heap.size ≤ k := by
  rcases List.eq_nil_or_concat A with rfl | ⟨A', x, rfl⟩
  · subst hn
    refine (cut_nil olo ohi a cap w).mono ?_
    rintro e w' ⟨rfl, hb⟩
    exact ⟨_, rfl, by rw [show cutI [] (olo, ohi) = [] from rfl]; exact ho.next hb, (Upd.of_below hb).mono (fun k hk hs => by omega), fun k hk => .inl hk⟩
  · rw [List.concat_eq_append] at hn ho ⊢
    have hM : n = A'.length + 1 := by simp at hn; omega
    have ho' := ho
    obtain ⟨_, ⟨h0, _⟩ | ⟨g, cap', cur, he, _⟩⟩ := ho
    · cases h0; simp at hM
    · simp only [Value.slice.injEq] at he
      obtain ⟨rfl, _, _⟩ := he
      refine (cut_snoc A' x.1 x.2 olo ohi A'.length n rfl hM (by omega) g cap B w ho' hB hob).mono ?_
      rintro e w' ⟨u, rfl, h1, h2, h3⟩
      exact ⟨u, rfl, h1, h2.mono (fun k _ hk => by rw [hk]; rfl), fun k hk => (h3 k hk).imp (fun e => by rw [e]; rfl) id⟩
theorem foldl_take (u : List Iv) (A : List Iv) (k : Nat) (x : Iv) (h : u[k]? = some x) : (u.take (k + 1)).foldl cutI A = cutI ((u.take k).foldl cutI A) x := by
  obtain ⟨hk, rfl⟩ := List.getElem?_eq_some_iff.1 h
  rw [List.take_succ_eq_append_getElem hk, List.foldl_append]
  rfl
theorem foldl_len (u : List Iv) (A : List Iv) : (u.foldl cutI A).length ≤ A.length + u.length := by
  induction u generalizing A with
  | nil => simp
  | cons x u ih =>
    rw [List.foldl_cons]
    have h1 := ih (cutI A x)
    have h2 := cutI_len A x
    simp only [List.length_cons]
    omega
set_option maxRecDepth 100000 in
set_option maxHeartbeats 2000000 in
theorem reduce_any (u A : List Iv) (n : Nat) (hn : u.length = n) (hm : n ≤ 100000) (hA : A.length ≤ 100000) (hub : ∀ i ∈ u, -1099511627777 ≤ i.1 ∧ i.1 ≤ 1099511627777 ∧ -1099511627777 ≤ i.2 ∧ i.2 ≤ 1099511627777)
    (a : Option Addr) (cap : Nat) (sa : Option Addr) (sn sc B : Nat) (w : World) (hB : B ≤ w.heap.size) (hs : Ow w B (.slice sa sn sc) A)
    (hu : ∀ W', Upd (fun k => (Value.slice sa sn sc).ownBlock = some k) w W' → Rd W' (.slice a n cap) u) :
    Calls Try.prog 38 #[.slice a n cap, .slice sa sn sc, .func (.func 40) #[] #[]] w fun e w' => ∃ r, e = .returned r ∧ Ow w' B r (u.foldl cutI A) ∧ Upd (fun k => (Value.slice sa sn sc).ownBlock = some k) w w' := by
  have HU := Lib.hid hu
  have Hn := Lib.hid hn
  have Hm := Lib.hid hm
  have HAl := Lib.hid hA
  have Hub := Lib.hid hub
  have HB := Lib.hid hB
  have HS := Lib.hid hs
  clear hu hn hm hA hub hB hs
  go_enter Try.func38, Try.ntmps38
  go_wp2_with fail
  go_loopw [1, 11] (fun s i wr => ∃ k : Nat, Hid (k ≤ n) ∧ i = .int .i64 (k : Int) ∧ Hid (Ow wr B s ((u.take k).foldl cutI A)) ∧ Hid (Upd (fun k => (Value.slice sa sn sc).ownBlock = some k) w wr) ∧ Hid (∀ k, s.ownBlock = some k → (Value.slice sa sn sc).ownBlock = some k ∨ w.heap.size ≤ k)) (fun _ i _ => n - (intOf i).toNat)
  case atStart => exact ⟨0, Lib.hid (Nat.zero_le _), rfl, Lib.hid (by simpa using HS.out), Lib.hid (Upd.refl _ _), Lib.hid (fun k hk => .inl hk)⟩
  case round =>
    obtain ⟨k, Hk, rfl, HO, HW, HL⟩ := hrel
    obtain ⟨b1, b2, hbb⟩ := (Ow.rd HO.out).len
    subst hbb
    by_cases hk : k < n
    · obtain ⟨g, off, rfl, _, hcap, hat⟩ := (HU.out wr HW.out).at_ (by omega)
      obtain ⟨x, hx⟩ : ∃ x, u[k]? = some x := ⟨_, List.getElem?_eq_getElem (by rw [Hn.out]; exact hk)⟩
      obtain ⟨c0, c1⟩ := hat k x hx
      have Hxb := Lib.hid (Hub.out x (List.mem_of_getElem? hx))
      have Hft := Lib.hid (foldl_take u A k x hx)
      obtain ⟨lo, hi⟩ := x
      simp only [] at c0 c1 Hxb
      have hglt : g < wr.heap.size := World.block_lt_of_cell? wr _ c0
      have hgne : ¬ g = wr.heap.size := by omega
      obtain ⟨AK, hAK⟩ : ∃ AK, (u.take k).foldl cutI A = AK := ⟨_, rfl⟩
      rw [hAK] at HO HL Hft ⊢
      have hAl : AK.length ≤ 200000 := by
        have := foldl_len (u.take k) A
        rw [hAK, List.length_take] at this
        have := HAl.out; have := Hm.out; omega
      have hb1 := below_alloc wr (.cells #[.int .i64 lo, .int .i64 hi] 23)
      have HC := Lib.hid (cut_all AK lo hi AK.length rfl (by omega) b1 b2 B (wr.alloc (.cells #[.int .i64 lo, .int .i64 hi] 23)) (HO.out.next hb1) (by have := HB.out; have := HW.out.size; simp; omega) Hxb.out)
      have Hb1 := Lib.hid hb1
      have j0 : (0 : Int) ≤ (k : Int) := by omega
      have j1 : (k : Int) < (n : Int) := by omega
      have s1 : IntKind.i64.wrap ((k : Int) + 1) = ((k + 1 : Nat) : Int) := by rw [IntKind.wrap_i64]; have := Hm.out; omega
      have Hkn := Lib.hid hk
      have Hlw := Lib.hid HW.out.size
      obtain ⟨NA, hNA⟩ : ∃ NA, AK.length = NA := ⟨_, rfl⟩
      rw [hNA] at HC HO HL ⊢
      clear hat hx hAK hAl hb1 hk hNA
      go_wp2_with fail
      refine HC.out.mono ?_
      rintro e w1 ⟨r, rfl, hr1, hr2, hr3⟩
      have hu1 : Upd (fun k => (Value.slice sa sn sc).ownBlock = some k) w w1 := by
        have h5 := HW.out.alloc (.cells #[.int .i64 lo, .int .i64 hi] 23)
        refine ⟨hr2.os.trans h5.os, hr2.tape.trans h5.tape, hr2.output.trans h5.output, Nat.le_trans h5.size hr2.size, fun i hi2 hs2 => ?_⟩
        refine (hr2.block i (Nat.lt_of_lt_of_le hi2 h5.size) (fun he => ?_)).trans (h5.block i hi2 hs2)
        rcases HL.out i he with h | h
        · exact hs2 h
        · omega
      have Hu1 := Lib.hid hu1
      have Hr1 := Lib.hid (show Ow w1 B r ((u.take (k + 1)).foldl cutI A) by rw [Hft.out]; exact hr1)
      have Hr3 := Lib.hid (show ∀ k, r.ownBlock = some k → (Value.slice sa sn sc).ownBlock = some k ∨ w.heap.size ≤ k from fun j hj => by
        rcases hr3 j hj with h | h
        · exact HL.out j h
        · right; have := Hlw.out; simp at h; omega)
      clear hr1 hr2 hr3 hu1
      go_wp2_with fail
      exact ⟨⟨k + 1, Lib.hid Hkn.out, by go_num, Hr1, Hu1, Hr3⟩, by have := Hkn.out; simp [intOf]; omega⟩
    · have j1 : ¬ (k : Int) < (n : Int) := by omega
      have Ht := Lib.hid (show u.take k = u from List.take_of_length_le (by rw [Hn.out]; have := Hk.out; omega))
      clear hk
      go_wp2_with fail
      go_ret
      refine ⟨_, rfl, ?_, HW.out⟩
      have h := HO.out
      rw [Ht.out] at h ⊢
      exact h
end Go.Proofs.Ytnjpjjefhpbfgaa
