/- Wal: Sync of a log of one short record onto a new disk of two sectors. -/
import Derived.Test.YtbinibpkbkhdlaaWlV
import Derived.Deep.MidRow
import Derived.Laws.Tables
import Derived.Deep.RegionLaw
namespace Go.Proofs.Ytbinibpkbkhdlaa
open Go.RowKit

theorem secs_nil0 (w : World) (a : Option Addr) (c : Nat) : Secs w (.slice a 0 c) [] := ⟨[], ⟨rfl, a, c, rfl, Nat.zero_le _, .inl rfl⟩, fun i s h => by simp at h⟩
theorem recs_zeros : recs [zeros] = [] := by decide +kernel
theorem nw_zeros : nw [zeros] 1 = 0#32 := by decide +kernel
theorem chk_new2 : chk (newD 2) = 0 := by decide +kernel
theorem wtE_new2 (b : List UInt8) (hb : b.length = 128) : wtE (newD 2) 0 b = 0 := by
  have h1 : chkS (newD 2) 0 = 0 := by decide +kernel
  rw [wtE, if_neg (by rw [h1]; decide), if_neg (by rw [hb]; decide), if_neg (by decide), if_neg (by decide)]
theorem lgB_one (r : List UInt8) (hr : r.length ≤ 112) : lgB ⟨0, 1, [r], 0⟩ = true := by
  have h1 : anyLong [r] = false := by simp [anyLong, lng]; omega
  have h2 : used [r] = 1 := by simp [used, occ]; intro h; have : 0 < r.length := List.length_pos_iff.2 h; omega
  simp [lgB, h1, h2, fitsB]
theorem own_cells {w : World} {B m size : Nat} {g cap : Nat} {e : TypeId} {xs : List Value} (h : w.ownsRow B e size (.slice (some ⟨g, 0, none⟩) m cap) m xs) (hp : 0 < m) : w.rangeAt g 0 xs := fun j u hu => by
  obtain ⟨_, _, _, he, _, h0 | ⟨g', off, h1, h2⟩⟩ := Sl.of_own h
  · omega
  · cases he; cases h1; exact h2 j u hu
theorem below_rangeAt {w w' : World} {b o B : Nat} {cs : List Value} (h : w.rangeAt b o cs) (hb : Below B w w') (hlt : b < B) : w'.rangeAt b o cs := fun j v hv => (hb.cell (p := ⟨b, o + j, none⟩) hlt).trans (h j v hv)
/-- sectors lie apart from a variable that holds no byte and no two slices side by side -/
theorem secs_cells {w W : World} {Q : Nat} {T : TypeId} {v : Value} {cs : Array Value} {S : List (List UInt8)} (h : Secs w v S) (hS : 2 ≤ S.length) (hne : ∀ s ∈ S, 0 < s.length)
    (hQ : Blk w Q T cs) (h8 : ∀ (o : Nat) (z : Int), cs[o]? ≠ some (.int .u8 z)) (hss : ∀ (o : Nat) a n c a' n' c', cs[o]? = some (.slice a n c) → cs[o + 1]? ≠ some (.slice a' n' c')) (hU : Upd (fun q => q = Q) w W) : Secs W v S := by
  obtain ⟨vs, h1, h2⟩ := h
  refine ⟨vs, ?_, fun i s hs => ?_⟩
  · obtain ⟨ad, cc, rfl⟩ := h1.form
    obtain ⟨g, off, rfl, _, hc⟩ := h1.pos (by omega)
    refine h1.upd hU (fun k hk hkQ => ?_)
    have hkg : k = g := by simpa [Value.ownBlock] using hk.symm
    subst hkg hkQ
    obtain ⟨x1, e1, s1⟩ := h2 1 _ (List.getElem?_eq_getElem (show 1 < S.length by omega))
    obtain ⟨x0, e0, s0⟩ := h2 0 _ (List.getElem?_eq_getElem (show 0 < S.length by omega))
    obtain ⟨a1, c1, rfl⟩ := s1.form
    obtain ⟨a0, c0, rfl⟩ := s0.form
    have h5 := hc 1 _ e1
    have h6 := hc 0 _ e0
    rw [hQ.cell] at h5 h6
    exact hss _ _ _ _ _ _ _ h6 h5
  · obtain ⟨x, h3, h4⟩ := h2 i s hs
    refine ⟨x, h3, ?_⟩
    have hp := hne s (List.mem_of_getElem? hs)
    obtain ⟨ad, cc, rfl⟩ := h4.form
    obtain ⟨g, off, rfl, _, hc⟩ := h4.pos hp
    refine h4.upd hU (fun k hk hkQ => ?_)
    have hkg : k = g := by simpa [Value.ownBlock] using hk.symm
    subst hkg hkQ
    have h5 := hc 0 (.int .u8 (s[0].toNat : Int)) (by simp [bc, hp])
    rw [hQ.cell] at h5
    exact h8 _ _ h5
theorem secs_dsk {w W : World} {Q : Nat} {T : TypeId} {v : Value} {a : Option Addr} {n c : Nat} {l t : Int} {st : Bool} {S : List (List UInt8)} (h : Secs w v S) (hS : 2 ≤ S.length) (hne : ∀ s ∈ S, 0 < s.length)
    (hQ : Blk w Q T #[.slice a n c, .int .i64 l, .int .i64 t, .bool st]) (hU : Upd (fun q => q = Q) w W) : Secs W v S :=
  secs_cells h hS hne hQ (fun o z h => by match o, h with | 0, h => simp at h | 1, h => simp at h | 2, h => simp at h | 3, h => simp at h | o + 4, h => simp at h)
    (fun o a n c a' n' c' h h' => by match o, h, h' with | 0, _, h => simp at h | 1, h, _ => simp at h | 2, h, _ => simp at h | 3, h, _ => simp at h | o + 4, h, _ => simp at h) hU
theorem secs_log {w W : World} {Q : Nat} {T : TypeId} {v : Value} {a : Option Addr} {n c : Nat} {l t u : Int} {S : List (List UInt8)} (h : Secs w v S) (hS : 2 ≤ S.length) (hne : ∀ s ∈ S, 0 < s.length)
    (hQ : Blk w Q T #[.int .i64 l, .int .i64 t, .slice a n c, .int .i64 u]) (hU : Upd (fun q => q = Q) w W) : Secs W v S :=
  secs_cells h hS hne hQ (fun o z h => by match o, h with | 0, h => simp at h | 1, h => simp at h | 2, h => simp at h | 3, h => simp at h | o + 4, h => simp at h)
    (fun o a n c a' n' c' h h' => by match o, h, h' with | 0, h, _ => simp at h | 1, h, _ => simp at h | 2, _, h => simp at h | 3, h, _ => simp at h | o + 4, h, _ => simp at h) hU
theorem wtD_new2 (b : List UInt8) (hb : b.length = 128) : wtD (newD 2) 0 b = ⟨[b, zeros], -1, 0, false⟩ := by
  have h1 : ¬ (chkS (newD 2) 0 = 1 ∨ b.length ≠ 128) := by
    rintro (h | h)
    · rw [show chkS (newD 2) 0 = 0 by decide +kernel] at h; cases h
    · exact h hb
  rw [wtD, if_neg h1, if_neg (by decide)]
  have h2 : wrSec (-1) 0 zeros b = b := by
    show b.take 128 ++ zeros.drop 128 = b
    rw [List.take_of_length_le (by omega), List.drop_eq_nil_of_le (by rw [zeros_len]; omega), List.append_nil]
  show (⟨[wrSec (-1) 0 zeros b, zeros], -1, 0, false⟩ : Dk) = _
  rw [h2]
theorem upd4 (W : World) (g : Nat) (a b c d : Value) : Upd (fun k => k = g) W ((((W.setCell ⟨g, 0, none⟩ a).setCell ⟨g, 1, none⟩ b).setCell ⟨g, 2, none⟩ c).setCell ⟨g, 3, none⟩ d) :=
  ((((Upd.refl (fun k => k = g) W).setCell (p := ⟨g, 0, none⟩) (.inl rfl) a).setCell (p := ⟨g, 1, none⟩) (.inl rfl) b).setCell (p := ⟨g, 2, none⟩) (.inl rfl) c).setCell (p := ⟨g, 3, none⟩) (.inl rfl) d
/-- what the loops of Sync leave -/
structure SyF (w : World) (ra : Option Addr) (rc : Nat) (D : Dk) (W : World) : Prop where
  bel : Below w.heap.size w W
  log : Blk W w.heap.size 29 #[.int .i64 0, .int .i64 1, .slice ra 1 rc, .int .i64 0]
  dsk : ∃ v, Blk W (w.heap.size + 1) 24 #[v, .int .i64 D.left, .int .i64 D.tear, .bool D.stop] ∧ Secs W v D.secs
  zlog : Blk W (w.heap.size + 1 + 1) 29 #[.int .i64 0, .int .i64 0, .slice none 0 0, .int .i64 0]
  zdsk : Blk W (w.heap.size + 1 + 1 + 1) 24 #[.slice none 0 0, .int .i64 0, .int .i64 0, .bool false]
def RetLDE (L : Lg) (D : Dk) (c : Int) (w : World) (e : Ending) (w' : World) : Prop := ∃ x d, e = .returned (.tuple #[x, d, .int .i64 c]) ∧ LgV w' x L ∧ DkV w' d D ∧ Below w.heap.size w w'
set_option maxRecDepth 100000 in
set_option maxHeartbeats 4000000 in
theorem sync1_any (r : List UInt8) (hr : r.length ≤ 112) (x d : Value) (w : World) (hx : LgV w x ⟨0, 1, [r], 0⟩) (hd : DkV w d (newD 2)) :
    Calls Try.prog 25 #[x, d] w fun e w' => RetLDE ⟨0, 1, [r], 1⟩ ⟨[lay2 1#32 0 r, zeros], -1, 0, false⟩ 0 w e w' := by
  have HCL := Lib.hid (fun W (hb : Below w.heap.size w W) => wcheck_any _ _ W (hx.next hb) (show 1 ≤ 140737488351232 by omega))
  have HCD := Lib.hid (fun W (hb : Below w.heap.size w W) => check_any _ _ W (hd.next hb))
  rw [chk_new2] at HCD
  rw [show lgE ⟨0, 1, [r], 0⟩ = 0 by rw [lgE, lgB_one r hr]; rfl] at HCL
  obtain ⟨vr, rfl, hvr⟩ := hx
  obtain ⟨vd, rfl, hvd⟩ := hd
  obtain ⟨ra, rc, rfl⟩ := hvr.len
  obtain ⟨da, dc, rfl⟩ := hvd.len
  have HF := Lib.hid (fun W => fits_any 0 1 2 (by omega) W)
  rw [show fitsB 0 1 2 = true by decide] at HF
  obtain ⟨dg, doff, rfl, hdc, _⟩ := hvd.at_ (by decide)
  have HPS := Lib.hid (fun W (hb : Below w.heap.size w W) => secs_sub (hvd.next hb) rfl (A := 0) (m := 1) (c := dc) (by decide) (by have : (2 : Nat) ≤ dc := hdc; omega))
  rw [show ((newD 2).secs.drop 0).take 1 = [zeros] from rfl] at HPS
  unfold dkAgg lgAgg at *
  simp only [] at HCL HCD hvr hvd ⊢
  change (2 : Nat) ≤ dc at hdc
  rw [show (newD 2).secs.length = 2 from rfl] at *
  rw [show (newD 2).left = -1 from rfl, show (newD 2).tear = 0 from rfl, show (newD 2).stop = false from rfl] at HCD ⊢
  rw [show [r].length = 1 from rfl] at *
  have HVr := Lib.hid hvr
  have HVd := Lib.hid hvd
  have h0 := (((Blk.new w 29 #[.int .i64 0, .int .i64 1, .slice ra 1 rc, .int .i64 0]).alloc (.cells #[.slice (some ⟨dg, doff, none⟩) 2 dc, .int .i64 (-1), .int .i64 0, .bool false] 24)).alloc (.cells #[.int .i64 0, .int .i64 0, .slice none 0 0, .int .i64 0] 29)).alloc (.cells #[.slice none 0 0, .int .i64 0, .int .i64 0, .bool false] 24)
  have h1 := ((Blk.new (w.alloc (.cells #[.int .i64 0, .int .i64 1, .slice ra 1 rc, .int .i64 0] 29)) 24 #[.slice (some ⟨dg, doff, none⟩) 2 dc, .int .i64 (-1), .int .i64 0, .bool false]).alloc (.cells #[.int .i64 0, .int .i64 0, .slice none 0 0, .int .i64 0] 29)).alloc (.cells #[.slice none 0 0, .int .i64 0, .int .i64 0, .bool false] 24)
  have h2 := (Blk.new ((w.alloc (.cells #[.int .i64 0, .int .i64 1, .slice ra 1 rc, .int .i64 0] 29)).alloc (.cells #[.slice (some ⟨dg, doff, none⟩) 2 dc, .int .i64 (-1), .int .i64 0, .bool false] 24)) 29 #[.int .i64 0, .int .i64 0, .slice none 0 0, .int .i64 0]).alloc (.cells #[.slice none 0 0, .int .i64 0, .int .i64 0, .bool false] 24)
  have h3 := Blk.new (((w.alloc (.cells #[.int .i64 0, .int .i64 1, .slice ra 1 rc, .int .i64 0] 29)).alloc (.cells #[.slice (some ⟨dg, doff, none⟩) 2 dc, .int .i64 (-1), .int .i64 0, .bool false] 24)).alloc (.cells #[.int .i64 0, .int .i64 0, .slice none 0 0, .int .i64 0] 29)) 24 #[.slice none 0 0, .int .i64 0, .int .i64 0, .bool false]
  have hb0 := (((below_alloc w (.cells #[.int .i64 0, .int .i64 1, .slice ra 1 rc, .int .i64 0] 29)).alloc (by simp) (.cells #[.slice (some ⟨dg, doff, none⟩) 2 dc, .int .i64 (-1), .int .i64 0, .bool false] 24)).alloc (by simp; omega) (.cells #[.int .i64 0, .int .i64 0, .slice none 0 0, .int .i64 0] 29)).alloc (by simp; omega) (.cells #[.slice none 0 0, .int .i64 0, .int .i64 0, .bool false] 24)
  simp only [World.size_alloc] at h1 h2 h3
  obtain ⟨wa, hwa⟩ : ∃ wa, ((((w.alloc (.cells #[.int .i64 0, .int .i64 1, .slice ra 1 rc, .int .i64 0] 29)).alloc (.cells #[.slice (some ⟨dg, doff, none⟩) 2 dc, .int .i64 (-1), .int .i64 0, .bool false] 24)).alloc (.cells #[.int .i64 0, .int .i64 0, .slice none 0 0, .int .i64 0] 29)).alloc (.cells #[.slice none 0 0, .int .i64 0, .int .i64 0, .bool false] 24)) = wa := ⟨_, rfl⟩
  rw [hwa] at h0 h1 h2 h3 hb0
  have HWa := Lib.hid hwa
  have B0 := Lib.hid h0
  have B1 := Lib.hid h1
  have B2 := Lib.hid h2
  have B3 := Lib.hid h3
  have Hb0 := Lib.hid hb0
  obtain ⟨l0, l1, l2, l3, _, _, _, _⟩ := dkCells h0
  obtain ⟨d0, d1, d2, d3, _, _, _, _⟩ := dkCells h1
  clear hwa h0 h1 h2 h3 hb0 hvr hvd
  go_enter Try.func25, Try.ntmps25
  go_wp2_with (rw [HWa.out])
  refine (HCL.out _ Hb0.out).mono ?_
  rintro e w1 ⟨rfl, hb1⟩
  have Bb := Lib.hid hb1
  clear l0 l1 l2 l3 d0 d1 d2 d3 hb1
  obtain ⟨l0, l1, l2, l3, _, _, _, _⟩ := dkCells (B0.out.below Bb.out B0.out.lt)
  obtain ⟨d0, d1, d2, d3, _, _, _, _⟩ := dkCells (B1.out.below Bb.out B1.out.lt)
  have Hb1 := Lib.hid (Hb0.out.trans (Bb.out.mono Hb0.out.size))
  go_wp2_with fail
  refine (HCD.out _ Hb1.out).mono ?_
  rintro e w2 ⟨rfl, hb2⟩
  have Bc := Lib.hid (Bb.out.trans (hb2.mono Bb.out.size))
  clear l0 l1 l2 l3 d0 d1 d2 d3 hb2 Bb Hb1
  obtain ⟨l0, l1, l2, l3, _, _, _, _⟩ := dkCells (B0.out.below Bc.out B0.out.lt)
  obtain ⟨d0, d1, d2, d3, _, _, _, _⟩ := dkCells (B1.out.below Bc.out B1.out.lt)
  go_wp2_with fail
  refine (HF.out _).mono ?_
  rintro e w3 ⟨rfl, rfl⟩
  have i1 : (1 : Int) ≤ (dc : Int) := by omega
  have i2 : ¬ dc = 0 := by omega
  go_wp2_with fail
  refine (records_any _ _ _ w2).mono ?_
  rintro e w4 ⟨rfl, hw4⟩
  have hbx := Blk.new w2 22 #[.slice (some ⟨dg, doff, none⟩) 1 dc]
  have hb4 := below_alloc w2 (.cells #[.slice (some ⟨dg, doff, none⟩) 1 dc] 22)
  rw [← hw4] at hbx hb4
  have Bd4 := Lib.hid (Bc.out.trans (hb4.mono Bc.out.size))
  have HCo := Lib.hid (collect_any [zeros] (by simp [zeros_len]) (by simp) w4 _ (HPS.out w4 (Hb0.out.trans (Bd4.out.mono Hb0.out.size))) w2.heap.size hbx)
  rw [recs_zeros] at HCo
  clear hw4 hbx hb4 l0 l1 l2 l3 d0 d1 d2 d3 i2
  go_wp2_with fail
  refine HCo.out.mono ?_
  rintro e w5 ⟨v5, rfl, hs5, hb5⟩
  obtain ⟨oa, oc, rfl⟩ := hs5.len
  have Be := Lib.hid (Bd4.out.trans (hb5.mono Bd4.out.size))
  obtain ⟨l0, l1, l2, l3, _, _, _, _⟩ := dkCells (B0.out.below Be.out B0.out.lt)
  obtain ⟨d0, d1, d2, d3, _, _, _, _⟩ := dkCells (B1.out.below Be.out B1.out.lt)
  have HEq := Lib.hid (eqf_any [] [] oa oc ra rc w5 (secs_nil0 _ _ _) (secs_nil0 _ _ _) (by simp))
  rw [decide_eq_true rfl] at HEq
  have HNw := Lib.hid (newest_any [zeros] (by simp [zeros_len]) (by simp) _ w5 (HPS.out w5 (Hb0.out.trans (Be.out.mono Hb0.out.size))))
  rw [show [zeros].length = 1 from rfl, nw_zeros] at HNw
  have HOc := Lib.hid (fun W => occAll_any [] (.slice oa 0 oc) W (secs_nil0 _ _ _) (by simp) (by simp))
  clear hs5 hb5 HCo Bd4
  have hrc1 : 1 ≤ rc := by
    obtain ⟨_, _, _, he, h, _⟩ := HVr.out.choose_spec.1
    cases he; exact h
  have i3 : (0 : Int) ≤ (rc : Int) := by omega
  go_wp2_with fail
  refine HEq.out.mono ?_
  rintro e w6 ⟨rfl, rfl⟩
  go_wp2_with fail
  refine HNw.out.mono ?_
  rintro e w6 ⟨rfl, nn, rfl⟩
  unfold wv
  go_wp2_with fail
  refine (HOc.out _).mono ?_
  rintro e w6 ⟨rfl, rfl⟩
  have Bf := Lib.hid (blw_drewN Be.out nn)
  obtain ⟨w7, hw7⟩ : ∃ w7, w5.drewN nn = w7 := ⟨_, rfl⟩
  rw [hw7] at Bf ⊢
  clear hw7 l0 l1 l2 l3 d0 d1 d2 d3 HEq HNw HOc Be
  obtain ⟨l0, l1, l2, l3, _, _, _, _⟩ := dkCells (B0.out.below Bf.out B0.out.lt)
  obtain ⟨rg, roff, rfl⟩ : ∃ g off, ra = some ⟨g, off, none⟩ := by
    obtain ⟨g, off, e, _⟩ := HVr.out.at_ Nat.zero_lt_one
    exact ⟨g, off, e⟩
  have i4 : ¬ rc = 0 := by omega
  go_wp2_with fail
  have Hbf := Lib.hid (Hb0.out.trans (Bf.out.mono Hb0.out.size))
  clear l0 l1 l2 l3
  go_loopw [12, 85] (fun at_ i wr => ∃ t : Nat, i = .int .i64 (t : Int) ∧ ((t = 0 ∧ at_ = .int .i64 0 ∧ w7 = wr) ∨ (t = 1 ∧ Hid (SyF w (some ⟨rg, roff, none⟩) rc ⟨[lay2 1#32 0 r, zeros], -1, 0, false⟩ wr)))) (fun _ i _ => 1 - (intOf i).toNat)
  case atStart => exact ⟨0, rfl, .inl ⟨rfl, rfl, rfl⟩⟩
  case round =>
    obtain ⟨t, rfl, ⟨rfl, rfl, rfl⟩ | ⟨rfl, HFn⟩⟩ := hrel
    · obtain ⟨_, _, e', _, hcs⟩ := (HVr.out.next Hbf.out).at_ Nat.zero_lt_one
      cases e'
      obtain ⟨ad, ac, hrow, hsr⟩ := hcs 0 r rfl
      rw [Nat.add_zero] at hrow
      have HLy := Lib.hid (layOut1_any r r.length rfl hr ad ac 0 (by omega) 1#32 w7 hsr)
      rw [show wv 1#32 = .int .u32 1 from rfl, show ((0 : Nat) : Int) = 0 from rfl] at HLy
      clear hcs hsr
      go_wp2_with fail
      refine HLy.out.mono ?_
      rintro e w8 ⟨g8, c8, rfl, hown8, hb8⟩
      have H8 := Lib.hid (own_cells hown8 (by omega))
      have Hg8 := Lib.hid ((hown8.lt _ rfl).2)
      have Bg := Lib.hid (Bf.out.trans (hb8.mono Bf.out.size))
      clear hown8 hb8 hrow
      go_wp2_with fail
      go_loopw [12, 95] (fun at_ i wr => ∃ t : Nat, i = .int .i64 (t : Int) ∧ ((t = 0 ∧ at_ = .int .i64 0 ∧ w8 = wr) ∨ (t = 1 ∧ at_ = .int .i64 1 ∧ Hid (SyF w (some ⟨rg, roff, none⟩) rc ⟨[lay2 1#32 0 r, zeros], -1, 0, false⟩ wr)))) (fun _ i _ => 1 - (intOf i).toNat)
      case atStart => exact ⟨0, rfl, .inl ⟨rfl, rfl, rfl⟩⟩
      case round =>
        obtain ⟨t, rfl, ⟨rfl, rfl, rfl⟩ | ⟨rfl, rfl, HFn⟩⟩ := hrel
        · have hzs := zeroSec
          obtain ⟨Z, hZ⟩ : ∃ Z, (bc zeros).toArray = Z := ⟨_, rfl⟩
          rw [hZ] at hzs
          have HZs := Lib.hid (show Z.size = 128 by rw [← hZ]; rfl)
          have Hl := Lib.hid (lay2_len 1#32 0 r hr)
          have Hsz := Lib.hid (show (bc (lay2 1#32 0 r)).length = 128 by rw [bc_len, Hl.out])
          have Ho := Lib.hid (bc_one (lay2 1#32 0 r))
          obtain ⟨E, hE⟩ : ∃ E, bc (lay2 1#32 0 r) = E := ⟨_, rfl⟩
          rw [hE] at H8 Hsz Ho
          have HEe := Lib.hid hE
          clear hZ hE
          go_wp2_with (first
            | (refine wpList_load_mid rfl 76 _ rfl g8 0 ?_ E _ H8.out Try.underlying76 rfl (by rw [Hsz.out]; exact sizeSec) ?_; (first | rfl | (simp; done)))
            | (refine wpList_store_row rfl 76 _ _ rfl w8.heap.size E.toArray rfl rfl 76 Z (Blk.new w8 _ Z) (by rw [show E.toArray.size = 128 from Hsz.out]; exact sizeSec) (by rw [HZs.out, show E.toArray.size = 128 from Hsz.out]) (all_oneCell_toArray Ho.out) ?_))
          have hB9 : Blk ((w8.alloc (.cells Z 76)).setRow w8.heap.size E.toArray) w8.heap.size 76 E.toArray := setRow_heap _ _ _ _ _ _ (Blk.new w8 76 Z)
          have hb9 : Below w8.heap.size w8 ((w8.alloc (.cells Z 76)).setRow w8.heap.size E.toArray) := below_setRow ((Below.refl _ w8).alloc (Nat.le_refl _) _) (Nat.le_refl _) E.toArray
          obtain ⟨w9, hw9⟩ : ∃ w9, (w8.alloc (.cells Z 76)).setRow w8.heap.size E.toArray = w9 := ⟨_, rfl⟩
          rw [hw9] at hB9 hb9 ⊢
          have Bh := Lib.hid (Bg.out.trans (hb9.mono Bg.out.size))
          have Hbh := Lib.hid (Hb0.out.trans (Bh.out.mono Hb0.out.size))
          have HWt := Lib.hid (fun W (hb : Below w9.heap.size w9 W) => wt_any (newD 2) (.agg #[.slice (some ⟨dg, doff, none⟩) 2 dc, .int .i64 (-1), .int .i64 0, .bool false]) 0 (lay2 1#32 0 r) (.slice (some ⟨w8.heap.size, 0, none⟩) 128 128) W
            ⟨_, rfl, HVd.out.next (Hbh.out.trans (hb.mono Hbh.out.size))⟩ (by
              have h := Blk.sl (n := 128) (xs := E) (hB9.below hb hB9.lt) rfl Hsz.out
              rw [Hl.out, HEe.out]; exact h) (by decide) (by rw [Hl.out]; unfold maxLen; omega))
          rw [wtD_new2 _ Hl.out, wtE_new2 _ Hl.out] at HWt
          obtain ⟨l0, l1, l2, l3, _, _, _, _⟩ := dkCells (B0.out.below Bh.out B0.out.lt)
          obtain ⟨d0, d1, d2, d3, _, _, _, _⟩ := dkCells (B1.out.below Bh.out B1.out.lt)
          clear hw9 hB9 hb9 hzs
          go_region_law
            (first
              | (go_simp; go_at_call 27; refine (HWt.out _ (by (repeat (refine Below.drew ?_)); exact Below.refl _ _)).mono ?_
                 rintro e w10 ⟨d', rfl, ⟨v', rfl, hs'⟩, hb10⟩
                 have hbA : Below w9.heap.size w9 w10 := Below.trans (by (repeat (refine Below.drew ?_)); exact Below.refl _ _) (hb10.mono (by simp))
                 obtain ⟨va, vc, rfl⟩ := hs'.len
                 have Bi := Lib.hid (Bh.out.trans (hbA.mono Bh.out.size))
                 obtain ⟨e0, e1, e2, e3, f0, f1, f2, f3⟩ := dkCells (B1.out.below Bi.out B1.out.lt)
                 unfold dkAgg))
          all_goals
            go_wp2_with fail
            have hU : Upd (fun k => k = w.heap.size + 1) w10 ((((w10.setCell ⟨w.heap.size + 1, 0, none⟩ (.slice va 2 vc)).setCell ⟨w.heap.size + 1, 1, none⟩ (.int .i64 (-1))).setCell ⟨w.heap.size + 1, 2, none⟩ (.int .i64 0)).setCell ⟨w.heap.size + 1, 3, none⟩ (.bool false)) :=
              ((((Upd.refl (fun k => k = w.heap.size + 1) w10).setCell (p := ⟨w.heap.size + 1, 0, none⟩) (.inl rfl) _).setCell (p := ⟨w.heap.size + 1, 1, none⟩) (.inl rfl) _).setCell (p := ⟨w.heap.size + 1, 2, none⟩) (.inl rfl) _).setCell (p := ⟨w.heap.size + 1, 3, none⟩) (.inl rfl) _
            have hsF := secs_dsk hs' (by simp) (by simp [zeros_len, Hl.out]) (B1.out.below Bi.out B1.out.lt) hU
            have hlg := (B0.out.below Bi.out B0.out.lt).upd hU (by omega)
            have hz1 := (B2.out.below Bi.out B2.out.lt).upd hU (by omega)
            have hz2 := (B3.out.below Bi.out B3.out.lt).upd hU (by omega)
            have hbl := (Hb0.out.trans (Bi.out.mono Hb0.out.size)).trans (hU.below (Hb0.out.trans (Bi.out.mono Hb0.out.size)).size (fun k hk h => by omega))
            exact ⟨⟨1, rfl, .inr ⟨rfl, rfl, Lib.hid ⟨hbl, hlg, ⟨.slice va 2 vc, ((((B1.out.below Bi.out B1.out.lt).set_ 0 (.slice va 2 vc)).set_ 1 (.int .i64 (-1))).set_ 2 (.int .i64 0)).set_ 3 (.bool false), hsF⟩, hz1, hz2⟩⟩⟩, by simp [intOf]⟩
        · go_wp2_with fail
          exact ⟨⟨1, rfl, .inr ⟨rfl, HFn⟩⟩, by simp [intOf]⟩
    · obtain ⟨bel, log, ⟨vd, dsk, hsd⟩, zlog, zdsk⟩ := HFn.out
      obtain ⟨va, vc, rfl⟩ := hsd.len
      obtain ⟨l0, l1, l2, l3, m0, m1, m2, m3⟩ := dkCells log
      obtain ⟨d0, d1, d2, d3, _, _, _, _⟩ := dkCells dsk
      obtain ⟨y0, y1, y2, y3, x0, x1, x2, x3⟩ := dkCells zlog
      obtain ⟨z0, z1, z2, z3, u0, u1, u2, u3⟩ := dkCells zdsk
      have Hbel := Lib.hid bel
      have Hlog := Lib.hid log
      have Hsd := Lib.hid hsd
      have Hzl := Lib.hid zlog
      have Hzd := Lib.hid zdsk
      have Hds := Lib.hid dsk
      clear bel log dsk hsd zlog zdsk HFn
      go_wp2_with fail
      go_region
      go_wp2_with fail
      have hU1 : Upd (fun k => k = w.heap.size) wr (wr.setCell ⟨w.heap.size, 3, none⟩ (.int .i64 1)) := (Upd.refl (fun k => k = w.heap.size) wr).setCell (p := ⟨w.heap.size, 3, none⟩) (.inl rfl) _
      have s1 := secs_log Hsd.out (by simp) (by simp [zeros_len, lay2_len 1#32 0 r hr]) Hlog.out hU1
      have hz1 := Hzl.out.upd hU1 (by omega)
      have hd1 := Hzd.out.upd hU1 (by omega)
      have b1 := Hbel.out.trans (hU1.below Hbel.out.size (fun k hk h => by omega))
      have hU2 := ((((Upd.refl (fun k => k = w.heap.size + 1 + 1) (wr.setCell ⟨w.heap.size, 3, none⟩ (.int .i64 1))).setCell (p := ⟨w.heap.size + 1 + 1, 0, none⟩) (.inl rfl) (.int .i64 0)).setCell (p := ⟨w.heap.size + 1 + 1, 1, none⟩) (.inl rfl) (.int .i64 1)).setCell (p := ⟨w.heap.size + 1 + 1, 2, none⟩) (.inl rfl) (.slice (some ⟨rg, roff, none⟩) 1 rc)).setCell (p := ⟨w.heap.size + 1 + 1, 3, none⟩) (.inl rfl) (.int .i64 1)
      have s2 := secs_log s1 (by simp) (by simp [zeros_len, lay2_len 1#32 0 r hr]) hz1 hU2
      have hd2 := hd1.upd hU2 (by omega)
      have b2 := b1.trans (hU2.below b1.size (fun k hk h => by omega))
      have s3 := secs_dsk s2 (by simp) (by simp [zeros_len, lay2_len 1#32 0 r hr]) hd2 (upd4 _ (w.heap.size + 1 + 1 + 1) (.slice va 2 vc) (.int .i64 (-1)) (.int .i64 0) (.bool false))
      have b3 := (b2.trans ((upd4 _ (w.heap.size + 1 + 1 + 1) (.slice va 2 vc) (.int .i64 (-1)) (.int .i64 0) (.bool false)).below b2.size (fun k hk h => by omega))).drew
      have s4 := s3.next ((Below.refl _ _).drew)
      exact bodyPost_ret (v := .tuple #[.agg #[.int .i64 0, .int .i64 1, .slice (some ⟨rg, roff, none⟩) 1 rc, .int .i64 1], .agg #[.slice va 2 vc, .int .i64 (-1), .int .i64 0, .bool false], .int .i64 0]) (by simp [results, Try.results25, go_sem, *]) rfl
        ⟨_, _, rfl, ⟨_, rfl, HVr.out.next b3⟩, ⟨_, rfl, s4⟩, b3⟩
end Go.Proofs.Ytbinibpkbkhdlaa
