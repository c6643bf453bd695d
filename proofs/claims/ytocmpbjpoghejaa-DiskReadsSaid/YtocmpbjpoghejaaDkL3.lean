/- Disk: the statement DiskReads, the walk. -/
import Derived.Test.YtocmpbjpoghejaaDkM
import Derived.Test.YtocmpbjpoghejaaDkL2
namespace Go.Proofs.Ytocmpbjpoghejaa
open Go.RowKit

def rep (c : UInt8) : List UInt8 := List.replicate 128 c
theorem rep_len (c : UInt8) : (rep c).length = 128 := List.length_replicate
def u8c (L : List UInt8) : List Value := L.map fun c => .int .u8 (c.toNat : Int)
theorem rdD_chk {L : List UInt8} (hL : L.length = 4) : chk ⟨L.map rep, -1, 0, false⟩ = 0 := by
  refine chk_0 (by simp [hL]) (by simp [hL]) ?_ (by show (-1 : Int) ≤ -1; decide) (by show (0 : Int) ≤ 0; decide) (by show (0 : Int) ≤ 128; decide) (.inl rfl)
  rw [anyOdd, List.any_eq_false]
  intro s hs
  simp only [List.mem_map] at hs
  obtain ⟨c, _, rfl⟩ := hs
  simp [odd, rep_len]
theorem rdD_chkS {L : List UInt8} (hL : L.length = 4) {m : Nat} (hm : m < 4) : chkS ⟨L.map rep, -1, 0, false⟩ (m : Int) = 0 := by
  rw [chkS, if_pos ⟨rdD_chk hL, by omega, by simp [hL]; omega⟩]
theorem rdD_wtE {L : List UInt8} (hL : L.length = 4) {m : Nat} (hm : m < 4) (c : UInt8) : wtE ⟨L.map rep, -1, 0, false⟩ (m : Int) (rep c) = 0 := by
  rw [wtE, if_neg (by rw [rdD_chkS hL hm]; decide), if_neg (by simp [rep_len]), if_neg (by simp), if_neg (by show ¬ ((-1 : Int) = 0); decide)]
theorem rdD_wtD {L : List UInt8} (hL : L.length = 4) {m : Nat} (hm : m < 4) (c : UInt8) : wtD ⟨L.map rep, -1, 0, false⟩ (m : Int) (rep c) = ⟨(L.set m c).map rep, -1, 0, false⟩ := by
  have h : wrSec (-1) (Int.toNat 0) ((L.map rep).getD m []) (rep c) = rep c := by
    have : ((L.map rep).getD m []).length = 128 := by simp [List.getD, hL, hm, rep_len]
    rw [wrSec, show wrM (-1) (Int.toNat 0) = 128 from rfl, List.take_of_length_le (by rw [rep_len]; omega), List.drop_eq_nil_of_le (by omega), List.append_nil]
  rw [wtD, if_neg (by rw [rdD_chkS hL hm]; simp [rep_len]), if_neg (by simp)]
  simp only [Int.toNat_natCast]
  rw [h, List.map_set]
  rfl
theorem rdD_rd {L : List UInt8} (hL : L.length = 4) {m : Nat} (hm : m < 4) {c : UInt8} (hc : L[m]? = some c) : rdE ⟨L.map rep, -1, 0, false⟩ (m : Int) = 0 ∧ rdB ⟨L.map rep, -1, 0, false⟩ (m : Int) = rep c := by
  have h : rdE ⟨L.map rep, -1, 0, false⟩ (m : Int) = 0 := by rw [rdE, if_neg (by rw [rdD_chkS hL hm]; decide), if_neg (by simp)]
  refine ⟨h, ?_⟩
  rw [rdB, if_pos h]
  simp [List.getD, hc]
theorem rep_len' {L : List UInt8} (hL : L.length = 4) : ((L.map rep).length = 0 ∨ 2 ≤ (L.map rep).length) ∧ ∀ s ∈ L.map rep, 0 < s.length := by
  refine ⟨.inr (by simp [hL]), fun s hs => ?_⟩
  simp only [List.mem_map] at hs
  obtain ⟨c, _, rfl⟩ := hs
  rw [rep_len]; omega
/-- an array of four bytes lies apart from sectors -/
theorem secs_far4 {w W : World} {Q : Nat} {T : TypeId} {v : Value} {cs : List UInt8} {S : List (List UInt8)} (h : Secs w v S) (hS : 0 < S.length) (hne : ∀ s ∈ S, s.length = 128) (hcs : cs.length = 4)
    (hQ : Blk w Q T (u8c cs).toArray) (hU : Upd (fun q => q = Q) w W) : Secs W v S := by
  obtain ⟨vs, h1, h2⟩ := h
  have hl := h1.1
  have hsz : ∀ o, 4 ≤ o → w.cell? ⟨Q, o, none⟩ = none := fun o ho => by rw [hQ.cell, Array.getElem?_eq_none (by simp [u8c, hcs]; omega)]
  refine ⟨vs, ?_, ?_⟩
  · obtain ⟨ad, cc, rfl⟩ := h1.form
    obtain ⟨g, off, rfl, _, hc⟩ := h1.pos hS
    refine h1.upd hU (fun k hk => ?_)
    have hkg : k = g := by simpa [Value.ownBlock] using hk.symm
    subst hkg
    intro hkQ
    subst hkQ
    obtain ⟨x0, e0, s0⟩ := h2 0 _ (List.getElem?_eq_getElem hS)
    obtain ⟨a1, c1, rfl⟩ := s0.form
    have h5 := hc 0 _ e0
    rw [hQ.cell] at h5
    have h6 := List.mem_of_getElem? (by simpa using h5 : (u8c cs)[off + 0]? = some _)
    simp [u8c] at h6
  · intro i s hs
    obtain ⟨x, h3, h4⟩ := h2 i s hs
    refine ⟨x, h3, ?_⟩
    have hp := hne s (List.mem_of_getElem? hs)
    obtain ⟨ad, cc, rfl⟩ := h4.form
    obtain ⟨g, off, rfl, _, hc⟩ := h4.pos (by omega)
    refine h4.upd hU (fun k hk => ?_)
    have hkg : k = g := by simpa [Value.ownBlock] using hk.symm
    subst hkg
    intro hkQ
    subst hkQ
    have h5 := hc 127 (.int .u8 (s[127].toNat : Int)) (by rw [bc, List.getElem?_map, List.getElem?_eq_getElem (by omega)]; rfl)
    rw [hsz _ (by omega)] at h5
    cases h5

theorem read_rep {L : List UInt8} (hL : L.length = 4) {j : Nat} (hj : j < 4) {c : UInt8} (hc : L[j]? = some c) (a : Option Addr) (cap : Nat) (w : World) (hs : Secs w (.slice a 4 cap) (L.map rep)) :
    Calls Try.prog 18 #[.agg #[.slice a 4 cap, .int .i64 (-1), .int .i64 0, .bool false], .int .i64 (j : Int)] w fun e w' =>
      ∃ xb cb, e = .returned (.tuple #[.slice xb 128 cb, .int .i64 0]) ∧ Sl w' 1 (.slice xb 128 cb) 128 (bc (rep c)) ∧ Below w.heap.size w w' := by
  obtain ⟨h1, h2⟩ := rdD_rd hL hj hc
  refine (read_any ⟨L.map rep, -1, 0, false⟩ _ (j : Int) w hs.dkV (by intro s hs; simp only [List.mem_map] at hs; obtain ⟨c, _, rfl⟩ := hs; rw [rep_len]; omega)).mono ?_
  rintro e w' ⟨v, rfl, hsl, hb⟩
  rw [h2, rep_len] at hsl
  obtain ⟨x, cc, rfl⟩ := hsl.form
  exact ⟨x, cc, by rw [h1], hsl, hb⟩
theorem conv_rep {w W : World} {c : UInt8} {a : Option Addr} {cap : Nat} (h : Sl w 1 (.slice a 128 cap) 128 (bc (rep c))) (hb : Below w.heap.size w W) :
    (convert 32 9 (.slice a 128 cap)).run Try.prog W = .ok (.string (mkS (rep c))) W := by
  have h' := h.next hb
  have hl := rep_len c
  have : Sl W 1 (.slice a (rep c).length cap) (rep c).length (bc (rep c)) := by rw [hl]; exact h'
  have := conv_bytes this
  rw [hl] at this
  exact this

set_option maxRecDepth 100000 in
set_option maxHeartbeats 8000000 in
theorem diskReads_any (src : List UInt8) (v : Value) (w : World) (hv : Sl w 1 v src.length (bc src)) (hm : src.length ≤ maxLen) :
    Calls Try.prog 6 #[v] w fun e w' => e = .returned (.bool true) ∧ Below w.heap.size w w' := by
  unfold maxLen at hm
  obtain ⟨a, cap, rfl⟩ := hv.form
  by_cases hl : 100 < src.length
  · go_enter Try.func6, Try.ntmps6
    go_wp2_with fail
    refine (sane_any w).mono ?_
    rintro e w1 ⟨rfl, hb1⟩
    go_wp2_with fail
    go_ret
    exact ⟨rfl, hb1⟩
  · have HN := Lib.hid (fun W => diskOf_any (-1) 0 W)
    have HV := Lib.hid hv
    clear hv
    go_enter Try.func6, Try.ntmps6
    go_wp2_with fail
    refine (sane_any w).mono ?_
    rintro e w1 ⟨rfl, hb1⟩
    go_wp2_with fail
    refine (HN.out _).mono ?_
    intro e w2 hr
    obtain ⟨a2, cap2, rfl, hs2, hb2⟩ := hr.lit (S := [100, 101, 102, 103].map rep) (l := -1) (t := 0) (st := false) (n := 4) (by decide +kernel) rfl
    clear hr
    have hB2 : Below w.heap.size w w2 := hb1.trans (hb2.mono hb1.size)
    clear hb2 hb1
    go_wp2_with fail
    go_loopw [21] (fun i wr => ∃ (k : Nat) (L : List UInt8) (x : Option Addr) (cx : Nat), k ≤ src.length ∧ i = .int .i64 k ∧ L.length = 4 ∧ Blk wr w2.heap.size 26 #[.slice x 4 cx, .int .i64 (-1), .int .i64 0, .bool false] ∧ Secs wr (.slice x 4 cx) (L.map rep) ∧ Blk wr (w2.heap.size + 1) 44 (u8c L).toArray ∧ Below w.heap.size w wr) (fun i _ => src.length - (intOf i).toNat)
    case atStart => exact ⟨0, [100, 101, 102, 103], a2, cap2, by omega, rfl, rfl, (Blk.new w2 _ _).alloc _, (hs2.next (below_alloc _ _)).next (below_alloc _ _), blk_new2 w2 _ _ _, (hB2.alloc hB2.size _).alloc (by have := hB2.size; simp; omega) _⟩
    case round =>
      obtain ⟨k, L, x, cx, hk, rfl, hL, hQ, hs, hLb, hb⟩ := hrel
      have HQB := Lib.hid hB2.size
      obtain ⟨Q, hQe⟩ : ∃ Q, w2.heap.size = Q := ⟨_, rfl⟩
      rw [hQe] at hQ hLb HQB ⊢
      have HQ := Lib.hid hQ
      have HS := Lib.hid hs
      have HLb := Lib.hid hLb
      have HL := Lib.hid hL
      obtain ⟨q0, q1, q2, q3, f0, f1, f2, f3⟩ := dkCells hQ
      have hQl := hQ.lt
      have hLl := hLb.lt
      by_cases hlt : k < src.length
      · obtain ⟨g, off, rfl, hcap, hc⟩ := (HV.out.next hb).pos (by omega)
        obtain ⟨c, hck⟩ : ∃ c, src[k]? = some c := ⟨_, List.getElem?_eq_getElem hlt⟩
        have hcell := hc k (.int .u8 (c.toNat : Int)) (by simp [bc, hck])
        have hc256 := c.toNat_lt
        have HWh := Lib.hid (fun w W hb => whole_lit c w W hb)
        obtain ⟨n, hn⟩ : ∃ n : Nat, c.toNat = n := ⟨_, rfl⟩
        rw [hn] at hcell hc256 HWh
        have HC := Lib.hid hn
        obtain ⟨m, hm4⟩ : ∃ m : Nat, n % 4 = m := ⟨_, rfl⟩
        have hm : m < 4 := by omega
        have i1 : (0 : Int) ≤ (k : Int) := by omega
        have i2 : (k : Int) < (src.length : Int) := by omega
        have i3 : (0 : Int) ≤ (n : Int) := by omega
        have i4 : (n : Int) < 256 := by omega
        have i5 : (0 : Int) ≤ (m : Int) := by omega
        have i6 : (m : Int) < 4 := by omega
        have u1 : (n : Int).tmod 4 = (m : Int) := by rw [Int.tmod_eq_emod_of_nonneg (by omega)]; omega
        have u2 : (n : Int) % 4 = (m : Int) := by omega
        have u3 : IntKind.i64.wrap (n : Int) = (n : Int) := IntWalk.i64_in _ (by omega)
        have u4 : IntKind.i64.wrap (m : Int) = (m : Int) := IntWalk.i64_in _ (by omega)
        have u5 : IntKind.u8.wrap (m : Int) = (m : Int) := IntWalk.u8_in _ (by omega)
        have hL2 : (L.set m c).length = 4 := by simp [hL]
        have HL2 := Lib.hid hL2
        have HL' := Lib.hid (rep_len' hL2)
        have HWt := Lib.hid (fun w W (ab : Option Addr) (cb : Nat) hs hb hv g hZ => wt_litZ (L.map rep) ((L.set m c).map rep) (-1) 0 (-1) 0 false false (m : Int) (rep c) 0 w W x ab 4 cx cb (by simp [hL]) 4 (by simp [hL]) (rdD_wtD hL hm c) (rdD_wtE hL hm c) hs hb hv (rep_len c) (by omega) g hZ)
        have HWt2 := Lib.hid (fun w W (ab : Option Addr) (cb : Nat) hs hb hv => wt_lit (L.map rep) ((L.set m c).map rep) (-1) 0 (-1) 0 false false (m : Int) (rep c) 0 w W x ab 4 cx cb (by simp [hL]) 4 (by simp [hL]) (rdD_wtD hL hm c) (rdD_wtE hL hm c) hs hb hv (rep_len c) (by omega))
        have HM := Lib.hid hm4
        have HN4 := Lib.hid (show 4 = ((L.set m c).map rep).length by simp [hL])
        clear hc hck hn hQ hs hLb hm4 hL hL2 hQe
        go_wp2_with fail
        go_cut [7, 8] (fun s9 s10 wx => s10 = .int .i64 0 ∧ WrReg wr ((L.set m c).map rep) (-1) 0 false s9 wx)
        case first =>
          have hl1 : Q < wr.heap.size + 1 := by omega
          have hneQ : ¬ Q = wr.heap.size := by omega
          go_region_held3 (fun w' => w'.cell? ⟨Q, 0, none⟩ = some (.slice x 4 cx) ∧ w'.cell? ⟨Q, 1, none⟩ = some (.int .i64 (-1)) ∧ w'.cell? ⟨Q, 2, none⟩ = some (.int .i64 0) ∧ w'.cell? ⟨Q, 3, none⟩ = some (.bool false))
            (first
              | (with_reducible exact ⟨q0, q1, q2, q3⟩)
              | (simp only [World.cell?_drew]; with_reducible exact ⟨q0, q1, q2, q3⟩)
              | (go_split_ands; refine ⟨?_, ?_, ?_, ?_⟩ <;> (rw [hcc9 _ _ (by first | omega | (simp; omega))]; assumption))
              | (go_split_ands; refine ⟨?_, ?_, ?_, ?_⟩ <;> (rw [hcc5 _ _ (by first | omega | (simp; omega))]; assumption))
              | (go_split_ands; refine ⟨?_, ?_, ?_, ?_⟩ <;> (rw [World.cell?_alloc_past _ _ _ (by first | omega | (simp; omega))]; assumption))
              | (go_split_ands; refine ⟨?_, ?_, ?_, ?_⟩ <;> (rw [World.cell?_drew, World.cell?_alloc_past _ _ _ (by first | omega | (simp; omega))]; assumption))
              | (go_split_ands; refine ⟨?_, ?_, ?_, ?_⟩ <;> ((repeat (rw [World.cell?_setCell_other _ _ _ _ (by intro h; have := congrArg Addr.block h; simp at this; omega)])); assumption)))
            (first
              | (go_at_call 15; refine (HWh.out wr _ (by (repeat (first | (refine Below.alloc ?_ (by simp) _) | (refine Below.drew ?_))); exact Below.refl _ _)).mono ?_; rintro e w5 ⟨xw, cw, rfl, hsw, hb5, hb5'⟩; obtain ⟨hcc5, hff5⟩ := bcell hb5; have hk5 := fun g T cs (h : Blk _ g T cs) => h.below hb5 h.lt; have hn5 : ¬ Q = w5.heap.size := (by have := hb5'.size; omega); have hl5 : Q < w5.heap.size := (by have := hb5'.size; omega); have hl5' : Q < w5.heap.size + 1 := (by omega))
              | (go_at_call 16; refine (HWt.out wr _ xw cw HS.out (by (repeat (first | (refine Below.alloc ?_ (by have := hb5'.size; simp; omega) _) | (refine Below.drew ?_))); exact hb5') (by first | exact hsw | exact hsw.alloc _) _ (hk5 _ _ _ (Blk.new _ _ _))).mono ?_; rintro e w9 ⟨a', cap', rfl, hs9, hZ, hb9, hb9'⟩; obtain ⟨z0, z1, z2, z3, p0, p1, p2, p3⟩ := dkCells hZ; obtain ⟨hcc9, hff9⟩ := bcell hb9; have hn9 : ¬ Q = w9.heap.size := (by have := hb9'.size; omega); have hl9 : Q < w9.heap.size := (by have := hb9'.size; omega); have d0 := (hb9'.cell (p := ⟨Q, 0, none⟩) hQl).trans q0; have d1 := (hb9'.cell (p := ⟨Q, 1, none⟩) hQl).trans q1; have d2 := (hb9'.cell (p := ⟨Q, 2, none⟩) hQl).trans q2; have d3 := (hb9'.cell (p := ⟨Q, 3, none⟩) hQl).trans q3)
              | (go_at_call 16; refine (HWt.out wr _ xw cw HS.out (by (repeat (first | (refine Below.alloc ?_ (by have := hb5'.size; simp; omega) _) | (refine Below.drew ?_))); exact hb5') (by first | exact hsw | exact hsw.alloc _) _ (Blk.new _ _ _)).mono ?_; rintro e w9 ⟨a', cap', rfl, hs9, hZ, hb9, hb9'⟩; obtain ⟨z0, z1, z2, z3, p0, p1, p2, p3⟩ := dkCells hZ; obtain ⟨hcc9, hff9⟩ := bcell hb9; have hn9 : ¬ Q = w9.heap.size := (by have := hb9'.size; omega); have hl9 : Q < w9.heap.size := (by have := hb9'.size; omega); have d0 := (hb9'.cell (p := ⟨Q, 0, none⟩) hQl).trans q0; have d1 := (hb9'.cell (p := ⟨Q, 1, none⟩) hQl).trans q1; have d2 := (hb9'.cell (p := ⟨Q, 2, none⟩) hQl).trans q2; have d3 := (hb9'.cell (p := ⟨Q, 3, none⟩) hQl).trans q3)
              | (go_at_call 16; refine (HWt2.out wr _ xw cw HS.out (by (repeat (first | (refine Below.alloc ?_ (by have := hb5'.size; simp; omega) _) | (refine Below.drew ?_))); exact hb5') hsw).mono ?_; rintro e w9 ⟨a', cap', rfl, hs9, hb9, hb9'⟩; obtain ⟨hcc9, hff9⟩ := bcell hb9; have hn9 : ¬ Q = w9.heap.size := (by have := hb9'.size; omega); have hl9 : Q < w9.heap.size := (by have := hb9'.size; omega); have d0 := (hb9'.cell (p := ⟨Q, 0, none⟩) hQl).trans q0; have d1 := (hb9'.cell (p := ⟨Q, 1, none⟩) hQl).trans q1; have d2 := (hb9'.cell (p := ⟨Q, 2, none⟩) hQl).trans q2; have d3 := (hb9'.cell (p := ⟨Q, 3, none⟩) hQl).trans q3))
          all_goals
            go_wp2_with fail
            go_meet
            refine ⟨rfl, ?_⟩
            first
              | (with_reducible exact wr_fin2 HN4.out hs9 hb9')
              | (with_reducible exact wr_fin1 HN4.out hs9 hb9' (Nat.le_refl _) HL'.out.1 HL'.out.2 hZ)
              | (with_reducible exact wr_fin1 HN4.out hs9 hb9' hb5'.size HL'.out.1 HL'.out.2 hZ)
        case rest =>
          obtain ⟨rfl, g9, a', cap', rfl, hg9, hB9, hs9, hb9⟩ := hcut
          have hl9 : ((L.set m c).map rep).length = 4 := by rw [List.length_map]; exact HL2.out
          rw [hl9] at hB9 hs9
          obtain ⟨y0, y1, y2, y3, _, _, _, _⟩ := dkCells hB9
          have hQ4 := HQ.out.below hb9 hQl
          have hL4 := HLb.out.below hb9 hLl
          have hbX : Below w.heap.size w wc := hb.trans (hb9.mono hb.size)
          obtain ⟨m0, m1, m2, m3, n0, n1, n2, n3⟩ := dkCells hQ4
          have hne1 : ¬ g9 = Q := by omega
          have hne2 : ¬ Q = g9 := by omega
          obtain ⟨s1, s2, s3⟩ := wr_store (l := -1) (t := 0) (st := false) hQ4 hs9 HL'.out.1 HL'.out.2
          have hL5 := s3.heap hL4 (by show ¬ Q + 1 = Q; omega)
          obtain ⟨W0, hW0⟩ : ∃ W0, W0 = ((((wc.setCell ⟨Q, 0, none⟩ (.slice a' 4 cap')).setCell ⟨Q, 1, none⟩ (.int .i64 (-1))).setCell ⟨Q, 2, none⟩ (.int .i64 0)).setCell ⟨Q, 3, none⟩ (.bool false)) := ⟨_, rfl⟩
          have hm := HM.out
          have hm : m < 4 := by omega
          have l0 : ((((wc.setCell ⟨Q, 0, none⟩ (.slice a' 4 cap')).setCell ⟨Q, 1, none⟩ (.int .i64 (-1))).setCell ⟨Q, 2, none⟩ (.int .i64 0)).setCell ⟨Q, 3, none⟩ (.bool false)).cell? ⟨Q + 1, m, none⟩ = some (.int .u8 (L[m]'(by have := HL.out; omega)).toNat) := by
            rw [Blk.cell hL5 m]; simp only [u8c, List.getElem?_toArray, List.getElem?_map, List.getElem?_eq_getElem (show m < L.length by have := HL.out; omega)]; rfl
          have l1 : ((((wc.setCell ⟨Q, 0, none⟩ (.slice a' 4 cap')).setCell ⟨Q, 1, none⟩ (.int .i64 (-1))).setCell ⟨Q, 2, none⟩ (.int .i64 0)).setCell ⟨Q, 3, none⟩ (.bool false)).frozen? ⟨Q + 1, m, none⟩ = false := Blk.frozen hL5 m
          have hLs : (u8c L).toArray.setIfInBounds m (.int .u8 (n : Int)) = (u8c (L.set m c)).toArray := by
            rw [← HC.out]
            simp [u8c, List.map_set]
          have hU1 : Upd (fun q => q = Q + 1) W0 (W0.setCell ⟨Q + 1, m, none⟩ (.int .u8 (n : Int))) := Upd.setCell (S := fun q => q = Q + 1) (Upd.refl _ _) (Or.inl rfl) _
          rw [← hW0] at s1 s2 s3 hL5 l0 l1
          have t1 : Blk (W0.setCell ⟨Q + 1, m, none⟩ (.int .u8 (n : Int))) (Q + 1) 44 (u8c (L.set m c)).toArray := by rw [← hLs]; exact Blk.set_ hL5 m _
          have t2 := secs_far4 s2 (by rw [List.length_map, HL2.out]; omega) (by intro s hs; simp only [List.mem_map] at hs; obtain ⟨c, _, rfl⟩ := hs; exact rep_len c) HL.out hL5 hU1
          have t3 : Blk (W0.setCell ⟨Q + 1, m, none⟩ (.int .u8 (n : Int))) Q 26 #[.slice a' 4 cap', .int .i64 (-1), .int .i64 0, .bool false] := hU1.heap s1 (by show ¬ Q = Q + 1; omega)
          have t4 : Below w.heap.size w (W0.setCell ⟨Q + 1, m, none⟩ (.int .u8 (n : Int))) := (hbX.trans (s3.below hbX.size (fun q hq e => by have := HQB.out; omega))).setCell (by have := HQB.out; show w.heap.size ≤ Q + 1; omega) _
          obtain ⟨z0, hz0⟩ : ∃ z0 : Int, ((L[m]'(by have := HL.out; omega)).toNat : Int) = z0 := ⟨_, rfl⟩
          rw [hz0] at l0
          have T1 := Lib.hid t1
          have T2 := Lib.hid t2
          have T3 := Lib.hid t3
          have T4 := Lib.hid t4
          have HW0 := Lib.hid hW0
          subst hW0
          clear t1 t2 t3 t4 s1 s2 s3 hL5 hU1 hLs hQ4 hL4 hbX hs9 hB9 hz0 q0 q1 q2 q3 f0 f1 f2 f3 hm
          go_wp2_with fail
          obtain ⟨W1, hW1⟩ : ∃ W1, W1 = (((((wc.setCell ⟨Q, 0, none⟩ (.slice a' 4 cap')).setCell ⟨Q, 1, none⟩ (.int .i64 (-1))).setCell ⟨Q, 2, none⟩ (.int .i64 0)).setCell ⟨Q, 3, none⟩ (.bool false)).setCell ⟨Q + 1, m, none⟩ (.int .u8 (n : Int))) := ⟨_, rfl⟩
          rw [← hW1] at T1 T2 T3 T4 ⊢
          clear hW1 l0 l1 m0 m1 m2 m3 n0 n1 n2 n3 y0 y1 y2 y3 HW0
          go_loopw [42] (fun i wr => ∃ j : Nat, j ≤ 4 ∧ i = .int .i64 j ∧ Below W1.heap.size W1 wr) (fun i _ => 4 - (intOf i).toNat)
          case atStart => exact ⟨0, by omega, rfl, Below.refl _ _⟩
          case round =>
            obtain ⟨j, hj, rfl, hbi⟩ := hrel
            by_cases hlj : j < 4
            · obtain ⟨b0, b1, b2, b3, _, _, _, _⟩ := dkCells (T3.out.below hbi T3.out.lt)
              have hLi := T1.out.below hbi T1.out.lt
              have hsi := T2.out.next hbi
              obtain ⟨cj, hcj⟩ : ∃ cj, (L.set m c)[j]? = some cj := ⟨_, List.getElem?_eq_getElem (by rw [HL2.out]; omega)⟩
              have HRD := Lib.hid (read_rep HL2.out hlj hcj a' cap' wr hsi)
              have HWj := Lib.hid (fun w W hb => whole_lit cj w W hb)
              have hcl : wr.cell? ⟨Q + 1, j, none⟩ = some (.int .u8 (cj.toNat : Int)) := by
                rw [hLi.cell j]; simp only [u8c, List.getElem?_toArray, List.getElem?_map, hcj]; rfl
              have hLil := hLi.lt
              obtain ⟨nj, hnj⟩ : ∃ nj : Nat, cj.toNat = nj := ⟨_, rfl⟩
              have hnj256 := cj.toNat_lt
              rw [hnj] at HWj hcl hnj256
              have v1 : (0 : Int) ≤ (nj : Int) := by omega
              have v2 : (nj : Int) < 256 := by omega
              have v3 : (0 : Int) ≤ (j : Int) := by omega
              have v4 : (j : Int) < 4 := by omega
              clear hLi hsi hcj hnj
              go_wp2_with fail
              refine HRD.out.mono ?_
              rintro e w3 ⟨xb, cb, rfl, hsb, hb3⟩
              have hcl3 := (hb3.cell (p := ⟨Q + 1, j, none⟩) hLil).trans hcl
              have hLil3 : Q + 1 < w3.heap.size := by have := hb3.size; omega
              have hcv := fun W (h : Below w3.heap.size w3 W) => conv_rep hsb h
              have hd3 : Below w3.heap.size w3 w3.drew := (Below.refl _ _).drew
              have hbW3 := Lib.hid (hbi.trans (hb3.mono hbi.size))
              clear hcl b0 b1 b2 b3 hb3
              go_wp2_with fail
              go_region_law
                (go_simp; go_at_call 15; refine (HWj.out w3 _ (by (repeat (refine Below.drew ?_)); exact Below.refl _ _)).mono ?_; rintro e w5 ⟨xw, cw, rfl, hsw, hb5, hb5'⟩; have hcl5 := (hb5'.cell (p := ⟨Q + 1, j, none⟩) hLil3).trans hcl3; have hcw := conv_rep (c := cj) hsw (Below.refl _ _))
              all_goals
                have hbF := Lib.hid (hbW3.out.trans (hb5'.mono hbW3.out.size))
                clear hb5 hcw hsw
                go_wp2_with fail
                go_roundw
                case rel => exact ⟨j + 1, by omega, by go_num, hbF.out⟩
                case measure => simp [intOf]; omega
            · have R1 := Lib.hid (T3.out.below hbi T3.out.lt)
              have R2 := Lib.hid (T2.out.next hbi)
              have R3 := Lib.hid (T1.out.below hbi T1.out.lt)
              have R4 := Lib.hid (T4.out.trans (hbi.mono T4.out.size))
              go_wp2_with fail
              go_roundw
              case rel => exact ⟨k + 1, L.set m c, a', cap', by omega, by go_num, HL2.out, R1.out, R2.out, R3.out, R4.out⟩
              case measure => simp [intOf]; omega
      · go_wp2_with fail
        go_ret
        exact ⟨rfl, hb⟩
end Go.Proofs.Ytocmpbjpoghejaa
