/- SHA-256 in the reference: Sum. -/
import Derived.Test.YtiloaheaglcpbaaDoorSgR3
import Derived.Test.YtiloaheaglcpbaaDoorSgRP
import Derived.Test.YtiloaheaglcpbaaDoorSgF7
namespace Go.Proofs.YtiloaheaglcpbaaDoor
open Go.RowKit

def i8 : Array Value := #[.int .u32 1779033703, .int .u32 3144134277, .int .u32 1013904242, .int .u32 2773480762, .int .u32 1359893119, .int .u32 2600822924, .int .u32 528734635, .int .u32 1541459225]
theorem i8_init : i8 = s8init.cells.toArray := by kernel_rfl
theorem i8_one : i8.all (·.oneCell') = true := by kernel_rfl
theorem s8B_byte (r : S8) (j b : Nat) (hj : j < 8) (hb : b < 4) : (((s8B r).getD (4 * j + b) 0).toNat : Int) = ((r.ws.getD j 0).toNat : Int) / 2 ^ (24 - 8 * b) % 256 := by
  have h1 := s8B_at r j hj
  obtain ⟨x, hx⟩ : ∃ x, r.ws.getD j 0 = x := ⟨_, rfl⟩
  rw [hx] at h1 ⊢
  have e := put_w x
  have hl := x.isLt
  match b, hb with
  | 0, _ => rw [Nat.add_zero, h1.1.1, UInt8.toNat_ofNat']; have := e.1; omega
  | 1, _ => rw [h1.1.2, UInt8.toNat_ofNat']; have := e.2.1; omega
  | 2, _ => rw [h1.2.1, UInt8.toNat_ofNat']; have := e.2.2.1; omega
  | 3, _ => rw [h1.2.2, UInt8.toNat_ofNat']; have := e.2.2.2; omega
theorem own_put8 {w : World} {B size n g : Nat} {e : TypeId} {v : Value} {xs : List Value} (h : w.ownsRow B e size v n xs) (hg : g < B) (r : S8) : (put8 w g r).ownsRow B e size v n xs :=
  own_cell (own_cell (own_cell (own_cell (own_cell (own_cell (own_cell (own_cell h (p := ⟨g, 0, none⟩) hg _) (p := ⟨g, 1, none⟩) hg _) (p := ⟨g, 2, none⟩) hg _) (p := ⟨g, 3, none⟩) hg _) (p := ⟨g, 4, none⟩) hg _) (p := ⟨g, 5, none⟩) hg _) (p := ⟨g, 6, none⟩) hg _) (p := ⟨g, 7, none⟩) hg _
set_option maxRecDepth 100000 in
set_option maxHeartbeats 4000000 in
theorem rsum_any (l : List UInt8) (n : Nat) (hn : l.length = n) (hn9 : n ≤ 100000000) (v : Value) (w : World) (hv : Sl w 1 v n (bc l)) :
    Calls Tryd.prog 66 #[v] w fun e w' => e = .returned (arrV (sha l)) ∧ Below w.heap.size w w' := by
  have hP := fun W (hb : Below w.heap.size w W) => padded_any l n hn hn9 v W (hv.next hb)
  have hsw := sha_whole l
  have hpl := padL_len l n
  have hp64 := padL_64 l n
  rw [hn] at hsw hpl
  obtain ⟨a, cap, rfl⟩ := hv.form
  obtain ⟨p, hp⟩ : ∃ p, padL l n = p := ⟨_, rfl⟩
  have hpn : p.length ≤ 100000200 := by have : padN n < 64 := Nat.mod_lt _ (by omega); rw [← hp]; omega
  rw [hp] at hsw hp64
  simp only [hp] at hP
  have HP := Lib.hid hP
  have Hsw := Lib.hid hsw
  have Hp64 := Lib.hid hp64
  clear hP hsw hpl hp hv hn
  obtain ⟨N, hN⟩ : ∃ N, p.length = N := ⟨_, rfl⟩
  rw [hN] at HP hpn Hsw Hp64
  have HN := Lib.hid hN
  have hd := (Blk.new w 26 #[.int .u8 0, .int .u8 0, .int .u8 0, .int .u8 0, .int .u8 0, .int .u8 0, .int .u8 0, .int .u8 0, .int .u8 0, .int .u8 0, .int .u8 0, .int .u8 0, .int .u8 0, .int .u8 0, .int .u8 0, .int .u8 0, .int .u8 0, .int .u8 0, .int .u8 0, .int .u8 0, .int .u8 0, .int .u8 0, .int .u8 0, .int .u8 0, .int .u8 0, .int .u8 0, .int .u8 0, .int .u8 0, .int .u8 0, .int .u8 0, .int .u8 0, .int .u8 0]).alloc (.cells #[.int .u32 0, .int .u32 0, .int .u32 0, .int .u32 0, .int .u32 0, .int .u32 0, .int .u32 0, .int .u32 0] 77)
  have hs := Blk.new (w.alloc (.cells #[.int .u8 0, .int .u8 0, .int .u8 0, .int .u8 0, .int .u8 0, .int .u8 0, .int .u8 0, .int .u8 0, .int .u8 0, .int .u8 0, .int .u8 0, .int .u8 0, .int .u8 0, .int .u8 0, .int .u8 0, .int .u8 0, .int .u8 0, .int .u8 0, .int .u8 0, .int .u8 0, .int .u8 0, .int .u8 0, .int .u8 0, .int .u8 0, .int .u8 0, .int .u8 0, .int .u8 0, .int .u8 0, .int .u8 0, .int .u8 0, .int .u8 0, .int .u8 0] 26)) 77 #[.int .u32 0, .int .u32 0, .int .u32 0, .int .u32 0, .int .u32 0, .int .u32 0, .int .u32 0, .int .u32 0]
  rw [World.size_alloc] at hs
  have hb := (below_alloc w (.cells #[.int .u8 0, .int .u8 0, .int .u8 0, .int .u8 0, .int .u8 0, .int .u8 0, .int .u8 0, .int .u8 0, .int .u8 0, .int .u8 0, .int .u8 0, .int .u8 0, .int .u8 0, .int .u8 0, .int .u8 0, .int .u8 0, .int .u8 0, .int .u8 0, .int .u8 0, .int .u8 0, .int .u8 0, .int .u8 0, .int .u8 0, .int .u8 0, .int .u8 0, .int .u8 0, .int .u8 0, .int .u8 0, .int .u8 0, .int .u8 0, .int .u8 0, .int .u8 0] 26)).alloc (by simp) (.cells #[.int .u32 0, .int .u32 0, .int .u32 0, .int .u32 0, .int .u32 0, .int .u32 0, .int .u32 0, .int .u32 0] 77)
  have hs1 := hs.setRow i8
  have hd1 := hd.farRow (g' := w.heap.size + 1) (by omega) i8
  have hb1 := setRow_below (g := w.heap.size + 1) hb (by omega) i8
  obtain ⟨w1, hw1⟩ : ∃ w1, ((w.alloc (.cells #[.int .u8 0, .int .u8 0, .int .u8 0, .int .u8 0, .int .u8 0, .int .u8 0, .int .u8 0, .int .u8 0, .int .u8 0, .int .u8 0, .int .u8 0, .int .u8 0, .int .u8 0, .int .u8 0, .int .u8 0, .int .u8 0, .int .u8 0, .int .u8 0, .int .u8 0, .int .u8 0, .int .u8 0, .int .u8 0, .int .u8 0, .int .u8 0, .int .u8 0, .int .u8 0, .int .u8 0, .int .u8 0, .int .u8 0, .int .u8 0, .int .u8 0, .int .u8 0] 26)).alloc (.cells #[.int .u32 0, .int .u32 0, .int .u32 0, .int .u32 0, .int .u32 0, .int .u32 0, .int .u32 0, .int .u32 0] 77)).setRow (w.heap.size + 1) i8 = w1 := ⟨_, rfl⟩
  rw [hw1] at hs1 hd1 hb1
  rw [i8_init] at hs1
  have HW1 := Lib.hid hw1
  have HS0 := Lib.hid hs
  have HS := Lib.hid hs1
  have HD := Lib.hid hd1
  have Hb := Lib.hid hb1
  clear hd hs hb hs1 hd1 hb1 hw1 hN
  go_enter Tryd.func66, Tryd.ntmps66
  go_wp2_with (first
    | (refine wpList_store_row rfl 77 _ _ rfl (w.heap.size + 1) i8 rfl rfl 77 _ HS0.out infoW8 rfl i8_one ?_; rw [HW1.out])
    | (refine (HP.out _ Hb.out).mono ?_
       rintro e w2 ⟨gp, pcap, rfl, hown, hb2⟩
       have HO := Lib.hid hown
       have HS2 := Lib.hid (HS.out.below hb2 HS.out.lt)
       have HD2 := Lib.hid (HD.out.below hb2 HD.out.lt)
       have Hb2 := Lib.hid (Hb.out.trans (hb2.mono Hb.out.size))
       clear hown hb2))
  have hcap2 : N ≤ pcap := by obtain ⟨_, _, _, he, hn, _⟩ := Sl.of_own HO.out; cases he; exact hn
  have hgp : w1.heap.size ≤ gp := (HO.out.lt gp (by simp [Value.ownBlock])).1
  have hl1 : w.heap.size + 1 < w1.heap.size := HS.out.lt
  obtain ⟨g2, hg2⟩ : ∃ g2, w.heap.size = g2 := ⟨_, rfl⟩
  rw [hg2] at HS2 HD2 Hb2 hl1 ⊢
  obtain ⟨Z, hZ⟩ : ∃ Z : Array Value, #[.int .u8 0, .int .u8 0, .int .u8 0, .int .u8 0, .int .u8 0, .int .u8 0, .int .u8 0, .int .u8 0, .int .u8 0, .int .u8 0, .int .u8 0, .int .u8 0, .int .u8 0, .int .u8 0, .int .u8 0, .int .u8 0, .int .u8 0, .int .u8 0, .int .u8 0, .int .u8 0, .int .u8 0, .int .u8 0, .int .u8 0, .int .u8 0, .int .u8 0, .int .u8 0, .int .u8 0, .int .u8 0, .int .u8 0, .int .u8 0, .int .u8 0, .int .u8 0] = Z := ⟨_, rfl⟩
  have HZ := Lib.hid (show Z.size = 32 by rw [← hZ]; rfl)
  rw [hZ] at HD2
  have Hg2 := Lib.hid hg2
  clear hg2 hZ HS HD Hb HS0 HW1 HP
  go_loopw [5] (fun i wr => ∃ (k at' : Nat), at' = 64 * k ∧ at' ≤ N ∧ i = .int .i64 at' ∧ Blk wr (g2 + 1) 77 (blocks p s8init k).cells.toArray ∧ Blk wr g2 26 Z ∧ wr.ownsRow w1.heap.size 5 1 (.slice (some ⟨gp, 0, none⟩) N pcap) N (bc p) ∧ Below g2 w wr) (fun i _ => N - (intOf i).toNat)
  case atStart => exact ⟨0, 0, rfl, by omega, rfl, HS2.out, HD2.out, HO.out, Hb2.out⟩
  case round =>
    clear HS2 HD2 Hb2 HO
    obtain ⟨k, at', hat, hle, rfl, hS, hD, ho, hb⟩ := hrel
    have Hat := Lib.hid hat
    have HS := Lib.hid hS
    have HD := Lib.hid hD
    have HO := Lib.hid ho
    have Hb := Lib.hid hb
    have Hbl := Lib.hid (show blocks p s8init (k + 1) = comp (blocks p s8init k) ((p.drop (64 * k)).take 64) from rfl)
    have hmul : at' < N → at' + 64 ≤ N := by have := Hp64.out; omega
    clear hS hD ho hb
    by_cases hlt : at' < N
    · have h64 := hmul hlt
      clear hmul hat
      have hnc : ¬ pcap = at' := by omega
      have hck := fun (r : S8) W (h : W.ownsRow w1.heap.size 5 1 (.slice (some ⟨gp, 0, none⟩) N pcap) N (bc p)) => block_any r ((p.drop at').take 64) (sub_len HN.out (by omega)) gp (0 + at') (pcap - at') W ((Sl.of_own h).subB (by omega))
      rw [← Hat.out] at Hbl
      obtain ⟨blk, hblk⟩ : ∃ blk, (p.drop at').take 64 = blk := ⟨_, rfl⟩
      rw [hblk] at hck Hbl
      obtain ⟨r, hr⟩ : ∃ r, blocks p s8init k = r := ⟨_, rfl⟩
      rw [hr] at HS Hbl
      have hck := hck r
      obtain ⟨r', hr'⟩ : ∃ r', comp r blk = r' := ⟨_, rfl⟩
      rw [hr'] at hck Hbl
      obtain ⟨a0, b0, c0', d0, e0, f0', g0', h0⟩ := r
      obtain ⟨a1, b1, c1, d1, e1, f1, g1, h1⟩ := r'
      obtain ⟨⟨c0, c1', c2, c3⟩, c4, c5, c6, c7⟩ := rds_tail HS.out
      unfold S8.cells at hck
      unfold wv at c0 c1' c2 c3 c4 c5 c6 c7 hck
      simp only [Nat.zero_add] at c0 c1' c2 c3 c4 c5 c6 c7 hck
      have HCk := Lib.hid hck
      have i1 : (0 : Int) ≤ (at' : Int) := by omega
      have i2 : (at' : Int) + 64 ≤ (N : Int) := by omega
      have i5 : (0 : Int) ≤ (at' : Int) + 64 := by omega
      have i6 : (at' : Int) ≤ (at' : Int) + 64 := by omega
      have i3 : (at' : Int) + 64 ≤ (pcap : Int) := by omega
      have i4 : (at' : Int) < (pcap : Int) := by omega
      have s1 : IntKind.i64.wrap ((at' : Int) + 64) = (at' : Int) + 64 := IntWalk.i64_in _ (by omega)
      have n1 : ((at' : Int) + 64).toNat = at' + 64 := by omega
      have n2 : at' + 64 - at' = 64 := by omega
      clear hblk hr hr' hck
      go_wp2_with fail
      go_region_law (go_simp; go_at_call 72; refine (HCk.out _ (own_drew HO.out)).mono ?_; rintro e w5 ⟨rfl, hb5⟩; have hS5 := HS.out.drew.below hb5 HS.out.drew.lt; obtain ⟨⟨y0, y1, y2, y3⟩, y4, y5, y6, y7⟩ := rds_tail hS5; have f0 := hS5.frozen 0; have f1' := hS5.frozen 1; have f2 := hS5.frozen 2; have f3 := hS5.frozen 3; have f4 := hS5.frozen 4; have f5 := hS5.frozen 5; have f6 := hS5.frozen 6; have f7 := hS5.frozen 7)
      have hp8 := set8 ⟨a1, b1, c1, d1, e1, f1, g1, h1⟩ hS5
      have ho8 := own_put8 (own_next (own_drew HO.out) hb5) (show g2 + 1 < w1.heap.size from hl1) ⟨a1, b1, c1, d1, e1, f1, g1, h1⟩
      unfold put8 at hp8 ho8
      clear y0 y1 y2 y3 y4 y5 y6 y7 f0 f1' f2 f3 f4 f5 f6 f7 s1 n1 n2 c0 c1' c2 c3 c4 c5 c6 c7
      go_wp2_with fail
      refine ⟨⟨k + 1, at' + 64, by have := Hat.out; omega, by omega, by go_num, by rw [Hbl.out]; exact hp8.1, hp8.2.1 _ _ _ (by omega) (HD.out.drew.below hb5 HD.out.drew.lt), ho8, hp8.2.2.1 _ _ (by omega) (Hb.out.drew.trans (hb5.mono (by have := Hb.out.size; have := Hg2.out; simp; omega)))⟩, ?_⟩
      simp [intOf]; omega
    · have hk : at' = N := by omega
      subst hk
      have hkq : k = at' / 64 := by have := Hat.out; omega
      rw [← hkq] at Hsw
      obtain ⟨r, hr⟩ : ∃ r, blocks p s8init k = r := ⟨_, rfl⟩
      rw [hr] at HS Hsw
      have hn := Blk.new wr 26 #[.int .u8 0, .int .u8 0, .int .u8 0, .int .u8 0, .int .u8 0, .int .u8 0, .int .u8 0, .int .u8 0, .int .u8 0, .int .u8 0, .int .u8 0, .int .u8 0, .int .u8 0, .int .u8 0, .int .u8 0, .int .u8 0, .int .u8 0, .int .u8 0, .int .u8 0, .int .u8 0, .int .u8 0, .int .u8 0, .int .u8 0, .int .u8 0, .int .u8 0, .int .u8 0, .int .u8 0, .int .u8 0, .int .u8 0, .int .u8 0, .int .u8 0, .int .u8 0]
      have hn1 := hn.setRow #[.int .u8 0, .int .u8 0, .int .u8 0, .int .u8 0, .int .u8 0, .int .u8 0, .int .u8 0, .int .u8 0, .int .u8 0, .int .u8 0, .int .u8 0, .int .u8 0, .int .u8 0, .int .u8 0, .int .u8 0, .int .u8 0, .int .u8 0, .int .u8 0, .int .u8 0, .int .u8 0, .int .u8 0, .int .u8 0, .int .u8 0, .int .u8 0, .int .u8 0, .int .u8 0, .int .u8 0, .int .u8 0, .int .u8 0, .int .u8 0, .int .u8 0, .int .u8 0]
      have hlS := HS.out.lt
      have hlD := HD.out.lt
      have hle : g2 ≤ wr.heap.size := by omega
      have hS1 := (HS.out.alloc (.cells #[.int .u8 0, .int .u8 0, .int .u8 0, .int .u8 0, .int .u8 0, .int .u8 0, .int .u8 0, .int .u8 0, .int .u8 0, .int .u8 0, .int .u8 0, .int .u8 0, .int .u8 0, .int .u8 0, .int .u8 0, .int .u8 0, .int .u8 0, .int .u8 0, .int .u8 0, .int .u8 0, .int .u8 0, .int .u8 0, .int .u8 0, .int .u8 0, .int .u8 0, .int .u8 0, .int .u8 0, .int .u8 0, .int .u8 0, .int .u8 0, .int .u8 0, .int .u8 0] 26)).farRow (show g2 + 1 ≠ wr.heap.size by omega) #[.int .u8 0, .int .u8 0, .int .u8 0, .int .u8 0, .int .u8 0, .int .u8 0, .int .u8 0, .int .u8 0, .int .u8 0, .int .u8 0, .int .u8 0, .int .u8 0, .int .u8 0, .int .u8 0, .int .u8 0, .int .u8 0, .int .u8 0, .int .u8 0, .int .u8 0, .int .u8 0, .int .u8 0, .int .u8 0, .int .u8 0, .int .u8 0, .int .u8 0, .int .u8 0, .int .u8 0, .int .u8 0, .int .u8 0, .int .u8 0, .int .u8 0, .int .u8 0]
      have hD1 := (HD.out.alloc (.cells #[.int .u8 0, .int .u8 0, .int .u8 0, .int .u8 0, .int .u8 0, .int .u8 0, .int .u8 0, .int .u8 0, .int .u8 0, .int .u8 0, .int .u8 0, .int .u8 0, .int .u8 0, .int .u8 0, .int .u8 0, .int .u8 0, .int .u8 0, .int .u8 0, .int .u8 0, .int .u8 0, .int .u8 0, .int .u8 0, .int .u8 0, .int .u8 0, .int .u8 0, .int .u8 0, .int .u8 0, .int .u8 0, .int .u8 0, .int .u8 0, .int .u8 0, .int .u8 0] 26)).farRow (show g2 ≠ wr.heap.size by omega) #[.int .u8 0, .int .u8 0, .int .u8 0, .int .u8 0, .int .u8 0, .int .u8 0, .int .u8 0, .int .u8 0, .int .u8 0, .int .u8 0, .int .u8 0, .int .u8 0, .int .u8 0, .int .u8 0, .int .u8 0, .int .u8 0, .int .u8 0, .int .u8 0, .int .u8 0, .int .u8 0, .int .u8 0, .int .u8 0, .int .u8 0, .int .u8 0, .int .u8 0, .int .u8 0, .int .u8 0, .int .u8 0, .int .u8 0, .int .u8 0, .int .u8 0, .int .u8 0]
      have hb1 := setRow_below (g := wr.heap.size) (Hb.out.alloc hle (.cells #[.int .u8 0, .int .u8 0, .int .u8 0, .int .u8 0, .int .u8 0, .int .u8 0, .int .u8 0, .int .u8 0, .int .u8 0, .int .u8 0, .int .u8 0, .int .u8 0, .int .u8 0, .int .u8 0, .int .u8 0, .int .u8 0, .int .u8 0, .int .u8 0, .int .u8 0, .int .u8 0, .int .u8 0, .int .u8 0, .int .u8 0, .int .u8 0, .int .u8 0, .int .u8 0, .int .u8 0, .int .u8 0, .int .u8 0, .int .u8 0, .int .u8 0, .int .u8 0] 26)) hle #[.int .u8 0, .int .u8 0, .int .u8 0, .int .u8 0, .int .u8 0, .int .u8 0, .int .u8 0, .int .u8 0, .int .u8 0, .int .u8 0, .int .u8 0, .int .u8 0, .int .u8 0, .int .u8 0, .int .u8 0, .int .u8 0, .int .u8 0, .int .u8 0, .int .u8 0, .int .u8 0, .int .u8 0, .int .u8 0, .int .u8 0, .int .u8 0, .int .u8 0, .int .u8 0, .int .u8 0, .int .u8 0, .int .u8 0, .int .u8 0, .int .u8 0, .int .u8 0]
      obtain ⟨wq, hwq⟩ : ∃ wq, (wr.alloc (.cells #[.int .u8 0, .int .u8 0, .int .u8 0, .int .u8 0, .int .u8 0, .int .u8 0, .int .u8 0, .int .u8 0, .int .u8 0, .int .u8 0, .int .u8 0, .int .u8 0, .int .u8 0, .int .u8 0, .int .u8 0, .int .u8 0, .int .u8 0, .int .u8 0, .int .u8 0, .int .u8 0, .int .u8 0, .int .u8 0, .int .u8 0, .int .u8 0, .int .u8 0, .int .u8 0, .int .u8 0, .int .u8 0, .int .u8 0, .int .u8 0, .int .u8 0, .int .u8 0] 26)).setRow wr.heap.size #[.int .u8 0, .int .u8 0, .int .u8 0, .int .u8 0, .int .u8 0, .int .u8 0, .int .u8 0, .int .u8 0, .int .u8 0, .int .u8 0, .int .u8 0, .int .u8 0, .int .u8 0, .int .u8 0, .int .u8 0, .int .u8 0, .int .u8 0, .int .u8 0, .int .u8 0, .int .u8 0, .int .u8 0, .int .u8 0, .int .u8 0, .int .u8 0, .int .u8 0, .int .u8 0, .int .u8 0, .int .u8 0, .int .u8 0, .int .u8 0, .int .u8 0, .int .u8 0] = wq := ⟨_, rfl⟩
      rw [hwq] at hn1 hS1 hD1 hb1
      have HWq := Lib.hid hwq
      have HN0 := Lib.hid hn
      have HN1 := Lib.hid hn1
      have HS1 := Lib.hid hS1
      have HD1 := Lib.hid hD1
      have Hb1 := Lib.hid hb1
      clear hn hn1 hS1 hD1 hb1 hwq hkq hr hmul HS HD Hb HO Hbl hlt hat hle
      go_wp2_with (first
        | (refine wpList_store_row rfl 26 _ _ rfl wr.heap.size #[.int .u8 0, .int .u8 0, .int .u8 0, .int .u8 0, .int .u8 0, .int .u8 0, .int .u8 0, .int .u8 0, .int .u8 0, .int .u8 0, .int .u8 0, .int .u8 0, .int .u8 0, .int .u8 0, .int .u8 0, .int .u8 0, .int .u8 0, .int .u8 0, .int .u8 0, .int .u8 0, .int .u8 0, .int .u8 0, .int .u8 0, .int .u8 0, .int .u8 0, .int .u8 0, .int .u8 0, .int .u8 0, .int .u8 0, .int .u8 0, .int .u8 0, .int .u8 0] rfl rfl 26 _ HN0.out infoDg rfl (by decide +kernel) ?_; rw [HWq.out]))
      obtain ⟨gd, hgd⟩ : ∃ gd, wr.heap.size = gd := ⟨_, rfl⟩
      rw [hgd] at HN1 hlS hlD ⊢
      clear hgd HWq HN0
      go_loopw [7] (fun i wr => ∃ (k : Nat) (cs : Array Value), k ≤ 32 ∧ i = .int .i64 k ∧ cs.size = 32 ∧ (∀ j, j < k → cs[j]? = some (.int .u8 (((s8B r).getD j 0).toNat : Int))) ∧ Blk wr gd 26 cs ∧ Blk wr (g2 + 1) 77 r.cells.toArray ∧ Blk wr g2 26 Z ∧ Below g2 w wr) (fun i _ => 32 - (intOf i).toNat)
      case atStart => exact ⟨0, _, by omega, rfl, rfl, fun j h => by omega, HN1.out, HS1.out, HD1.out, Hb1.out⟩
      case round =>
        clear HN1 HS1 HD1 Hb1
        obtain ⟨k, cs, hk, rfl, hsz, hall, hN, hS, hD, hb⟩ := hrel
        have Hall := Lib.hid hall
        have Hsz := Lib.hid hsz
        have HB := Lib.hid hN
        have HS := Lib.hid hS
        have HD := Lib.hid hD
        have Hb := Lib.hid hb
        clear hall hN hS hD hb
        by_cases hlt : k < 32
        · have c0 : wr.cell? ⟨g2 + 1, k / 4, none⟩ = some (.int .u32 ((r.ws.getD (k / 4) 0).toNat : Int)) := by rw [HS.out.cell, List.getElem?_toArray, r.cells_at (k / 4) (by omega)]; rfl
          obtain ⟨u, hc0⟩ : ∃ u, wr.cell? ⟨gd, k, none⟩ = some u := ⟨cs[k], by rw [HB.out.cell]; simp⟩
          have hf0 := HB.out.frozen k
          obtain ⟨x, hx⟩ : ∃ x, r.ws.getD (k / 4) 0 = x := ⟨_, rfl⟩
          rw [hx] at c0
          have Hx := Lib.hid hx
          have hx9 := x.isLt
          have i1 : (0 : Int) ≤ (k : Int) := by omega
          have i2 : (k : Int) < 32 := by omega
          clear hx hsz
          go_wp2_with fail
          refine ⟨⟨k + 1, cs.setIfInBounds k (.int .u8 ((x.toNat : Int) / 2 ^ (24 - 8 * (k % 4)) % 256)), by omega, by go_num, by simp [Hsz.out], fun j hj => ?_, HB.out.set_ _ _, HS.out.far (by show g2 + 1 ≠ gd; omega) _, HD.out.far (by show g2 ≠ gd; omega) _, Hb.out.setCell (by show g2 ≤ gd; omega) _⟩, ?_⟩
          · rw [Array.getElem?_setIfInBounds]
            by_cases h1 : j = k
            · subst h1
              have := s8B_byte r (j / 4) (j % 4) (by omega) (by omega)
              rw [show 4 * (j / 4) + j % 4 = j by omega, Hx.out] at this
              rw [if_pos rfl, if_pos (by have := Hsz.out; omega), this]
            · rw [if_neg (fun e => h1 e.symm)]; exact Hall.out j (by omega)
          · simp [intOf]; omega
        · have hk32 : k = 32 := by omega
          subst hk32
          have hcs : cs = (bc (sha l)).toArray := by
            rw [Hsw.out]
            apply Array.ext_getElem?
            intro j
            rcases Nat.lt_or_ge j 32 with h | h
            · rw [Hall.out j h, List.getElem?_toArray, bt_cell (by rw [s8B_len]; exact h)]; rfl
            · rw [Array.getElem?_eq_none (by omega), Array.getElem?_eq_none (by rw [List.size_toArray, bc_len, s8B_len]; exact h)]
          rw [hcs] at HB
          have Hd1 := Lib.hid (bc_one (sha l))
          have Hds := Lib.hid (show (bc (sha l)).length = 32 by rw [bc_len, sha_len])
          clear Hall Hsz hsz hcs Hsw
          obtain ⟨D, hD⟩ : ∃ D, bc (sha l) = D := ⟨_, rfl⟩
          rw [hD] at HB Hd1 Hds
          have HA := Lib.hid (show arrV (sha l) = .agg D.toArray by unfold arrV; rw [hD])
          clear hD
          go_wp2_with (first
            | (refine wpList_load_row rfl 26 _ rfl gd rfl 26 D.toArray (0, 0) _ HB.out Tryd.underlying26 rfl (by rw [List.size_toArray, Hds.out]; exact infoDg) ?_)
            | (refine wpList_store_row rfl 26 _ _ rfl g2 D.toArray rfl rfl 26 _ HD.out (by rw [List.size_toArray, Hds.out]; exact infoDg) (show Z.size = D.length by rw [HZ.out, Hds.out]) (all_oneCell_toArray Hd1.out) ?_))
          refine bodyPost_ret (v := .agg D.toArray) (results_cell_row rfl _ _ g2 26 D.toArray (0, 0) _ rfl (HD.out.setRow D.toArray) Tryd.underlying26 rfl (by rw [List.size_toArray, Hds.out]; exact infoDg)) rfl ?_
          exact ⟨by rw [HA.out], by rw [Hg2.out]; exact setRow_below Hb.out (Nat.le_refl _) _⟩
end Go.Proofs.YtiloaheaglcpbaaDoor
