/- Layer 1, the statement LexisLong: the walk. -/
import Derived.Test.YthgbpppbhpjhgaaDoorSane
namespace Go.Proofs.YthgbpppbhpjhgaaDoor
open Go.RowKit

theorem i64_and4095 (n : Int) : bits .and .i64 n 4095 = n % 4096 := by
  have hm : (BitVec.ofInt 64 4095).toNat = 2 ^ 12 - 1 := by decide
  have key : (BitVec.ofInt 64 n &&& BitVec.ofInt 64 4095).toNat = (n % ((2 ^ 64 : Nat) : Int)).toNat % 2 ^ 12 := by
    rw [BitVec.toNat_and, BitVec.toNat_ofInt, hm, Nat.and_two_pow_sub_one_eq_mod]
  show IntKind.i64.wrap ((BitVec.ofInt 64 n &&& BitVec.ofInt 64 4095).toNat : Nat) = n % 4096
  rw [key, IntKind.wrap_i64]
  omega

/-- a text, so many times -/
def rept (l : List UInt8) : Nat → List UInt8
  | 0 => []
  | n + 1 => rept l n ++ l
theorem rept_len (l : List UInt8) (n : Nat) : (rept l n).length = n * l.length := by
  induction n with
  | zero => simp [rept]
  | succ n ih => rw [rept, List.length_append, ih, Nat.add_mul]; omega
theorem bc_append (a b : List UInt8) : bc (a ++ b) = bc a ++ bc b := by simp [bc]
theorem infoU8 : (Tryd.prog.info? 5).map (fun i => (i.zero, i.size, i.bytes)) = some (some (.int .u8 0), 1, 1) := by kernel_rfl


set_option maxRecDepth 100000 in
set_option maxHeartbeats 1000000 in
theorem lexisLong_any (l : List UInt8) (v : Value) (many : Int) (w : World) (hv : Sl w 1 v l.length (bc l)) (hT : TabW w) (hm : l.length ≤ maxLen) :
    Calls Tryd.prog 10 #[v, .int .i64 many] w fun e w' => e = .returned (.bool true) ∧ Below w.heap.size w w' := by
  unfold maxLen at hm
  obtain ⟨a, cap, rfl⟩ := hv.form
  obtain ⟨n, hn⟩ : ∃ n : Nat, bits .and .i64 many 4095 = (n : Int) := ⟨(many % 4096).toNat, by rw [i64_and4095]; omega⟩
  have hn4 : n ≤ 4095 := by have h := i64_and4095 many; rw [hn] at h; omega
  by_cases h64 : 64 < l.length
  · go_enter Tryd.func10, Tryd.ntmps10
    go_wp2_with fail
    refine (sane_any w hT).mono ?_
    rintro e w1 ⟨rfl, hb1⟩
    go_wp2_with fail
    go_ret
    exact ⟨rfl, hb1⟩
  by_cases h0 : l.length = 0
  · have h0b : ((l.length : Int) == 0) = true := by simp [h0]
    have H0 := Lib.hid h0
    clear h0
    go_enter Tryd.func10, Tryd.ntmps10
    go_wp2_with fail
    refine (sane_any w hT).mono ?_
    rintro e w1 ⟨rfl, hb1⟩
    go_wp2_with fail
    go_ret
    exact ⟨rfl, hb1⟩
  have h0b : ((l.length : Int) == 0) = false := by rw [beq_eq_false_iff_ne]; omega
  have hp : 0 < l.length := by omega
  clear h0
  obtain ⟨m, hmm⟩ : ∃ m, n * l.length = m := ⟨_, rfl⟩
  have hprod : (n : Int) * (l.length : Int) = (m : Int) := by rw [← hmm]; push_cast; rfl
  have hm6 : m ≤ 4095 * 64 := by rw [← hmm]; exact Nat.mul_le_mul hn4 (by omega)
  have Hmm := Lib.hid hmm
  clear hmm
  by_cases h7 : 70000 < m
  · go_enter Tryd.func10, Tryd.ntmps10
    go_wp2_with fail
    refine (sane_any w hT).mono ?_
    rintro e w1 ⟨rfl, hb1⟩
    go_wp2_with fail
    go_ret
    exact ⟨rfl, hb1⟩
  obtain ⟨i0, hi, hz0, hz1, hz2⟩ := info_parts infoU8
  obtain ⟨g, off, rfl, hcap, _⟩ := hv.pos hp
  have hcells : ∀ w1, Below w.heap.size w w1 → ∀ j u, (bc l)[j]? = some u → w1.cell? ((⟨g, off, none⟩ : Addr).add j) = some u := fun w1 hb j u hu => by
    have hadd : (⟨g, off, none⟩ : Addr).add j = ⟨g, off + j, none⟩ := by simp [Addr.add]
    rw [hadd]
    obtain ⟨_, a', cap', he, _, hr⟩ := hv.next hb
    cases he
    rcases hr with h | ⟨g', off', he, hc⟩
    · omega
    · cases he; exact hc j u hu
  have HC := Lib.hid hcells
  have hTw := TabW_lt hT
  clear hcells
  go_enter Tryd.func10, Tryd.ntmps10
  go_wp2_with fail
  refine (sane_any w hT).mono ?_
  rintro e w1 ⟨rfl, hb1⟩
  go_wp2_with fail
  go_loopw [6, 7] (fun s i wr => ∃ j : Nat, j ≤ n ∧ i = .int .i64 j ∧ wr.ownsRow w1.heap.size 5 1 s (rept l j).length (bc (rept l j)) ∧ Below w1.heap.size w1 wr) (fun _ i _ => n - (intOf i).toNat)
  case atStart => exact ⟨0, Nat.zero_le _, rfl, World.ownsRow_nil _ _ _ _, Below.refl _ _⟩
  case round =>
    obtain ⟨j, hj, rfl, hown, hbw⟩ := hrel
    have hjm : (rept l j).length ≤ m := by rw [rept_len, ← Hmm.out]; exact Nat.mul_le_mul_right _ hj
    have hbw0 : Below w.heap.size w wr := hb1.trans (hbw.mono hb1.size)
    have hszw := hbw.size
    by_cases hlt : j < n
    · have hjm2 : (rept l j).length + l.length ≤ m := by
        rw [rept_len, ← Hmm.out]
        have h := Nat.mul_le_mul_right l.length (show j + 1 ≤ n by omega)
        rw [Nat.add_mul] at h; omega
      go_wp2_with (first | (at_builtin; refine wpList_append_lies _ rfl _ _ 22 rfl w1.heap.size 5 i0 _ 1 1 Tryd.underlying22 hi hz0 hz1 hz2 rfl (by omega) u6 (rept l j).length (bc (rept l j)) rfl hown ⟨g, off, none⟩ l.length cap (bc l) rfl ?c1 ?c2 ?c3 ?c4 ?c5 ?c6 ?c7 wr.heap.size rfl ?_))
      case c1 => simp [bc]
      case c2 => exact HC.out wr hbw0
      case c3 => intro u hu; simp [bc] at hu; obtain ⟨c, _, rfl⟩ := hu; rfl
      case c4 => omega
      case c5 => unfold maxLen; omega
      case c6 => omega
      case c7 => omega
      intro g2 cap2 w2 hown2 hgr hat hgl
      have hown3 : w2.ownsRow w1.heap.size 5 1 (.slice (some ⟨g2, 0, none⟩) ((rept l j).length + l.length) cap2) (rept l (j + 1)).length (bc (rept l (j + 1))) := by
        rw [rept, List.length_append, bc_append]; exact hown2
      have hb2 : Below w1.heap.size w1 w2 := hbw.grown hgr hszw (fun k hk => (hown.lt k hk).1)
      have HO := Lib.hid hown3
      clear hown hown2 hown3 hgr hat
      go_wp2_with fail
      go_roundw
      case rel => exact ⟨j + 1, by omega, by go_num, HO.out, hb2⟩
      case measure => simp [intOf]; omega
    · have hjn : j = n := by omega
      subst hjn
      have hsl := Sl.of_own hown
      have hlen : (rept l j).length = m := by rw [rept_len]; exact Hmm.out
      obtain ⟨L, hL⟩ : ∃ L, rept l j = L := ⟨_, rfl⟩
      rw [hL] at hsl hlen
      have HL := Lib.hid hlen
      clear hown hL hjm hlen
      obtain ⟨sa, sc', rfl⟩ := hsl.form
      have hLm : L.length ≤ 70000 := by rw [HL.out]; omega
      by_cases hbig : 65536 < L.length
      · go_wp2_with fail
        refine (tokens_long L _ wr hsl hbig).mono ?_
        rintro e w2 ⟨rfl, hb2⟩
        have hsl2 := hsl.next hb2
        go_wp2_with fail
        refine (place_long L _ _ w2 hsl2 hbig).mono ?_
        rintro e w' ⟨rfl, rfl⟩
        go_wp2_with fail
        go_ret
        exact ⟨rfl, hbw0.trans (hb2.mono hbw0.size)⟩
      · go_wp2_with fail
        refine (tokens_any L _ wr hsl (by omega) (TabW_below hbw0 hTw hT)).mono ?_
        rintro e w2 ⟨vl, vp, rfl, hl2, hp2, hb2⟩
        obtain ⟨al, cl, rfl⟩ := hl2.form
        have hsl2 := hsl.next hb2
        have htl := toks_len L
        go_wp2_with fail
        refine (place_ok L _ L.length w2 hsl2 (by omega) (Nat.le_refl _)).mono ?_
        rintro e w' ⟨rfl, rfl⟩
        go_wp2_with fail
        go_ret
        exact ⟨rfl, hbw0.trans (hb2.mono hbw0.size)⟩
end Go.Proofs.YthgbpppbhpjhgaaDoor
