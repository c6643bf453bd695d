/- Wal: the newest generation. -/
import Derived.Test.YtbinibpkbkhdlaaWlQ
namespace Go.Proofs.Ytbinibpkbkhdlaa
open Go.RowKit

def mx (a b : W32) : W32 := if a.toNat < b.toNat then b else a
def nwS (c : W32) (s : List UInt8) : W32 := mx (mx c (num4 s 0)) (num4 s 124)
def nw (S : List (List UInt8)) : Nat → W32
  | 0 => 0#32
  | k + 1 => nwS (nw S k) (S.getD k [])
set_option maxRecDepth 100000 in
set_option maxHeartbeats 1000000 in
theorem newest_any (S : List (List UInt8)) (h128 : ∀ s ∈ S, s.length = 128) (hlen : S.length ≤ 4096) (v : Value) (w : World) (hv : Secs w v S) :
    Calls Try.prog 43 #[v] w fun e w' => e = .returned (wv (nw S S.length)) ∧ ∃ n, w' = w.drewN n := by
  obtain ⟨a, cap, rfl⟩ := hv.len
  have HV := Lib.hid hv
  have H128 := Lib.hid h128
  have Hlen := Lib.hid hlen
  clear hv h128 hlen
  go_enter Try.func43, Try.ntmps43
  go_wp2_with fail
  go_loopw [2, 7] (fun c i wr => ∃ k : Nat, Hid (k ≤ S.length) ∧ c = wv (nw S k) ∧ i = .int .i64 (k : Int) ∧ ∃ m, wr = w.drewN m) (fun _ i _ => S.length - (intOf i).toNat)
  case atStart => exact ⟨0, Lib.hid (Nat.zero_le _), rfl, rfl, 0, rfl⟩
  case round =>
    obtain ⟨k, Hk, rfl, rfl, m, hwr⟩ := hrel
    have Hwr := Lib.hid hwr
    have hbw : Below w.heap.size w wr := by rw [hwr]; exact blw_drewN (Below.refl _ _) m
    clear hwr
    by_cases hk : k < S.length
    · obtain ⟨g, off, rfl⟩ : ∃ g off, a = some ⟨g, off, none⟩ := by
        obtain ⟨g, off, e, _⟩ := HV.out.at_ (by omega)
        exact ⟨g, off, e⟩
      obtain ⟨gs, os, cs, hcs, hsn, hsw⟩ := secs_at HV.out H128.out g off cap rfl k hk
      obtain ⟨hsec, hsl⟩ := hsw wr hbw
      have A0 := Lib.hid (fun n => number_any (S.getD k []) 128 hsn (by omega) _ cs (wr.drewN n) (hsl.next (blw_drewN (Below.refl _ _) n)))
      have A1 := Lib.hid (fun n => number_any (((S.getD k []).take 128).drop 124) 4 (by rw [List.length_drop, List.length_take, hsn]; rfl) (by omega) _ (cs - 124) (wr.drewN n) (sl_sub (hsl.next (blw_drewN (Below.refl _ _) n)) (A := 124) (B := 128) (by omega) (by omega) 4 (cs - 124) rfl (by omega)))
      rw [num4_sub (S.getD k []) 124 128 (by omega) (by omega)] at A1
      have Hst := Lib.hid (show nw S (k + 1) = nwS (nw S k) (S.getD k []) from rfl)
      unfold nwS at Hst
      obtain ⟨x, hx⟩ : ∃ x, num4 (S.getD k []) 0 = x := ⟨_, rfl⟩
      obtain ⟨y, hy⟩ : ∃ y, num4 (S.getD k []) 124 = y := ⟨_, rfl⟩
      obtain ⟨c, hc⟩ : ∃ c, nw S k = c := ⟨_, rfl⟩
      rw [hx] at A0 Hst
      rw [hy] at A1 Hst
      rw [hc] at Hst ⊢
      have j1 : (k : Int) < (S.length : Int) := by omega
      have i1 : (124 : Int) ≤ (cs : Int) := by omega
      have i2 : ¬ cs = 124 := by omega
      have s1 : IntKind.i64.wrap ((k : Int) + 1) = ((k + 1 : Nat) : Int) := by rw [IntKind.wrap_i64]; have := Hlen.out; omega
      have Hk2 := Lib.hid hk
      clear hsw hsl hsn hcs hx hy hc hk hbw
      unfold wv at A0 A1 ⊢
      unfold mx at Hst
      by_cases h1 : c.toNat < x.toNat
      · rw [if_pos h1] at Hst
        have f1 : (c.toNat : Int) < (x.toNat : Int) := by omega
        by_cases h2 : x.toNat < y.toNat
        · rw [if_pos h2] at Hst
          have f2 : (x.toNat : Int) < (y.toNat : Int) := by omega
          clear h1 h2
          go_wp2_with fail
          go_quiet ((first | (go_at_call 50; with_reducible exact Calls.quiet_of (A0.out _)) | (go_at_call 50; with_reducible exact Calls.quiet_of (A1.out _))))
          go_wp2_with fail
          exact ⟨⟨k + 1, Lib.hid Hk2.out, by rw [Hst.out], by go_num, m + nq, by rw [Hwr.out, World.drewN_drewN]⟩, by have := Hk2.out; simp [intOf]; omega⟩
        · rw [if_neg h2] at Hst
          have f2 : ¬ (x.toNat : Int) < (y.toNat : Int) := by omega
          clear h1 h2
          go_wp2_with fail
          go_quiet ((first | (go_at_call 50; with_reducible exact Calls.quiet_of (A0.out _)) | (go_at_call 50; with_reducible exact Calls.quiet_of (A1.out _))))
          go_wp2_with fail
          exact ⟨⟨k + 1, Lib.hid Hk2.out, by rw [Hst.out], by go_num, m + nq, by rw [Hwr.out, World.drewN_drewN]⟩, by have := Hk2.out; simp [intOf]; omega⟩
      · rw [if_neg h1] at Hst
        have f1 : ¬ (c.toNat : Int) < (x.toNat : Int) := by omega
        by_cases h2 : c.toNat < y.toNat
        · rw [if_pos h2] at Hst
          have f2 : (c.toNat : Int) < (y.toNat : Int) := by omega
          clear h1 h2
          go_wp2_with fail
          go_quiet ((first | (go_at_call 50; with_reducible exact Calls.quiet_of (A0.out _)) | (go_at_call 50; with_reducible exact Calls.quiet_of (A1.out _))))
          go_wp2_with fail
          exact ⟨⟨k + 1, Lib.hid Hk2.out, by rw [Hst.out], by go_num, m + nq, by rw [Hwr.out, World.drewN_drewN]⟩, by have := Hk2.out; simp [intOf]; omega⟩
        · rw [if_neg h2] at Hst
          have f2 : ¬ (c.toNat : Int) < (y.toNat : Int) := by omega
          clear h1 h2
          go_wp2_with fail
          go_quiet ((first | (go_at_call 50; with_reducible exact Calls.quiet_of (A0.out _)) | (go_at_call 50; with_reducible exact Calls.quiet_of (A1.out _))))
          go_wp2_with fail
          exact ⟨⟨k + 1, Lib.hid Hk2.out, by rw [Hst.out], by go_num, m + nq, by rw [Hwr.out, World.drewN_drewN]⟩, by have := Hk2.out; simp [intOf]; omega⟩
    · have j1 : ¬ (k : Int) < (S.length : Int) := by omega
      have hkS : k = S.length := by have := Hk.out; omega
      subst hkS
      unfold wv
      clear hbw
      go_wp2_with fail
      go_ret
      exact ⟨rfl, _, Hwr.out⟩
end Go.Proofs.Ytbinibpkbkhdlaa
