/- SHA-256 in the reference: the small functions. SHA-256 in the reference: the padded message. -/
import Derived.Test.YtiloaheaglcpbaaDoorSgS6
namespace Go.Proofs.YtiloaheaglcpbaaDoor
open Go.RowKit

set_option maxRecDepth 100000 in
theorem rotr_any (x : W32) (n : Nat) (h1 : 1 ≤ n) (h2 : n < 32) (w : World) :
    Calls Tryd.prog 75 #[.int .u32 (x.toNat : Int), .int .i64 (n : Int)] w fun e w' => e = .returned (.int .u32 ((rot x n).toNat : Int)) ∧ ∃ k, w' = w.drewN k := by
  have hx := x.isLt
  have s1 : IntKind.i64.wrap (32 - (n : Int)) = 32 - (n : Int) := by rw [IntKind.wrap_i64]; omega
  have i1 : (0 : Int) ≤ 32 - (n : Int) := by omega
  have i2 : (0 : Int) ≤ (n : Int) := by omega
  have i3 : (32 - (n : Int)).toNat = 32 - n := by omega
  go_enter Tryd.func75, Tryd.ntmps75
  go_wp2_with fail
  go_quiet (fail)
  go_wp2_with fail
  go_ret
  refine ⟨ret_int ?_, _, rfl⟩
  rw [← wrap_u32, shl_w, shr_w, or_w, BitVec.or_comm]
  rfl

def kC : List Value := (List.range 64).map fun i => wv (kW i)
theorem kC_len : kC.length = 64 := by simp [kC]
theorem kC_at (i : Nat) (h : i < 64) : kC[i]? = some (wv (kW i)) := by simp [kC, h]
theorem kC_one : ∀ v ∈ kC, v.oneCell' = true := by
  intro v hv
  simp only [kC, List.mem_map] at hv
  obtain ⟨j, _, rfl⟩ := hv
  rfl
def kL : Array Value := #[.int .u32 1116352408, .int .u32 1899447441, .int .u32 3049323471, .int .u32 3921009573, .int .u32 961987163, .int .u32 1508970993, .int .u32 2453635748, .int .u32 2870763221, .int .u32 3624381080, .int .u32 310598401, .int .u32 607225278, .int .u32 1426881987, .int .u32 1925078388, .int .u32 2162078206, .int .u32 2614888103, .int .u32 3248222580, .int .u32 3835390401, .int .u32 4022224774, .int .u32 264347078, .int .u32 604807628, .int .u32 770255983, .int .u32 1249150122, .int .u32 1555081692, .int .u32 1996064986, .int .u32 2554220882, .int .u32 2821834349, .int .u32 2952996808, .int .u32 3210313671, .int .u32 3336571891, .int .u32 3584528711, .int .u32 113926993, .int .u32 338241895, .int .u32 666307205, .int .u32 773529912, .int .u32 1294757372, .int .u32 1396182291, .int .u32 1695183700, .int .u32 1986661051, .int .u32 2177026350, .int .u32 2456956037, .int .u32 2730485921, .int .u32 2820302411, .int .u32 3259730800, .int .u32 3345764771, .int .u32 3516065817, .int .u32 3600352804, .int .u32 4094571909, .int .u32 275423344, .int .u32 430227734, .int .u32 506948616, .int .u32 659060556, .int .u32 883997877, .int .u32 958139571, .int .u32 1322822218, .int .u32 1537002063, .int .u32 1747873779, .int .u32 1955562222, .int .u32 2024104815, .int .u32 2227730452, .int .u32 2361852424, .int .u32 2428436474, .int .u32 2756734187, .int .u32 3204031479, .int .u32 3329325298]
theorem kC_arr : kC.toArray = kL := by kernel_rfl
theorem kL_size : kL.size = 64 := by kernel_rfl
theorem kL_one : kL.all (·.oneCell') = true := by kernel_rfl
set_option maxRecDepth 100000 in
set_option maxHeartbeats 1000000 in
theorem constants_any (w : World) : Calls Tryd.prog 76 #[] w fun e w' => e = .returned (.agg kC.toArray) ∧ Below w.heap.size w w' := by
  rw [kC_arr]
  have H0 := Lib.hid (Blk.new w 83 #[.int .u32 0, .int .u32 0, .int .u32 0, .int .u32 0, .int .u32 0, .int .u32 0, .int .u32 0, .int .u32 0, .int .u32 0, .int .u32 0, .int .u32 0, .int .u32 0, .int .u32 0, .int .u32 0, .int .u32 0, .int .u32 0, .int .u32 0, .int .u32 0, .int .u32 0, .int .u32 0, .int .u32 0, .int .u32 0, .int .u32 0, .int .u32 0, .int .u32 0, .int .u32 0, .int .u32 0, .int .u32 0, .int .u32 0, .int .u32 0, .int .u32 0, .int .u32 0, .int .u32 0, .int .u32 0, .int .u32 0, .int .u32 0, .int .u32 0, .int .u32 0, .int .u32 0, .int .u32 0, .int .u32 0, .int .u32 0, .int .u32 0, .int .u32 0, .int .u32 0, .int .u32 0, .int .u32 0, .int .u32 0, .int .u32 0, .int .u32 0, .int .u32 0, .int .u32 0, .int .u32 0, .int .u32 0, .int .u32 0, .int .u32 0, .int .u32 0, .int .u32 0, .int .u32 0, .int .u32 0, .int .u32 0, .int .u32 0, .int .u32 0, .int .u32 0])
  go_enter Tryd.func76, Tryd.ntmps76
  go_wp2_with (first
    | (refine wpList_store_row rfl 83 _ _ rfl w.heap.size kL rfl rfl 83 _ H0.out (by rw [kL_size]; exact infoW64) (show 64 = kL.size from kL_size.symm) kL_one ?_))
  refine bodyPost_ret (v := .agg kL) (results_cell_row rfl _ _ w.heap.size 83 kL (0, 0) _ rfl (H0.out.setRow kL) Tryd.underlying83 rfl (by rw [kL_size]; exact infoW64)) rfl ?_
  exact ⟨rfl, setRow_below (below_alloc _ _) (Nat.le_refl _) _⟩

set_option maxRecDepth 100000 in
set_option maxHeartbeats 1000000 in
theorem padded_any (r : List UInt8) (m : Nat) (hr : r.length = m) (hm : m ≤ 100000000) (v : Value) (w : World) (hv : Sl w 1 v m (bc r)) :
    Calls Tryd.prog 71 #[v] w fun e w' =>
      ∃ g cap, e = .returned (.slice (some ⟨g, 0, none⟩) (padL r m).length cap) ∧ w'.ownsRow w.heap.size 5 1 (.slice (some ⟨g, 0, none⟩) (padL r m).length cap) (padL r m).length (bc (padL r m)) ∧ Below w.heap.size w w' := by
  obtain ⟨a, cap, rfl⟩ := hv.form
  obtain ⟨iu, hiu, hu0, hu1, hu2⟩ := info_parts infoU8
  have HV := Lib.hid (hv.alloc (.cells #[] 5))
  have Hr := Lib.hid hr
  clear hv hr
  have hc8 : IntKind.u64.wrap ((m : Int) * 8) = (m : Int) * 8 := IntWalk.u64_in _ (by omega)
  have hc9 : IntKind.u64.wrap (m : Int) = (m : Int) := IntWalk.u64_in _ (by omega)
  go_enter Tryd.func71, Tryd.ntmps71
  go_wp2_with (at_builtin; refine wpList_append_sl _ rfl (.tmp 6) (.tmp 7) 22 rfl w.heap.size 5 iu _ 1 Tryd.underlying22 hiu hu0 hu1 hu2 rfl (.slice (some ⟨w.heap.size, 0, none⟩) 0 0) 0 [] rfl (own_empty' w _ (Nat.le_refl _) _ _) (.slice a m cap) m (bc r) rfl HV.out (bc_one _) (by unfold maxLen; omega) (by omega) (by simp) ?_)
  intro v1 w1 hown1 hg1
  obtain ⟨a1, c1, rfl⟩ := (Sl.of_own hown1).form
  have hb1 : Below w.heap.size w w1 := (below_alloc w _).grown hg1 (by simp) (fun k hk => by simp [Value.ownBlock] at hk; omega)
  have Hown1 := Lib.hid hown1
  have Hb1 := Lib.hid hb1
  clear hown1 hg1 hb1
  go_wp2_with (at_builtin; refine wpList_append_byte rfl (.tmp 8) (.tmp 9) rfl w1 w.heap.size m _ r 128 _ rfl rfl Hown1.out rfl (by omega) Hb1.out.size ?_; intro g2 c2 w2 hown2 hb2)
  have Hown2 := Lib.hid hown2
  have Hb2 := Lib.hid (Hb1.out.trans hb2)
  clear hown2 hb2
  go_loopw [3] (fun v wr => ∃ (j : Nat) (g c : Nat), j ≤ padN m ∧ v = .slice (some ⟨g, 0, none⟩) (m + 1 + j) c ∧ wr.ownsRow w.heap.size 5 1 v (m + 1 + j) (bc (r ++ [128] ++ List.replicate j 0)) ∧ Below w.heap.size w wr) (fun v _ => 200000000 - ownV v)
  case atStart => exact ⟨0, g2, c2, by omega, rfl, by simpa using Hown2.out, Hb2.out⟩
  case round =>
    clear Hown1 Hown2 Hb1 Hb2 HV
    obtain ⟨j, g, c, hj, rfl, hown, hb⟩ := hrel
    have Hown := Lib.hid hown
    have Hb := Lib.hid hb
    clear hown hb
    have hp : padN m < 64 := Nat.mod_lt _ (by omega)
    by_cases h56 : (m + 1 + j) % 64 = 56
    · have hjp : j = padN m := by
        obtain ⟨q, hq⟩ := (padN_step m j).1 h56
        omega
      have t1 : (((m : Int) + 1 + (j : Int)) % 64 != 56) = false := by simp; omega
      have t2 : (((m + 1 + j : Nat) : Int) % 64 != 56) = false := by simp; omega
      have t3 : (((m : Int) + 1 + (j : Int)) % 64 == 56) = true := by simp; omega
      go_wp2_with fail
      subst hjp
      obtain ⟨b15, hb15⟩ : ∃ b, (((m : Int) + 1 + (padN m : Int)) % 64 != 56) = b := ⟨_, rfl⟩
      rw [hb15]
      clear hb15
      obtain ⟨base, hbase⟩ : ∃ base, r ++ [128] ++ List.replicate (padN m) 0 = base := ⟨_, rfl⟩
      rw [hbase] at Hown
      have Hbase := Lib.hid hbase
      obtain ⟨q, hq⟩ : ∃ q, m + 1 + padN m = q := ⟨_, rfl⟩
      have Hq := Lib.hid hq
      rw [hq] at Hown ⊢
      have hq2 : q < 100000200 := by omega
      obtain ⟨wx, hwx⟩ : ∃ wx, wr = wx := ⟨_, rfl⟩
      rw [hwx] at Hown Hb ⊢
      clear hbase hq hwx t1 t2 t3 h56 hj
      go_loopw [3, 5] (fun v sh wr => ∃ (i g c : Nat), i ≤ 8 ∧ sh = .int .i64 (7 - (i : Int)) ∧ v = .slice (some ⟨g, 0, none⟩) (q + i) c ∧ wr.ownsRow w.heap.size 5 1 v (q + i) (bc (base ++ (lenB m).take i)) ∧ Below w.heap.size w wr) (fun v _ _ => 200000300 - ownV v)
      case atStart => exact ⟨0, g, c, by omega, rfl, rfl, by simpa using Hown.out, Hb.out⟩
      case round =>
        clear Hown Hb
        obtain ⟨i, g, c, hi, rfl, rfl, hown, hb⟩ := hrel
        have Hown := Lib.hid hown
        have Hb := Lib.hid hb
        clear hown hb
        by_cases hlt : i < 8
        · have hby := lenB_byte m i
          have Hby := Lib.hid hby
          clear hby
          have s1 : IntKind.i64.wrap (8 * (7 - (i : Int))) = 56 - 8 * (i : Int) := by rw [IntKind.wrap_i64]; omega
          have s2 : (56 - 8 * (i : Int)).toNat = 56 - 8 * i := by omega
          have i1 : (0 : Int) ≤ 7 - (i : Int) := by omega
          have i2 : (0 : Int) ≤ 56 - 8 * (i : Int) := by omega
          have i3 : (i : Int) ≤ 7 := by omega
          go_wp2_with (at_builtin; refine wpList_append_byte rfl (.tmp 26) (.tmp 32) rfl wr w.heap.size (q + i) _ (base ++ (lenB m).take i) (UInt8.ofNat (m * 8 / 2 ^ (56 - 8 * i))) _ Hby.out rfl Hown.out rfl (by omega) Hb.out.size ?_; intro g3 c3 w3 hown3 hb3)
          go_roundw
          case rel => exact ⟨i + 1, g3, c3, by omega, by congr 1; omega, rfl, by rw [lenB_take m i hlt, ← List.append_assoc]; exact hown3, Hb.out.trans hb3⟩
          case measure => simp [ownV]; omega
        · have hi8 : i = 8 := by omega
          subst hi8
          have hall := Hown.out
          have hpl : padL r m = base ++ lenB m := by rw [padL, Hr.out, ← Hbase.out]
          have hln : (padL r m).length = q + 8 := by
            rw [hpl, ← Hbase.out, ← Hq.out]
            simp [lenB, Hr.out]
            omega
          rw [List.take_of_length_le (by simp [lenB]), ← hpl] at hall
          have Hall := Lib.hid hall
          have Hln := Lib.hid hln
          clear hall hpl hln
          go_wp2_with fail
          go_ret
          exact ⟨g, c, by rw [Hln.out]; rfl, by rw [Hln.out]; exact Hall.out, Hb.out⟩
    · have hne : j ≠ padN m := fun e => h56 ((padN_step m j).2 ⟨0, by omega⟩)
      have t1 : ¬ ((m + 1 + j : Nat) : Int) % 64 = 56 := by omega
      go_wp2_with (at_builtin; refine wpList_append_byte rfl (.tmp 15) (.tmp 16) rfl wr w.heap.size (m + 1 + j) _ (r ++ [128] ++ List.replicate j 0) 0 _ rfl rfl Hown.out rfl (by omega) Hb.out.size ?_; intro g3 c3 w3 hown3 hb3)
      go_roundw
      case rel => exact ⟨j + 1, g3, c3, by omega, rfl, by rw [List.replicate_succ', ← List.append_assoc]; exact hown3, Hb.out.trans hb3⟩
      case measure => simp [ownV]; omega
end Go.Proofs.YtiloaheaglcpbaaDoor
