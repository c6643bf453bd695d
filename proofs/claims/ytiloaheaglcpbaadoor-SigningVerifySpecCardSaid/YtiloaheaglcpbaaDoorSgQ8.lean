/- Signing: Verify in general. Signing: Verify of the reference, refused. -/
import Derived.Test.YtiloaheaglcpbaaDoorSgQ6
import Derived.Test.YtiloaheaglcpbaaDoorSgY1
import Derived.Test.YtiloaheaglcpbaaDoorSgQ5
namespace Go.Proofs.YtiloaheaglcpbaaDoor
open Go.RowKit

theorem climb_gen (d : List UInt8) (hd : d.length = 32) (P : Nat → List UInt8) (at_ n : Nat) (ha : at_ < n) (hx : n ≤ 256) (pa : Option Addr) (L cap : Nat) (w : World) (hL : L = (sd at_ n).length) (hc : L ≤ cap) (hr : Ro w pa L P) (hT : Tabs w) :
    Calls Tryd.prog 47 #[arrV d, .int .i64 (at_ : Int), .int .i64 (n : Int), .slice pa L cap] w fun e w' => e = .returned (.tuple #[arrV (clm P d (sd at_ n)), .int .i64 0]) ∧ Below w.heap.size w w' := by
  by_cases h2 : 2 ≤ n
  · exact climb_ok d hd P at_ n ha h2 hx pa L cap w hL hc hr hT
  · obtain rfl : n = 1 := by omega
    obtain rfl : at_ = 0 := by omega
    rw [sd_one _ _ (Nat.le_refl _)] at hL ⊢
    obtain rfl : L = 0 := hL
    exact climb1_any d hd pa cap w hT
/-- what Verify answers to a signature of the right shape -/
def vok (dp : List UInt8) (m ix : Nat) (msg : List UInt8) (Pt P : Nat → List UInt8) (pn : Nat) : Bool :=
  decide (pn = (sd ix m).length ∧ clm P (opub fun j => flw ix j (Pt j) (dig (mh dp ix msg) j) (15 - dig (mh dp ix msg) j)) (sd ix m) = dp)
theorem verify_gen (dp : List UInt8) (hdp : dp.length = 32) (m : Nat) (h1 : 1 ≤ m) (h2 : m ≤ 256) (ix : Nat) (hix : ix < m) (msg : List UInt8) (q : Nat) (hq : msg.length = q) (hq9 : q ≤ 65536) (am : Option Addr) (capm : Nat)
    (Pt : Nat → List UInt8) (hP : ∀ j, (Pt j).length = 32) (g off cap : Nat) (pa : Option Addr) (pn pcap : Nat) (w : World) (hy : Sl w 1 (.slice am q capm) q (bc msg)) (hr : ∀ j, j < 67 → w.rangeAt g (off + j * 32) (bc (Pt j))) (hT : Tabs w)
    (P : Nat → List UInt8) (hpc : pn ≤ pcap) (hp : Ro w pa pn P) :
    Calls Tryd.prog 25 #[arrV dp, .int .i64 (m : Int), .slice am q capm, .agg #[.int .i64 (ix : Int), .slice (some ⟨g, off, none⟩) 67 cap, .slice pa pn pcap]] w fun e w' => e = .returned (.bool (vok dp m ix msg Pt P pn)) ∧ Below w.heap.size w w' := by
  by_cases hL : pn = (sd ix m).length
  · refine (verify_any dp hdp m h1 h2 ix hix msg q hq hq9 am capm Pt hP g off cap pa pn pcap w hy hr hT _ (clm_len P _ (sd ix m)) (fun W hb => climb_gen _ rfl P ix m hix h2 pa pn pcap W hL hpc (hp.next hb) (hT.next hb))).mono ?_
    rintro e w' ⟨rfl, hb⟩
    refine ⟨?_, hb⟩
    unfold vok
    simp [hL]
  · refine (verify_err dp hdp m h1 h2 ix hix msg q hq hq9 am capm Pt hP g off cap pa pn pcap w hy hr hT zb rfl (fun W hb => by rw [zb_arr]; exact climb_bad _ ix m hix h2 pa pn pcap W hL)).mono ?_
    rintro e w' ⟨rfl, hb⟩
    refine ⟨?_, hb⟩
    unfold vok
    simp [hL]

set_option maxRecDepth 100000 in
set_option maxHeartbeats 1000000 in
theorem rverify_bad (D : Array Value) (many idx : Int) (am : Option Addr) (len capm : Nat) (ap : Option Addr) (np cp : Nat) (aq : Option Addr) (nq cq : Nat) (w : World) (h : vfyB many idx np len = false) :
    Calls Tryd.prog 26 #[.agg D, .int .i64 many, .slice am len capm, sigV idx ap np cp aq nq cq] w fun e w' => e = .returned (.bool false) ∧ Below w.heap.size w w' := by
  unfold sigV
  have hv := of_decide_eq_false h
  clear h
  have hb : Below w.heap.size w ((w.alloc (.cells D 26)).alloc (.cells #[.int .i64 idx, .slice ap np cp, .slice aq nq cq] 42)) := (below_alloc _ _).alloc (by simp) _
  have Hb := Lib.hid hb
  have HV := Lib.hid hv
  clear hb hv
  go_enter Tryd.func26, Tryd.ntmps26
  go_wp2_with (first | (exfalso; have := HV.out; omega))
  all_goals
    first
      | (go_ret
         exact ⟨rfl, Hb.out⟩)
      | (exfalso; have := HV.out; omega)
end Go.Proofs.YtiloaheaglcpbaaDoor
