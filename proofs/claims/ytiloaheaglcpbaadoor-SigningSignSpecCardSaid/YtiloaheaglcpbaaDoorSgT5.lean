/- Signing: the statement SigningSignSpec, the walks. -/
import Derived.Test.YtiloaheaglcpbaaDoorSgT4
import Derived.Test.YtiloaheaglcpbaaDoorSgV2
import Derived.Test.YtiloaheaglcpbaaDoorSgY1
namespace Go.Proofs.YtiloaheaglcpbaaDoor
open Go.RowKit

set_option maxRecDepth 100000 in
set_option maxHeartbeats 2000000 in
theorem ss_a (ka : Option Addr) (kn kc : Nat) (km ku : Int) (am : Option Addr) (q capm : Nat) (XL : List UInt8) (xa : Option Addr) (xn xc : Nat) (xm xu : Int) (hxl : XL.length = xn) (si se : Int) (np mp : Nat) (hnp : np ≤ 1000) (hmp : mp ≤ 1000) (E F : Nat → List UInt8) (w : World) (hX : Sl w 1 (.slice xa xn xc) xn (bc XL))
    (hS : (∀ W, Below w.heap.size w W → Calls Tryd.prog 22 #[.agg #[.slice ka kn kc, .int .i64 km, .int .i64 ku], .slice am q capm] W fun e w' => ∃ a c b d, e = .returned (.tuple #[.agg #[.slice xa xn xc, .int .i64 xm, .int .i64 xu], .agg #[.int .i64 si, .slice a np c, .slice b mp d], .int .i64 se]) ∧ Rd w' a np E ∧ Rd w' b mp F ∧ Below W.heap.size W w'))
    (hR : (∀ W, Below w.heap.size w W → Calls Tryd.prog 23 #[.agg #[.slice ka kn kc, .int .i64 km, .int .i64 ku], .slice am q capm] W fun e w' => ∃ a c b d, e = .returned (.tuple #[.agg #[.slice xa xn xc, .int .i64 xm, .int .i64 xu], .agg #[.int .i64 si, .slice a np c, .slice b mp d], .int .i64 se]) ∧ Rd w' a np E ∧ Rd w' b mp F ∧ Below W.heap.size W w')) (hf : decide (km ≤ 2 ∧ kn ≤ 100 ∧ q ≤ 300) = true) :
    Calls Tryd.prog 4 #[.agg #[.slice ka kn kc, .int .i64 km, .int .i64 ku], .slice am q capm] w fun e w' => e = .returned (.bool true) ∧ Below w.heap.size w w' := by
  have HSane := Lib.hid (fun W => sane_any W)
  have HF := Lib.hid (fun W => few_any ka kn kc km ku am q capm W)
  have HVal := Lib.hid (fun W => rvalid_any ka kn kc km ku W)
  rw [hf] at HF
  clear hf HVal
  have HS := Lib.hid hS
  have HR := Lib.hid hR
  have HSX := Lib.hid (fun W (hb : Below w.heap.size w W) => hX.next hb)
  have HSK := Lib.hid (fun W h1 h2 => samekey_any XL xn hxl xa xc xa xc xm xu W h1 h2)
  have HSm := Lib.hid (fun a b a' b' c d c' d' W hA hA' hB hB' => rsame_any si np mp hnp hmp E F a c b d a' c' b' d' W hA hA' hB hB')
  clear hX hS hR hxl
  have H0 := Lib.hid (Blk.new w 24 #[.slice ka kn kc, .int .i64 km, .int .i64 ku])
  have Hb := Lib.hid (below_alloc w (.cells #[.slice ka kn kc, .int .i64 km, .int .i64 ku] 24))
  go_enter Tryd.func4, Tryd.ntmps4
  go_wp2_with (first
    | (refine (HSane.out _).mono ?_
       rintro e w1 ⟨rfl, hb1⟩
       obtain ⟨t0, t1, t2, f0, f1, f2⟩ := cells3 (H0.out.below hb1 H0.out.lt)
       have HK1 := Lib.hid (H0.out.below hb1 H0.out.lt)
       have Hb1 := Lib.hid (Hb.out.trans (hb1.mono Hb.out.size))
       clear hb1)
    | (refine (HF.out _).mono ?_
       rintro e w2 ⟨rfl, hb2⟩
       clear t0 t1 t2 f0 f1 f2
       obtain ⟨t0, t1, t2, f0, f1, f2⟩ := cells3 (HK1.out.below hb2 HK1.out.lt)
       have HK2 := Lib.hid (HK1.out.below hb2 HK1.out.lt)
       have Hb2 := Lib.hid (Hb1.out.trans (hb2.mono Hb1.out.size))
       clear hb2)
    | (with_reducible refine Calls.mono (HS.out _ Hb2.out) ?_
       rintro e w6 ⟨a1, c1, b1, d1, rfl, hE1, hF1, hb6⟩
       have hbb := Hb2.out.trans (hb6.mono Hb2.out.size)
       have h2 := two_b w6 #[.slice xa xn xc, .int .i64 xm, .int .i64 xu] #[.int .i64 si, .slice a1 np c1, .slice b1 mp d1]
       have hk7 := two_k w6 #[.slice xa xn xc, .int .i64 xm, .int .i64 xu] #[.int .i64 si, .slice a1 np c1, .slice b1 mp d1]
       have hs7 := two_s w6 #[.slice xa xn xc, .int .i64 xm, .int .i64 xu] #[.int .i64 si, .slice a1 np c1, .slice b1 mp d1]
       obtain ⟨w7, hw7⟩ : ∃ w7, two w6 #[.slice xa xn xc, .int .i64 xm, .int .i64 xu] #[.int .i64 si, .slice a1 np c1, .slice b1 mp d1] = w7 := ⟨_, rfl⟩
       rw [hw7] at h2 hk7 hs7
       unfold two at hw7
       have HW7 := Lib.hid hw7
       have HK7 := Lib.hid ((HK2.out.below hb6 HK2.out.lt).below h2 (HK2.out.below hb6 HK2.out.lt).lt)
       have Hb7 := Lib.hid (hbb.trans (h2.mono hbb.size))
       have HU7 := Lib.hid hk7
       have HV7 := Lib.hid hs7
       have HE7 := Lib.hid (hE1.next h2)
       have HF7 := Lib.hid (hF1.next h2)
       clear hE1 hF1
       clear hb6 hbb h2 hw7 hk7 hs7 t0 t1 t2 f0 f1 f2
       obtain ⟨t0, t1, t2, f0, f1, f2⟩ := cells3 HK7.out)
    | (refine wpList_store_row rfl 24 _ _ rfl w6.heap.size #[.slice xa xn xc, .int .i64 xm, .int .i64 xu] rfl rfl 24 _ (two_0 w6) infoKey rfl (one3 rfl rfl rfl) ?_)
    | (refine wpList_store_row rfl 42 _ _ rfl (w6.heap.size + 1) #[.int .i64 si, .slice a1 np c1, .slice b1 mp d1] rfl rfl 42 _ (two_1 w6 #[.slice xa xn xc, .int .i64 xm, .int .i64 xu]) infoSig rfl (one3 rfl rfl rfl) ?_; rw [HW7.out])
    | (with_reducible refine Calls.mono (HR.out _ Hb7.out) ?_
       rintro e w8 ⟨a2, c2, b2, d2, rfl, hE2, hF2, hb8⟩
       have hbb := Hb7.out.trans (hb8.mono Hb7.out.size)
       have h2 := two_b w8 #[.slice xa xn xc, .int .i64 xm, .int .i64 xu] #[.int .i64 si, .slice a2 np c2, .slice b2 mp d2]
       have hk7 := two_k w8 #[.slice xa xn xc, .int .i64 xm, .int .i64 xu] #[.int .i64 si, .slice a2 np c2, .slice b2 mp d2]
       have hs7 := two_s w8 #[.slice xa xn xc, .int .i64 xm, .int .i64 xu] #[.int .i64 si, .slice a2 np c2, .slice b2 mp d2]
       obtain ⟨w9, hw9⟩ : ∃ w9, two w8 #[.slice xa xn xc, .int .i64 xm, .int .i64 xu] #[.int .i64 si, .slice a2 np c2, .slice b2 mp d2] = w9 := ⟨_, rfl⟩
       rw [hw9] at h2 hk7 hs7
       unfold two at hw9
       have HW9 := Lib.hid hw9
       have HK9 := Lib.hid ((HK7.out.below hb8 HK7.out.lt).below h2 (HK7.out.below hb8 HK7.out.lt).lt)
       have HU9 := Lib.hid ((HU7.out.below hb8 HU7.out.lt).below h2 (HU7.out.below hb8 HU7.out.lt).lt)
       have HV9 := Lib.hid ((HV7.out.below hb8 HV7.out.lt).below h2 (HV7.out.below hb8 HV7.out.lt).lt)
       have Hb9 := Lib.hid (hbb.trans (h2.mono hbb.size))
       have HX9 := Lib.hid hk7
       have HS9 := Lib.hid hs7
       have hb79 := hb8.trans (h2.mono hb8.size)
       have HE9 := Lib.hid (HE7.out.next hb79)
       have HF9 := Lib.hid (HF7.out.next hb79)
       have HG9 := Lib.hid (hE2.next h2)
       have HH9 := Lib.hid (hF2.next h2)
       clear hE2 hF2 hb79
       clear hb8 hbb h2 hw9 hk7 hs7 t0 t1 t2 f0 f1 f2
       obtain ⟨u0, u1, u2, _, _, _⟩ := cells3 HU9.out
       obtain ⟨v0, v1, v2, _, _, _⟩ := cells3 HV9.out
       obtain ⟨x0, x1, x2, _, _, _⟩ := cells3 HX9.out
       obtain ⟨s0, s1, s2, _, _, _⟩ := cells3 HS9.out)
    | (refine wpList_store_row rfl 24 _ _ rfl w8.heap.size #[.slice xa xn xc, .int .i64 xm, .int .i64 xu] rfl rfl 24 _ (two_0 w8) infoKey rfl (one3 rfl rfl rfl) ?_)
    | (refine wpList_store_row rfl 42 _ _ rfl (w8.heap.size + 1) #[.int .i64 si, .slice a2 np c2, .slice b2 mp d2] rfl rfl 42 _ (two_1 w8 #[.slice xa xn xc, .int .i64 xm, .int .i64 xu]) infoSig rfl (one3 rfl rfl rfl) ?_; rw [HW9.out])
    | (with_reducible refine Calls.mono (HSK.out _ (HSX.out _ Hb9.out) (HSX.out _ Hb9.out)) ?_
       rintro e w10 ⟨rfl, hb10⟩
       clear u0 u1 u2 v0 v1 v2 x0 x1 x2 s0 s1 s2
       obtain ⟨v0, v1, v2, _, _, _⟩ := cells3 (HV9.out.below hb10 HV9.out.lt)
       obtain ⟨s0, s1, s2, _, _, _⟩ := cells3 (HS9.out.below hb10 HS9.out.lt)
       have HE10 := Lib.hid (HE9.out.next hb10)
       have HF10 := Lib.hid (HF9.out.next hb10)
       have HG10 := Lib.hid (HG9.out.next hb10)
       have HH10 := Lib.hid (HH9.out.next hb10)
       have Hb10 := Lib.hid (Hb9.out.trans (hb10.mono Hb9.out.size))
       clear hb10)
    | (with_reducible refine Calls.mono (HSm.out _ _ _ _ _ _ _ _ _ HE10.out HG10.out HF10.out HH10.out) ?_
       rintro e w11 ⟨rfl, hb11⟩
       have Hb11 := Lib.hid (Hb10.out.trans (hb11.mono Hb10.out.size))
       clear hb11))
  go_ret
  exact ⟨rfl, Hb11.out⟩

set_option maxRecDepth 100000 in
set_option maxHeartbeats 2000000 in
theorem ss_b (ka : Option Addr) (kn kc : Nat) (km ku : Int) (am : Option Addr) (q capm : Nat) (XL : List UInt8) (xa : Option Addr) (xn xc : Nat) (xm xu : Int) (hxl : XL.length = xn) (si se : Int) (np mp : Nat) (hnp : np ≤ 1000) (hmp : mp ≤ 1000) (E F : Nat → List UInt8) (w : World) (hX : Sl w 1 (.slice xa xn xc) xn (bc XL))
    (hS : (∀ W, Below w.heap.size w W → Calls Tryd.prog 22 #[.agg #[.slice ka kn kc, .int .i64 km, .int .i64 ku], .slice am q capm] W fun e w' => ∃ a c b d, e = .returned (.tuple #[.agg #[.slice xa xn xc, .int .i64 xm, .int .i64 xu], .agg #[.int .i64 si, .slice a np c, .slice b mp d], .int .i64 se]) ∧ Rd w' a np E ∧ Rd w' b mp F ∧ Below W.heap.size W w'))
    (hR : (∀ W, Below w.heap.size w W → Calls Tryd.prog 23 #[.agg #[.slice ka kn kc, .int .i64 km, .int .i64 ku], .slice am q capm] W fun e w' => ∃ a c b d, e = .returned (.tuple #[.agg #[.slice xa xn xc, .int .i64 xm, .int .i64 xu], .agg #[.int .i64 si, .slice a np c, .slice b mp d], .int .i64 se]) ∧ Rd w' a np E ∧ Rd w' b mp F ∧ Below W.heap.size W w')) (hf : decide (km ≤ 2 ∧ kn ≤ 100 ∧ q ≤ 300) = false) (hk : isKeyB kn km ku = false) :
    Calls Tryd.prog 4 #[.agg #[.slice ka kn kc, .int .i64 km, .int .i64 ku], .slice am q capm] w fun e w' => e = .returned (.bool true) ∧ Below w.heap.size w w' := by
  have HSane := Lib.hid (fun W => sane_any W)
  have HF := Lib.hid (fun W => few_any ka kn kc km ku am q capm W)
  have HVal := Lib.hid (fun W => rvalid_any ka kn kc km ku W)
  rw [hf] at HF
  rw [hk] at HVal
  clear hf hk
  have HS := Lib.hid hS
  have HR := Lib.hid hR
  have HSX := Lib.hid (fun W (hb : Below w.heap.size w W) => hX.next hb)
  have HSK := Lib.hid (fun W h1 h2 => samekey_any XL xn hxl xa xc xa xc xm xu W h1 h2)
  have HSm := Lib.hid (fun a b a' b' c d c' d' W hA hA' hB hB' => rsame_any si np mp hnp hmp E F a c b d a' c' b' d' W hA hA' hB hB')
  clear hX hS hR hxl
  have H0 := Lib.hid (Blk.new w 24 #[.slice ka kn kc, .int .i64 km, .int .i64 ku])
  have Hb := Lib.hid (below_alloc w (.cells #[.slice ka kn kc, .int .i64 km, .int .i64 ku] 24))
  go_enter Tryd.func4, Tryd.ntmps4
  go_wp2_with (first
    | (refine (HSane.out _).mono ?_
       rintro e w1 ⟨rfl, hb1⟩
       obtain ⟨t0, t1, t2, f0, f1, f2⟩ := cells3 (H0.out.below hb1 H0.out.lt)
       have HK1 := Lib.hid (H0.out.below hb1 H0.out.lt)
       have Hb1 := Lib.hid (Hb.out.trans (hb1.mono Hb.out.size))
       clear hb1)
    | (refine (HF.out _).mono ?_
       rintro e w2 ⟨rfl, hb2⟩
       clear t0 t1 t2 f0 f1 f2
       obtain ⟨t0, t1, t2, f0, f1, f2⟩ := cells3 (HK1.out.below hb2 HK1.out.lt)
       have HK2 := Lib.hid (HK1.out.below hb2 HK1.out.lt)
       have Hb2 := Lib.hid (Hb1.out.trans (hb2.mono Hb1.out.size))
       clear hb2)
    | (refine (HVal.out _).mono ?_
       rintro e w3 ⟨rfl, hb3⟩
       clear t0 t1 t2 f0 f1 f2
       obtain ⟨t0, t1, t2, f0, f1, f2⟩ := cells3 (HK2.out.below hb3 HK2.out.lt)
       have HK3 := Lib.hid (HK2.out.below hb3 HK2.out.lt)
       have Hb3 := Lib.hid (Hb2.out.trans (hb3.mono Hb2.out.size))
       clear hb3)
    | (with_reducible refine Calls.mono (HS.out _ Hb3.out) ?_
       rintro e w6 ⟨a1, c1, b1, d1, rfl, hE1, hF1, hb6⟩
       have hbb := Hb3.out.trans (hb6.mono Hb3.out.size)
       have h2 := two_b w6 #[.slice xa xn xc, .int .i64 xm, .int .i64 xu] #[.int .i64 si, .slice a1 np c1, .slice b1 mp d1]
       have hk7 := two_k w6 #[.slice xa xn xc, .int .i64 xm, .int .i64 xu] #[.int .i64 si, .slice a1 np c1, .slice b1 mp d1]
       have hs7 := two_s w6 #[.slice xa xn xc, .int .i64 xm, .int .i64 xu] #[.int .i64 si, .slice a1 np c1, .slice b1 mp d1]
       obtain ⟨w7, hw7⟩ : ∃ w7, two w6 #[.slice xa xn xc, .int .i64 xm, .int .i64 xu] #[.int .i64 si, .slice a1 np c1, .slice b1 mp d1] = w7 := ⟨_, rfl⟩
       rw [hw7] at h2 hk7 hs7
       unfold two at hw7
       have HW7 := Lib.hid hw7
       have HK7 := Lib.hid ((HK3.out.below hb6 HK3.out.lt).below h2 (HK3.out.below hb6 HK3.out.lt).lt)
       have Hb7 := Lib.hid (hbb.trans (h2.mono hbb.size))
       have HU7 := Lib.hid hk7
       have HV7 := Lib.hid hs7
       have HE7 := Lib.hid (hE1.next h2)
       have HF7 := Lib.hid (hF1.next h2)
       clear hE1 hF1
       clear hb6 hbb h2 hw7 hk7 hs7 t0 t1 t2 f0 f1 f2
       obtain ⟨t0, t1, t2, f0, f1, f2⟩ := cells3 HK7.out)
    | (refine wpList_store_row rfl 24 _ _ rfl w6.heap.size #[.slice xa xn xc, .int .i64 xm, .int .i64 xu] rfl rfl 24 _ (two_0 w6) infoKey rfl (one3 rfl rfl rfl) ?_)
    | (refine wpList_store_row rfl 42 _ _ rfl (w6.heap.size + 1) #[.int .i64 si, .slice a1 np c1, .slice b1 mp d1] rfl rfl 42 _ (two_1 w6 #[.slice xa xn xc, .int .i64 xm, .int .i64 xu]) infoSig rfl (one3 rfl rfl rfl) ?_; rw [HW7.out])
    | (with_reducible refine Calls.mono (HR.out _ Hb7.out) ?_
       rintro e w8 ⟨a2, c2, b2, d2, rfl, hE2, hF2, hb8⟩
       have hbb := Hb7.out.trans (hb8.mono Hb7.out.size)
       have h2 := two_b w8 #[.slice xa xn xc, .int .i64 xm, .int .i64 xu] #[.int .i64 si, .slice a2 np c2, .slice b2 mp d2]
       have hk7 := two_k w8 #[.slice xa xn xc, .int .i64 xm, .int .i64 xu] #[.int .i64 si, .slice a2 np c2, .slice b2 mp d2]
       have hs7 := two_s w8 #[.slice xa xn xc, .int .i64 xm, .int .i64 xu] #[.int .i64 si, .slice a2 np c2, .slice b2 mp d2]
       obtain ⟨w9, hw9⟩ : ∃ w9, two w8 #[.slice xa xn xc, .int .i64 xm, .int .i64 xu] #[.int .i64 si, .slice a2 np c2, .slice b2 mp d2] = w9 := ⟨_, rfl⟩
       rw [hw9] at h2 hk7 hs7
       unfold two at hw9
       have HW9 := Lib.hid hw9
       have HK9 := Lib.hid ((HK7.out.below hb8 HK7.out.lt).below h2 (HK7.out.below hb8 HK7.out.lt).lt)
       have HU9 := Lib.hid ((HU7.out.below hb8 HU7.out.lt).below h2 (HU7.out.below hb8 HU7.out.lt).lt)
       have HV9 := Lib.hid ((HV7.out.below hb8 HV7.out.lt).below h2 (HV7.out.below hb8 HV7.out.lt).lt)
       have Hb9 := Lib.hid (hbb.trans (h2.mono hbb.size))
       have HX9 := Lib.hid hk7
       have HS9 := Lib.hid hs7
       have hb79 := hb8.trans (h2.mono hb8.size)
       have HE9 := Lib.hid (HE7.out.next hb79)
       have HF9 := Lib.hid (HF7.out.next hb79)
       have HG9 := Lib.hid (hE2.next h2)
       have HH9 := Lib.hid (hF2.next h2)
       clear hE2 hF2 hb79
       clear hb8 hbb h2 hw9 hk7 hs7 t0 t1 t2 f0 f1 f2
       obtain ⟨u0, u1, u2, _, _, _⟩ := cells3 HU9.out
       obtain ⟨v0, v1, v2, _, _, _⟩ := cells3 HV9.out
       obtain ⟨x0, x1, x2, _, _, _⟩ := cells3 HX9.out
       obtain ⟨s0, s1, s2, _, _, _⟩ := cells3 HS9.out)
    | (refine wpList_store_row rfl 24 _ _ rfl w8.heap.size #[.slice xa xn xc, .int .i64 xm, .int .i64 xu] rfl rfl 24 _ (two_0 w8) infoKey rfl (one3 rfl rfl rfl) ?_)
    | (refine wpList_store_row rfl 42 _ _ rfl (w8.heap.size + 1) #[.int .i64 si, .slice a2 np c2, .slice b2 mp d2] rfl rfl 42 _ (two_1 w8 #[.slice xa xn xc, .int .i64 xm, .int .i64 xu]) infoSig rfl (one3 rfl rfl rfl) ?_; rw [HW9.out])
    | (with_reducible refine Calls.mono (HSK.out _ (HSX.out _ Hb9.out) (HSX.out _ Hb9.out)) ?_
       rintro e w10 ⟨rfl, hb10⟩
       clear u0 u1 u2 v0 v1 v2 x0 x1 x2 s0 s1 s2
       obtain ⟨v0, v1, v2, _, _, _⟩ := cells3 (HV9.out.below hb10 HV9.out.lt)
       obtain ⟨s0, s1, s2, _, _, _⟩ := cells3 (HS9.out.below hb10 HS9.out.lt)
       have HE10 := Lib.hid (HE9.out.next hb10)
       have HF10 := Lib.hid (HF9.out.next hb10)
       have HG10 := Lib.hid (HG9.out.next hb10)
       have HH10 := Lib.hid (HH9.out.next hb10)
       have Hb10 := Lib.hid (Hb9.out.trans (hb10.mono Hb9.out.size))
       clear hb10)
    | (with_reducible refine Calls.mono (HSm.out _ _ _ _ _ _ _ _ _ HE10.out HG10.out HF10.out HH10.out) ?_
       rintro e w11 ⟨rfl, hb11⟩
       have Hb11 := Lib.hid (Hb10.out.trans (hb11.mono Hb10.out.size))
       clear hb11))
  go_ret
  exact ⟨rfl, Hb11.out⟩

set_option maxRecDepth 100000 in
set_option maxHeartbeats 2000000 in
theorem ss_c (ka : Option Addr) (kn kc : Nat) (km ku : Int) (am : Option Addr) (q capm : Nat) (w : World) (hf : decide (km ≤ 2 ∧ kn ≤ 100 ∧ q ≤ 300) = false) (hk : isKeyB kn km ku = true) :
    Calls Tryd.prog 4 #[.agg #[.slice ka kn kc, .int .i64 km, .int .i64 ku], .slice am q capm] w fun e w' => e = .returned (.bool true) ∧ Below w.heap.size w w' := by
  have HSane := Lib.hid (fun W => sane_any W)
  have HF := Lib.hid (fun W => few_any ka kn kc km ku am q capm W)
  have HVal := Lib.hid (fun W => rvalid_any ka kn kc km ku W)
  rw [hf] at HF
  rw [hk] at HVal
  clear hf hk
  have H0 := Lib.hid (Blk.new w 24 #[.slice ka kn kc, .int .i64 km, .int .i64 ku])
  have Hb := Lib.hid (below_alloc w (.cells #[.slice ka kn kc, .int .i64 km, .int .i64 ku] 24))
  go_enter Tryd.func4, Tryd.ntmps4
  go_wp2_with (first
    | (refine (HSane.out _).mono ?_
       rintro e w1 ⟨rfl, hb1⟩
       obtain ⟨t0, t1, t2, f0, f1, f2⟩ := cells3 (H0.out.below hb1 H0.out.lt)
       have HK1 := Lib.hid (H0.out.below hb1 H0.out.lt)
       have Hb1 := Lib.hid (Hb.out.trans (hb1.mono Hb.out.size))
       clear hb1)
    | (refine (HF.out _).mono ?_
       rintro e w2 ⟨rfl, hb2⟩
       clear t0 t1 t2 f0 f1 f2
       obtain ⟨t0, t1, t2, f0, f1, f2⟩ := cells3 (HK1.out.below hb2 HK1.out.lt)
       have HK2 := Lib.hid (HK1.out.below hb2 HK1.out.lt)
       have Hb2 := Lib.hid (Hb1.out.trans (hb2.mono Hb1.out.size))
       clear hb2)
    | (refine (HVal.out _).mono ?_
       rintro e w3 ⟨rfl, hb3⟩
       clear t0 t1 t2 f0 f1 f2
       obtain ⟨t0, t1, t2, f0, f1, f2⟩ := cells3 (HK2.out.below hb3 HK2.out.lt)
       have HK3 := Lib.hid (HK2.out.below hb3 HK2.out.lt)
       have Hb3 := Lib.hid (Hb2.out.trans (hb3.mono Hb2.out.size))
       clear hb3))
  go_ret
  exact ⟨rfl, Hb3.out⟩

theorem rd_nil (W : World) (E : Nat → List UInt8) (hE : ∀ k, (E k).length = 32) : Rd W none 0 E := ⟨fun k hk => by omega, hE⟩
theorem ends_1 (E : Nat → List UInt8) : ends E 1 = E 0 := by rw [ends_succ]; rfl
def ptE (seed : List UInt8) (ix : Nat) : Nat → List UInt8 := fun _ => lf (pk1 seed (1 - ix))
theorem ptC_ends (seed : List UInt8) (m : Nat) (hm : m = 1 ∨ m = 2) (ix : Nat) : ptC seed m ix = bc (ends (ptE seed ix) (m - 1)) := by
  rcases hm with rfl | rfl
  · rfl
  · show _ = bc (ends (ptE seed ix) 1)
    rw [ends_1]; rfl
theorem ss_any (kseed : List UInt8) (kn : Nat) (hkn : kseed.length = kn) (ka : Option Addr) (kc : Nat) (km ku : Int) (msg : List UInt8) (q : Nat) (hq : msg.length = q) (am : Option Addr) (capm : Nat)
    (w : World) (hk : Sl w 1 (.slice ka kn kc) kn (bc kseed)) (hy : Sl w 1 (.slice am q capm) q (bc msg)) (hT : Tabs w) :
    Calls Tryd.prog 4 #[.agg #[.slice ka kn kc, .int .i64 km, .int .i64 ku], .slice am q capm] w fun e w' => e = .returned (.bool true) ∧ Below w.heap.size w w' := by
  have bad : signE kn km ku q = 320 → (∀ W, Below w.heap.size w W → Calls Tryd.prog 22 #[.agg #[.slice ka kn kc, .int .i64 km, .int .i64 ku], .slice am q capm] W fun e w' => ∃ a c b d, e = .returned (.tuple #[.agg #[.slice none 0 0, .int .i64 0, .int .i64 0], .agg #[.int .i64 0, .slice a 0 c, .slice b 0 d], .int .i64 320]) ∧ Rd w' a 0 (fun _ => zb) ∧ Rd w' b 0 (fun _ => zb) ∧ Below W.heap.size W w') ∧
      (∀ W, Below w.heap.size w W → Calls Tryd.prog 23 #[.agg #[.slice ka kn kc, .int .i64 km, .int .i64 ku], .slice am q capm] W fun e w' => ∃ a c b d, e = .returned (.tuple #[.agg #[.slice none 0 0, .int .i64 0, .int .i64 0], .agg #[.int .i64 0, .slice a 0 c, .slice b 0 d], .int .i64 320]) ∧ Rd w' a 0 (fun _ => zb) ∧ Rd w' b 0 (fun _ => zb) ∧ Below W.heap.size W w') := fun hE => by
    refine ⟨fun W _ => ?_, fun W _ => ?_⟩
    · have := sign_bad ka kn kc km ku am q capm W (by rw [hE]; decide)
      rw [hE] at this
      refine this.mono ?_
      rintro e w' ⟨rfl, hb⟩
      exact ⟨none, 0, none, 0, rfl, rd_nil _ _ (fun _ => rfl), rd_nil _ _ (fun _ => rfl), hb⟩
    · have := rsign_bad ka kn kc km ku am q capm W (by rw [hE]; decide)
      rw [hE] at this
      refine this.mono ?_
      rintro e w' ⟨rfl, hb⟩
      exact ⟨none, 0, none, 0, rfl, rd_nil _ _ (fun _ => rfl), rd_nil _ _ (fun _ => rfl), hb⟩
  cases hv : isKeyB kn km ku
  · have hE : signE kn km ku q = 320 := by simp only [signE, hv]; rfl
    obtain ⟨h1, h2⟩ := bad hE
    cases hf : decide (km ≤ 2 ∧ kn ≤ 100 ∧ q ≤ 300)
    · exact ss_b ka kn kc km ku am q capm [] none 0 0 0 0 rfl 0 320 0 0 (by omega) (by omega) _ _ w (sl_nil w 1) h1 h2 hf hv
    · exact ss_a ka kn kc km ku am q capm [] none 0 0 0 0 rfl 0 320 0 0 (by omega) (by omega) _ _ w (sl_nil w 1) h1 h2 hf
  · cases hf : decide (km ≤ 2 ∧ kn ≤ 100 ∧ q ≤ 300)
    · exact ss_c ka kn kc km ku am q capm w hf hv
    · have hf' := of_decide_eq_true hf
      have hk9 := isKeyB_t hv
      by_cases hu : ku = km
      · have hE : signE kn km ku q = 320 := by simp only [signE, hv]; rw [if_neg (by simp), if_neg (by omega), if_pos hu]
        obtain ⟨h1, h2⟩ := bad hE
        exact ss_a ka kn kc km ku am q capm [] none 0 0 0 0 rfl 0 320 0 0 (by omega) (by omega) _ _ w (sl_nil w 1) h1 h2 hf
      · obtain ⟨m, rfl⟩ : ∃ m : Nat, km = (m : Int) := ⟨km.toNat, by omega⟩
        obtain ⟨ix, rfl⟩ : ∃ ix : Nat, ku = (ix : Int) := ⟨ku.toNat, by omega⟩
        have hm : m = 1 ∨ m = 2 := by omega
        have hix : ix < m := by omega
        refine ss_a ka kn kc m ix am q capm kseed ka kn kc m (ix + 1 : Int) hkn ix 0 67 (m - 1) (by omega) (by omega) (prt kseed ix (mh (pub kseed m) ix msg)) (ptE kseed ix) w hk (fun W hb => ?_) (fun W hb => ?_) hf
        · refine (sign_ok kseed kn hkn ka kc m hm ix hix hv msg q hq (by omega) am capm W (hk.next hb) (hy.next hb) (hT.next hb)).mono ?_
          rintro e w' ⟨v, p, rfl, ho, hp, hb'⟩
          obtain ⟨a1, c1, rfl⟩ := (Sl.of_own ho).form
          obtain ⟨b1, d1, rfl⟩ := (Sl.of_own hp).form
          rw [ptC_ends kseed m hm ix] at hp
          exact ⟨a1, c1, b1, d1, rfl, Rd.of_own (prt_len _ _ _) ho, Rd.of_own (fun _ => rfl) hp, hb'⟩
        · refine (rsign_ok kseed kn hkn ka kc m hm ix hix hv msg q hq (by omega) am capm W (hk.next hb) (hy.next hb)).mono ?_
          rintro e w' ⟨v, p, rfl, ho, hp, hb'⟩
          obtain ⟨a1, c1, rfl⟩ := (Sl.of_own ho).form
          obtain ⟨b1, d1, rfl⟩ := (Sl.of_own hp).form
          rw [ptC_ends kseed m hm ix] at hp
          exact ⟨a1, c1, b1, d1, rfl, Rd.of_own (prt_len _ _ _) ho, Rd.of_own (fun _ => rfl) hp, hb'⟩
end Go.Proofs.YtiloaheaglcpbaaDoor
