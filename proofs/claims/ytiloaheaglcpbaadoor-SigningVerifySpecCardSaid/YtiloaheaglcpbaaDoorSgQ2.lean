/- Digests: where a list is split. Digests: the sides of an element, from the whole list down; their number. -/
import Derived.Test.YtiloaheaglcpbaaDoorSgT1
namespace Go.Proofs.YtiloaheaglcpbaaDoor
open Go.RowKit

/-- the greatest power of two below n -/
def hf (n : Nat) : Nat := 2 ^ Nat.log2 (n - 1)
theorem log2_lt (x : Nat) (h1 : 1 ≤ x) (hx : x < 256) : Nat.log2 x < 8 := (Nat.log2_lt (by omega)).2 hx
set_option maxRecDepth 100000 in
theorem len64_any (x : Nat) (h1 : 1 ≤ x) (hx : x < 256) (w : World) : Calls Tryd.prog 70 #[.int .u64 (x : Int)] w fun e w' => e = .returned (.int .i64 ((Nat.log2 x + 1 : Nat) : Int)) ∧ w = w' := by
  have i1 : ¬ (4294967296 : Int) ≤ (x : Int) := by omega
  have i2 : ¬ (65536 : Int) ≤ (x : Int) := by omega
  have i3 : ¬ (256 : Int) ≤ (x : Int) := by omega
  have hw : IntKind.u8.wrap (x : Int) = (x : Int) := by rw [IntKind.wrap_u8]; omega
  go_enter Tryd.func70, Tryd.ntmps70
  go_wp2_with fail
  go_ret
  refine ⟨ret_int ?_, rfl⟩
  have hl := log2_lt x h1 hx
  have hgen : ∀ (T : ByteArray), (∀ y : Fin 256, 1 ≤ y.val → T.data[y.val]? = some (UInt8.ofNat (Nat.log2 y.val + 1))) → ∀ p : x < T.size, wrap64 (wrap64 ((T[x]'p).toNat : Int)) = ((Nat.log2 x + 1 : Nat) : Int) := by
    intro T hall p
    have h := hall ⟨x, hx⟩ h1
    have h2 : T[x]'p = UInt8.ofNat (Nat.log2 x + 1) := by
      have : T.data[x]? = some (T[x]'p) := Array.getElem?_eq_getElem p
      rw [h] at this
      exact (Option.some.inj this).symm
    rw [h2, UInt8.toNat_ofNat']
    have e : (Nat.log2 x + 1) % 2 ^ 8 = Nat.log2 x + 1 := Nat.mod_eq_of_lt (by omega)
    rw [e]
    have e2 : wrap64 ((Nat.log2 x + 1 : Nat) : Int) = ((Nat.log2 x + 1 : Nat) : Int) := IntWalk.wrap64_in _ (by omega)
    rw [e2, e2]
  exact hgen _ (by decide +kernel) _
theorem len_any (x : Nat) (h1 : 1 ≤ x) (hx : x < 256) (w : World) : Calls Tryd.prog 65 #[.int .u64 (x : Int)] w fun e w' => e = .returned (.int .i64 ((Nat.log2 x + 1 : Nat) : Int)) ∧ w = w' := by
  have H := Lib.hid (len64_any x h1 hx w)
  go_enter Tryd.func65, Tryd.ntmps65
  go_wp2_with fail
  refine H.out.mono ?_
  rintro e w' ⟨rfl, rfl⟩
  go_wp2_with fail
  go_ret
  exact ⟨rfl, rfl⟩
theorem split_any (n : Nat) (h1 : 2 ≤ n) (hx : n ≤ 256) (w : World) : Calls Tryd.prog 53 #[.int .i64 (n : Int)] w fun e w' => e = .returned (.int .i64 ((hf n : Nat) : Int)) ∧ w = w' := by
  have s1 : IntKind.i64.wrap ((n : Int) - 1) = ((n - 1 : Nat) : Int) := by rw [IntKind.wrap_i64]; omega
  have s2 : IntKind.u64.wrap ((n - 1 : Nat) : Int) = ((n - 1 : Nat) : Int) := IntWalk.u64_in _ (by omega)
  have H := Lib.hid (len_any (n - 1) (by omega) (by omega) w)
  have hl := log2_lt (n - 1) (by omega) (by omega)
  obtain ⟨l, hl2⟩ : ∃ l, Nat.log2 (n - 1) = l := ⟨_, rfl⟩
  have Hf := Lib.hid (show hf n = 2 ^ l by rw [hf, hl2])
  rw [hl2] at H hl
  have s3 : IntKind.i64.wrap (((l + 1 : Nat) : Int) - 1) = (l : Int) := by rw [IntKind.wrap_i64]; omega
  clear hl2
  go_enter Tryd.func53, Tryd.ntmps53
  go_wp2_with fail
  refine H.out.mono ?_
  rintro e w' ⟨rfl, rfl⟩
  go_wp2_with fail
  go_ret
  refine ⟨ret_int ?_, rfl⟩
  rw [Hf.out]
  have e : ∀ l : Nat, l < 8 → wrap64 ((2 : Int) ^ l) = ((2 ^ l : Nat) : Int) := by decide +kernel
  exact e l hl
/-- it is a power of two, below n and no smaller than its half -/
theorem hf_facts (n : Nat) (h : 2 ≤ n) : 1 ≤ hf n ∧ hf n < n ∧ n ≤ 2 * hf n := by
  unfold hf
  have h1 : 2 ^ Nat.log2 (n - 1) ≤ n - 1 := Nat.log2_self_le (by omega)
  have h2 : n - 1 < 2 ^ (Nat.log2 (n - 1) + 1) := Nat.lt_log2_self
  rw [Nat.pow_succ] at h2
  exact ⟨Nat.one_le_two_pow, by omega, by omega⟩
theorem half_any (n : Nat) (h1 : 2 ≤ n) (hx : n ≤ 256) (w : World) : Calls Tryd.prog 57 #[.int .i64 (n : Int)] w fun e w' => e = .returned (.int .i64 ((hf n : Nat) : Int)) ∧ w = w' := by
  have hF := Lib.hid (hf_facts n h1)
  have hl := log2_lt (n - 1) (by omega) (by omega)
  have Hf := Lib.hid (show hf n = 2 ^ Nat.log2 (n - 1) from rfl)
  obtain ⟨l, hl2⟩ : ∃ l, Nat.log2 (n - 1) = l := ⟨_, rfl⟩
  rw [hl2] at hl Hf
  clear hl2
  go_enter Tryd.func57, Tryd.ntmps57
  go_wp2_with fail
  go_loopw [3] (fun k wr => ∃ (j p : Nat), Hid (p = 2 ^ j ∧ j ≤ l) ∧ k = .int .i64 (p : Int) ∧ w = wr) (fun k _ => 300 - (intOf k).toNat)
  case atStart =>
    have H0 := Lib.hid (show 1 = 2 ^ 0 ∧ 0 ≤ l from ⟨rfl, Nat.zero_le _⟩)
    exact ⟨0, 1, H0, by go_num, rfl⟩
  case round =>
    obtain ⟨j, p, Hj, rfl, rfl⟩ := hrel
    have hp : p ≤ hf n := by rw [Hj.out.1, Hf.out]; exact Nat.pow_le_pow_right (by omega) Hj.out.2
    have hp1 : 1 ≤ p := by rw [Hj.out.1]; exact Nat.one_le_two_pow
    have hfn := hF.out.2.1
    have hn2 := hF.out.2.2
    have s1 : wrap64 (2 * (p : Int)) = 2 * (p : Int) := IntWalk.wrap64_in _ (by omega)
    by_cases hlt : 2 * p < n
    · have hjl : j < l := by
        rcases Nat.lt_or_ge j l with h | h
        · exact h
        · exfalso
          have : j = l := by have := Hj.out.2; omega
          have h3 : p = hf n := by rw [Hj.out.1, Hf.out, this]
          omega
      have i1 : 2 * (p : Int) < (n : Int) := by omega
      have Hj2 := Lib.hid (show 2 * p = 2 ^ (j + 1) ∧ j + 1 ≤ l by rw [Nat.pow_succ, ← Hj.out.1]; omega)
      clear hp hfn hn2
      go_wp2_with fail
      go_roundw
      case rel => exact ⟨j + 1, 2 * p, Hj2, by go_num, trivial⟩
      case measure => simp [intOf]; omega
    · have i1 : ¬ 2 * (p : Int) < (n : Int) := by omega
      have Hpe := Lib.hid <| show p = hf n by
        rcases Nat.lt_or_ge j l with h | h
        · exfalso
          have : 2 ^ (j + 1) ≤ hf n := by rw [Hf.out]; exact Nat.pow_le_pow_right (by omega) (by omega)
          rw [Nat.pow_succ, ← Hj.out.1] at this
          omega
        · have : j = l := by have := Hj.out.2; omega
          rw [Hj.out.1, Hf.out, this]
      clear hp hfn hn2
      go_wp2_with fail
      go_ret
      rw [Hpe.out]
      exact ⟨rfl, rfl⟩

/-- true where the element lies in the left part -/
def sdf : Nat → Nat → Nat → List Bool
  | 0, _, _ => []
  | f + 1, at_, n => if n ≤ 1 then [] else if at_ < hf n then true :: sdf f at_ (hf n) else false :: sdf f (at_ - hf n) (n - hf n)
def sd (at_ n : Nat) : List Bool := sdf n at_ n
theorem sdf_fuel : ∀ (f g at_ n : Nat), n ≤ f → n ≤ g → sdf f at_ n = sdf g at_ n
  | 0, 0, _, _, _, _ => rfl
  | 0, g + 1, at_, n, h, _ => by rw [sdf, sdf, if_pos (by omega)]
  | f + 1, 0, at_, n, _, h => by rw [sdf, sdf, if_pos (by omega)]
  | f + 1, g + 1, at_, n, hf1, hg1 => by
    rw [sdf, sdf]
    by_cases h1 : n ≤ 1
    · rw [if_pos h1, if_pos h1]
    · have h := hf_facts n (by omega)
      rw [if_neg h1, if_neg h1, sdf_fuel f g at_ (hf n) (by omega) (by omega), sdf_fuel f g (at_ - hf n) (n - hf n) (by omega) (by omega)]
theorem sd_one (at_ n : Nat) (h : n ≤ 1) : sd at_ n = [] := by
  unfold sd
  match n, h with
  | 0, _ => rfl
  | 1, _ => rw [sdf, if_pos (by omega)]
theorem sd_left (at_ n : Nat) (h : 2 ≤ n) (ha : at_ < hf n) : sd at_ n = true :: sd at_ (hf n) := by
  have h2 := hf_facts n h
  unfold sd
  match n, h, h2, ha with
  | m + 1, h, h2, ha =>
    rw [sdf, if_neg (by omega), if_pos ha, sdf_fuel m (hf (m + 1)) _ _ (by omega) (by omega)]
theorem sd_right (at_ n : Nat) (h : 2 ≤ n) (ha : ¬ at_ < hf n) : sd at_ n = false :: sd (at_ - hf n) (n - hf n) := by
  have h2 := hf_facts n h
  unfold sd
  match n, h, h2, ha with
  | m + 1, h, h2, ha =>
    rw [sdf, if_neg (by omega), if_neg ha, sdf_fuel m (m + 1 - hf (m + 1)) _ _ (by omega) (by omega)]
theorem sd_len : ∀ (f at_ n : Nat), n ≤ f → (sd at_ n).length ≤ n
  | 0, at_, n, h => by rw [sd_one _ _ (by omega)]; simp
  | f + 1, at_, n, h => by
    by_cases h1 : n ≤ 1
    · rw [sd_one _ _ h1]; simp
    · have h2 := hf_facts n (by omega)
      by_cases ha : at_ < hf n
      · have := sd_len f at_ (hf n) (by omega)
        rw [sd_left _ _ (by omega) ha, List.length_cons]; omega
      · have := sd_len f (at_ - hf n) (n - hf n) (by omega)
        rw [sd_right _ _ (by omega) ha, List.length_cons]; omega
theorem length_any : ∀ (f at_ n : Nat), n ≤ f → at_ < n → n ≤ 256 → ∀ w, Calls Tryd.prog 60 #[.int .i64 (at_ : Int), .int .i64 (n : Int)] w fun e w' => e = .returned (.int .i64 (((sd at_ n).length : Nat) : Int)) ∧ w = w'
  | 0, at_, n, h, ha, _, w => by omega
  | f + 1, at_, n, h, ha, hx, w => by
    by_cases h1 : n = 1
    · subst h1
      rw [sd_one _ _ (Nat.le_refl _)]
      go_enter Tryd.func60, Tryd.ntmps60
      go_wp2_with fail
      go_ret
      exact ⟨rfl, rfl⟩
    · have h2 := hf_facts n (by omega)
      have i1 : ((n : Int) == 1) = false := by simp; omega
      have HH := Lib.hid (half_any n (by omega) hx w)
      obtain ⟨k, hk⟩ : ∃ k, hf n = k := ⟨_, rfl⟩
      by_cases hl : at_ < hf n
      · have H := Lib.hid (length_any f at_ (hf n) (by omega) hl (by omega) w)
        have hlen := sd_len (hf n) at_ (hf n) (Nat.le_refl _)
        have i2 : (at_ : Int) < ((hf n : Nat) : Int) := by omega
        rw [sd_left _ _ (by omega) hl, List.length_cons]
        obtain ⟨m, hm⟩ : ∃ m, (sd at_ (hf n)).length = m := ⟨_, rfl⟩
        rw [hm] at H hlen ⊢
        rw [hk] at HH H i2 hlen h2
        clear hk hm hl
        have s1 : IntKind.i64.wrap (1 + (m : Int)) = ((m + 1 : Nat) : Int) := by rw [IntKind.wrap_i64]; omega
        clear h2 hlen
        go_enter Tryd.func60, Tryd.ntmps60
        go_wp2_with fail
        refine HH.out.mono ?_
        rintro e w' ⟨rfl, rfl⟩
        go_wp2_with fail
        refine H.out.mono ?_
        rintro e w' ⟨rfl, rfl⟩
        go_wp2_with fail
        go_ret
        exact ⟨ret_int (by omega), rfl⟩
      · have H := Lib.hid (length_any f (at_ - hf n) (n - hf n) (by omega) (by omega) (by omega) w)
        have hlen := sd_len (n - hf n) (at_ - hf n) (n - hf n) (Nat.le_refl _)
        have i2 : ¬ (at_ : Int) < ((hf n : Nat) : Int) := by omega
        rw [sd_right _ _ (by omega) hl, List.length_cons]
        obtain ⟨m, hm⟩ : ∃ m, (sd (at_ - hf n) (n - hf n)).length = m := ⟨_, rfl⟩
        rw [hm] at H hlen ⊢
        have s2 : IntKind.i64.wrap ((at_ : Int) - ((hf n : Nat) : Int)) = ((at_ - hf n : Nat) : Int) := by rw [IntKind.wrap_i64]; omega
        have s3 : IntKind.i64.wrap ((n : Int) - ((hf n : Nat) : Int)) = ((n - hf n : Nat) : Int) := by rw [IntKind.wrap_i64]; omega
        obtain ⟨p, hp⟩ : ∃ p, at_ - hf n = p := ⟨_, rfl⟩
        obtain ⟨q, hq⟩ : ∃ q, n - hf n = q := ⟨_, rfl⟩
        rw [hp] at s2 H
        rw [hq] at s3 H hlen
        rw [hk] at HH i2 s2 s3 h2
        clear hk hm hl hp
        have s1 : IntKind.i64.wrap (1 + (m : Int)) = ((m + 1 : Nat) : Int) := by rw [IntKind.wrap_i64]; omega
        clear h2 hlen hq
        go_enter Tryd.func60, Tryd.ntmps60
        go_wp2_with fail
        refine HH.out.mono ?_
        rintro e w' ⟨rfl, rfl⟩
        go_wp2_with fail
        refine H.out.mono ?_
        rintro e w' ⟨rfl, rfl⟩
        go_wp2_with fail
        go_ret
        exact ⟨ret_int (by omega), rfl⟩
end Go.Proofs.YtiloaheaglcpbaaDoor
