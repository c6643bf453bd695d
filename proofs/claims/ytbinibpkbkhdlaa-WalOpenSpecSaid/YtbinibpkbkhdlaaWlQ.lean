/- Wal: lists of records compared. -/
import Derived.Test.YtbinibpkbkhdlaaWlP
namespace Go.Proofs.Ytbinibpkbkhdlaa
open Go.RowKit

theorem mkS_inj {A B : List UInt8} (h : mkS A = mkS B) : A = B := by
  have := congrArg (fun s => s.toList) h
  simpa [mkS_toList] using this
set_option maxRecDepth 100000 in
theorem equal_any (A B : List UInt8) (a : Option Addr) (ca : Nat) (b : Option Addr) (cb : Nat) (w : World) (hA : Sl w 1 (.slice a A.length ca) A.length (bc A)) (hB : Sl w 1 (.slice b B.length cb) B.length (bc B)) :
    Calls Try.prog 42 #[.slice a A.length ca, .slice b B.length cb] w fun e w' => e = .returned (.bool (decide (A = B))) ∧ w = w' := by
  have hca := conv_bytes hA
  have hcb := conv_bytes hB
  clear hA hB
  go_enter Try.func42, Try.ntmps42
  go_wp2_with fail
  go_ret
  refine ⟨ret_bool ?_, rfl⟩
  rw [mkS_toList, mkS_toList]
  by_cases h : A = B
  · subst h; simp
  · rw [decide_eq_false h]; simp [h]
set_option maxRecDepth 100000 in
theorem eqf_any (A B : List (List UInt8)) (a : Option Addr) (ca : Nat) (b : Option Addr) (cb : Nat) (w : World) (hA : Secs w (.slice a A.length ca) A) (hB : Secs w (.slice b B.length cb) B) (hl : A.length ≤ 1000000) :
    Calls Try.prog 41 #[.slice a A.length ca, .slice b B.length cb, .func (.func 42) #[] #[]] w fun e w' => e = .returned (.bool (decide (A = B))) ∧ w = w' := by
  have HA := Lib.hid hA
  have HB := Lib.hid hB
  have Hl := Lib.hid hl
  clear hA hB hl
  by_cases hn : A.length = B.length
  · have f1 : ((A.length : Int) != (B.length : Int)) = false := by simp [hn]
    have Hn := Lib.hid hn
    clear hn
    go_enter Try.func41, Try.ntmps41
    go_wp2_with fail
    clear f1
    go_loopw [17] (fun i wr => ∃ k : Nat, Hid (k ≤ A.length) ∧ Hid (∀ j, j < k → A[j]? = B[j]?) ∧ i = .int .i64 (k : Int) ∧ w = wr) (fun i _ => A.length - (intOf i).toNat)
    case atStart => exact ⟨0, Lib.hid (Nat.zero_le _), Lib.hid (fun j h => by omega), rfl, rfl⟩
    case round =>
      obtain ⟨k, Hk, Hall, rfl, rfl⟩ := hrel
      by_cases hk : k < A.length
      · obtain ⟨g, off, rfl, _, hcs⟩ := HA.out.at_ (by omega)
        obtain ⟨g2, off2, rfl, _, hcs2⟩ := HB.out.at_ (by have := Hn.out; omega)
        have hs : A[k]? = some (A[k]'hk) := List.getElem?_eq_getElem hk
        have hk2 : k < B.length := by have := Hn.out; omega
        have hs2 : B[k]? = some (B[k]'hk2) := List.getElem?_eq_getElem hk2
        obtain ⟨x, hx⟩ : ∃ x, A[k]'hk = x := ⟨_, rfl⟩
        obtain ⟨y, hy⟩ : ∃ y, B[k]'hk2 = y := ⟨_, rfl⟩
        rw [hx] at hs
        rw [hy] at hs2
        obtain ⟨ad, c, hcell, hsx⟩ := hcs k x hs
        obtain ⟨ad2, c2, hcell2, hsy⟩ := hcs2 k y hs2
        have HE := Lib.hid (equal_any x y ad c ad2 c2 w hsx hsy)
        have j1 : (k : Int) < (A.length : Int) := by omega
        have j2 : (k : Int) < (B.length : Int) := by omega
        have s1 : IntKind.i64.wrap ((k : Int) + 1) = ((k + 1 : Nat) : Int) := by rw [IntKind.wrap_i64]; have := Hl.out; omega
        have Hs := Lib.hid (⟨hs, hs2⟩ : A[k]? = some x ∧ B[k]? = some y)
        have Hk2 := Lib.hid hk
        clear hcs hcs2 hs hs2 hx hy hk2 hsx hsy
        by_cases hxy : x = y
        · rw [decide_eq_true hxy] at HE
          have Hxy := Lib.hid hxy
          clear hxy
          go_wp2_with fail
          refine HE.out.mono ?_
          rintro e w' ⟨rfl, rfl⟩
          go_wp2_with fail
          exact ⟨⟨k + 1, Lib.hid Hk2.out, Lib.hid (fun j hj => by
            rcases Nat.lt_or_ge j k with h | h
            · exact Hall.out j h
            · obtain rfl : j = k := by omega
              rw [Hs.out.1, Hs.out.2, Hxy.out]), by go_num, trivial⟩, by have := Hk2.out; simp [intOf]; omega⟩
        · rw [decide_eq_false hxy] at HE
          have Hxy := Lib.hid hxy
          clear hxy
          go_wp2_with fail
          refine HE.out.mono ?_
          rintro e w' ⟨rfl, rfl⟩
          go_wp2_with fail
          go_ret
          refine ⟨ret_bool ?_, rfl⟩
          symm
          refine decide_eq_false (fun h => Hxy.out ?_)
          have h1 := Hs.out.1
          rw [h, Hs.out.2] at h1
          cases h1; rfl
      · have j1 : ¬ (k : Int) < (A.length : Int) := by omega
        have Hko := Lib.hid hk
        clear hk
        go_wp2_with fail
        go_ret
        refine ⟨ret_bool ?_, rfl⟩
        symm
        refine decide_eq_true (List.ext_getElem? fun j => ?_)
        rcases Nat.lt_or_ge j k with h | h
        · exact Hall.out j h
        · have := Hn.out; have := Hko.out
          rw [List.getElem?_eq_none (by omega), List.getElem?_eq_none (by omega)]
  · have f1 : ((A.length : Int) != (B.length : Int)) = true := by simp; omega
    have Hn := Lib.hid hn
    clear hn
    go_enter Try.func41, Try.ntmps41
    go_wp2_with fail
    go_ret
    refine ⟨ret_bool ?_, rfl⟩
    symm
    exact decide_eq_false (fun h => Hn.out (by rw [h]))
end Go.Proofs.Ytbinibpkbkhdlaa
