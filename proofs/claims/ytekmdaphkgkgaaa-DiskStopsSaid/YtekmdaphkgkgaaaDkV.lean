/- Disk: what the writes of DiskStops give; diskWhole. -/
import Derived.Test.YtekmdaphkgkgaaaDkU
namespace Go.Proofs.Ytekmdaphkgkgaaa
open Go.RowKit

/-- the writes left, and whether the disk has stopped, ahead of write k, where the disk stops at write n -/
def spL (n k : Nat) : Int := if k < n then (n : Int) - (k : Int) else 0
def spS (n k : Nat) : Bool := decide (n < k)
/-- what the sector holds behind write k -/
def want (n t k : Nat) (c : UInt8) (s : List UInt8) : List UInt8 := if k < n then List.replicate 128 c else if k = n then (List.replicate 128 c).take t ++ s.drop t else s
theorem want_lt {n t k : Nat} {c : UInt8} {s : List UInt8} (h : k < n) : want n t k c s = List.replicate 128 c := if_pos h
theorem want_eq {n t k : Nat} {c : UInt8} {s : List UInt8} (h : k = n) : want n t k c s = (List.replicate 128 c).take t ++ s.drop t := by rw [want, if_neg (by omega), if_pos h]
theorem want_gt {n t k : Nat} {c : UInt8} {s : List UInt8} (h : n < k) : want n t k c s = s := by rw [want, if_neg (by omega), if_neg (by omega)]
theorem want_len {n t k : Nat} {c : UInt8} {s : List UInt8} (hs : s.length = 128) (ht : t ≤ 128) : (want n t k c s).length = 128 := by
  rw [want]
  split
  · simp
  · split
    · simp [hs]; omega
    · exact hs

theorem sp_odd {S : List (List UInt8)} (hall : ∀ s ∈ S, s.length = 128) : anyOdd S = false := by
  rw [anyOdd, List.any_eq_false]
  intro x hx
  simp [odd, hall x hx]
theorem sp_chk {S : List (List UInt8)} (h4 : S.length = 4) (hall : ∀ s ∈ S, s.length = 128) {l : Int} {t : Nat} {st : Bool} (hl : -1 ≤ l) (ht : t ≤ 128) (hst : st = false ∨ l = 0) : chk ⟨S, l, t, st⟩ = 0 :=
  chk_0 (by show 1 ≤ S.length; omega) (by show S.length ≤ 4096; omega) (sp_odd hall) hl (by show (0 : Int) ≤ (t : Int); omega) (by show (t : Int) ≤ 128; omega) hst
theorem sp_chkS {S : List (List UInt8)} (h4 : S.length = 4) (hall : ∀ s ∈ S, s.length = 128) {l : Int} {t m : Nat} {st : Bool} (hl : -1 ≤ l) (ht : t ≤ 128) (hst : st = false ∨ l = 0) (hm : m < 4) : chkS ⟨S, l, t, st⟩ (m : Int) = 0 := by
  rw [chkS, if_pos]
  exact ⟨sp_chk h4 hall hl ht hst, by omega, by show (m : Int) < (S.length : Int); omega⟩
theorem sp_lS (n k : Nat) : -1 ≤ spL n k ∧ (spS n k = false ∨ spL n k = 0) ∧ spL n k ≤ n := by
  unfold spL spS
  by_cases h : k < n
  · rw [if_pos h]; refine ⟨by omega, .inl (decide_eq_false (by omega)), by omega⟩
  · rw [if_neg h]; exact ⟨by omega, .inr rfl, by omega⟩
theorem sp_wt {S : List (List UInt8)} (h4 : S.length = 4) (hall : ∀ s ∈ S, s.length = 128) {n t k m : Nat} (ht : t ≤ 128) (hm : m < 4) {s : List UInt8} (hs : S[m]? = some s) (c : UInt8) :
    wtD ⟨S, spL n k, t, spS n k⟩ (m : Int) (List.replicate 128 c) = ⟨S.set m (want n t k c s), spL n (k + 1), t, spS n (k + 1)⟩ ∧
    wtE ⟨S, spL n k, t, spS n k⟩ (m : Int) (List.replicate 128 c) = if k < n then 0 else 410 := by
  obtain ⟨a1, a2, _⟩ := sp_lS n k
  have hc := sp_chkS h4 hall a1 ht a2 hm
  have hg : S.getD m [] = s := by rw [List.getD_eq_getElem?_getD, hs]; rfl
  have hsl := hall s (List.mem_of_getElem? hs)
  have hE : wtE ⟨S, spL n k, t, spS n k⟩ (m : Int) (List.replicate 128 c) = if spS n k then 410 else if spL n k = 0 then 410 else 0 := by
    rw [wtE, if_neg (by rw [hc]; decide), if_neg (by simp)]
  have hD : wtD ⟨S, spL n k, t, spS n k⟩ (m : Int) (List.replicate 128 c) = if spS n k then ⟨S, spL n k, t, spS n k⟩ else ⟨S.set m (wrSec (spL n k) t s (List.replicate 128 c)), wrLeft (spL n k), t, decide (spL n k = 0)⟩ := by
    rw [wtD, if_neg (by rw [hc]; simp)]
    simp only [Int.toNat_natCast, hg]
  rw [hE, hD]
  rcases Nat.lt_trichotomy k n with h | h | h
  · have e1 : spS n k = false := decide_eq_false (by omega)
    have e2 : spL n k = (n : Int) - (k : Int) := if_pos h
    have e3 : ¬ spL n k = 0 := by omega
    have e4 : spS n (k + 1) = false := decide_eq_false (by omega)
    rw [e1, if_neg (by simp), if_neg (by simp), if_neg e3, if_pos h, want_lt h, e4]
    refine ⟨?_, rfl⟩
    have w1 : wrSec (spL n k) t s (List.replicate 128 c) = List.replicate 128 c := by
      rw [wrSec, wrM, if_neg e3, List.drop_of_length_le (by omega), List.append_nil, List.take_of_length_le (by simp)]
    have w2 : wrLeft (spL n k) = spL n (k + 1) := by
      rw [wrLeft, if_pos (by omega), e2, spL]
      split <;> omega
    rw [w1, w2, decide_eq_false e3]
  · have e1 : spS n k = false := decide_eq_false (by omega)
    have e2 : spL n k = 0 := if_neg (by omega)
    have e4 : spS n (k + 1) = true := decide_eq_true (by omega)
    have e5 : spL n (k + 1) = 0 := if_neg (by omega)
    rw [e1, if_neg (by simp), if_neg (by simp), if_pos e2, if_neg (by omega), want_eq h, e4, e5, e2]
    refine ⟨?_, rfl⟩
    rw [wrSec, wrM, if_pos rfl, wrLeft, if_neg (by decide)]
    rfl
  · have e1 : spS n k = true := decide_eq_true (by omega)
    have e2 : spL n k = 0 := if_neg (by omega)
    have e4 : spS n (k + 1) = true := decide_eq_true (by omega)
    have e5 : spL n (k + 1) = 0 := if_neg (by omega)
    rw [e1, if_pos rfl, if_pos rfl, if_neg (by omega), want_gt h, e4, e5, e2]
    refine ⟨?_, rfl⟩
    have : S.set m s = S := by
      apply List.ext_getElem?
      intro j
      rw [List.getElem?_set]
      split
      · next hj => subst hj; split
                   · exact hs.symm
                   · omega
      · rfl
    rw [this]
/-- the disk behind write k: four sectors of 128 bytes -/
theorem sp_set {S : List (List UInt8)} (h4 : S.length = 4) (hall : ∀ s ∈ S, s.length = 128) {m : Nat} {s' : List UInt8} (hs : s'.length = 128) : (S.set m s').length = 4 ∧ ∀ s ∈ S.set m s', s.length = 128 := by
  refine ⟨by simp [h4], fun x hx => ?_⟩
  rcases List.mem_or_eq_of_mem_set hx with h | h
  · exact hall x h
  · rw [h]; exact hs
/-- reads of a stopped disk, and of one that goes on -/
theorem sp_rd0 {S : List (List UInt8)} (h4 : S.length = 4) (hall : ∀ s ∈ S, s.length = 128) {t : Nat} (ht : t ≤ 128) : rdE ⟨S, 0, t, true⟩ 0 = 410 ∧ rdB ⟨S, 0, t, true⟩ 0 = [] := by
  have hc := sp_chkS (l := 0) (st := true) h4 hall (by omega) ht (.inr rfl) (show 0 < 4 by omega)
  have : rdE ⟨S, 0, t, true⟩ 0 = 410 := by rw [rdE, if_neg (by rw [show ((0 : Nat) : Int) = 0 from rfl] at hc; rw [hc]; decide)]; rfl
  exact ⟨this, by rw [rdB, if_neg (by rw [this]; decide)]⟩
theorem sp_rd1 {S : List (List UInt8)} (h4 : S.length = 4) (hall : ∀ s ∈ S, s.length = 128) {m : Nat} (hm : m < 4) {s : List UInt8} (hs : S[m]? = some s) : rdE ⟨S, -1, 0, false⟩ (m : Int) = 0 ∧ rdB ⟨S, -1, 0, false⟩ (m : Int) = s := by
  have hc := sp_chkS (l := -1) (t := 0) (st := false) h4 hall (by omega) (by omega) (.inl rfl) hm
  have : rdE ⟨S, -1, 0, false⟩ (m : Int) = 0 := by rw [rdE, if_neg (by rw [show ((0 : Nat) : Int) = 0 from rfl] at hc; rw [hc]; decide)]; rfl
  refine ⟨this, ?_⟩
  rw [rdB, if_pos this]
  simp only [Int.toNat_natCast]
  rw [List.getD_eq_getElem?_getD, hs]; rfl
theorem sp_stop {n t : Nat} (hn : n ≤ 7) (ht : t ≤ 128) : stE ⟨fourS 4, -1, 0, false⟩ (n : Int) (t : Int) = 0 ∧ stD ⟨fourS 4, -1, 0, false⟩ (n : Int) (t : Int) = ⟨fourS 4, n, t, false⟩ := by
  have hc : chk ⟨fourS 4, -1, 0, false⟩ = 0 := by decide +kernel
  have : stE ⟨fourS 4, -1, 0, false⟩ (n : Int) (t : Int) = 0 := by rw [stE_2 hc (by omega) (by omega) (by omega)]; rfl
  exact ⟨this, by rw [stD, if_pos this]⟩
theorem fourS_all : ∀ s ∈ fourS 4, s.length = 128 := by decide +kernel
set_option maxRecDepth 100000 in
set_option maxHeartbeats 2000000 in
theorem diskWhole_any (S : List (List UInt8)) (left tear : Int) (stop : Bool) (a : Option Addr) (cap : Nat) (w : World) (hs : Secs w (.slice a 4 cap) S) (h4 : S.length = 4) (hall : ∀ s ∈ S, s.length = 128) :
    Calls Try.prog 27 #[.agg #[.slice a 4 cap, .int .i64 left, .int .i64 tear, .bool stop]] w fun e w' => e = .returned (.bool true) ∧ Below w.heap.size w w' := by
  obtain ⟨W, hW⟩ : ∃ W, W = w.alloc (.cells #[.slice a 4 cap, .int .i64 left, .int .i64 tear, .bool stop] 26) := ⟨_, rfl⟩
  have hBW : Blk W w.heap.size 26 #[.slice a 4 cap, .int .i64 left, .int .i64 tear, .bool stop] := by rw [hW]; exact Blk.new w _ _
  have hbW : Below w.heap.size w W := by rw [hW]; exact below_alloc w _
  have hsW := hs.next hbW
  have HBW := Lib.hid hBW
  have HbW := Lib.hid hbW
  have HsW := Lib.hid hsW
  have HW := Lib.hid hW
  have H4 := Lib.hid h4
  have Hall := Lib.hid hall
  clear hBW hbW hsW hW hs h4 hall
  go_enter Try.func27, Try.ntmps27
  go_wp2_with fail
  rw [← HW.out]
  obtain ⟨b0, b1, b2, b3, _⟩ := dkCells HBW.out
  go_loop [8] (fun i => ∃ k : Nat, k ≤ 4 ∧ i = .int .i64 k) (fun i => 4 - (intOf i).toNat)
  case atStart => exact ⟨0, Nat.zero_le _, rfl⟩
  case round =>
    obtain ⟨k, hk, rfl⟩ := hrel
    by_cases hlt : k < 4
    · have hsx := HsW.out
      rw [show (.slice a 4 cap : Value) = .slice a S.length cap by rw [H4.out]] at hsx
      obtain ⟨g, off, rfl, hcap, hc⟩ := hsx.at_ (by have := H4.out; omega)
      obtain ⟨s, hjs⟩ : ∃ s, S[k]? = some s := ⟨_, List.getElem?_eq_getElem (by have := H4.out; omega)⟩
      obtain ⟨ad, c, hcell, _⟩ := hc k s hjs
      rw [Hall.out s (List.mem_of_getElem? hjs)] at hcell
      have i1 : (0 : Int) ≤ (k : Int) := by omega
      have i2 : (k : Int) < 4 := by omega
      clear hc hjs hsx
      go_wp2_with fail
      go_round
      case rel => exact ⟨k + 1, by omega, by go_num⟩
      case measure => simp [intOf]; omega
    · go_wp2_with fail
      go_ret
      exact ⟨rfl, HbW.out⟩
theorem own_drew {w : World} {B n size : Nat} {e : TypeId} {v : Value} {xs : List Value} (h : w.ownsRow B e size v n xs) : w.drew.ownsRow B e size v n xs :=
  Upd.own (S := fun _ => False) ((Upd.refl _ w).drew) h (fun _ _ => id)
/-- whole(c)[:t], where an empty row of the region's own lies already -/
theorem whole_e (c : UInt8) (t : Nat) (ht : t ≤ 128) {w0 W : World} {B : Nat} {v : Value} (hb : Below w0.heap.size w0 W) (ho : W.ownsRow B 5 1 v 0 []) : Calls Try.prog 15 #[.int .u8 (c.toNat : Int)] W fun e w' =>
    ∃ x cc, e = .returned (.slice x 128 cc) ∧ ((t : Int) ≤ (cc : Int) ∧ (128 : Int) ≤ (cc : Int)) ∧ Sl w' 1 (.slice x t cc) t (bc ((List.replicate 128 c).take t)) ∧ Below w0.heap.size w0 w' ∧ w'.ownsRow B 5 1 v 0 [] := by
  refine (whole_any c W).mono ?_
  rintro e w' ⟨v', rfl, hs, h2⟩
  obtain ⟨x, cc, rfl⟩ := hs.form
  have hl : (List.replicate 128 c).length = 128 := List.length_replicate
  have hcc : 128 ≤ cc := by obtain ⟨_, a', c', he, hle', _⟩ := hs; cases he; omega
  refine ⟨x, cc, by rw [hl], ⟨by omega, by omega⟩, hs.take (by omega), hb.trans (h2.mono hb.size), (Upd.of_below (B := W.heap.size) h2).own ho (fun q hq h => by have := (ho.lt q hq).2; omega)⟩
theorem whole_n (c : UInt8) (t : Nat) (ht : t ≤ 128) {w0 W : World} (hb : Below w0.heap.size w0 W) : Calls Try.prog 15 #[.int .u8 (c.toNat : Int)] W fun e w' =>
    ∃ x cc, e = .returned (.slice x 128 cc) ∧ ((t : Int) ≤ (cc : Int) ∧ (128 : Int) ≤ (cc : Int)) ∧ Sl w' 1 (.slice x t cc) t (bc ((List.replicate 128 c).take t)) ∧ Below w0.heap.size w0 w' := by
  refine (whole_any c W).mono ?_
  rintro e w' ⟨v', rfl, hs, h2⟩
  obtain ⟨x, cc, rfl⟩ := hs.form
  have hl : (List.replicate 128 c).length = 128 := List.length_replicate
  have hcc : 128 ≤ cc := by obtain ⟨_, a', c', he, hle', _⟩ := hs; cases he; omega
  exact ⟨x, cc, by rw [hl], ⟨by omega, by omega⟩, hs.take (by omega), hb.trans (h2.mono hb.size)⟩
/-- an append of bytes, as a region's step runs it -/
theorem app_sl0 {P : Program} (w : World) {o : Oper} {a : Act} {K : Act → World → Prop} {Q : Exit → Act → World → Prop} (hgd : o.guard = none) (s x : Operand) (t : TypeId)
    (ho : o.op = .call { callee := .builtin .append, args := #[s, x], argTypes := #[t, t] })
    (w0 : World) (B : Nat) (hB0 : w0.heap.size ≤ B) (hb0 : Below w0.heap.size w0 w) (e : TypeId) (i : TypeInfo) (z : Value) (bytes : Nat) (ht : P.underlying t = some (.slice e)) (hi : P.info? e = some i) (hz : i.zero = some z)
    (hsize : i.size = 1) (hby : i.bytes = bytes) (hzs : z.cells.size = 1)
    (v : Value) (n : Nat) (xs : List Value) (hs : a.eval s = v) (hown : w.ownsRow B e 1 v n xs) (y : Value) (m : Nat) (ys : List Value) (hx : a.eval x = y)
    (hsl : Sl w 1 y m ys) (h1 : ∀ u ∈ ys, u.oneCell' = true) (hm : n + m ≤ maxLen) (hb : (n + m) * bytes ≤ 140737488355328) (hbase : B ≤ w.heap.size)
    (h : ∀ v' w', w'.ownsRow B e 1 v' (n + m) (xs ++ ys) → Below w0.heap.size w0 w' → K (a.put o.dst v') w') :
    Oper.wp P o a w K Q := by
  have := step_append_sl0 (P := P) w (ops := #[]) (o := o) (a := a) (K := K) (Q := Q) (E := True) hgd s x t ho w0 B hB0 hb0 e i z bytes ht hi hz hsize hby hzs v n xs hs hown y m ys hx hsl h1 hm hb hbase (fun v' w' h1 h2 _ _ => h v' w' h1 h2)
  rwa [if_pos (by simp [Region.wanted, hgd])] at this
theorem fin20 {w15 : World} {B t : Nat} {v : Value} {p q wa : List UInt8} (h : w15.ownsRow B 5 1 v (0 + t + (128 - t)) ([] ++ bc p ++ bc q)) (ht : t ≤ 128) (hw : p ++ q = wa) :
    ∃ xu cu, v = .slice xu 128 cu ∧ Sl w15 1 (.slice xu 128 cu) 128 (bc wa) := by
  have hl : 0 + t + (128 - t) = 128 := by omega
  rw [List.nil_append, ← bc_app, hw, hl] at h
  have hs := Sl.of_own h
  obtain ⟨xu, cu, rfl⟩ := hs.form
  exact ⟨xu, cu, rfl, hs⟩
/-- n & 7 -/
theorem and7 (n : Int) : ∃ k : Nat, k ≤ 7 ∧ bits BinOp.and IntKind.i64 n 7 = (k : Int) := by
  have h2 : (BitVec.ofInt 64 n &&& BitVec.ofInt 64 7).toNat ≤ 7 := by
    rw [BitVec.toNat_and]
    exact Nat.and_le_right
  refine ⟨_, h2, ?_⟩
  show IntKind.i64.wrap ((BitVec.ofInt 64 n &&& BitVec.ofInt 64 7).toNat : Int) = _
  rw [IntKind.wrap_i64]
  omega
end Go.Proofs.Ytekmdaphkgkgaaa
