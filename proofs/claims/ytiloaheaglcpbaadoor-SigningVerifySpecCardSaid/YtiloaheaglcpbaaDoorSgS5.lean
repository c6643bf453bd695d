/- SHA-256: padding. -/
import Derived.Test.YtiloaheaglcpbaaDoorSgS4
namespace Go.Proofs.YtiloaheaglcpbaaDoor
open Go.RowKit

/-- one byte appended to a row of the call's own -/
theorem wpList_append_byte {ops : Array Oper} {rest : List Oper} {o : Oper} {a : Act} {Q : Exit → Act → World → Prop} (hgd : o.guard = none) (s x : Operand)
    (ho : o.op = .call { callee := .builtin .append, args := #[s, x], argTypes := #[22, 22] }) (w0 : World) (B n : Nat) (v : Value) (l : List UInt8) (c : UInt8) (b : Int) (hb : b = (c.toNat : Int))
    (hs : a.eval s = v) (hown : w0.ownsRow B 5 1 v n (bc l)) (hx : a.eval x = .slice (some ⟨w0.heap.size, 0, none⟩) 1 1) (hn : n + 1 ≤ 1000000000) (hB : B ≤ w0.heap.size)
    (h : ∀ g cap w', w'.ownsRow B 5 1 (.slice (some ⟨g, 0, none⟩) (n + 1) cap) (n + 1) (bc (l ++ [c])) → Below B w0 w' → wpList Tryd.prog ops Q rest (a.put o.dst (.slice (some ⟨g, 0, none⟩) (n + 1) cap)) w') :
    wpList Tryd.prog ops Q (o :: rest) a (w0.alloc (.cells #[.int .u8 b] 5)) := by
  obtain ⟨iu, hiu, hu0, hu1, hu2⟩ := info_parts infoU8
  subst hb
  refine wpList_append_sl _ hgd s x 22 ho B 5 iu _ 1 Tryd.underlying22 hiu hu0 hu1 hu2 rfl v n (bc l) hs (hown.alloc _) _ 1 (bc [c]) hx ((Blk.new w0 5 #[.int .u8 (c.toNat : Int)]).sl rfl rfl) (bc_one _) (by unfold maxLen; omega) (by omega) (by simp; omega) ?_
  intro v' w' hown' hg
  rw [← bc_app] at hown'
  obtain ⟨g, cap, rfl, _, _⟩ := hown'.form (by omega)
  exact h g cap w' hown' (((Below.refl B w0).alloc hB _).grown hg (by simp; omega) (fun k hk => by have := (hown.lt k hk).1; omega))

theorem padN_step (m j : Nat) : (m + 1 + j) % 64 = 56 ↔ ∃ q, j = padN m + 64 * q := by
  unfold padN
  constructor
  · intro h
    exact ⟨(j - (119 - m % 64) % 64) / 64, by omega⟩
  · rintro ⟨q, rfl⟩
    omega
theorem lenB_byte (n i : Nat) : (n : Int) * 8 / 2 ^ (56 - 8 * i) % 256 = ((UInt8.ofNat (n * 8 / 2 ^ (56 - 8 * i))).toNat : Int) := by
  rw [UInt8.toNat_ofNat']
  simp only [Int.natCast_emod, Int.natCast_ediv, Int.natCast_mul, Int.natCast_pow]
  rfl
theorem lenB_take (n i : Nat) (h : i < 8) : (lenB n).take (i + 1) = (lenB n).take i ++ [UInt8.ofNat (n * 8 / 2 ^ (56 - 8 * i))] := by
  rw [List.take_succ_eq_append_getElem (by simpa [lenB] using h)]
  simp [lenB]
def ownV (v : Value) : Nat := match v with | .slice _ n _ => n | _ => 0
set_option maxRecDepth 100000 in
theorem padding_any (r : List UInt8) (m : Nat) (hr : r.length = m) (hm : m < 64) (v : Value) (n : Nat) (hn : n ≤ 1000000000000) (w : World) (hv : Sl w 1 v m (bc r)) :
    Calls Tryd.prog 63 #[v, .int .i64 (n : Int)] w fun e w' =>
      ∃ g cap, e = .returned (.slice (some ⟨g, 0, none⟩) (padL r n).length cap) ∧ Sl w' 1 (.slice (some ⟨g, 0, none⟩) (padL r n).length cap) (padL r n).length (bc (padL r n)) ∧ w.heap.size ≤ g ∧ Below w.heap.size w w' := by
  obtain ⟨a, cap, rfl⟩ := hv.form
  obtain ⟨iu, hiu, hu0, hu1, hu2⟩ := info_parts infoU8
  have HV := Lib.hid hv
  have Hr := Lib.hid hr
  clear hv hr
  go_enter Tryd.func63, Tryd.ntmps63
  go_wp2_with (at_builtin; refine wpList_append_sl _ rfl (.tmp 6) (.tmp 7) 22 rfl w.heap.size 5 iu _ 1 Tryd.underlying22 hiu hu0 hu1 hu2 rfl (.slice none 0 0) 0 [] rfl (World.ownsRow_nil _ _ _ _) (.slice a m cap) m (bc r) rfl HV.out (bc_one _) (by unfold maxLen; omega) (by omega) (Nat.le_refl _) ?_)
  intro v1 w1 hown1 hg1
  obtain ⟨a1, c1, rfl⟩ := (Sl.of_own hown1).form
  have hb1 : Below w.heap.size w w1 := (Below.refl _ w).grown hg1 (Nat.le_refl _) (fun k hk => by simp [Value.ownBlock] at hk)
  have Hown1 := Lib.hid hown1
  have Hb1 := Lib.hid hb1
  clear hown1 hg1 hb1
  go_wp2_with (at_builtin; refine wpList_append_byte rfl (.tmp 9) (.tmp 10) rfl w1 w.heap.size m _ r 128 _ rfl rfl Hown1.out rfl (by omega) Hb1.out.size ?_; intro g2 c2 w2 hown2 hb2)
  have Hown2 := Lib.hid hown2
  have Hb2 := Lib.hid (Hb1.out.trans hb2)
  clear hown2 hb2
  go_loopw [4] (fun v wr => ∃ (j : Nat) (g c : Nat), j ≤ padN m ∧ v = .slice (some ⟨g, 0, none⟩) (m + 1 + j) c ∧ wr.ownsRow w.heap.size 5 1 v (m + 1 + j) (bc (r ++ [128] ++ List.replicate j 0)) ∧ Below w.heap.size w wr) (fun v _ => 200 - ownV v)
  case atStart => exact ⟨0, g2, c2, by omega, rfl, by simpa using Hown2.out, Hb2.out⟩
  case round =>
    clear Hown1 Hown2 Hb1 Hb2
    obtain ⟨j, g, c, hj, rfl, hown, hb⟩ := hrel
    have Hown := Lib.hid hown
    have Hb := Lib.hid hb
    clear hown hb
    have hp : padN m < 64 := Nat.mod_lt _ (by omega)
    by_cases h56 : (m + 1 + j) % 64 = 56
    · have hjp : j = padN m := by
        obtain ⟨q, hq⟩ := (padN_step m j).1 h56
        omega
      have t1 : (((m : Int) + 1 + (j : Int)) % 64 != 56) = false := by simp; omega
      have t2 : (((m + 1 + j : Nat) : Int) % 64 != 56) = false := by simp; omega
      have t3 : (((m : Int) + 1 + (j : Int)) % 64 == 56) = true := by simp; omega
      go_wp2_with fail
      subst hjp
      obtain ⟨b15, hb15⟩ : ∃ b, (((m : Int) + 1 + (padN m : Int)) % 64 != 56) = b := ⟨_, rfl⟩
      rw [hb15]
      clear hb15
      obtain ⟨base, hbase⟩ : ∃ base, r ++ [128] ++ List.replicate (padN m) 0 = base := ⟨_, rfl⟩
      rw [hbase] at Hown
      have Hbase := Lib.hid hbase
      obtain ⟨q, hq⟩ : ∃ q, m + 1 + padN m = q := ⟨_, rfl⟩
      have Hq := Lib.hid hq
      rw [hq] at Hown ⊢
      have hq2 : q < 200 := by omega
      obtain ⟨wx, hwx⟩ : ∃ wx, wr = wx := ⟨_, rfl⟩
      rw [hwx] at Hown Hb ⊢
      clear hbase hq hwx t1 t2 t3 h56 hj
      go_loopw [4, 5] (fun v sh wr => ∃ (i g c : Nat), i ≤ 8 ∧ sh = .int .i64 (56 - 8 * (i : Int)) ∧ v = .slice (some ⟨g, 0, none⟩) (q + i) c ∧ wr.ownsRow w.heap.size 5 1 v (q + i) (bc (base ++ (lenB n).take i)) ∧ Below w.heap.size w wr) (fun v _ _ => 300 - ownV v)
      case atStart => exact ⟨0, g, c, by omega, rfl, rfl, by simpa using Hown.out, Hb.out⟩
      case round =>
        clear Hown Hb
        obtain ⟨i, g, c, hi, rfl, rfl, hown, hb⟩ := hrel
        have Hown := Lib.hid hown
        have Hb := Lib.hid hb
        clear hown hb
        by_cases hlt : i < 8
        · have hby := lenB_byte n i
          have Hby := Lib.hid hby
          clear hby
          go_wp2_with (at_builtin; refine wpList_append_byte rfl (.tmp 23) (.tmp 30) rfl wr w.heap.size (q + i) _ (base ++ (lenB n).take i) (UInt8.ofNat (n * 8 / 2 ^ (56 - 8 * i))) _ Hby.out rfl Hown.out rfl (by omega) Hb.out.size ?_; intro g3 c3 w3 hown3 hb3)
          go_roundw
          case rel => exact ⟨i + 1, g3, c3, by omega, by congr 1; omega, rfl, by rw [lenB_take n i hlt, ← List.append_assoc]; exact hown3, Hb.out.trans hb3⟩
          case measure => simp [ownV]; omega
        · have hi8 : i = 8 := by omega
          subst hi8
          have hall := Hown.out
          have hpl : padL r n = base ++ lenB n := by rw [padL, Hr.out, ← Hbase.out]
          have hln : (padL r n).length = q + 8 := by
            rw [hpl, ← Hbase.out, ← Hq.out]
            simp [lenB, Hr.out]
            omega
          rw [List.take_of_length_le (by simp [lenB]), ← hpl] at hall
          have Hall := Lib.hid hall
          have Hln := Lib.hid hln
          clear hall hpl hln
          go_wp2_with fail
          go_ret
          have hgb : w.heap.size ≤ g := by
            obtain ⟨g', c', he, hge, _⟩ := Hown.out.form (by omega)
            cases he
            exact hge
          refine ⟨g, c, ?_, ?_, hgb, Hb.out⟩
          · rw [Hln.out]; rfl
          · rw [Hln.out]; exact Sl.of_own Hall.out
    · have hne : j ≠ padN m := fun e => h56 ((padN_step m j).2 ⟨0, by omega⟩)
      have t1 : ¬ ((m + 1 + j : Nat) : Int) % 64 = 56 := by omega
      go_wp2_with (at_builtin; refine wpList_append_byte rfl (.tmp 16) (.tmp 17) rfl wr w.heap.size (m + 1 + j) _ (r ++ [128] ++ List.replicate j 0) 0 _ rfl rfl Hown.out rfl (by omega) Hb.out.size ?_; intro g3 c3 w3 hown3 hb3)
      go_roundw
      case rel => exact ⟨j + 1, g3, c3, by omega, rfl, by rw [List.replicate_succ', ← List.append_assoc]; exact hown3, Hb.out.trans hb3⟩
      case measure => simp [ownV]; omega
end Go.Proofs.YtiloaheaglcpbaaDoor
