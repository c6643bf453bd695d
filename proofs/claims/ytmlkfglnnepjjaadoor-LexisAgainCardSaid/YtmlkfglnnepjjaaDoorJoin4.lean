/- Layer 1: the reference's Join. -/
import Derived.Test.YtmlkfglnnepjjaaDoorJoin2
import Derived.Test.YtmlkfglnnepjjaaDoorApp
import Derived.Lib.AppendStr
namespace Go.Proofs.YtmlkfglnnepjjaaDoor
open Go.RowKit

/-- the first texts, joined by spaces -/
def jn (ts : List Tk) : Nat → List UInt8
  | 0 => []
  | j + 1 => (jn ts j ++ if j = 0 then [] else [32]) ++ tx (tA ts j).2.1
theorem jn_mono (ts : List Tk) {a b : Nat} (h : a ≤ b) : (jn ts a).length ≤ (jn ts b).length := by
  induction b with
  | zero => have : a = 0 := by omega
            subst this; exact Nat.le_refl _
  | succ b ih =>
    rcases Nat.lt_or_ge a (b + 1) with h' | h'
    · have := ih (by omega)
      simp only [jn, List.length_append]; omega
    · have : a = b + 1 := by omega
      subst this; exact Nat.le_refl _
def JOk (ok : Tk → Bool) (ts : List Tk) : Prop := 0 < ts.length ∧ (tA ts (ts.length - 1)).1 = 4 ∧ (tA ts (ts.length - 1)).2.1.toList = [] ∧ ∀ q, q < ts.length - 1 → ok (tA ts q) = true
def JoinOut (ok : Tk → Bool) (ts : List Tk) (w : World) (e : Ending) (w' : World) : Prop :=
  Below w.heap.size w w' ∧ ((¬ JOk ok ts ∧ e = .returned (.tuple #[.slice none 0 0, .int .i64 1])) ∨ (JOk ok ts ∧ 65536 < (jn ts (ts.length - 1)).length ∧ e = .returned (.tuple #[.slice none 0 0, .int .i64 2])) ∨
    (JOk ok ts ∧ (jn ts (ts.length - 1)).length ≤ 65536 ∧ ∃ v, e = .returned (.tuple #[v, .int .i64 0]) ∧ Sl w' 1 v (jn ts (ts.length - 1)).length (bc (jn ts (ts.length - 1)))))
theorem bc_app (a b : List UInt8) : bc (a ++ b) = bc a ++ bc b := by simp [bc]
theorem strCells_bc (s : ByteArray) : Lib.strCells s = bc (tx s) := by
  first | rfl | simp [Lib.strCells, bc]

set_option maxRecDepth 100000 in
set_option maxHeartbeats 2000000 in
theorem refJoin_any (ts : List Tk) (v : Value) (w : World) (hv : Sl w 3 v ts.length (tkcs ts)) (hn : ts.length ≤ 1000000) (hS : ∀ j, j < ts.length → (tA ts j).2.1.size ≤ 1000000) (hL : (jn ts (ts.length - 1)).length ≤ 1000000) :
    Calls Tryd.prog 20 #[v] w fun e w' => JoinOut vld ts w e w' := by
  obtain ⟨i0, hi0, hz0, hz1, hz2⟩ := info_parts infoByte
  obtain ⟨a, cap, rfl⟩ := hv.form
  by_cases hp : 0 < ts.length
  case neg =>
    have h0 : ts.length = 0 := by omega
    have hno : ¬ JOk vld ts := fun h => hp h.1
    have HN := Lib.hid hno
    rw [h0]
    clear hp hno hv hn hS hL
    go_enter Tryd.func20, Tryd.ntmps20
    go_wp2_with fail
    go_ret2
    exact ⟨Below.refl _ _, .inl ⟨HN.out, rfl⟩⟩
  obtain ⟨g, off, rfl, hcap, hc⟩ := hv.toks hp
  obtain ⟨n, hnn⟩ : ∃ n, ts.length = n + 1 := ⟨ts.length - 1, by omega⟩
  have hJO : ∀ e w', (Below w.heap.size w w' ∧ ((¬ JOk vld ts ∧ e = .returned (.tuple #[.slice none 0 0, .int .i64 1])) ∨ (JOk vld ts ∧ 65536 < (jn ts n).length ∧ e = .returned (.tuple #[.slice none 0 0, .int .i64 2])) ∨
    (JOk vld ts ∧ (jn ts n).length ≤ 65536 ∧ ∃ v, e = .returned (.tuple #[v, .int .i64 0]) ∧ Sl w' 1 v (jn ts n).length (bc (jn ts n))))) → JoinOut vld ts w e w' := fun e w' h => by
      unfold JoinOut
      rw [show ts.length - 1 = n by omega]
      exact h
  have hok : JOk vld ts ↔ ((tA ts n).1 = 4 ∧ (tA ts n).2.1.toList = [] ∧ ∀ q, q < n → vld (tA ts q) = true) := by
    unfold JOk
    rw [show ts.length - 1 = n by omega]
    exact ⟨fun h => h.2, fun h => ⟨hp, h⟩⟩
  rw [show ts.length - 1 = n by omega] at hL
  rw [hnn] at hcap hc hn hS
  rw [hnn]
  have HN := Lib.hid hnn
  have HJO := Lib.hid hJO
  clear hv hp hnn hJO
  obtain ⟨c0, c1, c2⟩ := hc n (by omega)
  obtain ⟨kd, s, p, hlast⟩ : ∃ kd s p, tA ts n = (kd, s, p) := ⟨_, _, _, rfl⟩
  rw [hlast] at hok c0 c1 c2
  simp only [] at hok c0 c1 c2
  have HC := Lib.hid hc
  have HSz := Lib.hid hS
  have HL := Lib.hid hL
  have HOk := Lib.hid hok
  clear hc hS hL hok hlast
  by_cases hk : kd = 4
  case neg =>
    have b1 : (kd != 4) = true := by simp [hk]
    have HK := Lib.hid hk
    clear hk
    go_enter Tryd.func20, Tryd.ntmps20
    go_wp2_with fail
    go_ret2
    exact HJO.out _ _ ⟨Below.refl _ _, .inl ⟨fun h => HK.out (HOk.out.1 h).1, rfl⟩⟩
  subst hk
  by_cases hs : s.toList = []
  case neg =>
    have b1 : (s.toList != []) = true := by simp [hs]
    have b2 : (s.toList == []) = false := by simp [hs]
    have HK := Lib.hid hs
    clear hs
    go_enter Tryd.func20, Tryd.ntmps20
    go_wp2_with fail
    go_ret2
    exact HJO.out _ _ ⟨Below.refl _ _, .inl ⟨fun h => HK.out (HOk.out.1 h).2.1, rfl⟩⟩
  have b1 : (s.toList != []) = false := by simp [hs]
  have b2 : (s.toList == []) = true := by simp [hs]
  have HK := Lib.hid hs
  clear hs
  go_enter Tryd.func20, Tryd.ntmps20
  go_wp2_with fail
  clear b1 b2 c0 c1 c2
  go_loopw [5, 6] (fun b i wr => ∃ j : Nat, j ≤ n ∧ (∀ q, q < j → vld (tA ts q) = true) ∧ i = .int .i64 j ∧ wr.ownsRow w.heap.size 5 1 b (jn ts j).length (bc (jn ts j)) ∧ Below w.heap.size w wr) (fun _ i _ => n - (intOf i).toNat)
  case atStart => exact ⟨0, Nat.zero_le _, fun q h => by omega, rfl, World.ownsRow_nil _ _ _ _, Below.refl _ _⟩
  case round =>
    obtain ⟨j, hj, hall, rfl, hown, hbw⟩ := hrel
    have Hall := Lib.hid hall
    clear hall
    by_cases hlt : j < n
    · obtain ⟨kd, s, p, htk⟩ : ∃ kd s p, tA ts j = (kd, s, p) := ⟨_, _, _, rfl⟩
      obtain ⟨c0, c1, c2⟩ := HC.out j (by omega)
      have hsz := HSz.out j (by omega)
      rw [htk] at c0 c1 c2 hsz
      simp only [] at c0 c1 c2 hsz
      have hg := World.block_lt_of_cell? w _ c0
      have hcw : ∀ W, Below w.heap.size w W → W.cell? ⟨g, off + j * 3, none⟩ = some (.int .i64 kd) ∧ W.cell? ⟨g, off + j * 3 + 1, none⟩ = some (.string s) ∧ W.cell? ⟨g, off + j * 3 + 2, none⟩ = some (.int .i64 p) := fun W hW => by
        rw [hW.cell (p := ⟨g, off + j * 3, none⟩) hg, hW.cell (p := ⟨g, off + j * 3 + 1, none⟩) hg, hW.cell (p := ⟨g, off + j * 3 + 2, none⟩) hg]
        exact ⟨c0, c1, c2⟩
      have HCW := Lib.hid hcw
      obtain ⟨d0, d1, d2⟩ := hcw wr hbw
      have Htk := Lib.hid htk
      have hjl : (jn ts (j + 1)).length ≤ 1000000 := Nat.le_trans (jn_mono ts (by omega)) HL.out
      have hjn : jn ts (j + 1) = (jn ts j ++ if j = 0 then [] else [32]) ++ tx s := by rw [jn, htk]
      clear hcw c0 c1 c2 htk hg
      obtain ⟨bv, hbv⟩ : ∃ b, vld (kd, s, p) = b := ⟨_, rfl⟩
      have HV := fun W => valid_any kd s p W (by omega)
      rw [hbv] at HV
      have HV2 := Lib.hid HV
      have Hbv := Lib.hid hbv
      clear HV hbv
      cases bv
      · go_wp2_with fail
        refine (HV2.out _).mono ?_
        rintro e w2 ⟨rfl, hb2⟩
        go_wp2_with fail
        go_ret2
        refine HJO.out _ _ ⟨hbw.trans (hb2.mono hbw.size), .inl ⟨fun h => ?_, rfl⟩⟩
        have h2 := (HOk.out.1 h).2.2 j hlt
        rw [Htk.out, Hbv.out] at h2
        cases h2
      · by_cases hj0 : j = 0
        · subst hj0
          have hjn0 : jn ts (0 + 1) = tx s := by rw [hjn]; simp [jn]
          have hown0 : wr.ownsRow w.heap.size 5 1 u5 0 [] := by simpa [jn, bc] using hown
          have HJ := Lib.hid hjn0
          clear hjn hjn0 hjl hown
          simp only [Nat.zero_mul, Nat.add_zero] at d0 d1 d2
          go_wp2_with fail
          refine (HV2.out _).mono ?_
          rintro e w2 ⟨rfl, hb2⟩
          obtain ⟨d0', d1', d2'⟩ := HCW.out w2 (hbw.trans (hb2.mono hbw.size))
          simp only [Nat.zero_mul, Nat.add_zero] at d0' d1' d2'
          have hown2 := (Upd.of_below hb2).own hown0 (fun k hk => by have := (hown0.lt k hk).2; omega)
          have hbw2 := hbw.trans (hb2.mono hbw.size)
          clear hown0 hb2
          go_wp2_with (first | (at_builtin; refine Lib.wpList_append_own_string _ rfl (.tmp 44) (.tmp 49) 22 9 rfl w.heap.size 5 _ Tryd.underlying22 Tryd.underlying9 hi0 hz0 hz1 hz2 _ 0 [] rfl hown2 s rfl ?h1 ?h2 ?h3 ?_))
          case h1 => simp only [Nat.zero_add]; unfold maxLen; omega
          case h2 => omega
          case h3 => exact hbw2.size
          intro v3 w3 hown3 hgr3 _
          have hbw3 := hbw2.grown hgr3 hbw2.size (fun k hk => (hown2.lt k hk).1)
          clear hgr3 hown2 hbw2
          go_wp2_with fail
          go_roundw
          case rel =>
            refine ⟨1, by omega, fun q hq => ?_, by go_num, ?_, hbw3⟩
            · have he : q = 0 := by omega
              rw [he, Htk.out, Hbv.out]
            · have hj := HJ.out
              simp only [Nat.zero_add] at hj hown3
              rw [hj, tx_len, ← strCells_bc]
              simpa using hown3
          case measure => simp [intOf]; omega
        · have hjn0 : jn ts (j + 1) = (jn ts j ++ [32]) ++ tx s := by rw [hjn, if_neg hj0]
          have hlen : (jn ts j).length + 1 + s.size ≤ 1000000 := by rw [hjn0] at hjl; simp only [List.length_append, tx_len, List.length_cons, List.length_nil] at hjl; omega
          have f0 : decide ((0 : Int) < (j : Int)) = true := decide_eq_true (by omega)
          have HJ := Lib.hid hjn0
          obtain ⟨l1, hl1⟩ : ∃ l1, jn ts j = l1 := ⟨_, rfl⟩
          rw [hl1] at hlen hown
          have HL1 := Lib.hid hl1
          clear hjn hjn0 hjl hl1
          go_wp2_with fail
          refine (HV2.out _).mono ?_
          rintro e w2 ⟨rfl, hb2⟩
          have hown2 := (Upd.of_below hb2).own hown (fun k hk => by have := (hown.lt k hk).2; omega)
          have hbw2 := hbw.trans (hb2.mono hbw.size)
          have hsz2 := hbw2.size
          clear hown hb2
          go_wp2_with (first | (at_builtin; refine wpList_append_bytes _ rfl (.tmp 41) (.tmp 42) rfl w.heap.size _ l1.length (bc l1) rfl (hown2.alloc _) (some ⟨w2.heap.size, 0, none⟩) [32] 1 1 rfl rfl (sl_lit w2 [.int .u8 32] 5) ?h1 ?h2 ?_))
          case h1 => simp only [List.length_cons, List.length_nil]; omega
          case h2 => simp; omega
          intro v4 w4 hown4 hgr4
          have hbw4 := (hbw2.alloc hsz2 _).grown hgr4 (by simp; omega) (fun k hk => (hown2.lt k hk).1)
          obtain ⟨d0', d1', d2'⟩ := HCW.out w4 hbw4
          have ho4 : w4.ownsRow w.heap.size 5 1 v4 (l1.length + 1) (bc (l1 ++ [32])) := by
            rw [bc_app]; exact hown4
          clear hgr4 hown4 hown2 hbw2
          go_wp2_with (first | (at_builtin; refine Lib.wpList_append_own_string _ rfl (.tmp 44) (.tmp 49) 22 9 rfl w.heap.size 5 _ Tryd.underlying22 Tryd.underlying9 hi0 hz0 hz1 hz2 _ (l1.length + 1) (bc (l1 ++ [32])) rfl ho4 s rfl ?h1 ?h2 ?h3 ?_))
          case h1 => unfold maxLen; omega
          case h2 => omega
          case h3 => exact hbw4.size
          intro v3 w3 hown3 hgr3 _
          have hbw3 := hbw4.grown hgr3 hbw4.size (fun k hk => (ho4.lt k hk).1)
          clear hgr3 ho4 hbw4
          go_wp2_with fail
          go_roundw
          case rel =>
            refine ⟨j + 1, by omega, fun q hq => ?_, by go_num, ?_, hbw3⟩
            · rcases Nat.lt_or_ge q j with h | h
              · exact Hall.out q h
              · have he : q = j := by omega
                rw [he, Htk.out, Hbv.out]
            · rw [HJ.out, HL1.out, bc_app, ← strCells_bc, List.length_append, List.length_append, tx_len]
              exact hown3
          case measure => simp [intOf]; omega
    · have hjn : j = n := by omega
      subst hjn
      obtain ⟨L, hLL⟩ : ∃ L, (jn ts j).length = L := ⟨_, rfl⟩
      have hsl := Sl.of_own hown
      rw [hLL] at hsl
      obtain ⟨ab, cb, rfl⟩ := hsl.form
      have HLL := Lib.hid hLL
      have HS := Lib.hid hsl
      clear hown hLL hsl
      by_cases hbig : 65536 < L
      · have f0 : decide ((65536 : Int) < (L : Int)) = true := decide_eq_true (by omega)
        go_wp2_with fail
        go_ret2
        exact HJO.out _ _ ⟨hbw, .inr (.inl ⟨HOk.out.2 ⟨trivial, HK.out, Hall.out⟩, by rw [HLL.out]; exact hbig, rfl⟩)⟩
      · have f0 : decide ((65536 : Int) < (L : Int)) = false := decide_eq_false (by omega)
        go_wp2_with fail
        go_ret2
        exact HJO.out _ _ ⟨hbw, .inr (.inr ⟨HOk.out.2 ⟨trivial, HK.out, Hall.out⟩, by rw [HLL.out]; omega, _, rfl, by rw [HLL.out]; exact HS.out⟩)⟩
end Go.Proofs.YtmlkfglnnepjjaaDoor
