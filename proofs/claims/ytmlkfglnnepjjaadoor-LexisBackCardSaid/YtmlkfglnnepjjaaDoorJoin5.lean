/- Layer 1: lexis.Join. -/
import Derived.Test.YtmlkfglnnepjjaaDoorJoin4
import Derived.Laws.MakeOwn
namespace Go.Proofs.YtmlkfglnnepjjaaDoor
open Go.RowKit

/-- the bytes of the first texts -/
def ssz (ts : List Tk) : Nat → Nat
  | 0 => 0
  | j + 1 => ssz ts j + (tA ts j).2.1.size
theorem jn_len (ts : List Tk) (j : Nat) : (jn ts j).length = (j - 1) + ssz ts j := by
  induction j with
  | zero => simp [jn, ssz]
  | succ j ih =>
    simp only [jn, ssz, List.length_append, ih, tx_len]
    split
    · rename_i h; subst h; simp
    · simp only [List.length_cons, List.length_nil]; omega
theorem ssz_mono (ts : List Tk) {a b : Nat} (h : a ≤ b) : ssz ts a ≤ ssz ts b := by
  induction b with
  | zero => have : a = 0 := by omega
            subst this; exact Nat.le_refl _
  | succ b ih =>
    rcases Nat.lt_or_ge a (b + 1) with h' | h'
    · have := ih (by omega)
      simp only [ssz]; omega
    · have : a = b + 1 := by omega
      subst this; exact Nat.le_refl _

set_option maxRecDepth 100000 in
set_option maxHeartbeats 2000000 in
theorem join_any (ts : List Tk) (v : Value) (w : World) (hv : Sl w 3 v ts.length (tkcs ts)) (hn : ts.length ≤ 1000000) (hS : ∀ j, j < ts.length → (tA ts j).2.1.size ≤ 1000000) (hL : (jn ts (ts.length - 1)).length ≤ 1000000) (hT : TabW w) :
    Calls Tryd.prog 19 #[v] w fun e w' => JoinOut tkOk ts w e w' := by
  obtain ⟨i0, hi0, hz0, hz1, hz2⟩ := info_parts infoByte
  have hTw := TabW_lt hT
  obtain ⟨a, cap, rfl⟩ := hv.form
  by_cases hp : 0 < ts.length
  case neg =>
    have h0 : ts.length = 0 := by omega
    have hno : ¬ JOk tkOk ts := fun h => hp h.1
    have HN := Lib.hid hno
    rw [h0]
    clear hp hno hv hn hS hL
    go_enter Tryd.func19, Tryd.ntmps19
    go_wp2_with fail
    go_ret2
    exact ⟨Below.refl _ _, .inl ⟨HN.out, rfl⟩⟩
  obtain ⟨g, off, rfl, hcap, hc⟩ := hv.toks hp
  obtain ⟨n, hnn⟩ : ∃ n, ts.length = n + 1 := ⟨ts.length - 1, by omega⟩
  have hJO : ∀ e w', (Below w.heap.size w w' ∧ ((¬ JOk tkOk ts ∧ e = .returned (.tuple #[.slice none 0 0, .int .i64 1])) ∨ (JOk tkOk ts ∧ 65536 < (jn ts n).length ∧ e = .returned (.tuple #[.slice none 0 0, .int .i64 2])) ∨
    (JOk tkOk ts ∧ (jn ts n).length ≤ 65536 ∧ ∃ v, e = .returned (.tuple #[v, .int .i64 0]) ∧ Sl w' 1 v (jn ts n).length (bc (jn ts n))))) → JoinOut tkOk ts w e w' := fun e w' h => by
      unfold JoinOut
      rw [show ts.length - 1 = n by omega]
      exact h
  have hok : JOk tkOk ts ↔ ((tA ts n).1 = 4 ∧ (tA ts n).2.1.toList = [] ∧ ∀ q, q < n → tkOk (tA ts q) = true) := by
    unfold JOk
    rw [show ts.length - 1 = n by omega]
    exact ⟨fun h => h.2, fun h => ⟨hp, h⟩⟩
  rw [show ts.length - 1 = n by omega] at hL
  rw [hnn] at hcap hc hn hS
  rw [hnn]
  have HN := Lib.hid hnn
  have HJO := Lib.hid hJO
  clear hv hp hnn hJO
  obtain ⟨c0, c1, c2⟩ := hc n (by omega)
  obtain ⟨kd, s, p, hlast⟩ : ∃ kd s p, tA ts n = (kd, s, p) := ⟨_, _, _, rfl⟩
  rw [hlast] at hok c0 c1 c2
  simp only [] at hok c0 c1 c2
  have HC := Lib.hid hc
  have HSz := Lib.hid hS
  have HL := Lib.hid hL
  have HOk := Lib.hid hok
  clear hc hS hL hok hlast
  by_cases hk : kd = 4
  case neg =>
    have b1 : (kd != 4) = true := by simp [hk]
    have HK := Lib.hid hk
    clear hk
    go_enter Tryd.func19, Tryd.ntmps19
    go_wp2_with fail
    go_ret2
    exact HJO.out _ _ ⟨Below.refl _ _, .inl ⟨fun h => HK.out (HOk.out.1 h).1, rfl⟩⟩
  subst hk
  by_cases hs : s.toList = []
  case neg =>
    have b1 : (s.toList != []) = true := by simp [hs]
    have b2 : (s.toList == []) = false := by simp [hs]
    have HK := Lib.hid hs
    clear hs
    go_enter Tryd.func19, Tryd.ntmps19
    go_wp2_with fail
    go_ret2
    exact HJO.out _ _ ⟨Below.refl _ _, .inl ⟨fun h => HK.out (HOk.out.1 h).2.1, rfl⟩⟩
  have b1 : (s.toList != []) = false := by simp [hs]
  have b2 : (s.toList == []) = true := by simp [hs]
  have HK := Lib.hid hs
  clear hs
  have hLn := jn_len ts n
  have hLn2 := HL.out
  have s1 : IntKind.i64.wrap ((n : Int) - 1) = (n : Int) - 1 := IntWalk.i64_in _ (by omega)
  by_cases hn1 : 1 < n
  case neg =>
    have m1 : ¬ (0 : Int) < (n : Int) - 1 := by omega
    go_enter Tryd.func19, Tryd.ntmps19
    go_wp2_with fail
    clear b1 b2 c0 c1 c2
    try clear b1
    try clear b2
    try clear c0
    try clear c1
    try clear c2
    try clear s1
    try clear s1
    go_loopw [38, 5] (fun i sz wr => ∃ j A : Nat, j ≤ n ∧ (∀ q, q < j → tkOk (tA ts q) = true) ∧ i = .int .i64 j ∧ A = n - 1 + ssz ts j ∧ sz = .int .i64 (A : Int) ∧ Below w.heap.size w wr) (fun i _ _ => n - (intOf i).toNat)
    case atStart => exact ⟨0, n - 1, Nat.zero_le _, fun q h => by omega, rfl, rfl, by congr 1; omega, Below.refl _ _⟩
    case round =>
      clear m1 hn1
      obtain ⟨j, A, hj, hall, rfl, hA, rfl, hbw⟩ := hrel
      have Hall := Lib.hid hall
      clear hall
      by_cases hlt : j < n
      · obtain ⟨kd, s, p, htk⟩ : ∃ kd s p, tA ts j = (kd, s, p) := ⟨_, _, _, rfl⟩
        obtain ⟨c0, c1, c2⟩ := HC.out j (by omega)
        have hsz := HSz.out j (by omega)
        rw [htk] at c0 c1 c2 hsz
        simp only [] at c0 c1 c2 hsz
        have hg := World.block_lt_of_cell? w _ c0
        have hcw : ∀ W, Below w.heap.size w W → W.cell? ⟨g, off + j * 3, none⟩ = some (.int .i64 kd) ∧ W.cell? ⟨g, off + j * 3 + 1, none⟩ = some (.string s) ∧ W.cell? ⟨g, off + j * 3 + 2, none⟩ = some (.int .i64 p) := fun W hW => by
          rw [hW.cell (p := ⟨g, off + j * 3, none⟩) hg, hW.cell (p := ⟨g, off + j * 3 + 1, none⟩) hg, hW.cell (p := ⟨g, off + j * 3 + 2, none⟩) hg]
          exact ⟨c0, c1, c2⟩
        obtain ⟨d0, d1, d2⟩ := hcw wr hbw
        have Htk := Lib.hid htk
        have hA2 : n - 1 + ssz ts (j + 1) = A + s.size := by rw [ssz, htk, hA]; simp only []; omega
        have hA3 : A + s.size ≤ 1000000 := by
          have := ssz_mono ts (a := j + 1) (b := n) (by omega)
          omega
        have HA := Lib.hid hA
        have HA2 := Lib.hid hA2
        clear hcw c0 c1 c2 htk hg hA hA2
        obtain ⟨bv, hbv⟩ : ∃ b, tkOk (kd, s, p) = b := ⟨_, rfl⟩
        have HV := fun W (h : Below w.heap.size w W) => isToken_any kd s p W (by omega) (TabW_below h hTw hT)
        rw [hbv] at HV
        have HV2 := Lib.hid HV
        have Hbv := Lib.hid hbv
        clear HV hbv
        have hbA := hbw.alloc hbw.size (.cells #[.int .i64 kd, .string s, .int .i64 p] 35)
        cases bv
        · go_wp2_with fail
          refine (HV2.out _ hbA).mono ?_
          rintro e w2 ⟨rfl, hb2⟩
          go_wp2_with fail
          go_ret2
          refine HJO.out _ _ ⟨hbA.trans (hb2.mono hbA.size), .inl ⟨fun h => ?_, rfl⟩⟩
          have h2 := (HOk.out.1 h).2.2 j hlt
          rw [Htk.out, Hbv.out] at h2
          cases h2
        · go_wp2_with fail
          refine (HV2.out _ hbA).mono ?_
          rintro e w2 ⟨rfl, hb2⟩
          have e1 : w2.cell? ⟨wr.heap.size, 1, none⟩ = some (.string s) := by
            rw [hb2.cell (p := ⟨wr.heap.size, 1, none⟩) (by simp)]
            simp
          have hbw2 := hbA.trans (hb2.mono hbA.size)
          clear hb2
          go_wp2_with fail
          go_roundw
          case rel =>
            refine ⟨j + 1, A + s.size, by omega, fun q hq => ?_, by go_num, HA2.out.symm, by go_num, hbw2⟩
            rcases Nat.lt_or_ge q j with h | h
            · exact Hall.out q h
            · have he : q = j := by omega
              rw [he, Htk.out, Hbv.out]
          case measure => simp [intOf]; omega
      · have hjn : j = n := by omega
        subst hjn
        rw [← hLn] at hA
        have HA := Lib.hid hA
        have hA6 : A ≤ 1000000 := by omega
        clear hA hLn hLn2 hlt hj
        by_cases hbig : 65536 < A
        · have f0 : decide ((65536 : Int) < (A : Int)) = true := decide_eq_true (by omega)
          go_wp2_with fail
          go_ret2
          exact HJO.out _ _ ⟨hbw, .inr (.inl ⟨HOk.out.2 ⟨trivial, HK.out, Hall.out⟩, by rw [← HA.out]; exact hbig, rfl⟩)⟩
        · have f0 : decide ((65536 : Int) < (A : Int)) = false := decide_eq_false (by omega)
          obtain ⟨w2, hmk, hown, hgr⟩ := run_make_own (P := Tryd.prog) wr w.heap.size 22 5 i0 (.int .u8 0) 1 Tryd.underlying22 hi0 hz0 hz1 .i64 .i64 A (by rw [hz2]; omega) (by unfold maxLen; omega) hbw.size
          have hbw2 := hbw.grown hgr hbw.size (fun k hk => by cases hk)
          clear hgr
          go_wp2_with fail
          clear hmk
          go_loopw [59, 2] (fun i b wr => ∃ q : Nat, q ≤ j ∧ i = .int .i64 q ∧ wr.ownsRow w.heap.size 5 1 b (jn ts q).length (bc (jn ts q)) ∧ Below w.heap.size w wr) (fun i _ _ => j - (intOf i).toNat)
          case atStart => exact ⟨0, Nat.zero_le _, rfl, hown, hbw2⟩
          case round =>
            clear hown hbw2 hbw
            obtain ⟨q, hq, rfl, hown, hbw⟩ := hrel
            by_cases hlt : q < j
            · obtain ⟨kd, s, p, htk⟩ : ∃ kd s p, tA ts q = (kd, s, p) := ⟨_, _, _, rfl⟩
              obtain ⟨c0, c1, c2⟩ := HC.out q (by omega)
              have hsz := HSz.out q (by omega)
              rw [htk] at c0 c1 c2 hsz
              simp only [] at c0 c1 c2 hsz
              have hg := World.block_lt_of_cell? w _ c0
              rw [← hbw.cell (p := ⟨g, off + q * 3, none⟩) hg] at c0
              rw [← hbw.cell (p := ⟨g, off + q * 3 + 1, none⟩) hg] at c1
              rw [← hbw.cell (p := ⟨g, off + q * 3 + 2, none⟩) hg] at c2
              have hjl : (jn ts (q + 1)).length ≤ 1000000 := Nat.le_trans (jn_mono ts (by omega)) HL.out
              have hjn : jn ts (q + 1) = (jn ts q ++ if q = 0 then [] else [32]) ++ tx s := by rw [jn, htk]
              have hbA := hbw.alloc hbw.size (.cells #[.int .i64 kd, .string s, .int .i64 p] 35)
              have hsA := hbA.size
              clear htk hg
              by_cases hj0 : q = 0
              · subst hj0
                have hjn0 : jn ts (0 + 1) = tx s := by rw [hjn]; simp [jn]
                have hown0 : wr.ownsRow w.heap.size 5 1 u2 0 [] := by simpa [jn, bc] using hown
                have HJ := Lib.hid hjn0
                clear hjn hjn0 hjl hown
                simp only [Nat.zero_mul, Nat.add_zero] at c0 c1 c2
                go_wp2_with (first | (at_builtin; refine Lib.wpList_append_own_string _ rfl (.tmp 69) (.tmp 71) 22 9 rfl w.heap.size 5 _ Tryd.underlying22 Tryd.underlying9 hi0 hz0 hz1 hz2 _ 0 [] rfl (hown0.alloc _) s rfl ?h1 ?h2 ?h3 ?_))
                case h1 => simp only [Nat.zero_add]; unfold maxLen; omega
                case h2 => omega
                case h3 => exact hsA
                intro v3 w3 hown3 hgr3 _
                have hbw3 := hbA.grown hgr3 hsA (fun k hk => (hown0.lt k hk).1)
                clear hgr3 hown0 hbA
                go_wp2_with fail
                go_roundw
                case rel =>
                  refine ⟨1, by omega, by go_num, ?_, hbw3⟩
                  have hj := HJ.out
                  simp only [Nat.zero_add] at hj hown3
                  rw [hj, tx_len, ← strCells_bc]
                  simpa using hown3
                case measure => simp [intOf]; omega
              · have hjn0 : jn ts (q + 1) = (jn ts q ++ [32]) ++ tx s := by rw [hjn, if_neg hj0]
                have hlen : (jn ts q).length + 1 + s.size ≤ 1000000 := by rw [hjn0] at hjl; simp only [List.length_append, tx_len, List.length_cons, List.length_nil] at hjl; omega
                have f0 : decide ((0 : Int) < (q : Int)) = true := decide_eq_true (by omega)
                have HJ := Lib.hid hjn0
                obtain ⟨l1, hl1⟩ : ∃ l1, jn ts q = l1 := ⟨_, rfl⟩
                rw [hl1] at hlen hown
                have HL1 := Lib.hid hl1
                clear hjn hjn0 hjl hl1
                have e0 : (wr.alloc (.cells #[.int .i64 kd, .string s, .int .i64 p] 35)).cell? ⟨wr.heap.size, 1, none⟩ = some (.string s) := by
                  simp
                have E0 := Lib.hid e0
                clear e0
                go_wp2_with (first | (at_builtin; refine wpList_append_bytes _ rfl (.tmp 66) (.tmp 67) rfl w.heap.size _ l1.length (bc l1) rfl ((hown.alloc _).alloc _) (some ⟨wr.heap.size + 1, 0, none⟩) [32] 1 1 rfl rfl (sl_lit_at _ [.int .u8 32] 5 (wr.heap.size + 1) (by simp)) ?h1 ?h2 ?_))
                case h1 => simp only [List.length_cons, List.length_nil]; omega
                case h2 => simp at hsA ⊢; omega
                intro v4 w4 hown4 hgr4
                have hbw4 := (hbA.alloc hsA _).grown hgr4 (by simp at hsA ⊢; omega) (fun k hk => (hown.lt k hk).1)
                have e1 : w4.cell? ⟨wr.heap.size, 1, none⟩ = some (.string s) := by
                  rw [hgr4.cell_far ⟨wr.heap.size, 1, none⟩ (by simp; omega) (fun h => by have := (hown.lt _ h.symm).2; simp at this)]
                  rw [(below_one _ _).cell (p := ⟨wr.heap.size, 1, none⟩) (by simp)]
                  exact E0.out
                have ho4 : w4.ownsRow w.heap.size 5 1 v4 (l1.length + 1) (bc (l1 ++ [32])) := by
                  rw [bc_app]; exact hown4
                clear hgr4 hown4 hown hbA
                go_wp2_with (first | (at_builtin; refine Lib.wpList_append_own_string _ rfl (.tmp 69) (.tmp 71) 22 9 rfl w.heap.size 5 _ Tryd.underlying22 Tryd.underlying9 hi0 hz0 hz1 hz2 _ (l1.length + 1) (bc (l1 ++ [32])) rfl ho4 s rfl ?h1 ?h2 ?h3 ?_))
                case h1 => unfold maxLen; omega
                case h2 => omega
                case h3 => exact hbw4.size
                intro v3 w3 hown3 hgr3 _
                have hbw3 := hbw4.grown hgr3 hbw4.size (fun k hk => (ho4.lt k hk).1)
                clear hgr3 ho4 hbw4
                go_wp2_with fail
                go_roundw
                case rel =>
                  refine ⟨q + 1, by omega, by go_num, ?_, hbw3⟩
                  rw [HJ.out, HL1.out, bc_app, ← strCells_bc, List.length_append, List.length_append, tx_len]
                  exact hown3
                case measure => simp [intOf]; omega
            · have hqj : q = j := by omega
              subst hqj
              go_wp2_with fail
              go_ret2
              exact HJO.out _ _ ⟨hbw, .inr (.inr ⟨HOk.out.2 ⟨trivial, HK.out, Hall.out⟩, by rw [← HA.out]; omega, _, rfl, Sl.of_own hown⟩)⟩
  have m1 : (0 : Int) < (n : Int) - 1 := by omega
  go_enter Tryd.func19, Tryd.ntmps19
  go_wp2_with fail
  clear b1 b2 c0 c1 c2
  try clear b1
  try clear b2
  try clear c0
  try clear c1
  try clear c2
  try clear s1
  try clear s1
  go_loopw [38, 5] (fun i sz wr => ∃ j A : Nat, j ≤ n ∧ (∀ q, q < j → tkOk (tA ts q) = true) ∧ i = .int .i64 j ∧ A = n - 1 + ssz ts j ∧ sz = .int .i64 (A : Int) ∧ Below w.heap.size w wr) (fun i _ _ => n - (intOf i).toNat)
  case atStart => exact ⟨0, n - 1, Nat.zero_le _, fun q h => by omega, rfl, rfl, by congr 1; omega, Below.refl _ _⟩
  case round =>
    clear m1 hn1
    obtain ⟨j, A, hj, hall, rfl, hA, rfl, hbw⟩ := hrel
    have Hall := Lib.hid hall
    clear hall
    by_cases hlt : j < n
    · obtain ⟨kd, s, p, htk⟩ : ∃ kd s p, tA ts j = (kd, s, p) := ⟨_, _, _, rfl⟩
      obtain ⟨c0, c1, c2⟩ := HC.out j (by omega)
      have hsz := HSz.out j (by omega)
      rw [htk] at c0 c1 c2 hsz
      simp only [] at c0 c1 c2 hsz
      have hg := World.block_lt_of_cell? w _ c0
      have hcw : ∀ W, Below w.heap.size w W → W.cell? ⟨g, off + j * 3, none⟩ = some (.int .i64 kd) ∧ W.cell? ⟨g, off + j * 3 + 1, none⟩ = some (.string s) ∧ W.cell? ⟨g, off + j * 3 + 2, none⟩ = some (.int .i64 p) := fun W hW => by
        rw [hW.cell (p := ⟨g, off + j * 3, none⟩) hg, hW.cell (p := ⟨g, off + j * 3 + 1, none⟩) hg, hW.cell (p := ⟨g, off + j * 3 + 2, none⟩) hg]
        exact ⟨c0, c1, c2⟩
      obtain ⟨d0, d1, d2⟩ := hcw wr hbw
      have Htk := Lib.hid htk
      have hA2 : n - 1 + ssz ts (j + 1) = A + s.size := by rw [ssz, htk, hA]; simp only []; omega
      have hA3 : A + s.size ≤ 1000000 := by
        have := ssz_mono ts (a := j + 1) (b := n) (by omega)
        omega
      have HA := Lib.hid hA
      have HA2 := Lib.hid hA2
      clear hcw c0 c1 c2 htk hg hA hA2
      obtain ⟨bv, hbv⟩ : ∃ b, tkOk (kd, s, p) = b := ⟨_, rfl⟩
      have HV := fun W (h : Below w.heap.size w W) => isToken_any kd s p W (by omega) (TabW_below h hTw hT)
      rw [hbv] at HV
      have HV2 := Lib.hid HV
      have Hbv := Lib.hid hbv
      clear HV hbv
      have hbA := hbw.alloc hbw.size (.cells #[.int .i64 kd, .string s, .int .i64 p] 35)
      cases bv
      · go_wp2_with fail
        refine (HV2.out _ hbA).mono ?_
        rintro e w2 ⟨rfl, hb2⟩
        go_wp2_with fail
        go_ret2
        refine HJO.out _ _ ⟨hbA.trans (hb2.mono hbA.size), .inl ⟨fun h => ?_, rfl⟩⟩
        have h2 := (HOk.out.1 h).2.2 j hlt
        rw [Htk.out, Hbv.out] at h2
        cases h2
      · go_wp2_with fail
        refine (HV2.out _ hbA).mono ?_
        rintro e w2 ⟨rfl, hb2⟩
        have e1 : w2.cell? ⟨wr.heap.size, 1, none⟩ = some (.string s) := by
          rw [hb2.cell (p := ⟨wr.heap.size, 1, none⟩) (by simp)]
          simp
        have hbw2 := hbA.trans (hb2.mono hbA.size)
        clear hb2
        go_wp2_with fail
        go_roundw
        case rel =>
          refine ⟨j + 1, A + s.size, by omega, fun q hq => ?_, by go_num, HA2.out.symm, by go_num, hbw2⟩
          rcases Nat.lt_or_ge q j with h | h
          · exact Hall.out q h
          · have he : q = j := by omega
            rw [he, Htk.out, Hbv.out]
        case measure => simp [intOf]; omega
    · have hjn : j = n := by omega
      subst hjn
      rw [← hLn] at hA
      have HA := Lib.hid hA
      have hA6 : A ≤ 1000000 := by omega
      clear hA hLn hLn2 hlt hj
      by_cases hbig : 65536 < A
      · have f0 : decide ((65536 : Int) < (A : Int)) = true := decide_eq_true (by omega)
        go_wp2_with fail
        go_ret2
        exact HJO.out _ _ ⟨hbw, .inr (.inl ⟨HOk.out.2 ⟨trivial, HK.out, Hall.out⟩, by rw [← HA.out]; exact hbig, rfl⟩)⟩
      · have f0 : decide ((65536 : Int) < (A : Int)) = false := decide_eq_false (by omega)
        obtain ⟨w2, hmk, hown, hgr⟩ := run_make_own (P := Tryd.prog) wr w.heap.size 22 5 i0 (.int .u8 0) 1 Tryd.underlying22 hi0 hz0 hz1 .i64 .i64 A (by rw [hz2]; omega) (by unfold maxLen; omega) hbw.size
        have hbw2 := hbw.grown hgr hbw.size (fun k hk => by cases hk)
        clear hgr
        go_wp2_with fail
        clear hmk
        go_loopw [59, 2] (fun i b wr => ∃ q : Nat, q ≤ j ∧ i = .int .i64 q ∧ wr.ownsRow w.heap.size 5 1 b (jn ts q).length (bc (jn ts q)) ∧ Below w.heap.size w wr) (fun i _ _ => j - (intOf i).toNat)
        case atStart => exact ⟨0, Nat.zero_le _, rfl, hown, hbw2⟩
        case round =>
          clear hown hbw2 hbw
          obtain ⟨q, hq, rfl, hown, hbw⟩ := hrel
          by_cases hlt : q < j
          · obtain ⟨kd, s, p, htk⟩ : ∃ kd s p, tA ts q = (kd, s, p) := ⟨_, _, _, rfl⟩
            obtain ⟨c0, c1, c2⟩ := HC.out q (by omega)
            have hsz := HSz.out q (by omega)
            rw [htk] at c0 c1 c2 hsz
            simp only [] at c0 c1 c2 hsz
            have hg := World.block_lt_of_cell? w _ c0
            rw [← hbw.cell (p := ⟨g, off + q * 3, none⟩) hg] at c0
            rw [← hbw.cell (p := ⟨g, off + q * 3 + 1, none⟩) hg] at c1
            rw [← hbw.cell (p := ⟨g, off + q * 3 + 2, none⟩) hg] at c2
            have hjl : (jn ts (q + 1)).length ≤ 1000000 := Nat.le_trans (jn_mono ts (by omega)) HL.out
            have hjn : jn ts (q + 1) = (jn ts q ++ if q = 0 then [] else [32]) ++ tx s := by rw [jn, htk]
            have hbA := hbw.alloc hbw.size (.cells #[.int .i64 kd, .string s, .int .i64 p] 35)
            have hsA := hbA.size
            clear htk hg
            by_cases hj0 : q = 0
            · subst hj0
              have hjn0 : jn ts (0 + 1) = tx s := by rw [hjn]; simp [jn]
              have hown0 : wr.ownsRow w.heap.size 5 1 u2 0 [] := by simpa [jn, bc] using hown
              have HJ := Lib.hid hjn0
              clear hjn hjn0 hjl hown
              simp only [Nat.zero_mul, Nat.add_zero] at c0 c1 c2
              go_wp2_with (first | (at_builtin; refine Lib.wpList_append_own_string _ rfl (.tmp 69) (.tmp 71) 22 9 rfl w.heap.size 5 _ Tryd.underlying22 Tryd.underlying9 hi0 hz0 hz1 hz2 _ 0 [] rfl (hown0.alloc _) s rfl ?h1 ?h2 ?h3 ?_))
              case h1 => simp only [Nat.zero_add]; unfold maxLen; omega
              case h2 => omega
              case h3 => exact hsA
              intro v3 w3 hown3 hgr3 _
              have hbw3 := hbA.grown hgr3 hsA (fun k hk => (hown0.lt k hk).1)
              clear hgr3 hown0 hbA
              go_wp2_with fail
              go_roundw
              case rel =>
                refine ⟨1, by omega, by go_num, ?_, hbw3⟩
                have hj := HJ.out
                simp only [Nat.zero_add] at hj hown3
                rw [hj, tx_len, ← strCells_bc]
                simpa using hown3
              case measure => simp [intOf]; omega
            · have hjn0 : jn ts (q + 1) = (jn ts q ++ [32]) ++ tx s := by rw [hjn, if_neg hj0]
              have hlen : (jn ts q).length + 1 + s.size ≤ 1000000 := by rw [hjn0] at hjl; simp only [List.length_append, tx_len, List.length_cons, List.length_nil] at hjl; omega
              have f0 : decide ((0 : Int) < (q : Int)) = true := decide_eq_true (by omega)
              have HJ := Lib.hid hjn0
              obtain ⟨l1, hl1⟩ : ∃ l1, jn ts q = l1 := ⟨_, rfl⟩
              rw [hl1] at hlen hown
              have HL1 := Lib.hid hl1
              clear hjn hjn0 hjl hl1
              have e0 : (wr.alloc (.cells #[.int .i64 kd, .string s, .int .i64 p] 35)).cell? ⟨wr.heap.size, 1, none⟩ = some (.string s) := by
                simp
              have E0 := Lib.hid e0
              clear e0
              go_wp2_with (first | (at_builtin; refine wpList_append_bytes _ rfl (.tmp 66) (.tmp 67) rfl w.heap.size _ l1.length (bc l1) rfl ((hown.alloc _).alloc _) (some ⟨wr.heap.size + 1, 0, none⟩) [32] 1 1 rfl rfl (sl_lit_at _ [.int .u8 32] 5 (wr.heap.size + 1) (by simp)) ?h1 ?h2 ?_))
              case h1 => simp only [List.length_cons, List.length_nil]; omega
              case h2 => simp at hsA ⊢; omega
              intro v4 w4 hown4 hgr4
              have hbw4 := (hbA.alloc hsA _).grown hgr4 (by simp at hsA ⊢; omega) (fun k hk => (hown.lt k hk).1)
              have e1 : w4.cell? ⟨wr.heap.size, 1, none⟩ = some (.string s) := by
                rw [hgr4.cell_far ⟨wr.heap.size, 1, none⟩ (by simp; omega) (fun h => by have := (hown.lt _ h.symm).2; simp at this)]
                rw [(below_one _ _).cell (p := ⟨wr.heap.size, 1, none⟩) (by simp)]
                exact E0.out
              have ho4 : w4.ownsRow w.heap.size 5 1 v4 (l1.length + 1) (bc (l1 ++ [32])) := by
                rw [bc_app]; exact hown4
              clear hgr4 hown4 hown hbA
              go_wp2_with (first | (at_builtin; refine Lib.wpList_append_own_string _ rfl (.tmp 69) (.tmp 71) 22 9 rfl w.heap.size 5 _ Tryd.underlying22 Tryd.underlying9 hi0 hz0 hz1 hz2 _ (l1.length + 1) (bc (l1 ++ [32])) rfl ho4 s rfl ?h1 ?h2 ?h3 ?_))
              case h1 => unfold maxLen; omega
              case h2 => omega
              case h3 => exact hbw4.size
              intro v3 w3 hown3 hgr3 _
              have hbw3 := hbw4.grown hgr3 hbw4.size (fun k hk => (ho4.lt k hk).1)
              clear hgr3 ho4 hbw4
              go_wp2_with fail
              go_roundw
              case rel =>
                refine ⟨q + 1, by omega, by go_num, ?_, hbw3⟩
                rw [HJ.out, HL1.out, bc_app, ← strCells_bc, List.length_append, List.length_append, tx_len]
                exact hown3
              case measure => simp [intOf]; omega
          · have hqj : q = j := by omega
            subst hqj
            go_wp2_with fail
            go_ret2
            exact HJO.out _ _ ⟨hbw, .inr (.inr ⟨HOk.out.2 ⟨trivial, HK.out, Hall.out⟩, by rw [← HA.out]; omega, _, rfl, Sl.of_own hown⟩)⟩
end Go.Proofs.YtmlkfglnnepjjaaDoor
