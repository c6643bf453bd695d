/- Layer 1, the statement LexisRemarks: the walk. -/
import Derived.Test.YtmlkfglnnepjjaaDoorSane
import Derived.Test.YtmlkfglnnepjjaaDoorPureR
import Derived.Test.YtmlkfglnnepjjaaDoorPure
import Derived.Test.YtmlkfglnnepjjaaDoorLawTokens
import Derived.Deep.QuietTactic
import Derived.BigQuiet
import Derived.Test.YtmlkfglnnepjjaaDoorApp
namespace Go.Proofs.YtmlkfglnnepjjaaDoor
open Go.RowKit

theorem tkcs_drop : ∀ (k : Nat) (ts : List Tk), tkcs (ts.drop k) = (tkcs ts).drop (k * 3)
  | 0, ts => by simp
  | k + 1, [] => by simp [tkcs]
  | k + 1, t :: r => by
    have ih := tkcs_drop k r
    have e : tkcs (t :: r) = .int .i64 t.1 :: .string t.2.1 :: .int .i64 t.2.2 :: tkcs r := rfl
    rw [e, show (k + 1) * 3 = k * 3 + 1 + 1 + 1 by omega]
    simpa using ih
theorem tkcs_take : ∀ (k : Nat) (ts : List Tk), tkcs (ts.take k) = (tkcs ts).take (k * 3)
  | 0, ts => by simp [tkcs]
  | k + 1, [] => by simp [tkcs]
  | k + 1, t :: r => by
    have ih := tkcs_take k r
    have e : tkcs (t :: r) = .int .i64 t.1 :: .string t.2.1 :: .int .i64 t.2.2 :: tkcs r := rfl
    have e2 : tkcs (List.take (k + 1) (t :: r)) = .int .i64 t.1 :: .string t.2.1 :: .int .i64 t.2.2 :: tkcs (r.take k) := rfl
    rw [e, e2, show (k + 1) * 3 = k * 3 + 1 + 1 + 1 by omega, ih]
    simp
theorem Sl.tkDrop {w : World} {ts : List Tk} {g off cap : Nat} (k : Nat) (hk : k < ts.length) (h : Sl w 3 (.slice (some ⟨g, off, none⟩) ts.length cap) ts.length (tkcs ts)) :
    Sl w 3 (.slice (some ⟨g, off + k * 3, none⟩) (ts.drop k).length (cap - k)) (ts.drop k).length (tkcs (ts.drop k)) := by
  obtain ⟨_, a', cap', he, hn, hr⟩ := h
  cases he
  refine ⟨tkcs_len _, _, _, rfl, by simp; omega, .inr ⟨g, off + k * 3, rfl, fun j u hu => ?_⟩⟩
  rcases hr with h | ⟨g', off', he, hc⟩
  · omega
  · cases he
    rw [tkcs_drop, List.getElem?_drop] at hu
    rw [Nat.add_assoc]
    exact hc _ u hu
theorem Sl.tkTake {w : World} {ts : List Tk} {a : Option Addr} {cap : Nat} (k : Nat) (hk : k ≤ ts.length) (h : Sl w 3 (.slice a ts.length cap) ts.length (tkcs ts)) :
    Sl w 3 (.slice a (ts.take k).length cap) (ts.take k).length (tkcs (ts.take k)) := by
  obtain ⟨_, a', cap', he, hn, hr⟩ := h
  cases he
  refine ⟨tkcs_len _, _, _, rfl, by simp; omega, ?_⟩
  rcases hr with h | ⟨g', off', he, hc⟩
  · left; simp; omega
  · right
    refine ⟨g', off', he, fun j u hu => hc j u ?_⟩
    rw [tkcs_take, List.getElem?_take] at hu
    split at hu
    · exact hu
    · cases hu
theorem sameB_strip {xs ys : List Tk} (h : xs.map (fun t => (t.1, t.2.1)) = ys.map (fun t => (t.1, t.2.1))) : sameB false xs ys = true := by
  have hl : xs.length = ys.length := by simpa using congrArg List.length h
  unfold sameB
  rw [decide_eq_true hl, Bool.true_and, decide_eq_true_eq]
  intro q hq
  have hq2 : q < ys.length := by omega
  have h2 := congrArg (fun l => l[q]?) h
  simp only [List.getElem?_map, List.getElem?_eq_getElem hq, List.getElem?_eq_getElem hq2, Option.map_some, Option.some.injEq, Prod.mk.injEq] at h2
  simp [tkEq, tA, List.getD, hq, hq2, h2.1, h2.2]
theorem remark_second (la lr lb : List UInt8) (hr : toks (la ++ 10 :: 35 :: (lr ++ 10 :: lb)) = toks la ++ (toks lb).map (shT (la.length + lr.length + 3))) :
    sameB false ((tkE (la ++ 10 :: 35 :: (lr ++ 10 :: lb))).drop (toks la).length) (tkE lb) = true := by
  apply sameB_strip
  have hl : (la ++ 10 :: 35 :: (lr ++ [10])).length = la.length + lr.length + 3 := by simp; omega
  have e : la ++ 10 :: 35 :: (lr ++ [10]) ++ lb = la ++ 10 :: 35 :: (lr ++ 10 :: lb) := by simp
  have hs := fun x y => sub_sh (la ++ 10 :: 35 :: (lr ++ [10])) lb x y
  rw [hl, e] at hs
  unfold tkE
  rw [hr, List.map_append, List.append_assoc, List.drop_append_of_le_length (by simp), List.drop_eq_nil_of_le (by simp), List.nil_append]
  simp [shT, hs]
theorem remark_first (la lr lb : List UInt8) (hr : toks (la ++ 10 :: 35 :: (lr ++ 10 :: lb)) = toks la ++ (toks lb).map (shT (la.length + lr.length + 3))) :
    (tkE (la ++ 10 :: 35 :: (lr ++ 10 :: lb))).take (toks la).length = (tkE la).take (toks la).length := by
  unfold tkE
  rw [hr, List.map_append, List.append_assoc, List.take_append_of_le_length (by simp), List.take_append_of_le_length (by simp), List.take_of_length_le (by simp), List.take_of_length_le (by simp)]
  apply List.map_congr_left
  intro t ht
  have h := (stand la).tok t ht
  rw [sub_pre h.2.2.1]


set_option maxRecDepth 100000 in
set_option maxHeartbeats 2000000 in
theorem lexisRemarks_any (la lb lr : List UInt8) (va vb vr : Value) (w : World) (ha : Sl w 1 va la.length (bc la)) (hb : Sl w 1 vb lb.length (bc lb)) (hr : Sl w 1 vr lr.length (bc lr)) (hT : TabW w)
    (hma : la.length ≤ maxLen) (hmb : lb.length ≤ maxLen) (hmr : lr.length ≤ maxLen) :
    Calls Tryd.prog 8 #[va, vb, vr] w fun e w' => e = .returned (.bool true) ∧ Below w.heap.size w w' := by
  unfold maxLen at hma hmb hmr
  obtain ⟨aa, ca, rfl⟩ := ha.form
  obtain ⟨ab, cb, rfl⟩ := hb.form
  obtain ⟨ar, cr, rfl⟩ := hr.form
  by_cases h1 : 2000 < la.length
  · go_enter Tryd.func8, Tryd.ntmps8
    go_wp2_with fail
    refine (sane_any w hT).mono ?_
    rintro e w1 ⟨rfl, hb1⟩
    go_wp2_with fail
    go_ret
    exact ⟨rfl, hb1⟩
  by_cases h2 : 2000 < lb.length
  · go_enter Tryd.func8, Tryd.ntmps8
    go_wp2_with fail
    refine (sane_any w hT).mono ?_
    rintro e w1 ⟨rfl, hb1⟩
    go_wp2_with fail
    go_ret
    exact ⟨rfl, hb1⟩
  by_cases h3 : 2000 < lr.length
  · go_enter Tryd.func8, Tryd.ntmps8
    go_wp2_with fail
    refine (sane_any w hT).mono ?_
    rintro e w1 ⟨rfl, hb1⟩
    go_wp2_with fail
    go_ret
    exact ⟨rfl, hb1⟩
  have hTw := TabW_lt hT
  go_enter Tryd.func8, Tryd.ntmps8
  go_wp2_with fail
  refine (sane_any w hT).mono ?_
  rintro e w1 ⟨rfl, hb1⟩
  have ha1 := ha.next hb1
  have hb1' := hb.next hb1
  have hr1 := hr.next hb1
  have hT1 := TabW_below hb1 hTw hT
  go_wp2_with fail
  go_loop [7] (fun i => ∃ j : Nat, j ≤ lr.length ∧ (∀ q, q < j → bA lr q ≠ 10) ∧ i = .int .i64 j) (fun i => lr.length - (intOf i).toNat)
  case atStart => exact ⟨0, Nat.zero_le _, fun q h => by omega, rfl⟩
  case round =>
    obtain ⟨j, hj, hall, rfl⟩ := hrel
    have Hall := Lib.hid hall
    clear hall
    by_cases hlt : j < lr.length
    · obtain ⟨g, off, rfl, hcap, hc⟩ := hr1.pos (by omega)
      have hcj := hc j hlt
      clear hc
      by_cases h10 : bA lr j = 10
      · have h10b : (bA lr j == 10) = true := by simp [h10]
        clear h10
        go_wp2_with fail
        go_ret
        exact ⟨rfl, hb1⟩
      · have h10b : (bA lr j == 10) = false := by simp [h10]
        have H10 := Lib.hid h10
        clear h10
        go_wp2_with fail
        go_round
        case rel =>
          refine ⟨j + 1, by omega, fun q hq => ?_, by go_num⟩
          rcases Nat.lt_or_ge q j with h | h
          · exact Hall.out q h
          · have he : q = j := by omega
            rw [he]; exact H10.out
        case measure => simp [intOf]; omega
    · have hno : ∀ c ∈ lr, c ≠ 10 := by
        intro c hc
        rw [List.mem_iff_getElem] at hc
        obtain ⟨q, hq, rfl⟩ := hc
        have := Hall.out q (by omega)
        rw [bA_lt hq] at this
        intro e
        rw [e] at this
        exact this rfl
      have HR := Lib.hid (toks_remark la lr lb hno)
      clear hno
      have hB1 := hb1
      have hownE : (w1.alloc (.cells #[] 5)).ownsRow w1.heap.size 5 1 (.slice (some ⟨w1.heap.size, 0, none⟩) 0 0) 0 [] := World.ownsRow_made w1 #[] 0 (Nat.le_refl _) (by simp [maxLen]) rfl
      go_wp2_with (first | (at_builtin; refine wpList_append_bytes _ rfl (.tmp 44) (.tmp 45) rfl w1.heap.size _ 0 [] rfl hownE aa la ca la.length rfl rfl (ha1.alloc _) ?h2 ?h3 ?_))
      case h2 => omega
      intro v1 x1 hown1 hgr1
      have hX1 : Below w1.heap.size w1 x1 := (below_one _ _).grown hgr1 (by simp) (fun k hk => by simp [Value.ownBlock] at hk; omega)
      clear hgr1 hownE
      have hsz1 := hX1.size
      go_wp2_with (first | (at_builtin; refine wpList_append_bytes _ rfl (.tmp 47) (.tmp 48) rfl w1.heap.size _ la.length (bc la) rfl (hown1.alloc _) (some ⟨x1.heap.size, 0, none⟩) [10, 35] 2 2 rfl rfl (sl_lit x1 [.int .u8 10, .int .u8 35] 5) ?h2 ?h4 ?_))
      case h2 => simp only [List.length_cons, List.length_nil]; omega
      case h4 => simp; omega
      intro v2 x2 hown2 hgr2
      have hX2 : Below w1.heap.size w1 x2 := (hX1.alloc hsz1 _).grown hgr2 (by simp; omega) (fun k hk => (hown1.lt k hk).1)
      have ho2 : x2.ownsRow w1.heap.size 5 1 v2 (la ++ [10, 35]).length (bc (la ++ [10, 35])) := by
        have e : bc (la ++ [10, 35]) = bc la ++ bc [10, 35] := by simp [bc]
        rw [e, List.length_append]; exact hown2
      clear hgr2 hown2 hown1 hX1
      obtain ⟨l2, hl2⟩ : ∃ l2, la ++ [10, 35] = l2 := ⟨_, rfl⟩
      have hl2n : l2.length ≤ 2002 := by rw [← hl2]; simp; omega
      rw [hl2] at ho2
      have HL2 := Lib.hid hl2
      clear hl2 hsz1
      have hsz2 := hX2.size
      go_wp2_with (first | (at_builtin; refine wpList_append_bytes _ rfl (.tmp 50) (.tmp 51) rfl w1.heap.size _ l2.length (bc l2) rfl ho2 ar lr cr lr.length rfl rfl (hr1.next (hX2.mono (Nat.le_refl _))) ?h2 ?h4 ?_))
      case h2 => omega
      case h4 => omega
      intro v3 x3 hown3 hgr3
      have hX3 : Below w1.heap.size w1 x3 := hX2.grown hgr3 hsz2 (fun k hk => (ho2.lt k hk).1)
      have ho3 : x3.ownsRow w1.heap.size 5 1 v3 (l2 ++ lr).length (bc (l2 ++ lr)) := by
        have e : bc (l2 ++ lr) = bc l2 ++ bc lr := by simp [bc]
        rw [e, List.length_append]; exact hown3
      clear hgr3 hown3 ho2 hX2
      obtain ⟨l3, hl3⟩ : ∃ l3, l2 ++ lr = l3 := ⟨_, rfl⟩
      have hl3n : l3.length ≤ 4002 := by rw [← hl3]; simp; omega
      rw [hl3] at ho3
      have HL3 := Lib.hid hl3
      clear hl3 hsz2
      have hsz3 := hX3.size
      go_wp2_with (first | (at_builtin; refine wpList_append_bytes _ rfl (.tmp 53) (.tmp 54) rfl w1.heap.size _ l3.length (bc l3) rfl (ho3.alloc _) (some ⟨x3.heap.size, 0, none⟩) [10] 1 1 rfl rfl (sl_lit x3 [.int .u8 10] 5) ?h2 ?h4 ?_))
      case h2 => simp only [List.length_cons, List.length_nil]; omega
      case h4 => simp; omega
      intro v4 x4 hown4 hgr4
      have hX4 : Below w1.heap.size w1 x4 := (hX3.alloc hsz3 _).grown hgr4 (by simp; omega) (fun k hk => (ho3.lt k hk).1)
      have ho4 : x4.ownsRow w1.heap.size 5 1 v4 (l3 ++ [10]).length (bc (l3 ++ [10])) := by
        have e : bc (l3 ++ [10]) = bc l3 ++ bc [10] := by simp [bc]
        rw [e, List.length_append]; exact hown4
      clear hgr4 hown4 ho3 hX3
      obtain ⟨l4, hl4⟩ : ∃ l4, l3 ++ [10] = l4 := ⟨_, rfl⟩
      have hl4n : l4.length ≤ 4003 := by rw [← hl4]; simp; omega
      rw [hl4] at ho4
      have HL4 := Lib.hid hl4
      clear hl4 hsz3
      have hsz4 := hX4.size
      go_wp2_with (first | (at_builtin; refine wpList_append_bytes _ rfl (.tmp 56) (.tmp 57) rfl w1.heap.size _ l4.length (bc l4) rfl ho4 ab lb cb lb.length rfl rfl (hb1'.next (hX4.mono (Nat.le_refl _))) ?h2 ?h4 ?_))
      case h2 => omega
      case h4 => omega
      intro v5 x5 hown5 hgr5
      have hX5 : Below w1.heap.size w1 x5 := hX4.grown hgr5 hsz4 (fun k hk => (ho4.lt k hk).1)
      have ho5 : x5.ownsRow w1.heap.size 5 1 v5 (l4 ++ lb).length (bc (l4 ++ lb)) := by
        have e : bc (l4 ++ lb) = bc l4 ++ bc lb := by simp [bc]
        rw [e, List.length_append]; exact hown5
      clear hgr5 hown5 ho4 hX4
      have hL : l4 ++ lb = la ++ 10 :: 35 :: (lr ++ 10 :: lb) := by rw [← HL4.out, ← HL3.out, ← HL2.out]; simp
      rw [hL] at ho5
      have hs5 := Sl.of_own ho5
      have hLn : (la ++ 10 :: 35 :: (lr ++ 10 :: lb)).length ≤ 6003 := by rw [← hL]; simp; omega
      clear hL ho5 hsz4
      obtain ⟨L, hLL⟩ : ∃ L, la ++ 10 :: 35 :: (lr ++ 10 :: lb) = L := ⟨_, rfl⟩
      rw [hLL] at hs5 hLn
      have HLL := Lib.hid hLL
      clear hLL
      obtain ⟨a5, c5, rfl⟩ := hs5.form
      have ha5 := ha1.next hX5
      have hb5 := hb1'.next hX5
      have hW5 := hB1.trans (hX5.mono hB1.size)
      go_wp2_with fail
      refine (tokens_any la _ x5 ha5 (by omega) (TabW_below hW5 hTw hT)).mono ?_
      rintro e y1 ⟨vl, vp, rfl, hl, hp, hy1⟩
      have hWy1 := hW5.trans (hy1.mono hW5.size)
      go_wp2_with fail
      refine (tokens_any lb _ y1 (hb5.next hy1) (by omega) (TabW_below hWy1 hTw hT)).mono ?_
      rintro e y2 ⟨vm, vq, rfl, hm, hq, hy2⟩
      have hWy2 := hWy1.trans (hy2.mono hWy1.size)
      go_wp2_with fail
      refine (tokens_any L _ y2 ((hs5.next hy1).next hy2) (by omega) (TabW_below hWy2 hTw hT)).mono ?_
      rintro e y3 ⟨vn, vr, rfl, hn, hrr, hy3⟩
      have hWy3 := hWy2.trans (hy3.mono hWy2.size)
      have hl' := (hl.next hy2).next hy3
      have hm' := hm.next hy3
      rw [← tkE_cells, ← tkE_len] at hl' hm' hn
      have hA := tkE_len la
      have hBl := tkE_len lb
      have hN : (tkE L).length = (toks la).length + (toks lb).length + 1 := by rw [tkE_len, ← HLL.out, HR.out]; simp
      have hta := toks_len la
      have htb := toks_len lb
      have hsec := remark_second la lr lb HR.out
      have hfst := remark_first la lr lb HR.out
      rw [HLL.out] at hsec hfst
      obtain ⟨an, cn, hvn⟩ := hn.form
      subst hvn
      obtain ⟨gn, on, rfl, hcn, _⟩ := hn.toks (by omega)
      obtain ⟨al, cl, hvl⟩ := hl'.form
      subst hvl
      obtain ⟨gl, ol, rfl, hcl, _⟩ := hl'.toks (by omega)
      obtain ⟨am, cm, hvm⟩ := hm'.form
      subst hvm
      have q1 := hn.tkDrop (toks la).length (by omega)
      have q2 := hn.tkTake (toks la).length (by omega)
      have q3 := hl'.tkTake (toks la).length (by omega)
      have d1 : ((tkE L).drop (toks la).length).length = (toks lb).length + 1 := by rw [List.length_drop]; omega
      have d2 : ((tkE L).take (toks la).length).length = (toks la).length := by rw [List.length_take]; omega
      have d3 : ((tkE la).take (toks la).length).length = (toks la).length := by rw [List.length_take]; omega
      obtain ⟨A, hAe⟩ : ∃ A, (toks la).length = A := ⟨_, rfl⟩
      obtain ⟨B, hBe⟩ : ∃ B, (toks lb).length = B := ⟨_, rfl⟩
      rw [hAe] at hA hN hta hsec hfst q1 q2 q3 d1 d2 d3
      rw [hBe] at hBl hN htb d1
      have S1 := Lib.hid (fun n => same_any _ _ _ _ false (y3.drewN n) (q1.drewN n) (hm'.drewN n) (by omega))
      have S2 := Lib.hid (fun n => same_any _ _ _ _ true (y3.drewN n) (q2.drewN n) (q3.drewN n) (by omega))
      rw [hsec, hBl, d1] at S1
      rw [hfst, sameB_refl, d3] at S2
      clear hsec hfst q1 q2 q3 d1 d2 d3 hm hl hl' hm' hn
      rw [hN] at hcn
      rw [hA] at hcl
      rw [hN, hA, hBl]
      have z1 : ((A : Int) + 1 == 0) = false := by rw [beq_eq_false_iff_ne]; omega
      go_wp2_with fail
      have hcA : ¬ cn = A := by omega
      have hAB : A + B + 1 - A = B + 1 := by omega
      have i1 : (0 : Int) ≤ (A : Int) := by omega
      have i2 : (A : Int) ≤ (A : Int) + (B : Int) + 1 := by omega
      have i3 : (A : Int) ≤ (cn : Int) := by omega
      have i4 : (A : Int) ≤ (cl : Int) := by omega
      have i5 : (A : Int) + (B : Int) + 1 ≤ (cn : Int) := by omega
      have i6 : A ≤ cn := by omega
      have i7 : A ≤ A + B + 1 := by omega
      have w1' : IntKind.i64.wrap (A : Int) = (A : Int) := IntWalk.i64_in _ (by omega)
      have w2' : IntKind.i64.wrap ((A : Int) + 1 - 1) = (A : Int) := by rw [Int.add_sub_cancel]; exact w1'
      go_quiet ((first | (go_at_call 14; with_reducible exact Calls.quiet_of (S1.out _)) | (go_at_call 14; with_reducible exact Calls.quiet_of (S2.out _))))
      clear w1' w2'
      go_wp2_with fail
      go_ret
      exact ⟨rfl, below_drewN hWy3 _⟩
end Go.Proofs.YtmlkfglnnepjjaaDoor
