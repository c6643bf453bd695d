/- Disk: the reference's Write. -/
import Derived.Test.YtekmdaphkgkgaaaDkO
namespace Go.Proofs.Ytekmdaphkgkgaaa
open Go.RowKit

section
variable {P : Program} (w : World)
/-- ... where a variable lies already in block gz -/
theorem step_append_slZ {ops : Array Oper} {o : Oper} {a : Act} {K : Act → World → Prop} {Q : Exit → Act → World → Prop} {E : Prop} (hgd : o.guard = none) (s x : Operand) (t : TypeId)
    (ho : o.op = .call { callee := .builtin .append, args := #[s, x], argTypes := #[t, t] })
    (w0 : World) (B : Nat) (hB0 : w0.heap.size ≤ B) (hb0 : Below w0.heap.size w0 w) (e : TypeId) (i : TypeInfo) (z : Value) (bytes : Nat) (ht : P.underlying t = some (.slice e)) (hi : P.info? e = some i) (hz : i.zero = some z)
    (hsize : i.size = 1) (hby : i.bytes = bytes) (hzs : z.cells.size = 1)
    (v : Value) (n : Nat) (xs : List Value) (hs : a.eval s = v) (hown : w.ownsRow B e 1 v n xs) (y : Value) (m : Nat) (ys : List Value) (hx : a.eval x = y)
    (hsl : Sl w 1 y m ys) (h1 : ∀ u ∈ ys, u.oneCell' = true) (hpos : 0 < n + m) (hm : n + m ≤ maxLen) (hb : (n + m) * bytes ≤ 140737488355328) (hbase : B ≤ w.heap.size)
    (gz : Nat) (T : TypeId) (cs : Array Value) (hne : e ≠ T) (hZ : Blk w gz T cs)
    (h : ∀ g cap w', w'.ownsRow B e 1 (.slice (some ⟨g, 0, none⟩) (n + m) cap) (n + m) (xs ++ ys) → Below w0.heap.size w0 w' → w.heap.size ≤ w'.heap.size → Blk w' gz T cs → (∀ g T cs, e ≠ T → Blk w g T cs → Blk w' g T cs) → K (a.put o.dst (.slice (some ⟨g, 0, none⟩) (n + m) cap)) w') :
    if Region.wanted o (yielded ops a.tmps) = true then Oper.wp P o a w K Q else E :=
  step_append_sl w hgd s x t ho w0 B hB0 hb0 e i z bytes ht hi hz hsize hby hzs v n xs hs hown y m ys hx hsl h1 hpos hm hb hbase fun g cap w' p1 _ p3 p4 p5 => h g cap w' p1 p3 p4 (p5 gz T cs hne hZ) p5
end
/-- ... and its result is any row of the call's own -/
theorem step_append_sl0 {P : Program} (w : World) {ops : Array Oper} {o : Oper} {a : Act} {K : Act → World → Prop} {Q : Exit → Act → World → Prop} {E : Prop} (hgd : o.guard = none) (s x : Operand) (t : TypeId)
    (ho : o.op = .call { callee := .builtin .append, args := #[s, x], argTypes := #[t, t] })
    (w0 : World) (B : Nat) (hB0 : w0.heap.size ≤ B) (hb0 : Below w0.heap.size w0 w) (e : TypeId) (i : TypeInfo) (z : Value) (bytes : Nat) (ht : P.underlying t = some (.slice e)) (hi : P.info? e = some i) (hz : i.zero = some z)
    (hsize : i.size = 1) (hby : i.bytes = bytes) (hzs : z.cells.size = 1)
    (v : Value) (n : Nat) (xs : List Value) (hs : a.eval s = v) (hown : w.ownsRow B e 1 v n xs) (y : Value) (m : Nat) (ys : List Value) (hx : a.eval x = y)
    (hsl : Sl w 1 y m ys) (h1 : ∀ u ∈ ys, u.oneCell' = true) (hm : n + m ≤ maxLen) (hb : (n + m) * bytes ≤ 140737488355328) (hbase : B ≤ w.heap.size)
    (h : ∀ v' w', w'.ownsRow B e 1 v' (n + m) (xs ++ ys) → Below w0.heap.size w0 w' → w.heap.size ≤ w'.heap.size → (∀ g T cs, e ≠ T → Blk w g T cs → Blk w' g T cs) → K (a.put o.dst v') w') :
    if Region.wanted o (yielded ops a.tmps) = true then Oper.wp P o a w K Q else E := by
  have hw : Region.wanted o (yielded ops a.tmps) = true := by simp [Region.wanted, hgd]
  rw [if_pos hw]
  obtain ⟨v', w', hr, h2, h3⟩ := run_append_sl (P := P) w B t o.type e i z bytes ht hi hz hsize hby hzs v n xs hown y m ys hsl h1 hm hb hbase
  unfold Oper.wp execOp
  simp only [ho, resolve, invoke, builtin, Sem.run_bind, Sem.run_pure, Result.andThen_ok, List.map_toArray, List.map_cons, List.map_nil, hs, hx, hr]
  exact h v' w' h2 (hb0.grown h3 hb0.size (fun k hk => by have := (hown.lt k hk).1; omega)) h3.size (fun g T cs hne hg => Blk.grown hg h3 (Ne.symm (own_blk_ne hown hg hne)))
/-- the last bytes of a slice of bytes -/
theorem Sl.drop {w : World} {l : List UInt8} {g off cap m n : Nat} (h : Sl w 1 (.slice (some ⟨g, off, none⟩) n cap) n (bc l)) (hl : l.length = n) (hm : m ≤ n) : Sl w 1 (.slice (some ⟨g, off + m, none⟩) (n - m) (cap - m)) (n - m) (bc (l.drop m)) := by
  obtain ⟨_, a', cap', he, hn, hr⟩ := h
  cases he
  refine ⟨by simp [bc]; omega, _, _, rfl, by omega, ?_⟩
  rcases hr with h0 | ⟨g', off', hg, hc⟩
  · exact .inl (by omega)
  · cases hg
    refine .inr ⟨g, off + m, rfl, fun j u hu => ?_⟩
    have : (bc l)[m + j]? = some u := by simpa [bc, List.getElem?_drop] using hu
    have := hc _ _ this
    rwa [← Nat.add_assoc] at this
/-- behind the first region: x lies in block g8, its sectors in a row of the call's own -/
def RwRel (w1 : World) (n : Nat) (left t : Int) (vs : List Value) (s8 : Value) (W : World) : Prop :=
  ∃ g8 gx capx, s8 = .pointer (some ⟨g8, 0, none⟩) ∧ w1.heap.size ≤ g8 ∧ Blk W g8 26 #[.slice (some ⟨gx, 0, none⟩) n capx, .int .i64 left, .int .i64 t, .bool false] ∧
    W.ownsRow w1.heap.size 32 1 (.slice (some ⟨gx, 0, none⟩) n capx) n vs ∧ Below w1.heap.size w1 W
theorem rw_fin2 {w1 w5 : World} {n : Nat} {left t : Int} {vs : List Value} {gx capx : Nat} (ho : w5.ownsRow w1.heap.size 32 1 (.slice (some ⟨gx, 0, none⟩) n capx) n vs) (hb : Below w1.heap.size w1 w5) :
    RwRel w1 n left t vs (.pointer (some ⟨w5.heap.size, 0, none⟩)) (w5.alloc (.cells #[.slice (some ⟨gx, 0, none⟩) n capx, .int .i64 left, .int .i64 t, .bool false] 26)) :=
  ⟨_, gx, capx, rfl, hb.size, Blk.new _ _ _, ho.alloc _, hb.alloc hb.size _⟩
theorem rw_fin1 {w1 w5 : World} {n : Nat} {left t : Int} {vs : List Value} {gx capx g8 : Nat} (ho : w5.ownsRow w1.heap.size 32 1 (.slice (some ⟨gx, 0, none⟩) n capx) n vs) (hb : Below w1.heap.size w1 w5) (hg : w1.heap.size ≤ g8)
    (hZ : Blk w5 g8 26 #[.slice none 0 0, .int .i64 0, .int .i64 0, .bool false]) :
    RwRel w1 n left t vs (.pointer (some ⟨g8, 0, none⟩)) ((((w5.setCell ⟨g8, 0, none⟩ (.slice (some ⟨gx, 0, none⟩) n capx)).setCell ⟨g8, 1, none⟩ (.int .i64 left)).setCell ⟨g8, 2, none⟩ (.int .i64 t)).setCell ⟨g8, 3, none⟩ (.bool false)) := by
  have hU : Upd (fun q => q = g8) w5 ((((w5.setCell ⟨g8, 0, none⟩ (.slice (some ⟨gx, 0, none⟩) n capx)).setCell ⟨g8, 1, none⟩ (.int .i64 left)).setCell ⟨g8, 2, none⟩ (.int .i64 t)).setCell ⟨g8, 3, none⟩ (.bool false)) := by
    refine Upd.setCell (S := fun q => q = g8) ?_ (Or.inl rfl) _
    refine Upd.setCell (S := fun q => q = g8) ?_ (Or.inl rfl) _
    refine Upd.setCell (S := fun q => q = g8) ?_ (Or.inl rfl) _
    refine Upd.setCell (S := fun q => q = g8) ?_ (Or.inl rfl) _
    exact Upd.refl _ _
  have hne := own_blk_ne ho hZ (by decide)
  exact ⟨g8, gx, capx, rfl, hg, (((hZ.set_ 0 _).set_ 1 _).set_ 2 _).set_ 3 _, hU.own ho (fun q hq e => by subst e; exact hne hq), hb.trans (hU.below hb.size (fun q hq e => by omega))⟩

theorem rw_end {S : List (List UInt8)} {vs cur curu : List Value} {w w6 W : World} {gx g8 res gu capx capu j : Nat} {sec : List UInt8}
    (hgx : Blk w6 gx 32 cur.toArray) (hct : cur.take S.length = vs) (hcx : S.length ≤ capx) (hgu : Blk w6 gu 5 curu.toArray) (hcu : curu.take 128 = bc sec) (hsec : sec.length = 128) (hcu2 : 128 ≤ capu)
    (hel : ∀ (i : Nat) (s : List UInt8), S[i]? = some s → ∃ x, vs[i]? = some x ∧ Sl w 1 x s.length (bc s)) (hj : j < S.length) (hvl : vs.length = S.length) (hbw : Below w.heap.size w w6) (hx0 : w.heap.size ≤ gx) (h80 : w.heap.size ≤ g8) (hr0 : w.heap.size ≤ res)
    (n1 : gx ≠ g8) (n2 : gx ≠ res) (n3 : gu ≠ g8) (n4 : gu ≠ res)
    (hU : Upd (fun q => q = g8 ∨ q = res) (w6.setCell ⟨gx, j, none⟩ (.slice (some ⟨gu, 0, none⟩) 128 capu)) W) : Secs W (.slice (some ⟨gx, 0, none⟩) S.length capx) (S.set j sec) ∧ Below w.heap.size w W := by
  have hne : gu ≠ gx := Blk.ne_ hgu hgx (by decide)
  have hbW : Below w.heap.size w W := by
    have h1 := hbw.setCell (p := ⟨gx, j, none⟩) hx0 (.slice (some ⟨gu, 0, none⟩) 128 capu)
    exact h1.trans (hU.below h1.size (fun q hq e => by rcases e with rfl | rfl <;> omega))
  have hgx' : Blk W gx 32 (cur.toArray.setIfInBounds j (.slice (some ⟨gu, 0, none⟩) 128 capu)) := hU.heap (hgx.set_ j _) (fun e => by rcases e with e | e; exact n1 e; exact n2 e)
  have hgu' : Blk W gu 5 curu.toArray := hU.heap (hgu.far (p := ⟨gx, j, none⟩) hne _) (fun e => by rcases e with e | e; exact n3 e; exact n4 e)
  have hcl : S.length ≤ cur.length := by have := congrArg List.length hct; simp at this; omega
  refine ⟨⟨vs.set j (.slice (some ⟨gu, 0, none⟩) 128 capu), ?_, fun i r hr => ?_⟩, hbW⟩
  · rw [List.length_set]
    refine ⟨by simp [hvl], _, _, rfl, hcx, .inr ⟨gx, 0, rfl, fun q u hu => ?_⟩⟩
    rw [Nat.zero_add, hgx'.cell q, Array.getElem?_setIfInBounds]
    rw [List.getElem?_set] at hu
    by_cases hjq : j = q
    · subst hjq
      rw [if_pos rfl] at hu ⊢
      rw [if_pos (by omega)] at hu
      rw [if_pos (by simp; omega)]
      exact hu
    · rw [if_neg hjq] at hu ⊢
      rw [← hct, List.getElem?_take] at hu
      split at hu
      · simpa using hu
      · cases hu
  · by_cases hij : i = j
    · subst hij
      rw [List.getElem?_set_self hj] at hr
      cases hr
      refine ⟨_, List.getElem?_set_self (by omega), ?_⟩
      rw [hsec]
      refine ⟨by rw [bc_len, hsec], _, _, rfl, hcu2, .inr ⟨gu, 0, rfl, fun q u hu => ?_⟩⟩
      rw [Nat.zero_add, hgu'.cell q]
      rw [← hcu, List.getElem?_take] at hu
      split at hu
      · simpa using hu
      · cases hu
    · rw [List.getElem?_set_ne (fun e => hij e.symm)] at hr
      obtain ⟨x, hx, hsx⟩ := hel i r hr
      exact ⟨x, by rw [List.getElem?_set_ne (fun e => hij e.symm)]; exact hx, hsx.next hbW⟩

set_option maxRecDepth 100000 in
set_option maxHeartbeats 6000000 in
theorem refWt_any (D : Dk) (d : Value) (k : Int) (b : List UInt8) (vb : Value) (w : World) (hd : DkV w d D) (hvb : Sl w 1 vb b.length (bc b)) (hle : D.left ≤ 9223372036854775807) (hlen : D.secs.length ≤ maxLen) :
    Calls Try.prog 17 #[d, .int .i64 k, vb] w fun e w' => RetDE (wtD D k b) (wtE D k b) w e w' := by
  obtain ⟨ab, cb, rfl⟩ := hvb.form
  have HC := fun W (hb : Below w.heap.size w W) => refCheck_any D d W (hd.next hb) hlen
  obtain ⟨v, rfl, hs⟩ := hd
  obtain ⟨a, cap, rfl⟩ := hs.len
  have h01 := chk01 D
  have hS : chkS D k = if chk D = 0 ∧ 0 ≤ k ∧ k < D.secs.length then 0 else 1 := rfl
  obtain ⟨c, hc⟩ : ∃ c, chk D = c := ⟨_, rfl⟩
  rw [hc] at HC h01 hS
  obtain ⟨S, left, tear, stop⟩ := D
  unfold dkAgg at HC ⊢
  simp only [] at HC hs hle hS ⊢
  have HC2 := Lib.hid HC
  have HS := Lib.hid hs
  have HCc := Lib.hid hc
  have HV := Lib.hid hvb
  have HSk := Lib.hid hS
  clear HC hs hc hvb hS hlen
  have hB1 : Blk ((w.alloc (.cells #[.slice a S.length cap, .int .i64 left, .int .i64 tear, .bool stop] 26)).alloc (.cells #[.slice none 0 0, .int .i64 0, .int .i64 0, .bool false] 26)) w.heap.size 26 #[.slice a S.length cap, .int .i64 left, .int .i64 tear, .bool stop] := (Blk.new w _ _).alloc _
  have hB2 : Blk ((w.alloc (.cells #[.slice a S.length cap, .int .i64 left, .int .i64 tear, .bool stop] 26)).alloc (.cells #[.slice none 0 0, .int .i64 0, .int .i64 0, .bool false] 26)) (w.heap.size + 1) 26 #[.slice none 0 0, .int .i64 0, .int .i64 0, .bool false] := blk_new2 w _ _ _
  have HB1 := Lib.hid hB1
  have HB2 := Lib.hid hB2
  have hb2 := Lib.hid ((below_alloc w (.cells #[.slice a S.length cap, .int .i64 left, .int .i64 tear, .bool stop] 26)).alloc (by simp) (.cells #[.slice none 0 0, .int .i64 0, .int .i64 0, .bool false] 26))
  clear hB1 hB2
  rcases h01 with rfl | rfl
  case inr =>
    have hSk : chkS ⟨S, left, tear, stop⟩ k = 1 := by rw [HSk.out, if_neg (fun h => by cases h.1)]
    have hE := Lib.hid (show wtE ⟨S, left, tear, stop⟩ k b = 1 by rw [wtE, if_pos hSk])
    have hD := Lib.hid (show wtD ⟨S, left, tear, stop⟩ k b = Dk.zero by rw [wtD, if_pos (.inl hSk)])
    clear hSk
    go_enter Try.func17, Try.ntmps17
    go_wp2_with fail
    refine (HC2.out _ hb2.out).mono ?_
    rintro e w1 ⟨rfl, hb1⟩
    obtain ⟨b0, b1, b2, b3, f0, f1, f2, f3⟩ := dkCells (HB1.out.below hb1 (by simp; omega))
    obtain ⟨r0, r1, r2, r3, s0, s1, s2, s3⟩ := dkCells (HB2.out.below hb1 (by simp))
    have hbF := hb2.out.trans (hb1.mono (by simp; omega))
    clear hb1
    go_wp2_with fail
    exact bodyPost_ret (v := .tuple #[.agg #[.slice none 0 0, .int .i64 0, .int .i64 0, .bool false], .int .i64 1]) (by simp [results, Try.results17, go_sem, *]) rfl
      ⟨_, by first | (rw [hE.out]; done) | (rw [hE.out]; rfl), by rw [hD.out]; exact dkV_zero _, by (repeat (refine Below.setCell ?_ (by first | exact Nat.le_refl _ | (simp; done) | (simp; omega)) _)); exact hbF⟩
  case inl =>
    by_cases hk0 : k < 0
    · have hSk : chkS ⟨S, left, tear, stop⟩ k = 1 := by rw [HSk.out, if_neg (fun h => by omega)]
      have hE := Lib.hid (show wtE ⟨S, left, tear, stop⟩ k b = 1 by rw [wtE, if_pos hSk])
      have hD := Lib.hid (show wtD ⟨S, left, tear, stop⟩ k b = Dk.zero by rw [wtD, if_pos (.inl hSk)])
      clear hSk
      go_enter Try.func17, Try.ntmps17
      go_wp2_with fail
      refine (HC2.out _ hb2.out).mono ?_
      rintro e w1 ⟨rfl, hb1⟩
      obtain ⟨b0, b1, b2, b3, f0, f1, f2, f3⟩ := dkCells (HB1.out.below hb1 (by simp; omega))
      obtain ⟨r0, r1, r2, r3, s0, s1, s2, s3⟩ := dkCells (HB2.out.below hb1 (by simp))
      have hbF := hb2.out.trans (hb1.mono (by simp; omega))
      clear hb1
      go_wp2_with fail
      exact bodyPost_ret (v := .tuple #[.agg #[.slice none 0 0, .int .i64 0, .int .i64 0, .bool false], .int .i64 1]) (by simp [results, Try.results17, go_sem, *]) rfl
        ⟨_, by first | (rw [hE.out]; done) | (rw [hE.out]; rfl), by rw [hD.out]; exact dkV_zero _, by (repeat (refine Below.setCell ?_ (by first | exact Nat.le_refl _ | (simp; done) | (simp; omega)) _)); exact hbF⟩
    have hk0' : 0 ≤ k := by omega
    clear hk0
    by_cases hk1 : (S.length : Int) ≤ k
    · have hSk : chkS ⟨S, left, tear, stop⟩ k = 1 := by rw [HSk.out, if_neg (fun h => by omega)]
      have hE := Lib.hid (show wtE ⟨S, left, tear, stop⟩ k b = 1 by rw [wtE, if_pos hSk])
      have hD := Lib.hid (show wtD ⟨S, left, tear, stop⟩ k b = Dk.zero by rw [wtD, if_pos (.inl hSk)])
      clear hSk
      go_enter Try.func17, Try.ntmps17
      go_wp2_with fail
      refine (HC2.out _ hb2.out).mono ?_
      rintro e w1 ⟨rfl, hb1⟩
      obtain ⟨b0, b1, b2, b3, f0, f1, f2, f3⟩ := dkCells (HB1.out.below hb1 (by simp; omega))
      obtain ⟨r0, r1, r2, r3, s0, s1, s2, s3⟩ := dkCells (HB2.out.below hb1 (by simp))
      have hbF := hb2.out.trans (hb1.mono (by simp; omega))
      clear hb1
      go_wp2_with fail
      exact bodyPost_ret (v := .tuple #[.agg #[.slice none 0 0, .int .i64 0, .int .i64 0, .bool false], .int .i64 1]) (by simp [results, Try.results17, go_sem, *]) rfl
        ⟨_, by first | (rw [hE.out]; done) | (rw [hE.out]; rfl), by rw [hD.out]; exact dkV_zero _, by (repeat (refine Below.setCell ?_ (by first | exact Nat.le_refl _ | (simp; done) | (simp; omega)) _)); exact hbF⟩
    have hk1' : k < (S.length : Int) := by omega
    clear hk1
    by_cases hbl : b.length = 128
    case neg =>
      have n1 : ((b.length : Int) != 128) = true := by simp; omega
      have hE := Lib.hid (show wtE ⟨S, left, tear, stop⟩ k b = 1 by unfold wtE; split <;> first | rfl | rw [if_pos hbl])
      have hD := Lib.hid (show wtD ⟨S, left, tear, stop⟩ k b = Dk.zero by rw [wtD, if_pos (.inr hbl)])
      clear hbl
      go_enter Try.func17, Try.ntmps17
      go_wp2_with fail
      refine (HC2.out _ hb2.out).mono ?_
      rintro e w1 ⟨rfl, hb1⟩
      obtain ⟨b0, b1, b2, b3, f0, f1, f2, f3⟩ := dkCells (HB1.out.below hb1 (by simp; omega))
      obtain ⟨r0, r1, r2, r3, s0, s1, s2, s3⟩ := dkCells (HB2.out.below hb1 (by simp))
      have hbF := hb2.out.trans (hb1.mono (by simp; omega))
      clear hb1
      go_wp2_with fail
      exact bodyPost_ret (v := .tuple #[.agg #[.slice none 0 0, .int .i64 0, .int .i64 0, .bool false], .int .i64 1]) (by simp [results, Try.results17, go_sem, *]) rfl
        ⟨_, by first | (rw [hE.out]; done) | (rw [hE.out]; rfl), by rw [hD.out]; exact dkV_zero _, by (repeat (refine Below.setCell ?_ (by first | exact Nat.le_refl _ | (simp; done) | (simp; omega)) _)); exact hbF⟩
    obtain ⟨ho1, ho2, ho3, ho4, ho5, ho6, ho7⟩ := chk_ok HCc.out
    simp only [] at ho1 ho2 ho3 ho4 ho5 ho6
    have hSk0 : chkS ⟨S, left, tear, stop⟩ k = 0 := by rw [HSk.out, if_pos ⟨rfl, hk0', hk1'⟩]
    obtain ⟨j, rfl⟩ : ∃ j : Nat, k = j := ⟨k.toNat, by omega⟩
    obtain ⟨t, rfl⟩ : ∃ t : Nat, tear = t := ⟨tear.toNat, by omega⟩
    have hE : wtE ⟨S, left, t, stop⟩ j b = if stop then 410 else if left = 0 then 410 else 0 := by
      rw [wtE, if_neg (by rw [hSk0]; decide), if_neg (by omega)]
    have hD : wtD ⟨S, left, t, stop⟩ j b = if stop then ⟨S, left, t, stop⟩ else ⟨S.set j (wrSec left t (S.getD j []) b), wrLeft left, t, decide (left = 0)⟩ := by
      rw [wtD, if_neg (by rw [hSk0]; simp [hbl])]; rfl
    have hbv := HV.out
    rw [hbl] at hbv ⊢
    have HV2 := Lib.hid hbv
    have HE := Lib.hid hE
    have HD := Lib.hid hD
    have HBL := Lib.hid hbl
    clear hE hD hbv hbl hSk0 ho7
    cases stop
    case «true» =>
      have hE : wtE ⟨S, left, t, true⟩ j b = 410 := HE.out
      have hD : wtD ⟨S, left, t, true⟩ j b = ⟨S, left, t, true⟩ := HD.out
      have hE := Lib.hid hE
      have hD := Lib.hid hD
      go_enter Try.func17, Try.ntmps17
      go_wp2_with fail
      refine (HC2.out _ hb2.out).mono ?_
      rintro e w1 ⟨rfl, hb1⟩
      obtain ⟨b0, b1, b2, b3, f0, f1, f2, f3⟩ := dkCells (HB1.out.below hb1 (by simp; omega))
      obtain ⟨r0, r1, r2, r3, s0, s1, s2, s3⟩ := dkCells (HB2.out.below hb1 (by simp))
      have hbF := hb2.out.trans (hb1.mono (by simp; omega))
      clear hb1
      go_wp2_with fail
      exact bodyPost_ret (v := .tuple #[.agg #[.slice a S.length cap, .int .i64 left, .int .i64 (t : Int), .bool true], .int .i64 410]) (by simp [results, Try.results17, go_sem, *]) rfl
        ⟨_, by first | (rw [hE.out]; done) | (rw [hE.out]; rfl), by rw [hD.out]; exact ⟨_, rfl, HS.out.next (by (repeat (refine Below.setCell ?_ (by first | exact Nat.le_refl _ | (simp; done) | (simp; omega)) _)); exact hbF)⟩, by (repeat (refine Below.setCell ?_ (by first | exact Nat.le_refl _ | (simp; done) | (simp; omega)) _)); exact hbF⟩
    case «false» =>
      obtain ⟨s, hjs⟩ : ∃ s, S[j]? = some s := ⟨_, List.getElem?_eq_getElem (by omega)⟩
      have hsl := any_len ho3 s (List.mem_of_getElem? hjs)
      have hget : S.getD j [] = s := by simp [List.getD, hjs]
      obtain ⟨vs, hvs, hel⟩ := HS.out
      have H1 := Lib.hid (els_one hvs.1 hel)
      have HVS := Lib.hid hvs
      have HEL := Lib.hid hel
      have HJ := Lib.hid hjs
      have HG := Lib.hid hget
      have HSL := Lib.hid hsl
      obtain ⟨i0, hi, hz0, hz1, hz2⟩ := info_parts infoSl
      obtain ⟨iu, hiu, hu0, hu1, hu2⟩ := info_parts infoU8
      have hSn : 0 < S.length := by omega
      clear hjs hget hsl ho3 hvs hel
      go_enter Try.func17, Try.ntmps17
      go_wp2_with fail
      refine (HC2.out _ hb2.out).mono ?_
      rintro e w1 ⟨rfl, hb1⟩
      obtain ⟨b0, b1, b2, b3, f0, f1, f2, f3⟩ := dkCells (HB1.out.below hb1 (by simp; omega))
      obtain ⟨r0, r1, r2, r3, s0, s1, s2, s3⟩ := dkCells (HB2.out.below hb1 (by simp))
      have hbF := hb2.out.trans (hb1.mono (by simp; omega))
      have hw1 := hbF.size
      have hz : w.heap.size + 1 < w1.heap.size := by have := hb1.size; simp at this; omega
      have HX := Lib.hid (HB1.out.below hb1 (by simp; omega))
      have HR := Lib.hid (HB2.out.below hb1 (by simp))
      clear hb1
      go_wp2_with fail
      go_cut [8] (fun s8 wx => RwRel w1 S.length left (t : Int) vs s8 wx)
      case first =>
        clear r0 r1 r2 r3 s0 s1 s2 s3 f0 f1 f2 f3
        have hl0 : w.heap.size < w1.heap.size := by omega
        go_region_held3 (fun w' => w'.cell? ⟨w.heap.size, 0, none⟩ = some (.slice a S.length cap) ∧ w'.cell? ⟨w.heap.size, 1, none⟩ = some (.int .i64 left) ∧ w'.cell? ⟨w.heap.size, 2, none⟩ = some (.int .i64 (t : Int)))
          (first
            | (with_reducible exact ⟨b0, b1, b2⟩)
            | (simp only [World.cell?_drew]; with_reducible exact ⟨b0, b1, b2⟩)
            | (with_reducible exact ⟨d0, d1, d2⟩)
            | (go_split_ands; refine ⟨?_, ?_, ?_⟩ <;> (rw [World.cell?_alloc_past _ _ _ (by first | omega | (simp; omega))]; assumption))
            | (go_split_ands; refine ⟨?_, ?_, ?_⟩ <;> (rw [World.cell?_drew, World.cell?_alloc_past _ _ _ (by first | omega | (simp; omega))]; assumption))
            | (go_split_ands; refine ⟨?_, ?_, ?_⟩ <;> ((repeat (rw [World.cell?_setCell_other _ _ _ _ (by intro h; have := congrArg Addr.block h; simp at this; omega)])); assumption)))
          (first
            | (refine step_append_slZ _ (by rfl) _ _ _ (by rfl) w1 w1.heap.size (Nat.le_refl _) (by (repeat (first | (refine Below.alloc ?_ (by simp) _) | (refine Below.drew ?_))); exact Below.refl _ _) 32 i0 _ 24 Try.underlying24 hi hz0 hz1 hz2 rfl (.slice (some ⟨w1.heap.size + 1, 0, none⟩) 0 0) 0 [] (by rfl) (by have := own_empty' (w1.alloc (.cells #[.slice none 0 0, .int .i64 0, .int .i64 0, .bool false] 26)) w1.heap.size (by simp) 32 1; simp only [World.size_alloc] at this; exact this) (.slice a S.length cap) S.length vs (by rfl) (HVS.out.next (by (repeat (first | (refine Below.alloc ?_ (by first | omega | (simp; omega)) _) | (refine Below.drew ?_))); exact hbF)) H1.out (by omega) (by unfold maxLen; omega) (by omega) (by first | (simp; done) | (simp; omega)) _ _ _ (by decide) ((Blk.new w1 _ _).alloc _) ?_
               intro gx capx w5 hown5 hb5 hsz5 hZ5 hk5
               obtain ⟨z0, z1, z2, z3, p0, p1, p2, p3⟩ := dkCells hZ5
               have hl5 : w.heap.size < w5.heap.size := (by have := hb5.size; omega)
               have d0 := (hb5.cell (p := ⟨w.heap.size, 0, none⟩) hl0).trans b0
               have d1 := (hb5.cell (p := ⟨w.heap.size, 1, none⟩) hl0).trans b1
               have d2 := (hb5.cell (p := ⟨w.heap.size, 2, none⟩) hl0).trans b2)
            | (refine step_append_slZ _ (by rfl) _ _ _ (by rfl) w1 w1.heap.size (Nat.le_refl _) (by (repeat (first | (refine Below.alloc ?_ (by simp) _) | (refine Below.drew ?_))); exact Below.refl _ _) 32 i0 _ 24 Try.underlying24 hi hz0 hz1 hz2 rfl (.slice (some ⟨w1.heap.size, 0, none⟩) 0 0) 0 [] (by rfl) ((own_empty' w1 w1.heap.size (Nat.le_refl _) 32 1).alloc _) (.slice a S.length cap) S.length vs (by rfl) (HVS.out.next (by (repeat (first | (refine Below.alloc ?_ (by first | omega | (simp; omega)) _) | (refine Below.drew ?_))); exact hbF)) H1.out (by omega) (by unfold maxLen; omega) (by omega) (by first | (simp; done) | (simp; omega)) _ _ _ (by decide) (blk_new2 w1 _ _ _) ?_
               intro gx capx w5 hown5 hb5 hsz5 hZ5 hk5
               obtain ⟨z0, z1, z2, z3, p0, p1, p2, p3⟩ := dkCells hZ5
               have hl5 : w.heap.size < w5.heap.size := (by have := hb5.size; omega)
               have d0 := (hb5.cell (p := ⟨w.heap.size, 0, none⟩) hl0).trans b0
               have d1 := (hb5.cell (p := ⟨w.heap.size, 1, none⟩) hl0).trans b1
               have d2 := (hb5.cell (p := ⟨w.heap.size, 2, none⟩) hl0).trans b2)
            | (refine step_append_sl _ (by rfl) _ _ _ (by rfl) w1 w1.heap.size (Nat.le_refl _) (by (repeat (first | (refine Below.alloc ?_ (by simp) _) | (refine Below.drew ?_))); exact Below.refl _ _) 32 i0 _ 24 Try.underlying24 hi hz0 hz1 hz2 rfl (.slice (some ⟨w1.heap.size, 0, none⟩) 0 0) 0 [] (by rfl) (own_empty' w1 w1.heap.size (Nat.le_refl _) 32 1) (.slice a S.length cap) S.length vs (by rfl) (HVS.out.next (by (repeat (first | (refine Below.alloc ?_ (by first | omega | (simp; omega)) _) | (refine Below.drew ?_))); exact hbF)) H1.out (by omega) (by unfold maxLen; omega) (by omega) (by first | (simp; done) | (simp; omega)) ?_
               intro gx capx w5 hown5 _ hb5 hsz5 hk5
               have hl5 : w.heap.size < w5.heap.size := (by have := hb5.size; omega)
               have d0 := (hb5.cell (p := ⟨w.heap.size, 0, none⟩) hl0).trans b0
               have d1 := (hb5.cell (p := ⟨w.heap.size, 1, none⟩) hl0).trans b1
               have d2 := (hb5.cell (p := ⟨w.heap.size, 2, none⟩) hl0).trans b2))
        all_goals
          go_wp2_with fail
          go_meet
          simp only [Nat.zero_add, List.nil_append] at hown5
          first
            | (with_reducible exact rw_fin2 hown5 hb5)
            | (with_reducible exact rw_fin1 hown5 hb5 (Nat.le_refl _) hZ5)
            | (with_reducible exact rw_fin1 hown5 hb5 (by omega) hZ5)
      case rest =>
        obtain ⟨g8, gx, capx, rfl, hg8, hB8, ho8, hb8⟩ := hcut
        obtain ⟨cur, hcur, hct, hgx0⟩ := own_block ho8
        have hcx : S.length ≤ capx := by obtain ⟨_, a', c', he, hle', _⟩ := Sl.of_own ho8; cases he; exact hle'
        have hgxB : Blk wc gx 32 cur.toArray := hcur
        have hbwc : Below w.heap.size w wc := hbF.trans (hb8.mono hw1)
        have hvl : vs.length = S.length := by have := HVS.out.1; omega
        have hjl : j < S.length := (List.getElem?_eq_some_iff.1 HJ.out).1
        obtain ⟨x0, hx0⟩ : ∃ x0, cur[j]? = some x0 := by
          have : (cur.take S.length)[j]? = vs[j]? := by rw [hct]
          rw [List.getElem?_take_of_lt hjl] at this
          exact ⟨_, this.trans (List.getElem?_eq_getElem (l := vs) (i := j) (by omega))⟩
        have n12 : gx ≠ g8 := Blk.ne_ hgxB hB8 (by decide)
        have n13 : gx ≠ w.heap.size + 1 := by omega
        have n14 : g8 ≠ w.heap.size + 1 := by omega
        have n15 : g8 ≠ w.heap.size := by omega
        have n16 : gx ≠ w.heap.size := by omega
        have HB8 := Lib.hid hB8
        have HGX := Lib.hid hgxB
        have HCT := Lib.hid hct
        have HXc := Lib.hid (HX.out.below hb8 (by omega))
        have HRc := Lib.hid (HR.out.below hb8 (by omega))
        have HX0 := Lib.hid hx0
        have HBWC := Lib.hid hbwc
        have hg8l := hB8.lt
        have hgxl := hgxB.lt
        obtain ⟨e0, _, _, _, _⟩ := dkCells hB8
        obtain ⟨b0', b1', b2', _, _⟩ := dkCells HXc.out
        clear hct hcur hgxB ho8 hB8 hx0 b0 b1 b2 b3 f0 f1 f2 f3 r0 r1 r2 r3 s0 s1 s2 s3
        by_cases hz0 : left = 0
        · subst hz0
          have hE := Lib.hid (show wtE ⟨S, 0, t, false⟩ j b = 410 by rw [HE.out, if_neg (by decide), if_pos rfl])
          have hD := Lib.hid (show wtD ⟨S, 0, t, false⟩ j b = ⟨S.set j (b.take t ++ s.drop t), wrLeft 0, t, true⟩ by
            rw [HD.out, if_neg (by decide), HG.out, decide_eq_true rfl]
            rfl)
          obtain ⟨x, hxv, hxs⟩ := HEL.out j s HJ.out
          rw [HSL.out] at hxs
          obtain ⟨ad, c, rfl⟩ := hxs.form
          obtain ⟨gs, os, rfl, hcs, _⟩ := hxs.pos (by omega)
          obtain ⟨ga, oa, rfl, hcap, hcells⟩ := HVS.out.pos (by omega)
          have hs00 := hcells j _ hxv
          have hgal := World.block_lt_of_cell? w _ hs00
          have hs0 := (HBWC.out.cell (p := ⟨ga, oa + j, none⟩) hgal).trans hs00
          have hgalc : ga < wc.heap.size := by have := HBWC.out.size; simp at hgal; omega
          have HT := Lib.hid (show Sl w 1 (.slice ab t cb) t (bc (b.take t)) from Sl.take (by have := HV2.out; rw [← HBL.out] at this; exact this) (by have := HBL.out; omega))
          have hcbl : 128 ≤ cb := by obtain ⟨_, a', c', he, hle', _⟩ := HV2.out; cases he; exact hle'
          have i1 : (0 : Int) ≤ (j : Int) := by omega
          have i2 : (t : Int) ≤ (cb : Int) := by omega
          have i3 : (0 : Int) ≤ (t : Int) := by omega
          have i4 : (t : Int) ≤ 128 := by omega
          have hgx3 : w.heap.size < gx := by omega
          clear hs00 hcells hxv
          by_cases hct0 : c = t
          · have ht128 : t = 128 := by omega
            have HDr := Lib.hid (show Sl w 1 (.slice (some ⟨gs, os, none⟩) (128 - t) 0) (128 - t) (bc (s.drop t)) from by
              have h0 : 128 - t = 0 := by omega
              have hd : s.drop t = [] := List.drop_eq_nil_of_le (by have := HSL.out; omega)
              exact ⟨by rw [hd, h0]; rfl, some ⟨gs, os, none⟩, 0, rfl, by omega, .inl h0⟩)
            clear ht128 hcs
            have hct1 := hct0.symm
            clear hct0
            subst hct1
            go_wp2_with fail
            go_region_held3 (fun w' => w'.cell? ⟨g8, 0, none⟩ = some (.slice (some ⟨gx, 0, none⟩) S.length capx) ∧ w'.cell? ⟨w.heap.size, 0, none⟩ = some (.slice (some ⟨ga, oa, none⟩) S.length cap) ∧ w'.cell? ⟨w.heap.size, 2, none⟩ = some (.int .i64 (t : Int)) ∧ w'.cell? ⟨ga, oa + j, none⟩ = some (.slice (some ⟨gs, os, none⟩) 128 t))
              (first
                | (with_reducible exact ⟨e0, b0', b2', hs0⟩)
                | (simp only [World.cell?_drew]; with_reducible exact ⟨e0, b0', b2', hs0⟩)
                | (with_reducible exact ⟨d0, d1, d2, d3⟩)
                | (with_reducible exact ⟨q0, q1, q2, q3⟩)
                | (go_split_ands; refine ⟨?_, ?_, ?_, ?_⟩ <;> (rw [World.cell?_alloc_past _ _ _ (by first | omega | (simp; omega))]; assumption))
                | (go_split_ands; refine ⟨?_, ?_, ?_, ?_⟩ <;> (rw [World.cell?_drew, World.cell?_alloc_past _ _ _ (by first | omega | (simp; omega))]; assumption))
                | (go_split_ands; refine ⟨?_, ?_, ?_, ?_⟩ <;> (rw [World.cell?_setCell_other _ _ _ _ (by intro h; have := congrArg Addr.block h; simp at this; omega)]; assumption)))
              (first
                | (refine step_append_sl0 _ (by rfl) _ _ _ (by rfl) wc wc.heap.size (Nat.le_refl _) (by (repeat (first | (refine Below.alloc ?_ (by first | exact Nat.le_refl _ | (simp; done)) _) | (refine Below.drew ?_))); exact Below.refl _ _) 5 iu _ 1 Try.underlying32 hiu hu0 hu1 hu2 rfl (.slice (some ⟨wc.heap.size, 0, none⟩) 0 0) 0 [] (by rfl) (own_empty' wc wc.heap.size (Nat.le_refl _) 5 1) (.slice ab t cb) t (bc (b.take t)) (by rfl) (HT.out.next (by (repeat (first | (refine Below.alloc ?_ (by have := HBWC.out.size; first | omega | (simp; omega)) _) | (refine Below.drew ?_))); exact HBWC.out)) (bc_one _) (by unfold maxLen; omega) (by omega) (by first | (simp; done) | (simp; omega)) ?_
                   intro vu5 w5 hown5 hb5 hsz5 hk5
                   have d0 := (hb5.cell (p := ⟨g8, 0, none⟩) hg8l).trans e0
                   have d1 := (hb5.cell (p := ⟨w.heap.size, 0, none⟩) HXc.out.lt).trans b0'
                   have d2 := (hb5.cell (p := ⟨w.heap.size, 2, none⟩) HXc.out.lt).trans b2'
                   have d3 := (hb5.cell (p := ⟨ga, oa + j, none⟩) hgalc).trans hs0
                   have hG5 := hk5 gx _ _ (by decide) (HGX.out.below (by (repeat (first | (refine Below.alloc ?_ (by first | exact Nat.le_refl _ | (simp; done)) _) | (refine Below.drew ?_))); exact Below.refl _ _) hgxl))
                | (refine step_append_sl _ (by rfl) _ _ _ (by rfl) wc wc.heap.size (Nat.le_refl _) hb5 5 iu _ 1 Try.underlying32 hiu hu0 hu1 hu2 rfl vu5 (0 + t) ([] ++ bc (b.take t)) (by rfl) hown5 _ (128 - t) (bc (s.drop t)) (by rfl) (HDr.out.next (HBWC.out.trans (hb5.mono HBWC.out.size))) (bc_one _) (by omega) (by unfold maxLen; omega) (by omega) hb5.size ?_
                   intro gu capu w6 hown6 _ hb6 hsz6 hk6
                   have q0 := (hb6.cell (p := ⟨g8, 0, none⟩) hg8l).trans e0
                   have q1 := (hb6.cell (p := ⟨w.heap.size, 0, none⟩) HXc.out.lt).trans b0'
                   have q2 := (hb6.cell (p := ⟨w.heap.size, 2, none⟩) HXc.out.lt).trans b2'
                   have q3 := (hb6.cell (p := ⟨ga, oa + j, none⟩) hgalc).trans hs0
                   have hG6 := hk6 gx _ _ (by decide) hG5
                   have c0 : w6.cell? ⟨gx, j, none⟩ = some x0 := (by rw [hG6.cell j, List.getElem?_toArray]; exact HX0.out)
                   have c1 : w6.frozen? ⟨gx, j, none⟩ = false := hG6.frozen j))
            have hl128 : t + (128 - t) = 128 := by omega
            simp only [Nat.zero_add, List.nil_append, hl128, ← bc_app] at hown6 ⊢
            have kX := (HXc.out.below hb6 HXc.out.lt).far (p := ⟨gx, j, none⟩) (by show w.heap.size ≠ gx; omega) (.slice (some ⟨gu, 0, none⟩) 128 capu)
            have k8 := (HB8.out.below hb6 hg8l).far (p := ⟨gx, j, none⟩) (by show g8 ≠ gx; omega) (.slice (some ⟨gu, 0, none⟩) 128 capu)
            have kR := (HRc.out.below hb6 HRc.out.lt).far (p := ⟨gx, j, none⟩) (by show w.heap.size + 1 ≠ gx; omega) (.slice (some ⟨gu, 0, none⟩) 128 capu)
            obtain ⟨x0', x1', x2', x3', xf0, xf1, xf2, xf3⟩ := dkCells kX
            obtain ⟨y0', y1', y2', y3', yf0, yf1, yf2, yf3⟩ := dkCells k8
            obtain ⟨z0', z1', z2', z3', zf0, zf1, zf2, zf3⟩ := dkCells kR
            obtain ⟨curu, hcuru, hctu, hgu0⟩ := own_block hown6
            have hcapu : 128 ≤ capu := by obtain ⟨_, a', c', he, hle', _⟩ := Sl.of_own hown6; cases he; omega
            have hbw6 : Below w.heap.size w w6 := HBWC.out.trans (hb6.mono HBWC.out.size)
            have m1 : ¬ g8 = w.heap.size := n15
            have m2 : ¬ w.heap.size = g8 := fun h => n15 h.symm
            have m3 : ¬ g8 = w.heap.size + 1 := n14
            have m4 : ¬ w.heap.size + 1 = g8 := fun h => n14 h.symm
            have hfin := Lib.hid (fun W => rw_end (W := W) (g8 := g8) (res := w.heap.size + 1) (sec := b.take t ++ s.drop t) hG6 HCT.out hcx (show Blk w6 gu 5 curu.toArray from hcuru) hctu (by have := HBL.out; have := HSL.out; simp; omega) (by omega) HEL.out hjl hvl hbw6 (by omega) (by omega) (by omega) n12 n13 (by omega) (by omega))
            clear kX k8 kR hown6 hcuru hctu hG6 hk6 c0 c1 q0 q1 q2 q3 e0 b0' b1' b2' hs0
            have hlf := Lib.hid (show wrLeft 0 = 0 from rfl)
            go_wp2_with fail
            exact bodyPost_ret (v := .tuple #[.agg #[.slice (some ⟨gx, 0, none⟩) S.length capx, .int .i64 0, .int .i64 (t : Int), .bool true], .int .i64 410]) (by simp [results, Try.results17, go_sem, *]) rfl
              ⟨_, by first | (rw [hE.out]; done) | (rw [hE.out]; rfl), by rw [hD.out, hlf.out]; exact ⟨_, by simp [dkAgg], (hfin.out _ (by repeat (first | (with_reducible exact Upd.refl _ _) | (refine Upd.setCell (S := fun q => q = g8 ∨ q = w.heap.size + 1) ?_ (Or.inl (by simp)) _)))).1⟩, (hfin.out _ (by repeat (first | (with_reducible exact Upd.refl _ _) | (refine Upd.setCell (S := fun q => q = g8 ∨ q = w.heap.size + 1) ?_ (Or.inl (by simp)) _)))).2⟩
          · have HDr := Lib.hid (Sl.drop (m := t) hxs HSL.out (by omega))
            clear hxs
            go_wp2_with fail
            go_region_held3 (fun w' => w'.cell? ⟨g8, 0, none⟩ = some (.slice (some ⟨gx, 0, none⟩) S.length capx) ∧ w'.cell? ⟨w.heap.size, 0, none⟩ = some (.slice (some ⟨ga, oa, none⟩) S.length cap) ∧ w'.cell? ⟨w.heap.size, 2, none⟩ = some (.int .i64 (t : Int)) ∧ w'.cell? ⟨ga, oa + j, none⟩ = some (.slice (some ⟨gs, os, none⟩) 128 c))
              (first
                | (with_reducible exact ⟨e0, b0', b2', hs0⟩)
                | (simp only [World.cell?_drew]; with_reducible exact ⟨e0, b0', b2', hs0⟩)
                | (with_reducible exact ⟨d0, d1, d2, d3⟩)
                | (with_reducible exact ⟨q0, q1, q2, q3⟩)
                | (go_split_ands; refine ⟨?_, ?_, ?_, ?_⟩ <;> (rw [World.cell?_alloc_past _ _ _ (by first | omega | (simp; omega))]; assumption))
                | (go_split_ands; refine ⟨?_, ?_, ?_, ?_⟩ <;> (rw [World.cell?_drew, World.cell?_alloc_past _ _ _ (by first | omega | (simp; omega))]; assumption))
                | (go_split_ands; refine ⟨?_, ?_, ?_, ?_⟩ <;> (rw [World.cell?_setCell_other _ _ _ _ (by intro h; have := congrArg Addr.block h; simp at this; omega)]; assumption)))
              (first
                | (refine step_append_sl0 _ (by rfl) _ _ _ (by rfl) wc wc.heap.size (Nat.le_refl _) (by (repeat (first | (refine Below.alloc ?_ (by first | exact Nat.le_refl _ | (simp; done)) _) | (refine Below.drew ?_))); exact Below.refl _ _) 5 iu _ 1 Try.underlying32 hiu hu0 hu1 hu2 rfl (.slice (some ⟨wc.heap.size, 0, none⟩) 0 0) 0 [] (by rfl) (own_empty' wc wc.heap.size (Nat.le_refl _) 5 1) (.slice ab t cb) t (bc (b.take t)) (by rfl) (HT.out.next (by (repeat (first | (refine Below.alloc ?_ (by have := HBWC.out.size; first | omega | (simp; omega)) _) | (refine Below.drew ?_))); exact HBWC.out)) (bc_one _) (by unfold maxLen; omega) (by omega) (by first | (simp; done) | (simp; omega)) ?_
                   intro vu5 w5 hown5 hb5 hsz5 hk5
                   have d0 := (hb5.cell (p := ⟨g8, 0, none⟩) hg8l).trans e0
                   have d1 := (hb5.cell (p := ⟨w.heap.size, 0, none⟩) HXc.out.lt).trans b0'
                   have d2 := (hb5.cell (p := ⟨w.heap.size, 2, none⟩) HXc.out.lt).trans b2'
                   have d3 := (hb5.cell (p := ⟨ga, oa + j, none⟩) hgalc).trans hs0
                   have hG5 := hk5 gx _ _ (by decide) (HGX.out.below (by (repeat (first | (refine Below.alloc ?_ (by first | exact Nat.le_refl _ | (simp; done)) _) | (refine Below.drew ?_))); exact Below.refl _ _) hgxl))
                | (refine step_append_sl _ (by rfl) _ _ _ (by rfl) wc wc.heap.size (Nat.le_refl _) hb5 5 iu _ 1 Try.underlying32 hiu hu0 hu1 hu2 rfl vu5 (0 + t) ([] ++ bc (b.take t)) (by rfl) hown5 _ (128 - t) (bc (s.drop t)) (by rfl) (HDr.out.next (HBWC.out.trans (hb5.mono HBWC.out.size))) (bc_one _) (by omega) (by unfold maxLen; omega) (by omega) hb5.size ?_
                   intro gu capu w6 hown6 _ hb6 hsz6 hk6
                   have q0 := (hb6.cell (p := ⟨g8, 0, none⟩) hg8l).trans e0
                   have q1 := (hb6.cell (p := ⟨w.heap.size, 0, none⟩) HXc.out.lt).trans b0'
                   have q2 := (hb6.cell (p := ⟨w.heap.size, 2, none⟩) HXc.out.lt).trans b2'
                   have q3 := (hb6.cell (p := ⟨ga, oa + j, none⟩) hgalc).trans hs0
                   have hG6 := hk6 gx _ _ (by decide) hG5
                   have c0 : w6.cell? ⟨gx, j, none⟩ = some x0 := (by rw [hG6.cell j, List.getElem?_toArray]; exact HX0.out)
                   have c1 : w6.frozen? ⟨gx, j, none⟩ = false := hG6.frozen j))
            have hl128 : t + (128 - t) = 128 := by omega
            simp only [Nat.zero_add, List.nil_append, hl128, ← bc_app] at hown6 ⊢
            have kX := (HXc.out.below hb6 HXc.out.lt).far (p := ⟨gx, j, none⟩) (by show w.heap.size ≠ gx; omega) (.slice (some ⟨gu, 0, none⟩) 128 capu)
            have k8 := (HB8.out.below hb6 hg8l).far (p := ⟨gx, j, none⟩) (by show g8 ≠ gx; omega) (.slice (some ⟨gu, 0, none⟩) 128 capu)
            have kR := (HRc.out.below hb6 HRc.out.lt).far (p := ⟨gx, j, none⟩) (by show w.heap.size + 1 ≠ gx; omega) (.slice (some ⟨gu, 0, none⟩) 128 capu)
            obtain ⟨x0', x1', x2', x3', xf0, xf1, xf2, xf3⟩ := dkCells kX
            obtain ⟨y0', y1', y2', y3', yf0, yf1, yf2, yf3⟩ := dkCells k8
            obtain ⟨z0', z1', z2', z3', zf0, zf1, zf2, zf3⟩ := dkCells kR
            obtain ⟨curu, hcuru, hctu, hgu0⟩ := own_block hown6
            have hcapu : 128 ≤ capu := by obtain ⟨_, a', c', he, hle', _⟩ := Sl.of_own hown6; cases he; omega
            have hbw6 : Below w.heap.size w w6 := HBWC.out.trans (hb6.mono HBWC.out.size)
            have m1 : ¬ g8 = w.heap.size := n15
            have m2 : ¬ w.heap.size = g8 := fun h => n15 h.symm
            have m3 : ¬ g8 = w.heap.size + 1 := n14
            have m4 : ¬ w.heap.size + 1 = g8 := fun h => n14 h.symm
            have hfin := Lib.hid (fun W => rw_end (W := W) (g8 := g8) (res := w.heap.size + 1) (sec := b.take t ++ s.drop t) hG6 HCT.out hcx (show Blk w6 gu 5 curu.toArray from hcuru) hctu (by have := HBL.out; have := HSL.out; simp; omega) (by omega) HEL.out hjl hvl hbw6 (by omega) (by omega) (by omega) n12 n13 (by omega) (by omega))
            clear kX k8 kR hown6 hcuru hctu hG6 hk6 c0 c1 q0 q1 q2 q3 e0 b0' b1' b2' hs0
            have hlf := Lib.hid (show wrLeft 0 = 0 from rfl)
            go_wp2_with fail
            exact bodyPost_ret (v := .tuple #[.agg #[.slice (some ⟨gx, 0, none⟩) S.length capx, .int .i64 0, .int .i64 (t : Int), .bool true], .int .i64 410]) (by simp [results, Try.results17, go_sem, *]) rfl
              ⟨_, by first | (rw [hE.out]; done) | (rw [hE.out]; rfl), by rw [hD.out, hlf.out]; exact ⟨_, by simp [dkAgg], (hfin.out _ (by repeat (first | (with_reducible exact Upd.refl _ _) | (refine Upd.setCell (S := fun q => q = g8 ∨ q = w.heap.size + 1) ?_ (Or.inl (by simp)) _)))).1⟩, (hfin.out _ (by repeat (first | (with_reducible exact Upd.refl _ _) | (refine Upd.setCell (S := fun q => q = g8 ∨ q = w.heap.size + 1) ?_ (Or.inl (by simp)) _)))).2⟩
        · have g1 : (left == 0) = false := by simpa using hz0
          have hE := Lib.hid (show wtE ⟨S, left, t, false⟩ j b = 0 by rw [HE.out, if_neg (by decide), if_neg hz0])
          have hD := Lib.hid (show wtD ⟨S, left, t, false⟩ j b = ⟨S.set j b, wrLeft left, t, false⟩ by
            rw [HD.out, if_neg (by decide), HG.out, decide_eq_false hz0]
            have : wrSec left t s b = b := by
              rw [wrSec, show wrM left t = 128 by rw [wrM, if_neg hz0], List.take_of_length_le (by have := HBL.out; omega), List.drop_eq_nil_of_le (by have := HSL.out; omega), List.append_nil]
            rw [this])
          have HZ := Lib.hid hz0
          have i1 : (0 : Int) ≤ (j : Int) := by omega
          clear hz0
          go_wp2_with fail
          go_region_held3 (fun w' => w'.cell? ⟨g8, 0, none⟩ = some (.slice (some ⟨gx, 0, none⟩) S.length capx))
            (first
              | (with_reducible exact e0)
              | (simp only [World.cell?_drew]; with_reducible exact e0)
              | (with_reducible exact d0)
              | (rw [World.cell?_alloc_past _ _ _ (by first | omega | (simp; omega))]; assumption)
              | (rw [World.cell?_drew, World.cell?_alloc_past _ _ _ (by first | omega | (simp; omega))]; assumption)
              | (rw [World.cell?_setCell_other _ _ _ _ (by intro h; have := congrArg Addr.block h; simp at this; omega)]; assumption))
            (first
              | (refine step_append_sl _ (by rfl) _ _ _ (by rfl) wc wc.heap.size (Nat.le_refl _) (by (repeat (first | (refine Below.alloc ?_ (by first | exact Nat.le_refl _ | (simp; done)) _) | (refine Below.drew ?_))); exact Below.refl _ _) 5 iu _ 1 Try.underlying32 hiu hu0 hu1 hu2 rfl (.slice (some ⟨wc.heap.size, 0, none⟩) 0 0) 0 [] (by rfl) (own_empty' wc wc.heap.size (Nat.le_refl _) 5 1) (.slice ab 128 cb) 128 (bc b) (by rfl) (HV2.out.next (by (repeat (first | (refine Below.alloc ?_ (by have := HBWC.out.size; first | omega | (simp; omega)) _) | (refine Below.drew ?_))); exact HBWC.out)) (bc_one _) (by omega) (by unfold maxLen; omega) (by omega) (by first | (simp; done) | (simp; omega)) ?_
                 intro gu capu w6 hown6 _ hb6 hsz6 hk6
                 have d0 := (hb6.cell (p := ⟨g8, 0, none⟩) hg8l).trans e0
                 have hl6 : g8 < w6.heap.size := (by have := hb6.size; omega)
                 have hG6 := hk6 gx _ _ (by decide) (HGX.out.below (by (repeat (first | (refine Below.alloc ?_ (by first | exact Nat.le_refl _ | (simp; done)) _) | (refine Below.drew ?_))); exact Below.refl _ _) hgxl)
                 have c0 : w6.cell? ⟨gx, j, none⟩ = some x0 := (by rw [hG6.cell j, List.getElem?_toArray]; exact HX0.out)
                 have c1 : w6.frozen? ⟨gx, j, none⟩ = false := hG6.frozen j))
          have kX := (HXc.out.below hb6 HXc.out.lt).far (p := ⟨gx, j, none⟩) (by show w.heap.size ≠ gx; omega) (.slice (some ⟨gu, 0, none⟩) 128 capu)
          have k8 := (HB8.out.below hb6 hg8l).far (p := ⟨gx, j, none⟩) (by show g8 ≠ gx; omega) (.slice (some ⟨gu, 0, none⟩) 128 capu)
          have kR := (HRc.out.below hb6 HRc.out.lt).far (p := ⟨gx, j, none⟩) (by show w.heap.size + 1 ≠ gx; omega) (.slice (some ⟨gu, 0, none⟩) 128 capu)
          obtain ⟨x0', x1', x2', x3', xf0, xf1, xf2, xf3⟩ := dkCells kX
          obtain ⟨y0', y1', y2', y3', yf0, yf1, yf2, yf3⟩ := dkCells k8
          obtain ⟨z0', z1', z2', z3', zf0, zf1, zf2, zf3⟩ := dkCells kR
          obtain ⟨curu, hcuru, hctu, hgu0⟩ := own_block hown6
          have hcapu : 128 ≤ capu := by obtain ⟨_, a', c', he, hle', _⟩ := Sl.of_own hown6; cases he; omega
          have hbw6 : Below w.heap.size w w6 := HBWC.out.trans (hb6.mono HBWC.out.size)
          have m1 : ¬ g8 = w.heap.size := n15
          have m2 : ¬ w.heap.size = g8 := fun h => n15 h.symm
          have m3 : ¬ g8 = w.heap.size + 1 := n14
          have m4 : ¬ w.heap.size + 1 = g8 := fun h => n14 h.symm
          have hfin := Lib.hid (fun W => rw_end (W := W) (g8 := g8) (res := w.heap.size + 1) hG6 HCT.out hcx (show Blk w6 gu 5 curu.toArray from hcuru) (by simpa using hctu) HBL.out (by omega) HEL.out hjl hvl hbw6 (by omega) (by omega) (by omega) n12 n13 (by omega) (by omega))
          clear kX k8 kR hown6 hcuru hctu hG6 hk6 c0 c1 d0 e0 b0' b1' b2'
          by_cases hp : 0 < left
          · have hlf := Lib.hid (show wrLeft left = left - 1 from if_pos hp)
            go_wp2_with fail
            exact bodyPost_ret (v := .tuple #[.agg #[.slice (some ⟨gx, 0, none⟩) S.length capx, .int .i64 (left - 1), .int .i64 (t : Int), .bool false], .int .i64 0]) (by simp [results, Try.results17, go_sem, *]) rfl
              ⟨_, by first | (rw [hE.out]; done) | (rw [hE.out]; rfl), by rw [hD.out, hlf.out]; exact ⟨_, by simp [dkAgg], (hfin.out _ (by repeat (first | (with_reducible exact Upd.refl _ _) | (refine Upd.setCell (S := fun q => q = g8 ∨ q = w.heap.size + 1) ?_ (Or.inl (by simp)) _)))).1⟩, (hfin.out _ (by repeat (first | (with_reducible exact Upd.refl _ _) | (refine Upd.setCell (S := fun q => q = g8 ∨ q = w.heap.size + 1) ?_ (Or.inl (by simp)) _)))).2⟩
          · have hlf := Lib.hid (show wrLeft left = left from if_neg hp)
            go_wp2_with fail
            exact bodyPost_ret (v := .tuple #[.agg #[.slice (some ⟨gx, 0, none⟩) S.length capx, .int .i64 left, .int .i64 (t : Int), .bool false], .int .i64 0]) (by simp [results, Try.results17, go_sem, *]) rfl
              ⟨_, by first | (rw [hE.out]; done) | (rw [hE.out]; rfl), by rw [hD.out, hlf.out]; exact ⟨_, by simp [dkAgg], (hfin.out _ (by repeat (first | (with_reducible exact Upd.refl _ _) | (refine Upd.setCell (S := fun q => q = g8 ∨ q = w.heap.size + 1) ?_ (Or.inl (by simp)) _)))).1⟩, (hfin.out _ (by repeat (first | (with_reducible exact Upd.refl _ _) | (refine Upd.setCell (S := fun q => q = g8 ∨ q = w.heap.size + 1) ?_ (Or.inl (by simp)) _)))).2⟩
end Go.Proofs.Ytekmdaphkgkgaaa
