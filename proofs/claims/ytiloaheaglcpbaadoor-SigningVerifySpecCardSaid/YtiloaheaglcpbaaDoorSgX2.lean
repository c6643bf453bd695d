/- Signing: the digits of a message, as the statement SigningChains takes them. -/
import Derived.Test.YtiloaheaglcpbaaDoorSgF5
import Derived.Deep.RegionLaw
namespace Go.Proofs.YtiloaheaglcpbaaDoor
open Go.RowKit

theorem own_emptyAt (W : World) (B g : Nat) (hg : B ≤ g) (e : TypeId) (size : Nat) (h : Blk W g e #[]) : W.ownsRow B e size (.slice (some ⟨g, 0, none⟩) 0 0) 0 [] :=
  ⟨by simp, .inr ⟨g, 0, #[], rfl, hg, h, Nat.le_refl _, Nat.zero_le _, by simp, by simp⟩⟩
theorem blk_at (W : World) (t : TypeId) (cs : Array Value) (g : Nat) (hg : g = W.heap.size) : Blk (W.alloc (.cells cs t)) g t cs := by subst hg; exact Blk.new W t cs
theorem sl_drew {w : World} {size n : Nat} {v : Value} {xs : List Value} (h : Sl w size v n xs) : Sl w.drew size v n xs := h
/-- append of a slice that reads as cells of one each, as one step of a region that draws -/
theorem step_append_sl {P : Program} {ops : Array Oper} {o : Oper} {a : Act} {w : World} {K : Act → World → Prop} {Q : Exit → Act → World → Prop} {E : Prop}
    (hgd : o.guard = none) (s x : Operand) (t : TypeId) (ho : o.op = .call { callee := .builtin .append, args := #[s, x], argTypes := #[t, t] })
    (base : Nat) (e : TypeId) (i : TypeInfo) (z : Value) (bytes : Nat) (ht : P.underlying t = some (.slice e)) (hi : P.info? e = some i) (hz : i.zero = some z)
    (hsize : i.size = 1) (hby : i.bytes = bytes) (hzs : z.cells.size = 1)
    (v : Value) (n : Nat) (xs : List Value) (hs : a.eval s = v) (hown : w.ownsRow base e 1 v n xs) (y : Value) (m : Nat) (ys : List Value) (hx : a.eval x = y)
    (hsl : Sl w 1 y m ys) (h1 : ∀ u ∈ ys, u.oneCell' = true) (hm : n + m ≤ maxLen) (hb : (n + m) * bytes ≤ 140737488355328) (hbase : base ≤ w.heap.size)
    (hK : ∀ v' w', w'.ownsRow base e 1 v' (n + m) (xs ++ ys) → w.grownBy w' v.ownBlock → K (a.put o.dst v') w') :
    if Region.wanted o (yielded ops a.tmps) = true then Oper.wp P o a w K Q else E := by
  have hw : Region.wanted o (yielded ops a.tmps) = true := by simp [Region.wanted, hgd]
  rw [if_pos hw]
  obtain ⟨v', w', hr, h2, h3⟩ := run_append_sl w base t o.type e i z bytes ht hi hz hsize hby hzs v n xs hown y m ys hsl h1 hm hb hbase
  unfold Oper.wp execOp
  simp only [ho, resolve, invoke, builtin, Sem.run_bind, Sem.run_pure, Result.andThen_ok, List.map_toArray, List.map_cons, List.map_nil, hs, hx, hr]
  exact hK _ _ h2 h3

set_option maxRecDepth 100000 in
set_option maxHeartbeats 1000000 in
theorem hash_any (d : List UInt8) (hd : d.length = 32) (ix : Nat) (hix : ix < 256) (msg : List UInt8) (q : Nat) (hq : msg.length = q) (hq9 : q ≤ 1000000) (ya : Option Addr) (ycap : Nat) (g1 g2 : Nat) (v p : Value) (w : World)
    (h1 : Blk w g1 26 (bc d).toArray) (h2 : Blk w g2 42 #[.int .i64 (ix : Int), v, p]) (hy : Sl w 1 (.slice ya q ycap) q (bc msg)) (hT : Tabs w) :
    Calls Tryd.prog 27 #[.slice ya q ycap, .pointer (some ⟨g1, 0, none⟩), .pointer (some ⟨g2, 0, none⟩)] w fun e w' => RetDig (mh d ix msg) w e w' := by
  obtain ⟨iu, hiu, hu0, hu1, hu2⟩ := info_parts infoU8
  have hbi := bc1 hix
  have Htg := Lib.hid (fun v W (hs : Sl W 1 v (32 + 1 + q) (bc (d ++ [UInt8.ofNat ix] ++ msg))) (hb : Below w.heap.size w W) => tagged_any ⟨#[109, 101, 115, 115, 97, 103, 101]⟩ (by decide) (d ++ [UInt8.ofNat ix] ++ msg) (32 + 1 + q) (by rw [List.length_append, List.length_append, hd, hq]; rfl) (by omega) (by omega) v W hs (hT.next hb))
  rw [show tg (sB ⟨#[109, 101, 115, 115, 97, 103, 101]⟩) (d ++ [UInt8.ofNat ix] ++ msg) = mh d ix msg from rfl, bc_app, bc_app, hbi] at Htg
  have HDg := Lib.hid (fun W => digits_any (mh d ix msg) (mh_len _ _ _) W)
  have Hl1 := Lib.hid (show (bc d).length = 32 by rw [bc_len, hd])
  have Ho1 := Lib.hid (bc_one d)
  have HoM := Lib.hid (bc_one msg)
  have HY := Lib.hid (fun W (hb : Below w.heap.size w W) => hy.next hb)
  unfold arrV at Htg HDg
  obtain ⟨D2, hD2⟩ : ∃ D2, bc (mh d ix msg) = D2 := ⟨_, rfl⟩
  rw [hD2] at Htg HDg
  obtain ⟨D, hD⟩ : ∃ D, bc d = D := ⟨_, rfl⟩
  rw [hD] at Htg Hl1 Ho1 h1
  obtain ⟨M, hM⟩ : ∃ M, bc msg = M := ⟨_, rfl⟩
  rw [hM] at Htg HoM HY
  obtain ⟨dm, hdm⟩ : ∃ dm, mh d ix msg = dm := ⟨_, rfl⟩
  rw [hdm] at HDg ⊢
  have lt1 := h1.lt
  have lt2 := h2.lt
  have H1 := Lib.hid h1
  obtain ⟨c0, _, _, _, _, _⟩ := cells3 h2
  have c0a : ∀ o, (w.alloc o).cell? ⟨g2, 0, none⟩ = some (.int .i64 (ix : Int)) := fun o => (cells3 (h2.alloc o)).1
  have H2 := Lib.hid h2
  clear hy hT hq hd hD hD2 hM hdm hbi h1 h2
  have hwrap : IntKind.u8.wrap (ix : Int) = (ix : Int) := by rw [IntKind.wrap_u8]; omega
  go_enter Tryd.func27, Tryd.ntmps27
  go_wp2_with fail
  go_region_law (first
    | (refine step_append_sl rfl (.tmp 5) (.tmp 6) 22 rfl w.heap.size 5 iu _ 1 Tryd.underlying22 hiu hu0 hu1 hu2 rfl (.slice (some ⟨_, 0, none⟩) 0 0) 0 [] rfl (own_emptyAt _ _ _ (by simp) _ _ (by (repeat (first | (with_reducible exact H1.out) | (with_reducible exact blk_at _ _ _ _ (by simp)) | (with_reducible refine Blk.drew ?_) | (with_reducible refine Blk.alloc ?_ _))))) (.slice (some ⟨g1, 0, none⟩) 32 32) 32 D rfl (Blk.sl (t := 26) (cs := D.toArray) (by (repeat (first | (with_reducible exact H1.out) | (with_reducible exact blk_at _ _ _ _ (by simp)) | (with_reducible refine Blk.drew ?_) | (with_reducible refine Blk.alloc ?_ _)))) rfl Hl1.out) Ho1.out (by unfold maxLen; omega) (by omega) (by first | exact Nat.le_refl _ | (simp; done) | (simp; omega)) ?_
       intro v7 w7 hown7 hg7
       have hb7 : Below w.heap.size w w7 := Below.grown (by (repeat (first | (with_reducible exact Below.refl _ _) | (with_reducible refine Below.drew ?_) | (with_reducible refine Below.alloc ?_ (by first | exact Nat.le_refl _ | (simp; done) | (simp; omega)) _)))) hg7 (by first | exact Nat.le_refl _ | (simp; done) | (simp; omega)) (fun k hk => by cases hk; simp)
       have hk7 := fun (g : Nat) (t : TypeId) (cs : Array Value) hB hne => blk_grown (g := g) (t := t) (cs := cs) hB hg7 hne
       have c7 : w7.cell? ⟨g2, 0, none⟩ = some (.int .i64 (ix : Int)) := (cells3 (H2.out.below hb7 lt2)).1)
    | (refine step_append_sl rfl (.tmp 7) (.tmp 11) 22 rfl w.heap.size 5 iu _ 1 Tryd.underlying22 hiu hu0 hu1 hu2 rfl v7 (0 + 32) ([] ++ D) rfl (by (repeat (first | (with_reducible exact hown7) | (with_reducible refine own_drew ?_) | (with_reducible refine World.ownsRow.alloc ?_ _)))) (.slice (some ⟨_, 0, none⟩) 1 1) 1 [.int .u8 (ix : Int)] rfl (Blk.sl (t := 5) (cs := #[.int .u8 (ix : Int)]) (by (repeat (first | (with_reducible exact blk_at _ _ _ _ (by simp)) | (with_reducible refine Blk.drew ?_) | (with_reducible refine hk7 _ _ _ ?_ (by simp [Value.ownBlock])) | (with_reducible refine Blk.alloc ?_ _)))) rfl rfl) (by intro u hu; simp at hu; subst hu; rfl) (by unfold maxLen; omega) (by omega) (by have := hb7.size; first | exact this | (simp; omega)) ?_
       intro v8 w8 hown8 hg8
       have hb8 : Below w.heap.size w w8 := Below.grown (by (repeat (first | (with_reducible exact hb7) | (with_reducible refine Below.drew ?_) | (with_reducible refine Below.alloc ?_ (by first | exact hb7.size | exact Nat.le_refl _ | (simp; done) | (simp; omega)) _)))) hg8 (by have := hb7.size; first | exact this | (simp; omega)) (fun k hk => (hown7.lt _ hk).1))
    | (refine step_append_sl rfl (.tmp 12) (.tmp 13) 22 rfl w.heap.size 5 iu _ 1 Tryd.underlying22 hiu hu0 hu1 hu2 rfl v8 (0 + 32 + 1) ([] ++ D ++ [.int .u8 (ix : Int)]) rfl (by (repeat (first | (with_reducible exact hown8) | (with_reducible refine own_drew ?_) | (with_reducible refine World.ownsRow.alloc ?_ _)))) (.slice ya q ycap) q M rfl (HY.out _ (by (repeat (first | (with_reducible exact hb8) | (with_reducible refine Below.drew ?_) | (with_reducible refine Below.alloc ?_ (by first | exact Nat.le_refl _ | (simp; done) | (simp; omega)) _))))) HoM.out (by unfold maxLen; omega) (by omega) (by have := hb8.size; first | exact this | (simp; omega)) ?_
       intro v9 w9 hown9 hg9
       have hb9 : Below w.heap.size w w9 := Below.grown (by (repeat (first | (with_reducible exact hb8) | (with_reducible refine Below.drew ?_) | (with_reducible refine Below.alloc ?_ (by first | exact Nat.le_refl _ | (simp; done) | (simp; omega)) _)))) hg9 (by have := hb8.size; first | exact this | (simp; omega)) (fun k hk => (hown8.lt _ hk).1)
       have hs9 : Sl w9 1 v9 (32 + 1 + q) (D ++ [.int .u8 (ix : Int)] ++ M) := Sl.of_own hown9)
    | (go_simp; go_at_call 28
       refine (Htg.out _ _ (by repeat (first | (with_reducible exact hs9) | (with_reducible refine sl_drew ?_))) (by (repeat (first | (with_reducible exact hb9) | (with_reducible refine Below.drew ?_) | (with_reducible refine Below.alloc ?_ (by first | exact Nat.le_refl _ | (simp; done) | (simp; omega)) _))))).mono ?_
       rintro e w10 ⟨rfl, hb10⟩
       have hb10' := hb9.trans (Below.mono (Below.trans (by (repeat (first | (with_reducible exact Below.refl _ _) | (with_reducible refine Below.drew ?_) | (with_reducible refine Below.alloc ?_ (by first | exact Nat.le_refl _ | (simp; done) | (simp; omega)) _)))) hb10) hb9.size))
    | (go_simp; go_at_call 16
       refine (HDg.out _).mono ?_
       rintro e w11 ⟨gx, rfl, hBx, hgx, hb11⟩
       have Hf := Lib.hid (And.intro hBx (And.intro hgx (hb10'.trans (Below.mono (Below.trans (by (repeat (first | (with_reducible exact Below.refl _ _) | (with_reducible refine Below.drew ?_) | (with_reducible refine Below.alloc ?_ (by first | exact Nat.le_refl _ | (simp; done) | (simp; omega)) _)))) hb11) hb10'.size))))))
  all_goals
    go_wp2_with fail
    go_ret
    exact ⟨_, rfl, Hf.out.1, Nat.le_trans hb10'.size Hf.out.2.1, Hf.out.2.2⟩
end Go.Proofs.YtiloaheaglcpbaaDoor
