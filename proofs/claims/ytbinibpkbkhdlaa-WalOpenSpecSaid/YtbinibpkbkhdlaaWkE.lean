/- Disk: New. -/
import Derived.Test.YtbinibpkbkhdlaaWkD
import Derived.Deep.RegionLaw
namespace Go.Proofs.Ytbinibpkbkhdlaa
open Go.RowKit

def zeros : List UInt8 := List.replicate 128 0
theorem zeros_len : zeros.length = 128 := by simp [zeros]
/-- k sectors of zeros -/
def newD (n : Nat) : Dk := ⟨List.replicate n zeros, -1, 0, false⟩
/-- a sector of zeros, in a block of its own from B on -/
def IsZ (B : Nat) (w : World) (x : Value) : Prop := ∃ g, x = .slice (some ⟨g, 0, none⟩) 128 128 ∧ B ≤ g ∧ Blk w g 5 (zc 128)
theorem Blk.ne_ {w : World} {g g' : Nat} {t t' : TypeId} {cs cs' : Array Value} (h : Blk w g t cs) (h' : Blk w g' t' cs') (hne : t ≠ t') : g ≠ g' := by
  rintro rfl
  unfold Blk at h h'
  rw [h] at h'
  injection h' with h'
  injection h' with _ ht
  exact hne ht
theorem own_blk_ne {w : World} {g : Nat} {t : TypeId} {cs : Array Value} {base : Nat} {e : TypeId} {size n : Nat} {v : Value} {xs : List Value} (h : w.ownsRow base e size v n xs) (hg : Blk w g t cs) (hne : e ≠ t) : v.ownBlock ≠ some g := by
  rcases h.2 with ⟨rfl, _⟩ | ⟨g', cap, cur, rfl, _, hh, _⟩
  · simp [Value.ownBlock]
  · intro he
    have : g' = g := by simpa [Value.ownBlock] using he
    subst this
    exact Blk.ne_ (t := e) hh hg hne rfl
theorem Blk.grown {w w' : World} {g : Nat} {t : TypeId} {cs : Array Value} {row : Option Nat} (h : Blk w g t cs) (hb : w.grownBy w' row) (hg : some g ≠ row) : Blk w' g t cs := (hb.block g h.lt hg).trans h
theorem Blk.far {w : World} {g : Nat} {t : TypeId} {cs : Array Value} (h : Blk w g t cs) {p : Addr} (hp : g ≠ p.block) (u : Value) : Blk (w.setCell p u) g t cs := (Below.heap_setCell w p u g hp).trans h
/-- what holds before round k: a row of the call's own with k whole sectors -/
def NewRel (w : World) (k : Nat) (v : Value) (wr : World) : Prop :=
  ∃ vs : List Value, wr.ownsRow (w.heap.size + 1) 25 1 v k vs ∧ (∀ x ∈ vs, IsZ (w.heap.size + 1) wr x) ∧ Blk wr w.heap.size 24 #[v, .int .i64 0, .int .i64 0, .bool false] ∧ Below w.heap.size w wr
theorem new_step {w wr w1 : World} {k gg gcap : Nat} {v : Value} {vs : List Value} (hown : wr.ownsRow (w.heap.size + 1) 25 1 v k vs) (hvs : ∀ x ∈ vs, IsZ (w.heap.size + 1) wr x)
    (hB : Blk wr w.heap.size 24 #[v, .int .i64 0, .int .i64 0, .bool false]) (hb : Below w.heap.size w wr)
    (hown1 : w1.ownsRow (w.heap.size + 1) 25 1 (.slice (some ⟨gg, 0, none⟩) (k + 1) gcap) (k + 1) (vs ++ [.slice (some ⟨wr.heap.size, 0, none⟩) 128 128]))
    (hgrow : (((wr.alloc (.cells (zc 128) 5)).alloc (.cells #[.slice (some ⟨wr.heap.size, 0, none⟩) 128 128] 25)).drew).grownBy w1 v.ownBlock) :
    NewRel w (k + 1) (.slice (some ⟨gg, 0, none⟩) (k + 1) gcap) (w1.setCell ⟨w.heap.size, 0, none⟩ (.slice (some ⟨gg, 0, none⟩) (k + 1) gcap)) := by
  have hBl := hB.lt
  have hlift : ∀ {g : Nat} {t : TypeId} {cs : Array Value}, 25 ≠ t → Blk wr g t cs → Blk w1 g t cs := fun hne h =>
    Blk.grown (w := ((wr.alloc (.cells (zc 128) 5)).alloc (.cells #[.slice (some ⟨wr.heap.size, 0, none⟩) 128 128] 25)).drew) (Blk.alloc (Blk.alloc h _) _) hgrow (Ne.symm (own_blk_ne hown h hne))
  have hnew : Blk w1 wr.heap.size 5 (zc 128) := by
    refine Blk.grown (w := ((wr.alloc (.cells (zc 128) 5)).alloc (.cells #[.slice (some ⟨wr.heap.size, 0, none⟩) 128 128] 25)).drew) ((Blk.new wr _ _).alloc _) hgrow (fun e => ?_)
    have := (hown.lt _ e.symm).2
    omega
  refine ⟨_, (Upd.setCell (Upd.refl (fun q => q = w.heap.size) w1) (p := ⟨w.heap.size, 0, none⟩) (.inl rfl) _).own hown1 (fun q hq => ?_), fun x hx => ?_, ?_, ?_⟩
  · have := (hown1.lt q hq).1; omega
  · rw [List.mem_append, List.mem_singleton] at hx
    rcases hx with hx | rfl
    · obtain ⟨g, rfl, hg, hG⟩ := hvs x hx
      exact ⟨g, rfl, hg, (hlift (by decide) hG).far (by show g ≠ w.heap.size; omega) _⟩
    · exact ⟨_, rfl, by omega, hnew.far (by show wr.heap.size ≠ w.heap.size; omega) _⟩
  · exact (hlift (by decide) hB).set_ 0 _
  · exact ((((hb.alloc (by omega) _).alloc (by simp; omega) _).drew).grown hgrow (by simp; omega) (fun q hq => by have := (hown.lt q hq).1; omega)).setCell (Nat.le_refl _) _
theorem zc_sl {w : World} {g : Nat} (h : Blk w g 5 (zc 128)) : Sl w 1 (.slice (some ⟨g, 0, none⟩) 128 128) 128 (bc zeros) := h.sl zc_128 (by simp [bc, zeros])
theorem new_secs {w wr W : World} {k : Nat} {v : Value} {vs : List Value} (hown : wr.ownsRow (w.heap.size + 1) 25 1 v k vs) (hvs : ∀ x ∈ vs, IsZ (w.heap.size + 1) wr x) (hU : Upd (fun q => q = w.heap.size) wr W) : Secs W v (List.replicate k zeros) := by
  refine ⟨vs, by rw [List.length_replicate]; exact Sl.of_own (hU.own hown (fun q hq e => by have := (hown.lt q hq).1; omega)), fun i s hs => ?_⟩
  have hl := hown.1
  have hi : i < k := by
    rcases Nat.lt_or_ge i k with h | h
    · exact h
    · rw [List.getElem?_eq_none (by simpa using h)] at hs; cases hs
  rw [List.getElem?_replicate, if_pos hi] at hs
  cases hs
  have hiv : i < vs.length := by omega
  obtain ⟨g, hg, hgB, hG0⟩ := hvs _ (List.getElem_mem hiv)
  have hG : Blk W g 5 (zc 128) := hU.heap hG0 (by show ¬ g = w.heap.size; omega)
  exact ⟨_, (List.getElem?_eq_getElem hiv).trans (congrArg some hg), by rw [zeros_len]; exact zc_sl hG⟩

set_option maxRecDepth 100000 in
set_option maxHeartbeats 1000000 in
theorem new_any (n : Nat) (h0 : 1 ≤ n) (hn : n ≤ 4096) (w : World) :
    Calls Try.prog 22 #[.int .i64 n] w fun e w' => RetDE (newD n) 0 w e w' := by
  obtain ⟨i0, hi, hz0, hz1, hz2⟩ := info_parts infoSl
  have hmk := mk128
  go_enter Try.func22, Try.ntmps22
  go_wp2_with fail
  go_loopw [12] (fun i wr => ∃ (k : Nat) (v : Value), k ≤ n ∧ i = .int .i64 k ∧ NewRel w k v wr) (fun i _ => n - (intOf i).toNat)
  case atStart => exact ⟨0, .slice none 0 0, by omega, rfl, [], World.ownsRow_nil _ _ _ _, fun x h => (by cases h), Blk.new w _ _, below_alloc w _⟩
  case round =>
    obtain ⟨k, v, hk, rfl, vs, hown, hvs, hB, hb⟩ := hrel
    obtain ⟨a, cap, rfl⟩ := (Sl.of_own hown).form
    obtain ⟨c0, c1, c2, c3, f0, f1, f2, f3⟩ := dkCells hB
    have Hvs := Lib.hid hvs
    have hBl := hB.lt
    have HB := Lib.hid hB
    clear hvs hB
    by_cases hlt : k < n
    · have hvB : (Value.slice a k cap).ownBlock ≠ some w.heap.size := fun e => by have := (hown.lt _ e).1; omega
      go_wp2_with fail
      go_region_law
        ((refine step_append_lies _ (by rfl) _ _ _ (by rfl) (w.heap.size + 1) 25 i0 _ 1 24 Try.underlying22 hi hz0 hz1 hz2 rfl (by omega) (.slice a k cap) k vs (by rfl) (((hown.alloc _).alloc _).drew)
            ⟨wr.heap.size + 1, 0, none⟩ 1 1 [.slice (some ⟨wr.heap.size, 0, none⟩) 128 128] (by rfl) (by rfl) (World.news_of_block (cs := #[.slice (some ⟨wr.heap.size, 0, none⟩) 128 128]) (t := 25) (fr := (0, 0)) (by have := heap_alloc_new (wr.alloc (.cells (zc 128) 5)) (.cells #[.slice (some ⟨wr.heap.size, 0, none⟩) 128 128] 25); simp only [World.size_alloc] at this; exact this)) (by simp [Value.oneCell'])
            (by omega) (by unfold maxLen; omega) (by omega) (by simp; omega) (wr.heap.size + 2) (by simp) ?_; intro gg gcap w1 hown1 hgrow hat hlt'
          have d0 : w1.cell? ⟨w.heap.size, 0, none⟩ = some (.slice a k cap) := (hgrow.cell_far ⟨w.heap.size, 0, none⟩ (by simp; omega) (Ne.symm hvB)).trans (by rw [World.cell?_drew, World.cell?_alloc_past _ _ _ (by simp; omega), World.cell?_alloc_past _ _ _ hBl]; exact c0)
          have d1 : w1.frozen? ⟨w.heap.size, 0, none⟩ = false := (hgrow.frozen_far ⟨w.heap.size, 0, none⟩ (by simp; omega) (Ne.symm hvB)).trans (by rw [World.frozen?_drew, World.frozen?_alloc_past _ _ _ (by simp; omega), World.frozen?_alloc_past _ _ _ hBl]; exact f0)))
      all_goals
        have hstep := Lib.hid (new_step hown Hvs.out HB.out hb hown1 hgrow)
        clear hown hgrow hown1 d0 d1
        go_wp2_with fail
        go_roundw
        case rel => exact ⟨k + 1, _, by omega, by go_num, hstep.out⟩
        case measure => simp [intOf]; omega
    · have hsec := Lib.hid hown
      clear hown
      go_wp2_with fail
      have hbF := hb
      have hkn : k = n := by omega
      subst hkn
      exact bodyPost_ret (v := .tuple #[.agg #[.slice a k cap, .int .i64 (-1), .int .i64 0, .bool false], .int .i64 0]) (by simp [results, Try.results22, go_sem, *]) rfl
          ⟨_, rfl, ⟨_, rfl, new_secs hsec.out Hvs.out (by (repeat (refine Upd.setCell (S := fun q => q = w.heap.size) ?_ (Or.inl rfl) _)); exact Upd.refl _ _)⟩, by (repeat (refine Below.setCell ?_ (by first | exact Nat.le_refl _ | (simp; done) | (simp; omega)) _)); exact hbF⟩
end Go.Proofs.Ytbinibpkbkhdlaa
