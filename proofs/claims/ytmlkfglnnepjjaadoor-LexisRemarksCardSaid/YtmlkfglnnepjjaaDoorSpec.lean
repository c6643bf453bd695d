/- The plain words of layer 1: bytes, classes, scanning. Nothing of the program. -/
namespace Go.Proofs.YtmlkfglnnepjjaaDoor

def lt (c : Int) : Bool := decide (97 ≤ c ∧ c ≤ 122) || decide (65 ≤ c ∧ c ≤ 90)
def dg (c : Int) : Bool := decide (48 ≤ c ∧ c ≤ 57)
def inn (c : Int) : Bool := lt c || dg c || decide (c = 95)
def blk (c : Int) : Bool := decide (c = 32 ∨ c = 9 ∨ c = 10 ∨ c = 13)
def sgn (c : Int) : Bool := decide (c = 40 ∨ c = 41 ∨ c = 91 ∨ c = 93 ∨ c = 123 ∨ c = 125 ∨ c = 44 ∨ c = 46 ∨ c = 60 ∨ c = 61 ∨ c = 124 ∨ c = 63)

/-- the class of a byte -/
def cls (c : Int) : Int :=
  if blk c then 1 else if c = 35 then 2 else if lt c then 3 else if c = 95 then 4 else if dg c then 5 else if c = 45 then 6 else if sgn c then 7 else 0

theorem cls_cases (c : Int) : (cls c = 1 ∧ blk c = true) ∨ (cls c = 2 ∧ c = 35) ∨ (cls c = 3 ∧ lt c = true) ∨ (cls c = 4 ∧ c = 95) ∨ (cls c = 5 ∧ dg c = true) ∨ (cls c = 6 ∧ c = 45) ∨ (cls c = 7 ∧ sgn c = true) ∨
    (cls c = 0 ∧ blk c = false ∧ c ≠ 35 ∧ lt c = false ∧ c ≠ 95 ∧ dg c = false ∧ c ≠ 45 ∧ sgn c = false) := by
  unfold cls
  repeat' split
  all_goals simp_all
theorem lt_iff (c : Int) : lt c = true ↔ (97 ≤ c ∧ c ≤ 122) ∨ (65 ≤ c ∧ c ≤ 90) := by simp [lt]
theorem dg_iff (c : Int) : dg c = true ↔ 48 ≤ c ∧ c ≤ 57 := by simp [dg]
theorem blk_iff (c : Int) : blk c = true ↔ (c = 32 ∨ c = 9 ∨ c = 10 ∨ c = 13) := by simp [blk]
theorem inn_iff (c : Int) : inn c = true ↔ (97 ≤ c ∧ c ≤ 122) ∨ (65 ≤ c ∧ c ≤ 90) ∨ (48 ≤ c ∧ c ≤ 57) ∨ c = 95 := by simp [inn, lt_iff, dg_iff]; omega
theorem sgn_iff (c : Int) : sgn c = true ↔ (c = 40 ∨ c = 41 ∨ c = 91 ∨ c = 93 ∨ c = 123 ∨ c = 125 ∨ c = 44 ∨ c = 46 ∨ c = 60 ∨ c = 61 ∨ c = 124 ∨ c = 63) := by simp [sgn]
theorem cls_1 (c : Int) : cls c = 1 ↔ blk c = true := by
  have := cls_cases c
  simp only [blk_iff, lt_iff, dg_iff, sgn_iff, Bool.eq_false_iff, ne_eq] at *
  omega
theorem cls_2 (c : Int) : cls c = 2 ↔ c = 35 := by
  have := cls_cases c
  simp only [blk_iff, lt_iff, dg_iff, sgn_iff, Bool.eq_false_iff, ne_eq] at *
  omega
theorem cls_3 (c : Int) : cls c = 3 ↔ lt c = true := by
  have := cls_cases c
  simp only [blk_iff, lt_iff, dg_iff, sgn_iff, Bool.eq_false_iff, ne_eq] at *
  omega
theorem cls_4 (c : Int) : cls c = 4 ↔ c = 95 := by
  have := cls_cases c
  simp only [blk_iff, lt_iff, dg_iff, sgn_iff, Bool.eq_false_iff, ne_eq] at *
  omega
theorem cls_5 (c : Int) : cls c = 5 ↔ dg c = true := by
  have := cls_cases c
  simp only [blk_iff, lt_iff, dg_iff, sgn_iff, Bool.eq_false_iff, ne_eq] at *
  omega
theorem cls_6 (c : Int) : cls c = 6 ↔ c = 45 := by
  have := cls_cases c
  simp only [blk_iff, lt_iff, dg_iff, sgn_iff, Bool.eq_false_iff, ne_eq] at *
  omega
theorem cls_7 (c : Int) : cls c = 7 ↔ sgn c = true := by
  have := cls_cases c
  simp only [blk_iff, lt_iff, dg_iff, sgn_iff, Bool.eq_false_iff, ne_eq] at *
  omega
theorem inn_cls (c : Int) : inn c = true ↔ (cls c = 3 ∨ cls c = 4 ∨ cls c = 5) := by
  rw [cls_3, cls_4, cls_5]
  simp only [inn, Bool.or_eq_true, decide_eq_true_eq]
  grind

/-- the byte at an index, or -1 -/
def bA (l : List UInt8) (k : Nat) : Int := match l[k]? with | some c => (c.toNat : Int) | none => -1

theorem bA_lt {l : List UInt8} {k : Nat} (h : k < l.length) : bA l k = (l[k].toNat : Int) := by simp [bA, h]
theorem bA_ge {l : List UInt8} {k : Nat} (h : l.length ≤ k) : bA l k = -1 := by simp [bA, h]
theorem bA_bd (l : List UInt8) (k : Nat) : -1 ≤ bA l k ∧ bA l k ≤ 255 := by
  unfold bA
  split
  · rename_i c _
    have := c.toNat_lt
    omega
  · omega
theorem cls_big (c : Int) (h : 128 ≤ c) : cls c = 0 := by
  have h1 : blk c = false := by simp [blk]; omega
  have h2 : lt c = false := by simp [lt]; omega
  have h3 : dg c = false := by simp [dg]; omega
  have h4 : sgn c = false := by simp [sgn]; omega
  simp only [cls, h1, h2, h3, h4]
  simp
  omega
theorem cls_neg : cls (-1) = 0 := by decide

/-- the end of the bytes from k on for which p holds -/
def run (p : Int → Bool) (l : List UInt8) (k : Nat) : Nat := k + ((l.drop k).takeWhile fun c => p c.toNat).length
theorem run_step {p : Int → Bool} {l : List UInt8} {k : Nat} (h : k < l.length) (hp : p (bA l k) = true) : run p l k = run p l (k + 1) := by
  unfold run
  rw [List.drop_eq_getElem_cons h, List.takeWhile_cons]
  rw [bA_lt h] at hp
  simp [hp]; omega
theorem run_stop {p : Int → Bool} {l : List UInt8} {k : Nat} (hp : p (bA l k) = false) : run p l k = k := by
  unfold run
  by_cases h : k < l.length
  · rw [List.drop_eq_getElem_cons h, List.takeWhile_cons]
    rw [bA_lt h] at hp
    simp [hp]
  · rw [List.drop_eq_nil_of_le (by omega)]; simp
theorem run_end {p : Int → Bool} {l : List UInt8} {k : Nat} (h : l.length ≤ k) : run p l k = k := by
  unfold run
  rw [List.drop_eq_nil_of_le (by omega)]; simp
theorem run_le {p : Int → Bool} {l : List UInt8} {k : Nat} (h : k ≤ l.length) : run p l k ≤ l.length := by
  unfold run
  have := (List.takeWhile_prefix (l := l.drop k) (fun c : UInt8 => p c.toNat)).length_le
  simp at this
  omega
theorem run_ge (p : Int → Bool) (l : List UInt8) (k : Nat) : k ≤ run p l k := by unfold run; omega

/-- how many bytes of white space and comments; the Bool: in a comment -/
def skl : Bool → List UInt8 → Nat
  | _, [] => 0
  | false, c :: r => if blk c.toNat then 1 + skl false r else if (c.toNat : Int) = 35 then 1 + skl true r else 0
  | true, c :: r => if (c.toNat : Int) = 10 then 1 + skl false r else 1 + skl true r
def sk (b : Bool) (l : List UInt8) (k : Nat) : Nat := k + skl b (l.drop k)
theorem sk_ge (b : Bool) (l : List UInt8) (k : Nat) : k ≤ sk b l k := by unfold sk; omega
theorem skl_le (b : Bool) (l : List UInt8) : skl b l ≤ l.length := by
  induction l generalizing b with
  | nil => cases b <;> simp [skl]
  | cons c r ih =>
    have h1 := ih false
    have h2 := ih true
    cases b <;> simp only [skl, List.length_cons] <;> repeat' split
    all_goals omega
theorem sk_le {b : Bool} {l : List UInt8} {k : Nat} (h : k ≤ l.length) : sk b l k ≤ l.length := by
  have := skl_le b (l.drop k)
  simp at this
  unfold sk
  omega
theorem sk_end {b : Bool} {l : List UInt8} {k : Nat} (h : l.length ≤ k) : sk b l k = k := by
  unfold sk
  rw [List.drop_eq_nil_of_le (by omega)]; cases b <;> simp [skl]
theorem sk_blk {l : List UInt8} {k : Nat} (h : blk (bA l k) = true) : sk false l k = sk false l (k + 1) := by
  by_cases hk : k < l.length
  · rw [bA_lt hk] at h
    unfold sk
    rw [List.drop_eq_getElem_cons hk]
    simp [skl, h]; omega
  · rw [bA_ge (by omega)] at h
    exact absurd h (by decide)
theorem sk_hash {l : List UInt8} {k : Nat} (h : bA l k = 35) : sk false l k = sk true l k := by
  by_cases hk : k < l.length
  · rw [bA_lt hk] at h
    unfold sk
    rw [List.drop_eq_getElem_cons hk]
    simp [skl, h, show blk 35 = false by decide]
  · rw [bA_ge (by omega)] at h
    omega
theorem sk_in {l : List UInt8} {k : Nat} (hk : k < l.length) (h : bA l k ≠ 10) : sk true l k = sk true l (k + 1) := by
  rw [bA_lt hk] at h
  unfold sk
  rw [List.drop_eq_getElem_cons hk]
  simp [skl, h]; omega
theorem sk_nl {l : List UInt8} {k : Nat} (h : bA l k = 10) : sk true l k = sk false l k := by
  by_cases hk : k < l.length
  · rw [bA_lt hk] at h
    unfold sk
    rw [List.drop_eq_getElem_cons hk]
    simp [skl, h, show blk 10 = true by decide]
  · rw [bA_ge (by omega)] at h
    omega
theorem sk_stop {l : List UInt8} {k : Nat} (h : blk (bA l k) = false) (h2 : bA l k ≠ 35) : sk false l k = k := by
  unfold sk
  by_cases hk : k < l.length
  · rw [bA_lt hk] at h h2
    rw [List.drop_eq_getElem_cons hk]
    simp [skl, h, h2]
  · rw [List.drop_eq_nil_of_le (by omega)]; simp [skl]

/-- the digits of an integer's text -/
def digitsOf (l : List UInt8) : List UInt8 := if bA l 0 = 45 then l.tail else l
/-- is a text an integer? -/
def isInt (l : List UInt8) : Bool := l == [48] || (!(digitsOf l).isEmpty && decide ((digitsOf l).length ≤ 18) && decide (bA (digitsOf l) 0 ≠ 48) && (digitsOf l).all fun c => dg c.toNat)

/-- where the longest word that begins at k ends -/
def wEnd (l : List UInt8) (k : Nat) : Nat :=
  if bA l (run inn l k) = 58 ∧ lt (bA l (run inn l k + 1)) = true then run inn l (run inn l k + 1) else run inn l k
/-- a part of a text -/
def sub (l : List UInt8) (a b : Nat) : List UInt8 := (l.drop a).take (b - a)
/-- an integer, or what looks like one -/
def scNum (l : List UInt8) (k d : Nat) : Int × Nat := (if isInt (sub l k (run inn l d)) then 2 else 0, run inn l d)
/-- what begins with a minus -/
def scMin (l : List UInt8) (k : Nat) : Int × Nat :=
  if bA l (k + 1) = 62 then (3, k + 2) else if dg (bA l (k + 1)) = true then scNum l k (k + 1) else (0, k + 1)
/-- the kind of the token at k (0: none), and where it ends -/
def sc (l : List UInt8) (k : Nat) : Int × Nat :=
  if cls (bA l k) = 3 ∨ cls (bA l k) = 4 then (1, wEnd l k)
  else if cls (bA l k) = 5 then scNum l k k
  else if cls (bA l k) = 6 then scMin l k
  else if cls (bA l k) = 7 then (3, k + 1)
  else (0, k + 1)
theorem bA_drop (l : List UInt8) (k i : Nat) : bA (l.drop k) i = bA l (k + i) := by simp [bA]
theorem bA_take {l : List UInt8} {n i : Nat} (h : i < n) : bA (l.take n) i = bA l i := by simp [bA, h]
theorem two_of (l : List UInt8) : (l.take 2 = [45, 62]) ↔ (bA l 0 = 45 ∧ bA l 1 = 62) := by
  match l with
  | [] => simp [bA]
  | [a] => simp [bA]
  | a :: b :: r =>
    simp [bA]
    constructor
    · rintro ⟨rfl, rfl⟩; exact ⟨rfl, rfl⟩
    · rintro ⟨h1, h2⟩
      constructor <;> apply UInt8.toNat_inj.1 <;> simp <;> omega
theorem inn_of_lt {c : Int} (h : lt c = true) : inn c = true := by simp [inn, h]
theorem inn_of_dg {c : Int} (h : dg c = true) : inn c = true := by simp [inn, h]
theorem bA_in {l : List UInt8} {k : Nat} (h : 0 ≤ bA l k) : k < l.length := by
  rcases Nat.lt_or_ge k l.length with h' | h'
  · exact h'
  · rw [bA_ge h'] at h; omega
theorem run_gt {p : Int → Bool} {l : List UInt8} {k : Nat} (h : k < l.length) (hp : p (bA l k) = true) : k < run p l k := by
  rw [run_step h hp]; have := run_ge p l (k + 1); omega
theorem wEnd_bd {l : List UInt8} {k : Nat} (h : k < l.length) (hp : inn (bA l k) = true) : k < wEnd l k ∧ wEnd l k ≤ l.length := by
  have h1 := run_gt h hp
  have h2 := run_le (p := inn) (Nat.le_of_lt h)
  unfold wEnd
  split
  · rename_i hx
    have h3 : run inn l k + 1 < l.length := bA_in (by rw [lt_iff] at hx; omega)
    have h4 := run_ge inn l (run inn l k + 1)
    have h5 := run_le (p := inn) (Nat.le_of_lt h3)
    omega
  · omega
theorem scNum_bd {l : List UInt8} {k d : Nat} (hkd : k ≤ d) (h : d < l.length) (hp : dg (bA l d) = true) : k < (scNum l k d).2 ∧ (scNum l k d).2 ≤ l.length := by
  have h1 := run_gt h (inn_of_dg hp)
  have h2 := run_le (p := inn) (Nat.le_of_lt h)
  simp only [scNum]
  omega
theorem sc_bd {l : List UInt8} {k : Nat} (h : k < l.length) : k < (sc l k).2 ∧ (sc l k).2 ≤ l.length := by
  unfold sc
  split
  · rename_i hx
    exact wEnd_bd h ((inn_cls _).2 (by omega))
  split
  · rename_i hx
    exact scNum_bd (Nat.le_refl _) h (by rwa [cls_5] at hx)
  split
  · unfold scMin
    split
    · rename_i hx
      have : k + 1 < l.length := bA_in (by omega)
      simp only []; omega
    split
    · rename_i hx
      have : k + 1 < l.length := bA_in (by rw [dg_iff] at hx; omega)
      exact scNum_bd (by omega) this hx
    · simp only []; omega
  split
  · simp only []; omega
  · simp only []; omega
theorem sc_kind (l : List UInt8) (k : Nat) : 0 ≤ (sc l k).1 ∧ (sc l k).1 ≤ 3 := by
  unfold sc scNum scMin scNum
  repeat' split
  all_goals simp

/-- the tokens from an offset on (fuel, offset): kind, begin, end -/
def tkL (l : List UInt8) : Nat → Nat → List (Int × Nat × Nat)
  | 0, _ => []
  | f + 1, k => if k < l.length then (if (sc l k).1 = 0 then [] else [((sc l k).1, k, (sc l k).2)]) ++ tkL l f (sk false l (sc l k).2) else []
/-- the offsets at which runs of invalid bytes begin (fuel, offset, where the last run ended) -/
def bdL (l : List UInt8) : Nat → Nat → Int → List Nat
  | 0, _, _ => []
  | f + 1, k, last => if k < l.length then (if (sc l k).1 = 0 then (if (k : Int) = last then [] else [k]) ++ bdL l f (sk false l (sc l k).2) (sc l k).2 else bdL l f (sk false l (sc l k).2) last) else []
theorem tkL_end {l : List UInt8} {f k : Nat} (h : l.length ≤ k) : tkL l f k = [] := by cases f <;> simp [tkL]; omega
theorem bdL_end {l : List UInt8} {f k : Nat} {last : Int} (h : l.length ≤ k) : bdL l f k last = [] := by cases f <;> simp [bdL]; omega
def toks (l : List UInt8) : List (Int × Nat × Nat) := tkL l l.length (sk false l 0)
def bads (l : List UInt8) : List Nat := bdL l l.length (sk false l 0) (-1)
/-- the reference's simple word and word -/
def wst (c : Int) : Bool := lt c || decide (c = 95)
def smp (l : List UInt8) (k : Nat) : Nat := if wst (bA l k) then run inn l k else k
def wrd (l : List UInt8) (k : Nat) : Nat :=
  if k < smp l k ∧ bA l (smp l k) = 58 ∧ lt (bA l (smp l k + 1)) = true then smp l (smp l k + 1) else smp l k
theorem wst_inn {c : Int} (h : wst c = true) : inn c = true := by
  simp only [wst, inn, Bool.or_eq_true, decide_eq_true_eq] at *
  grind
theorem wst_neg : wst (-1) = false := by decide
theorem smp_lt {l : List UInt8} {k : Nat} (h : wst (bA l k) = true) : k < smp l k := by
  have hk : k < l.length := by
    rcases Nat.lt_or_ge k l.length with h' | h'
    · exact h'
    · rw [bA_ge h'] at h; exact absurd h (by decide)
  rw [smp, if_pos h]
  exact run_gt hk (wst_inn h)
theorem smp_no {l : List UInt8} {k : Nat} (h : wst (bA l k) = false) : smp l k = k := by rw [smp, h]; simp
theorem smp_le {l : List UInt8} {k : Nat} (h : k ≤ l.length) : smp l k ≤ l.length := by
  unfold smp
  split
  · exact run_le h
  · exact h
theorem smp_ge (l : List UInt8) (k : Nat) : k ≤ smp l k := by
  unfold smp
  split
  · exact run_ge _ _ _
  · exact Nat.le_refl _
theorem wrd_word {l : List UInt8} {k : Nat} (h : wst (bA l k) = true) : wrd l k = wEnd l k := by
  have h1 := smp_lt h
  have h2 : smp l k = run inn l k := by rw [smp, if_pos h]
  unfold wrd wEnd
  simp only [h1, true_and]
  rw [h2]
  split
  · rename_i hx
    rw [smp, if_pos (by simp [wst, hx.2])]
  · rfl
theorem wrd_no {l : List UInt8} {k : Nat} (h : wst (bA l k) = false) : wrd l k = k := by
  unfold wrd
  rw [smp_no h]; simp
/-- is a text a sign? -/
def sgnT (l : List UInt8) : Bool := l == [45, 62] || (decide (l.length = 1) && sgn (bA l 0))
theorem wst_cls (c : Int) : wst c = true ↔ (cls c = 3 ∨ cls c = 4) := by
  rw [cls_3, cls_4]; simp [wst]
theorem sc_word {l : List UInt8} {k : Nat} (h : wst (bA l k) = true) : sc l k = (1, wrd l k) := by
  rw [wrd_word h, sc, if_pos ((wst_cls _).1 h)]
theorem sc_digit {l : List UInt8} {k : Nat} (h : dg (bA l k) = true) : sc l k = scNum l k k := by
  have h5 := (cls_5 _).2 h
  rw [sc, if_neg (by omega), if_pos h5]
theorem sc_mdigit {l : List UInt8} {k : Nat} (h : bA l k = 45) (hd : dg (bA l (k + 1)) = true) : sc l k = scNum l k (k + 1) := by
  have h6 := (cls_6 _).2 h
  rw [sc, if_neg (by omega), if_neg (by omega), if_pos h6, scMin, if_neg (by rw [dg_iff] at hd; omega), if_pos hd]
theorem sgnT_two {l : List UInt8} {k : Nat} (h : k + 2 ≤ l.length) : sgnT (sub l k (k + 2)) = decide (bA l k = 45 ∧ bA l (k + 1) = 62) := by
  have h2 := two_of (l.drop k)
  rw [bA_drop, bA_drop, Nat.add_zero] at h2
  have hl : (sub l k (k + 2)).length ≠ 1 := by simp [sub]; omega
  have he : sub l k (k + 2) = (l.drop k).take 2 := by simp [sub]
  rw [sgnT, decide_eq_false hl, he, Bool.eq_iff_iff]
  simpa using h2
theorem sgnT_one {l : List UInt8} {k : Nat} (h : k < l.length) : sgnT (sub l k (k + 1)) = sgn (bA l k) := by
  have hl : (sub l k (k + 1)).length = 1 := by simp [sub]; omega
  have h2 : (sub l k (k + 1) == [45, 62]) = false := by
    rw [Bool.eq_false_iff]
    intro hx
    have h3 : sub l k (k + 1) = [45, 62] := by simpa using hx
    rw [h3] at hl; simp at hl
  have hb : bA (sub l k (k + 1)) 0 = bA l k := by
    have e : sub l k (k + 1) = (l.drop k).take 1 := by simp [sub]
    rw [e, bA_take (by omega), bA_drop, Nat.add_zero]
  rw [sgnT, h2, hl, hb]; simp
/-- what is neither a word nor an integer -/
theorem sc_sign {l : List UInt8} {k : Nat} (hk : k < l.length) (h1 : wst (bA l k) = false) (h2 : dg (bA l k) = false) (h3 : bA l k = 45 → dg (bA l (k + 1)) = false) :
    sc l k = if k + 2 ≤ l.length ∧ sgnT (sub l k (k + 2)) = true then (3, k + 2) else if sgnT (sub l k (k + 1)) = true then (3, k + 1) else (0, k + 1) := by
  have c3 : ¬ (cls (bA l k) = 3 ∨ cls (bA l k) = 4) := by rw [← wst_cls, h1]; simp
  have c5 : ¬ cls (bA l k) = 5 := by rw [cls_5, h2]; simp
  have e2 : (k + 2 ≤ l.length ∧ sgnT (sub l k (k + 2)) = true) ↔ (bA l k = 45 ∧ bA l (k + 1) = 62) := by
    constructor
    · intro h; rw [sgnT_two h.1] at h; simpa using h.2
    · intro h
      have hlt : k + 1 < l.length := bA_in (by omega)
      exact ⟨by omega, by rw [sgnT_two (by omega)]; simp [h.1, h.2]⟩
  rw [sc, if_neg c3, if_neg c5, sgnT_one hk]
  simp only [e2]
  by_cases h45 : bA l k = 45
  · have hs : sgn (bA l k) = false := by rw [h45]; decide
    rw [if_pos ((cls_6 _).2 h45), hs, scMin, h3 h45]
    by_cases h62 : bA l (k + 1) = 62 <;> simp [h45, h62]
  · have c6 : ¬ cls (bA l k) = 6 := by rw [cls_6]; exact h45
    by_cases hs : sgn (bA l k) = true
    · have c7 := (cls_7 _).2 hs
      simp [c7, h45, hs]
    · have c7 : ¬ cls (bA l k) = 7 := by rw [cls_7]; exact hs
      simp [c6, c7, h45, hs]
/-- line and column of an offset -/
def plc (l : List UInt8) : Nat → Nat × Nat
  | 0 => (1, 1)
  | k + 1 => if bA l k = 10 then ((plc l k).1 + 1, 1) else ((plc l k).1, (plc l k).2 + 1)
theorem plc_bd (l : List UInt8) (k : Nat) : (plc l k).1 ≤ k + 1 ∧ (plc l k).2 ≤ k + 1 ∧ 1 ≤ (plc l k).2 := by
  induction k with
  | zero => simp [plc]
  | succ k ih =>
    simp only [plc]
    split
    · simp only []; omega
    · simp only []; omega
theorem tkL_len (l : List UInt8) : ∀ f k, (tkL l f k).length ≤ l.length - k := by
  intro f
  induction f with
  | zero => intro k; simp [tkL]
  | succ f ih =>
    intro k
    unfold tkL
    split
    · rename_i h
      have hb := sc_bd h
      have hs := sk_ge false l (sc l k).2
      have h2 := ih (sk false l (sc l k).2)
      rw [List.length_append]
      split
      · simp only [List.length_nil]; omega
      · simp only [List.length_cons, List.length_nil]; omega
    · simp
theorem toks_len (l : List UInt8) : (toks l).length ≤ l.length := by
  have := tkL_len l l.length (sk false l 0)
  unfold toks
  omega
end Go.Proofs.YtmlkfglnnepjjaaDoor
