/-
  Layer 7, plain: the bytes of an object, which object bytes are, heads that are none; nothing of the program.
-/
import Derived.Lib.ItoaNum
namespace Go.Proofs.YtbcbbkdfdfgnfaaDoor
set_option linter.unusedVariables false
set_option linter.unusedSimpArgs false

/-- A digit. -/
def digO (c : UInt8) : Prop := 48 ≤ c.toNat ∧ c.toNat ≤ 57
/-- The number that digits are. -/
def valO (l : List UInt8) : Nat := l.foldl (fun a c => 10 * a + (c.toNat - 48)) 0
theorem valO_snoc (l : List UInt8) (c : UInt8) : valO (l ++ [c]) = 10 * valO l + (c.toNat - 48) := by simp [valO]
/-- A number's digits. -/
def numO (n : Nat) : List UInt8 := Lib.itoa (n : Int)
theorem numO_dec (n : Nat) : numO n = Lib.decDigits n := by
  unfold numO Lib.itoa
  rw [if_neg (by omega), Int.toNat_natCast]
theorem digO_of (k : Nat) (h : k < 10) : (UInt8.ofNat (48 + k)).toNat = 48 + k := by rw [UInt8.toNat_ofNat']; omega
theorem numO_spec (n : Nat) : (∀ c ∈ numO n, digO c) ∧ valO (numO n) = n ∧ numO n ≠ [] := by
  rw [numO_dec]
  induction n using Nat.strongRecOn with
  | ind u ih =>
    by_cases h : u < 10
    · rw [Lib.decDigits_one h]
      refine ⟨?_, ?_, by simp⟩
      · intro c hc; rw [List.mem_singleton] at hc; subst hc; unfold digO; rw [digO_of u h]; omega
      · have := valO_snoc [] (UInt8.ofNat (48 + u)); simp only [List.nil_append] at this; rw [this, digO_of u h]; simp [valO]
    · obtain ⟨h1, h2, h3⟩ := ih (u / 10) (by omega)
      rw [Lib.decDigits.eq_1 u, dif_neg h]
      refine ⟨?_, ?_, by simp⟩
      · intro c hc
        rcases List.mem_append.1 hc with hc | hc
        · exact h1 c hc
        · rw [List.mem_singleton] at hc; subst hc; unfold digO; rw [digO_of _ (by omega)]; omega
      · rw [valO_snoc, h2, digO_of _ (by omega)]; omega
theorem numO_inj {n m : Nat} (h : numO n = numO m) : n = m := by
  have := congrArg valO h
  rwa [(numO_spec n).2.1, (numO_spec m).2.1] at this
theorem numO_nz (n : Nat) : ∀ c ∈ numO n, c ≠ 0 := by
  intro c hc e
  subst e
  have := (numO_spec n).1 _ hc
  unfold digO at this
  exact absurd this.1 (by decide)
theorem numO_le (n : Nat) (j : Nat) (h : n < 10 ^ (j + 1)) : (numO n).length ≤ j + 1 := by
  rw [numO_dec]
  induction j generalizing n with
  | zero => rw [Lib.decDigits_one (by omega)]; simp
  | succ j ih =>
    by_cases h1 : n < 10
    · rw [Lib.decDigits_one h1]; simp
    · rw [Lib.decDigits.eq_1 n, dif_neg h1, List.length_append]
      have := ih (n / 10) (by rw [Nat.pow_succ] at h; omega)
      simp only [List.length_singleton]; omega

/-- The word of a kind. -/
def wordO (k : Int) : List UInt8 := if k = 1 then [98, 108, 111, 98] else if k = 2 then [116, 114, 101, 101] else if k = 3 then [99, 111, 109, 109, 105, 116] else []
/-- The head of an object of that kind, of so many bytes. -/
def headO (k : Int) (n : Nat) : List UInt8 := wordO k ++ 32 :: numO n
/-- The bytes of an object. -/
def objO (k : Int) (l : List UInt8) : List UInt8 := headO k l.length ++ 0 :: l
def kindO (k : Int) : Prop := k = 1 ∨ k = 2 ∨ k = 3

theorem wordO_nil (k : Int) : wordO k = [] ↔ ¬ kindO k := by
  unfold wordO kindO
  by_cases h1 : k = 1
  · simp [h1]
  · by_cases h2 : k = 2
    · simp [h2]
    · by_cases h3 : k = 3
      · simp [h3]
      · simp [h1, h2, h3]
theorem wordO_nz (k : Int) : ∀ c ∈ wordO k, c ≠ 0 := by
  unfold wordO
  by_cases h1 : k = 1
  · rw [if_pos h1]; decide
  · rw [if_neg h1]
    by_cases h2 : k = 2
    · rw [if_pos h2]; decide
    · rw [if_neg h2]
      by_cases h3 : k = 3
      · rw [if_pos h3]; decide
      · rw [if_neg h3]; simp
theorem wordO_len (k : Int) : (wordO k).length ≤ 6 := by
  unfold wordO
  split
  · simp
  · split
    · simp
    · split <;> simp
theorem headO_nz (k : Int) (n : Nat) : ∀ c ∈ headO k n, c ≠ 0 := by
  intro c hc
  unfold headO at hc
  rcases List.mem_append.1 hc with hc | hc
  · exact wordO_nz k c hc
  · rcases List.mem_cons.1 hc with rfl | hc
    · decide
    · exact numO_nz n c hc
theorem headO_inj {k k' : Int} {n n' : Nat} (hk : kindO k) (hk' : kindO k') (h : headO k n = headO k' n') : k = k' ∧ n = n' := by
  unfold headO at h
  rcases hk with rfl | rfl | rfl <;> rcases hk' with rfl | rfl | rfl <;> simp [wordO] at h <;> first | exact ⟨rfl, numO_inj h⟩ | skip

/-- Where no zero stands ahead of it, the first zero stands there. -/
theorem zero_first (x y : List UInt8) (h : ∀ c ∈ x, c ≠ 0) : (x ++ 0 :: y).findIdx (· == 0) = x.length := by
  induction x with
  | nil => rfl
  | cons c x ih =>
    rw [List.cons_append, List.findIdx_cons, ih (fun c hc => h c (List.mem_cons_of_mem _ hc))]
    have : (c == 0) = false := beq_false_of_ne (h c (List.mem_cons_self ..))
    rw [this]; rfl
theorem zero_split {x x' y y' : List UInt8} (h : ∀ c ∈ x, c ≠ 0) (h' : ∀ c ∈ x', c ≠ 0) (e : x ++ 0 :: y = x' ++ 0 :: y') : x = x' ∧ y = y' := by
  have hl : x.length = x'.length := by rw [← zero_first x y h, ← zero_first x' y' h', e]
  obtain ⟨h1, h2⟩ := List.append_inj e hl
  exact ⟨h1, (List.cons.inj h2).2⟩
theorem objO_inj {k k' : Int} {l l' : List UInt8} (hk : kindO k) (hk' : kindO k') (h : objO k l = objO k' l') : k = k' ∧ l = l' := by
  obtain ⟨h1, h2⟩ := zero_split (headO_nz _ _) (headO_nz _ _) h
  exact ⟨(headO_inj hk hk' h1).1, h2⟩
theorem objO_length (k : Int) (l : List UInt8) : (objO k l).length = (wordO k).length + (numO l.length).length + l.length + 2 := by
  unfold objO headO; simp only [List.length_append, List.length_cons]; omega

/-- What is printed, with its error. -/
def printO (k : Int) (l : List UInt8) : List UInt8 × Int :=
  if wordO k = [] then ([], 10) else if 65536 < l.length then ([], 5) else (objO k l, 0)
theorem printO_ok (k : Int) (l : List UInt8) (hk : kindO k) (hl : l.length ≤ 65536) : printO k l = (objO k l, 0) := by
  unfold printO; rw [if_neg (by rw [wordO_nil]; exact fun h => h hk), if_neg (by omega)]
theorem printO_kind (k : Int) (l : List UInt8) (hk : ¬ kindO k) : printO k l = ([], 10) := by
  unfold printO; rw [if_pos ((wordO_nil k).2 hk)]
theorem printO_limit (k : Int) (l : List UInt8) (hk : kindO k) (hl : 65536 < l.length) : printO k l = ([], 5) := by
  unfold printO; rw [if_neg (by rw [wordO_nil]; exact fun h => h hk), if_pos hl]

/-- Which object bytes are. -/
def takeO (b : List UInt8) : Option (Int × List UInt8) :=
  if (b.drop (b.findIdx (· == 0) + 1)).length ≤ 65536 then
    (([1, 2, 3] : List Int).find? (fun k => objO k (b.drop (b.findIdx (· == 0) + 1)) == b)).map (·, b.drop (b.findIdx (· == 0) + 1))
  else none
theorem take_some {b : List UInt8} {k : Int} {l : List UInt8} (h : takeO b = some (k, l)) : kindO k ∧ l.length ≤ 65536 ∧ objO k l = b := by
  unfold takeO at h
  by_cases hl : (b.drop (b.findIdx (· == 0) + 1)).length ≤ 65536
  · rw [if_pos hl] at h
    obtain ⟨k', hk', e⟩ := Option.map_eq_some_iff.1 h
    obtain ⟨rfl, rfl⟩ := Prod.mk.inj e
    refine ⟨?_, hl, ?_⟩
    · have := List.mem_of_find?_eq_some hk'
      simpa [kindO] using this
    · have := List.find?_some hk'
      exact eq_of_beq this
  · rw [if_neg hl] at h; cases h
theorem take_obj {k : Int} {l : List UInt8} (hk : kindO k) (hl : l.length ≤ 65536) : takeO (objO k l) = some (k, l) := by
  have hz : (objO k l).findIdx (· == 0) = (headO k l.length).length := zero_first _ _ (headO_nz _ _)
  have hd : (objO k l).drop ((objO k l).findIdx (· == 0) + 1) = l := by
    rw [hz, ← List.drop_drop]
    show ((headO k l.length ++ 0 :: l).drop (headO k l.length).length).drop 1 = l
    rw [List.drop_left]; rfl
  unfold takeO
  rw [hd, if_pos hl]
  have hf : ([1, 2, 3] : List Int).find? (fun k' => objO k' l == objO k l) = some k := by
    rcases hk with rfl | rfl | rfl
    · rw [List.find?_cons_of_pos (by simp)]
    · rw [List.find?_cons_of_neg, List.find?_cons_of_pos (by simp)]
      intro e
      exact absurd (objO_inj (Or.inl rfl) (Or.inr (Or.inl rfl)) (eq_of_beq e)).1 (by decide)
    · rw [List.find?_cons_of_neg, List.find?_cons_of_neg, List.find?_cons_of_pos (by simp)]
      · intro e
        exact absurd (objO_inj (Or.inr (Or.inl rfl)) (Or.inr (Or.inr rfl)) (eq_of_beq e)).1 (by decide)
      · intro e
        exact absurd (objO_inj (Or.inl rfl) (Or.inr (Or.inr rfl)) (eq_of_beq e)).1 (by decide)
  rw [hf]; rfl
theorem take_none {b : List UInt8} (h : ∀ k l, kindO k → l.length ≤ 65536 → objO k l ≠ b) : takeO b = none := by
  cases hb : takeO b with
  | none => rfl
  | some p =>
    obtain ⟨k, l⟩ := p
    obtain ⟨h1, h2, h3⟩ := take_some hb
    exact absurd h3 (h k l h1 h2)
theorem take_inv {b : List UInt8} (h : takeO b = none) (k : Int) (l : List UInt8) (hk : kindO k) (hl : l.length ≤ 65536) : objO k l ≠ b := by
  intro e; subst e; rw [take_obj hk hl] at h; cases h
/-- No zero, no object. -/
theorem take_nozero {b : List UInt8} (h : ∀ c ∈ b, c ≠ 0) : takeO b = none := by
  refine take_none fun k l hk hl e => ?_
  subst e
  exact h 0 (by unfold objO; simp) rfl
/-- A head without a zero, and what stands behind the zero. -/
theorem take_head {x y : List UInt8} (hx : ∀ c ∈ x, c ≠ 0) (h : ∀ k, kindO k → headO k y.length ≠ x) : takeO (x ++ 0 :: y) = none := by
  refine take_none fun k l hk hl e => ?_
  obtain ⟨h1, rfl⟩ := zero_split (headO_nz _ _) hx e
  exact h k hk h1
theorem take_long {x y : List UInt8} (hx : ∀ c ∈ x, c ≠ 0) (h : 65536 < y.length) : takeO (x ++ 0 :: y) = none := by
  refine take_none fun k l hk hl e => ?_
  obtain ⟨h1, rfl⟩ := zero_split (headO_nz _ _) hx e
  omega

/-- Heads that are none: another length. -/
theorem bad_more (k : Int) (hk : kindO k) (n m : Nat) (h : n ≠ m) : headO k n ≠ [98, 108, 111, 98, 32] ++ numO m := by
  intro e
  have e2 : headO k n = headO 1 m := e
  exact h (headO_inj hk (Or.inl rfl) e2).2
theorem bad_len (k : Int) (hk : kindO k) (n : Nat) (x : List UInt8) (h : x.length ≠ (numO n).length) : headO k n ≠ [98, 108, 111, 98, 32] ++ x := by
  intro e
  rcases hk with rfl | rfl | rfl <;> simp [headO, wordO] at e
  subst e; exact h rfl
theorem bad_zero (k : Int) (hk : kindO k) (n : Nat) : headO k n ≠ [98, 108, 111, 98, 32] ++ 48 :: numO n := bad_len k hk n _ (by simp)
theorem bad_plus (k : Int) (hk : kindO k) (n : Nat) : headO k n ≠ [98, 108, 111, 98, 32] ++ 43 :: numO n := bad_len k hk n _ (by simp)
theorem bad_blank (k : Int) (hk : kindO k) (n : Nat) : headO k n ≠ [98, 108, 111, 98, 32] ++ 32 :: numO n := bad_len k hk n _ (by simp)
theorem bad_behind (k : Int) (hk : kindO k) (n : Nat) : headO k n ≠ [98, 108, 111, 98, 32] ++ (numO n ++ [32]) := bad_len k hk n _ (by simp)
theorem bad_great (k : Int) (hk : kindO k) (n : Nat) (x : List UInt8) : headO k n ≠ 66 :: x := by
  intro e
  rcases hk with rfl | rfl | rfl <;> simp [headO, wordO] at e
theorem bad_tag (k : Int) (hk : kindO k) (n : Nat) (x : List UInt8) : headO k n ≠ 116 :: 97 :: x := by
  intro e
  rcases hk with rfl | rfl | rfl <;> simp [headO, wordO] at e
theorem bad_bare (k : Int) (hk : kindO k) (n : Nat) : headO k n ≠ [98, 108, 111, 98] := by
  intro e
  rcases hk with rfl | rfl | rfl <;> simp [headO, wordO] at e

end Go.Proofs.YtbcbbkdfdfgnfaaDoor
