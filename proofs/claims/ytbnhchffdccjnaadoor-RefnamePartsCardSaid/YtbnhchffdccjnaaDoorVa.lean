/-
  Layer 11, plain: names of refs and branches, as functions of lists of bytes; nothing of the program.
-/
import Derived.Test.YtbnhchffdccjnaaDoorIp
import Derived.Lib.Strings
namespace Go.Proofs.YtbnhchffdccjnaaDoor
set_option linter.unusedVariables false
set_option linter.unusedSimpArgs false

/-- A byte that a name may have. -/
def okR (c : UInt8) : Bool := decide (32 < c.toNat) && !(c.toNat == 127) && !([126, 94, 58, 63, 42, 91, 92].contains c)
/-- Two bytes that no name has beside each other. -/
def pairB (c d : UInt8) : Bool := (c.toNat == 46 && d.toNat == 46) || (c.toNat == 64 && d.toNat == 123)
def pairsL : List UInt8 → Bool
  | [] => true
  | [_] => true
  | c :: d :: r => !pairB c d && pairsL (d :: r)
def lockL : List UInt8 := [46, 108, 111, 99, 107]
def partR (n : List UInt8) : Bool := !(n == []) && !([46].isPrefixOf n) && !(lockL.isSuffixOf n)
/-- Is it the name of a ref? -/
def refL (l : List UInt8) : Bool :=
  decide (l.length ≤ 200) && Lib.validD l && !([46].isSuffixOf l) && decide (2 ≤ (splitL l).length) && (splitL l).all partR && l.all okR && pairsL l
def headsL : List UInt8 := [114, 101, 102, 115, 47, 104, 101, 97, 100, 115, 47]
/-- Is it the name of a branch? -/
def branchL (l : List UInt8) : Bool := !([45].isPrefixOf l) && refL (headsL ++ l)

theorem pairs_cons (c d : UInt8) (r : List UInt8) : pairsL (c :: d :: r) = (!pairB c d && pairsL (d :: r)) := rfl
/-- By places: no two of them beside each other. -/
theorem pairs_iff : ∀ (l : List UInt8), pairsL l = true ↔ ∀ i, i + 1 < l.length → pairB (l.getD i 0) (l.getD (i + 1) 0) = false
  | [] => by simp [pairsL]
  | [c] => by simp [pairsL]
  | c :: d :: r => by
    have ih := pairs_iff (d :: r)
    rw [pairs_cons, Bool.and_eq_true, ih]
    constructor
    · rintro ⟨h1, h2⟩ i hi
      cases i with
      | zero => simpa using h1
      | succ i => have := h2 i (by simp at hi ⊢; omega); simpa using this
    · intro h
      refine ⟨by have := h 0 (by simp); simpa using this, fun i hi => ?_⟩
      have := h (i + 1) (by simp at hi ⊢; omega)
      simpa using this
theorem pairs_app : ∀ (a b : List UInt8), pairsL (a ++ b) = (pairsL a && pairsL b && (a == [] || b == [] || !pairB (a.getD (a.length - 1) 0) (b.getD 0 0)))
  | [], b => by simp [pairsL]
  | [c], [] => by simp [pairsL]
  | [c], d :: r => by
    simp only [List.cons_append, List.nil_append, pairs_cons]
    cases h : pairB c d <;> cases h2 : pairsL (d :: r) <;> simp [pairsL, h]
  | c :: d :: r, b => by
    have ih := pairs_app (d :: r) b
    simp only [List.cons_append] at ih ⊢
    rw [pairs_cons, ih, pairs_cons]
    have e : (c :: d :: r).getD ((c :: d :: r).length - 1) 0 = (d :: r).getD ((d :: r).length - 1) 0 := by
      simp [List.getD_eq_getElem?_getD]
    rw [e]
    cases !pairB c d <;> simp
theorem okR_at (l : List UInt8) : l.all okR = true ↔ ∀ i, i < l.length → okR (l.getD i 0) = true := by
  rw [List.all_eq_true]
  constructor
  · intro h i hi
    rw [List.getD_eq_getElem?_getD, List.getElem?_eq_getElem hi]
    exact h _ (List.getElem_mem hi)
  · intro h c hc
    obtain ⟨i, hi, rfl⟩ := List.getElem_of_mem hc
    have := h i hi
    rwa [List.getD_eq_getElem?_getD, List.getElem?_eq_getElem hi] at this
/-- What is right stands by itself, whatever follows. -/
theorem safe_of_valid : ∀ (n : Nat) (l : List UInt8), l.length ≤ n → Lib.validD l = true → Safe l := by
  intro n
  induction n with
  | zero =>
    intro l hl _
    obtain rfl : l = [] := List.eq_nil_of_length_eq_zero (by omega)
    exact safe_nil
  | succ n ih =>
    intro l hl hv t
    by_cases h : l = []
    · subst h; rfl
    have hs := Lib.validD_step l h
    rw [hv] at hs
    have hg : goodL l := by
      intro hb
      rw [if_pos hb] at hs
      cases hs
    have hb : ¬ ((Lib.decodeL l).1 = 65533 ∧ (Lib.decodeL l).2 = 1) := hg
    rw [if_neg hb] at hs
    have hp := wid_pos l
    have hle := wid_le l h
    have e : Lib.decodeL (l ++ t) = Lib.decodeL l := by
      have := good_take l (l.drop (widL l) ++ t) h hg
      rwa [← List.append_assoc, List.take_append_drop] at this
    have hne : l ++ t ≠ [] := by simp [h]
    rw [Lib.validD_step (l ++ t) hne, e, if_neg hb]
    have hd : (l ++ t).drop (Lib.decodeL l).2 = l.drop (Lib.decodeL l).2 ++ t := List.drop_append_of_le_length hle
    rw [hd]
    have hl2 : (l.drop (Lib.decodeL l).2).length ≤ n := by
      rw [List.length_drop]
      have : 1 ≤ (Lib.decodeL l).2 := hp
      have : 1 ≤ l.length := by cases l with | nil => exact absurd rfl h | cons _ _ => simp
      omega
    exact ih _ hl2 hs.symm t
theorem valid_safe (l : List UInt8) (h : Lib.validD l = true) : Safe l := safe_of_valid l.length l (Nat.le_refl _) h
theorem valid_app (a b : List UInt8) (ha : Lib.validD a = true) : Lib.validD (a ++ b) = Lib.validD b := valid_safe a ha b
theorem heads_safe : Safe headsL := safe_all _ (by decide)
theorem split_heads (l : List UInt8) : splitL (headsL ++ l) = [[114, 101, 102, 115], [104, 101, 97, 100, 115]] ++ splitL l := by
  show splitL ([114, 101, 102, 115] ++ 47 :: ([104, 101, 97, 100, 115] ++ 47 :: l)) = _
  rw [split_at _ 47 (by decide) [114, 101, 102, 115] (by decide), split_at _ 47 (by decide) [104, 101, 97, 100, 115] (by decide)]
  rfl
/-- A branch's name, by its own bytes. -/
theorem suffix_dot (a l : List UInt8) (h : l ≠ []) : [46].isSuffixOf (a ++ l) = ([46].isSuffixOf l : Bool) := by
  have key : ∀ x : List UInt8, x ≠ [] → ([46].isSuffixOf x : Bool) = (x.getD (x.length - 1) 0 == 46) := by
    intro x hx
    obtain ⟨y, z, rfl⟩ : ∃ y z, x = y ++ [z] := ⟨x.dropLast, x.getLast hx, (List.dropLast_concat_getLast hx).symm⟩
    rw [Bool.eq_iff_iff, List.isSuffixOf_iff_suffix]
    have : (y ++ [z]).getD ((y ++ [z]).length - 1) 0 = z := by simp [List.getD_eq_getElem?_getD]
    rw [this, beq_iff_eq]
    constructor
    · rintro ⟨u, hu⟩
      have := List.append_inj_right' hu rfl
      simpa using this.symm
    · rintro rfl
      exact ⟨y, rfl⟩
  rw [key _ (by simp [h]), key l h]
  have hl : 0 < l.length := List.length_pos_iff.2 h
  rw [show (a ++ l).length - 1 = a.length + (l.length - 1) by rw [List.length_append]; omega]
  rw [List.getD_eq_getElem?_getD, List.getElem?_append_right (by omega), Nat.add_sub_cancel_left, List.getD_eq_getElem?_getD]
theorem branch_iff (l : List UInt8) : branchL l = true ↔ l.length ≤ 189 ∧ Lib.validD l = true ∧ ([46].isSuffixOf l : Bool) = false ∧ l ≠ [] ∧ (splitL l).all partR = true ∧ l.all okR = true ∧ pairsL l = true ∧ ([45].isPrefixOf l : Bool) = false := by
  unfold branchL refL
  rw [heads_safe l, split_heads, List.all_append, List.all_append, pairs_app]
  have e1 : ([[114, 101, 102, 115], [104, 101, 97, 100, 115]] : List (List UInt8)).all partR = true := by decide
  have e2 : headsL.all okR = true := by decide
  have e3 : pairsL headsL = true := by decide
  have e4 : ∀ d : UInt8, pairB (headsL.getD (headsL.length - 1) 0) d = false := by
    intro d
    show pairB 47 d = false
    unfold pairB
    simp
  rw [e1, e2, e3, e4]
  have e5 : (headsL ++ l).length = 11 + l.length := by rw [List.length_append]; rfl
  have e6 : (([[114, 101, 102, 115], [104, 101, 97, 100, 115]] ++ splitL l : List (List UInt8))).length = 2 + (splitL l).length := by rw [List.length_append]; rfl
  rw [e5, e6]
  by_cases h : l = []
  · subst h
    simp [splitL, partR]
  · rw [suffix_dot headsL l h]
    simp only [Bool.and_eq_true, Bool.not_eq_true', decide_eq_true_eq, Bool.true_and, Bool.not_false, Bool.or_true, Bool.and_true]
    constructor
    · rintro ⟨h1, ⟨⟨⟨⟨⟨h2, h3⟩, h4⟩, h5⟩, h6⟩, h7⟩, h8⟩
      exact ⟨by omega, h3, h4, h, h6, h7, h8, h1⟩
    · rintro ⟨h2, h3, h4, h5, h6, h7, h8, h1⟩
      exact ⟨h1, ⟨⟨⟨⟨⟨by omega, h3⟩, h4⟩, by omega⟩, h6⟩, h7⟩, h8⟩
/-- Two branches' names with a slash between are a branch's, and a ref's. -/
theorem branch_two (a b : List UInt8) (ha : branchL a = true) (hb : branchL b = true) (hl : a.length ≤ 80) (hm : b.length ≤ 80) : branchL (a ++ 47 :: b) = true ∧ refL (a ++ 47 :: b) = true := by
  obtain ⟨a1, a2, a3, a4, a5, a6, a7, a8⟩ := (branch_iff a).1 ha
  obtain ⟨b1, b2, b3, b4, b5, b6, b7, b8⟩ := (branch_iff b).1 hb
  have c1 : (a ++ 47 :: b).length ≤ 161 := by rw [List.length_append, List.length_cons]; omega
  have c2 : Lib.validD (a ++ 47 :: b) = true := by rw [valid_app a _ a2, Lib.validD_cons 47 b (by decide)]; exact b2
  have c3 : ([46].isSuffixOf (a ++ 47 :: b) : Bool) = false := by
    have := suffix_dot (a ++ [47]) b b4
    rw [List.append_assoc] at this
    rw [show a ++ 47 :: b = a ++ ([47] ++ b) from rfl, this]
    exact b3
  have c5 : (splitL (a ++ 47 :: b)).all partR = true := by rw [split_app b 47 (by decide) a, List.all_append, a5, b5]; rfl
  have c6 : (a ++ 47 :: b).all okR = true := by
    rw [List.all_append, a6, List.all_cons, b6]; rfl
  have c7 : pairsL (a ++ 47 :: b) = true := by
    have e : pairsL (47 :: b) = true := by
      cases b with
      | nil => rfl
      | cons d r => rw [pairs_cons, b7]; simp [pairB]
    rw [pairs_app, a7, e]
    have : pairB (a.getD (a.length - 1) 0) ((47 :: b).getD 0 0) = false := by
      show pairB (a.getD (a.length - 1) 0) 47 = false
      generalize a.getD (a.length - 1) 0 = d
      unfold pairB
      simp
    rw [this]
    simp
  have c8 : ([45].isPrefixOf (a ++ 47 :: b) : Bool) = false := by
    cases a with
    | nil => exact absurd rfl a4
    | cons c r => simpa [List.isPrefixOf] using a8
  refine ⟨(branch_iff _).2 ⟨by omega, c2, c3, by simp, c5, c6, c7, c8⟩, ?_⟩
  unfold refL
  rw [c2, c3, c5, c6, c7, split_app b 47 (by decide) a]
  have := split_ne a
  have := split_ne b
  have h1 : 1 ≤ (splitL a).length := List.length_pos_iff.2 (split_ne a)
  have h2 : 1 ≤ (splitL b).length := List.length_pos_iff.2 (split_ne b)
  rw [decide_eq_true (show (a ++ 47 :: b).length ≤ 200 by omega), decide_eq_true (show 2 ≤ (splitL a ++ splitL b).length by rw [List.length_append]; omega)]
  rfl
end Go.Proofs.YtbnhchffdccjnaaDoor
