/-
  Texts that belong together, one behind the other.
-/
import Derived.Lib.ItoaNum
import Derived.Test.YtdgcjjledbnofaaDoorFu05
/-
  Layer 7, plain: the bytes of an object, which object bytes are, heads that are none; nothing of the program.
-/
namespace Go.Proofs.YtdgcjjledbnofaaDoor
set_option linter.unusedVariables false
set_option linter.unusedSimpArgs false

/-- A digit. -/
def digO (c : UInt8) : Prop := 48 ≤ c.toNat ∧ c.toNat ≤ 57
/-- The number that digits are. -/
def valO (l : List UInt8) : Nat := l.foldl (fun a c => 10 * a + (c.toNat - 48)) 0
theorem valO_snoc (l : List UInt8) (c : UInt8) : valO (l ++ [c]) = 10 * valO l + (c.toNat - 48) := by simp [valO]
/-- A number's digits. -/
def numO (n : Nat) : List UInt8 := Lib.itoa (n : Int)
theorem numO_dec (n : Nat) : numO n = Lib.decDigits n := by
  unfold numO Lib.itoa
  rw [if_neg (by omega), Int.toNat_natCast]
theorem digO_of (k : Nat) (h : k < 10) : (UInt8.ofNat (48 + k)).toNat = 48 + k := by rw [UInt8.toNat_ofNat']; omega
theorem numO_spec (n : Nat) : (∀ c ∈ numO n, digO c) ∧ valO (numO n) = n ∧ numO n ≠ [] := by
  rw [numO_dec]
  induction n using Nat.strongRecOn with
  | ind u ih =>
    by_cases h : u < 10
    · rw [Lib.decDigits_one h]
      refine ⟨?_, ?_, by simp⟩
      · intro c hc; rw [List.mem_singleton] at hc; subst hc; unfold digO; rw [digO_of u h]; omega
      · have := valO_snoc [] (UInt8.ofNat (48 + u)); simp only [List.nil_append] at this; rw [this, digO_of u h]; simp [valO]
    · obtain ⟨h1, h2, h3⟩ := ih (u / 10) (by omega)
      rw [Lib.decDigits.eq_1 u, dif_neg h]
      refine ⟨?_, ?_, by simp⟩
      · intro c hc
        rcases List.mem_append.1 hc with hc | hc
        · exact h1 c hc
        · rw [List.mem_singleton] at hc; subst hc; unfold digO; rw [digO_of _ (by omega)]; omega
      · rw [valO_snoc, h2, digO_of _ (by omega)]; omega
theorem numO_inj {n m : Nat} (h : numO n = numO m) : n = m := by
  have := congrArg valO h
  rwa [(numO_spec n).2.1, (numO_spec m).2.1] at this
theorem numO_nz (n : Nat) : ∀ c ∈ numO n, c ≠ 0 := by
  intro c hc e
  subst e
  have := (numO_spec n).1 _ hc
  unfold digO at this
  exact absurd this.1 (by decide)
theorem numO_le (n : Nat) (j : Nat) (h : n < 10 ^ (j + 1)) : (numO n).length ≤ j + 1 := by
  rw [numO_dec]
  induction j generalizing n with
  | zero => rw [Lib.decDigits_one (by omega)]; simp
  | succ j ih =>
    by_cases h1 : n < 10
    · rw [Lib.decDigits_one h1]; simp
    · rw [Lib.decDigits.eq_1 n, dif_neg h1, List.length_append]
      have := ih (n / 10) (by rw [Nat.pow_succ] at h; omega)
      simp only [List.length_singleton]; omega

/-- The word of a kind. -/
def wordO (k : Int) : List UInt8 := if k = 1 then [98, 108, 111, 98] else if k = 2 then [116, 114, 101, 101] else if k = 3 then [99, 111, 109, 109, 105, 116] else []
/-- The head of an object of that kind, of so many bytes. -/
def headO (k : Int) (n : Nat) : List UInt8 := wordO k ++ 32 :: numO n
/-- The bytes of an object. -/
def objO (k : Int) (l : List UInt8) : List UInt8 := headO k l.length ++ 0 :: l
def kindO (k : Int) : Prop := k = 1 ∨ k = 2 ∨ k = 3

theorem wordO_nil (k : Int) : wordO k = [] ↔ ¬ kindO k := by
  unfold wordO kindO
  by_cases h1 : k = 1
  · simp [h1]
  · by_cases h2 : k = 2
    · simp [h2]
    · by_cases h3 : k = 3
      · simp [h3]
      · simp [h1, h2, h3]
theorem wordO_nz (k : Int) : ∀ c ∈ wordO k, c ≠ 0 := by
  unfold wordO
  by_cases h1 : k = 1
  · rw [if_pos h1]; decide
  · rw [if_neg h1]
    by_cases h2 : k = 2
    · rw [if_pos h2]; decide
    · rw [if_neg h2]
      by_cases h3 : k = 3
      · rw [if_pos h3]; decide
      · rw [if_neg h3]; simp
theorem wordO_len (k : Int) : (wordO k).length ≤ 6 := by
  unfold wordO
  split
  · simp
  · split
    · simp
    · split <;> simp
theorem headO_nz (k : Int) (n : Nat) : ∀ c ∈ headO k n, c ≠ 0 := by
  intro c hc
  unfold headO at hc
  rcases List.mem_append.1 hc with hc | hc
  · exact wordO_nz k c hc
  · rcases List.mem_cons.1 hc with rfl | hc
    · decide
    · exact numO_nz n c hc
theorem headO_inj {k k' : Int} {n n' : Nat} (hk : kindO k) (hk' : kindO k') (h : headO k n = headO k' n') : k = k' ∧ n = n' := by
  unfold headO at h
  rcases hk with rfl | rfl | rfl <;> rcases hk' with rfl | rfl | rfl <;> simp [wordO] at h <;> first | exact ⟨rfl, numO_inj h⟩ | skip

/-- Where no zero stands ahead of it, the first zero stands there. -/
theorem zero_first (x y : List UInt8) (h : ∀ c ∈ x, c ≠ 0) : (x ++ 0 :: y).findIdx (· == 0) = x.length := by
  induction x with
  | nil => rfl
  | cons c x ih =>
    rw [List.cons_append, List.findIdx_cons, ih (fun c hc => h c (List.mem_cons_of_mem _ hc))]
    have : (c == 0) = false := beq_false_of_ne (h c (List.mem_cons_self ..))
    rw [this]; rfl
theorem zero_split {x x' y y' : List UInt8} (h : ∀ c ∈ x, c ≠ 0) (h' : ∀ c ∈ x', c ≠ 0) (e : x ++ 0 :: y = x' ++ 0 :: y') : x = x' ∧ y = y' := by
  have hl : x.length = x'.length := by rw [← zero_first x y h, ← zero_first x' y' h', e]
  obtain ⟨h1, h2⟩ := List.append_inj e hl
  exact ⟨h1, (List.cons.inj h2).2⟩
theorem objO_inj {k k' : Int} {l l' : List UInt8} (hk : kindO k) (hk' : kindO k') (h : objO k l = objO k' l') : k = k' ∧ l = l' := by
  obtain ⟨h1, h2⟩ := zero_split (headO_nz _ _) (headO_nz _ _) h
  exact ⟨(headO_inj hk hk' h1).1, h2⟩
theorem objO_length (k : Int) (l : List UInt8) : (objO k l).length = (wordO k).length + (numO l.length).length + l.length + 2 := by
  unfold objO headO; simp only [List.length_append, List.length_cons]; omega

/-- What is printed, with its error. -/
def printO (k : Int) (l : List UInt8) : List UInt8 × Int :=
  if wordO k = [] then ([], 10) else if 65536 < l.length then ([], 5) else (objO k l, 0)
theorem printO_ok (k : Int) (l : List UInt8) (hk : kindO k) (hl : l.length ≤ 65536) : printO k l = (objO k l, 0) := by
  unfold printO; rw [if_neg (by rw [wordO_nil]; exact fun h => h hk), if_neg (by omega)]
theorem printO_kind (k : Int) (l : List UInt8) (hk : ¬ kindO k) : printO k l = ([], 10) := by
  unfold printO; rw [if_pos ((wordO_nil k).2 hk)]
theorem printO_limit (k : Int) (l : List UInt8) (hk : kindO k) (hl : 65536 < l.length) : printO k l = ([], 5) := by
  unfold printO; rw [if_neg (by rw [wordO_nil]; exact fun h => h hk), if_pos hl]

/-- Which object bytes are. -/
def takeO (b : List UInt8) : Option (Int × List UInt8) :=
  if (b.drop (b.findIdx (· == 0) + 1)).length ≤ 65536 then
    (([1, 2, 3] : List Int).find? (fun k => objO k (b.drop (b.findIdx (· == 0) + 1)) == b)).map (·, b.drop (b.findIdx (· == 0) + 1))
  else none
theorem take_some {b : List UInt8} {k : Int} {l : List UInt8} (h : takeO b = some (k, l)) : kindO k ∧ l.length ≤ 65536 ∧ objO k l = b := by
  unfold takeO at h
  by_cases hl : (b.drop (b.findIdx (· == 0) + 1)).length ≤ 65536
  · rw [if_pos hl] at h
    obtain ⟨k', hk', e⟩ := Option.map_eq_some_iff.1 h
    obtain ⟨rfl, rfl⟩ := Prod.mk.inj e
    refine ⟨?_, hl, ?_⟩
    · have := List.mem_of_find?_eq_some hk'
      simpa [kindO] using this
    · have := List.find?_some hk'
      exact eq_of_beq this
  · rw [if_neg hl] at h; cases h
theorem take_obj {k : Int} {l : List UInt8} (hk : kindO k) (hl : l.length ≤ 65536) : takeO (objO k l) = some (k, l) := by
  have hz : (objO k l).findIdx (· == 0) = (headO k l.length).length := zero_first _ _ (headO_nz _ _)
  have hd : (objO k l).drop ((objO k l).findIdx (· == 0) + 1) = l := by
    rw [hz, ← List.drop_drop]
    show ((headO k l.length ++ 0 :: l).drop (headO k l.length).length).drop 1 = l
    rw [List.drop_left]; rfl
  unfold takeO
  rw [hd, if_pos hl]
  have hf : ([1, 2, 3] : List Int).find? (fun k' => objO k' l == objO k l) = some k := by
    rcases hk with rfl | rfl | rfl
    · rw [List.find?_cons_of_pos (by simp)]
    · rw [List.find?_cons_of_neg, List.find?_cons_of_pos (by simp)]
      intro e
      exact absurd (objO_inj (Or.inl rfl) (Or.inr (Or.inl rfl)) (eq_of_beq e)).1 (by decide)
    · rw [List.find?_cons_of_neg, List.find?_cons_of_neg, List.find?_cons_of_pos (by simp)]
      · intro e
        exact absurd (objO_inj (Or.inr (Or.inl rfl)) (Or.inr (Or.inr rfl)) (eq_of_beq e)).1 (by decide)
      · intro e
        exact absurd (objO_inj (Or.inl rfl) (Or.inr (Or.inr rfl)) (eq_of_beq e)).1 (by decide)
  rw [hf]; rfl
theorem take_none {b : List UInt8} (h : ∀ k l, kindO k → l.length ≤ 65536 → objO k l ≠ b) : takeO b = none := by
  cases hb : takeO b with
  | none => rfl
  | some p =>
    obtain ⟨k, l⟩ := p
    obtain ⟨h1, h2, h3⟩ := take_some hb
    exact absurd h3 (h k l h1 h2)
theorem take_inv {b : List UInt8} (h : takeO b = none) (k : Int) (l : List UInt8) (hk : kindO k) (hl : l.length ≤ 65536) : objO k l ≠ b := by
  intro e; subst e; rw [take_obj hk hl] at h; cases h
/-- No zero, no object. -/
theorem take_nozero {b : List UInt8} (h : ∀ c ∈ b, c ≠ 0) : takeO b = none := by
  refine take_none fun k l hk hl e => ?_
  subst e
  exact h 0 (by unfold objO; simp) rfl
/-- A head without a zero, and what stands behind the zero. -/
theorem take_head {x y : List UInt8} (hx : ∀ c ∈ x, c ≠ 0) (h : ∀ k, kindO k → headO k y.length ≠ x) : takeO (x ++ 0 :: y) = none := by
  refine take_none fun k l hk hl e => ?_
  obtain ⟨h1, rfl⟩ := zero_split (headO_nz _ _) hx e
  exact h k hk h1
theorem take_long {x y : List UInt8} (hx : ∀ c ∈ x, c ≠ 0) (h : 65536 < y.length) : takeO (x ++ 0 :: y) = none := by
  refine take_none fun k l hk hl e => ?_
  obtain ⟨h1, rfl⟩ := zero_split (headO_nz _ _) hx e
  omega

/-- Heads that are none: another length. -/
theorem bad_more (k : Int) (hk : kindO k) (n m : Nat) (h : n ≠ m) : headO k n ≠ [98, 108, 111, 98, 32] ++ numO m := by
  intro e
  have e2 : headO k n = headO 1 m := e
  exact h (headO_inj hk (Or.inl rfl) e2).2
theorem bad_len (k : Int) (hk : kindO k) (n : Nat) (x : List UInt8) (h : x.length ≠ (numO n).length) : headO k n ≠ [98, 108, 111, 98, 32] ++ x := by
  intro e
  rcases hk with rfl | rfl | rfl <;> simp [headO, wordO] at e
  subst e; exact h rfl
theorem bad_zero (k : Int) (hk : kindO k) (n : Nat) : headO k n ≠ [98, 108, 111, 98, 32] ++ 48 :: numO n := bad_len k hk n _ (by simp)
theorem bad_plus (k : Int) (hk : kindO k) (n : Nat) : headO k n ≠ [98, 108, 111, 98, 32] ++ 43 :: numO n := bad_len k hk n _ (by simp)
theorem bad_blank (k : Int) (hk : kindO k) (n : Nat) : headO k n ≠ [98, 108, 111, 98, 32] ++ 32 :: numO n := bad_len k hk n _ (by simp)
theorem bad_behind (k : Int) (hk : kindO k) (n : Nat) : headO k n ≠ [98, 108, 111, 98, 32] ++ (numO n ++ [32]) := bad_len k hk n _ (by simp)
theorem bad_great (k : Int) (hk : kindO k) (n : Nat) (x : List UInt8) : headO k n ≠ 66 :: x := by
  intro e
  rcases hk with rfl | rfl | rfl <;> simp [headO, wordO] at e
theorem bad_tag (k : Int) (hk : kindO k) (n : Nat) (x : List UInt8) : headO k n ≠ 116 :: 97 :: x := by
  intro e
  rcases hk with rfl | rfl | rfl <;> simp [headO, wordO] at e
theorem bad_bare (k : Int) (hk : kindO k) (n : Nat) : headO k n ≠ [98, 108, 111, 98] := by
  intro e
  rcases hk with rfl | rfl | rfl <;> simp [headO, wordO] at e

end Go.Proofs.YtdgcjjledbnofaaDoor

/-
  Layer 10, plain: objects by rising ids; where an id stands; what a put leaves. Nothing of the program.
-/
namespace Go.Proofs.YtdgcjjledbnofaaDoor
set_option linter.unusedVariables false
set_option linter.unusedSimpArgs false

/-- An object with its id. -/
structure Cel where
  id : List UInt8
  kind : Int
  body : List UInt8
/-- Where an id stands, or would stand. -/
def atS : List Cel → List UInt8 → Nat
  | [], _ => 0
  | c :: l, i => if c.id < i then atS l i + 1 else 0
/-- What stands there. -/
def getS (l : List Cel) (i : List UInt8) : Option Cel :=
  match l[atS l i]? with
  | some c => if c.id = i then some c else none
  | none => none
/-- A list with one more, at a place. -/
def putAt (l : List Cel) (k : Nat) (c : Cel) : List Cel := l.take k ++ c :: l.drop k
abbrev SrtS (l : List Cel) : Prop := l.Pairwise (fun a b => a.id < b.id)

theorem atS_le : ∀ (l : List Cel) (i : List UInt8), atS l i ≤ l.length
  | [], _ => Nat.le_refl _
  | c :: l, i => by
    unfold atS
    have := atS_le l i
    by_cases h : c.id < i
    · rw [if_pos h, List.length_cons]; omega
    · rw [if_neg h]; omega
theorem atS_lt : ∀ (l : List Cel) (i : List UInt8) (k : Nat) (h : k < l.length), k < atS l i → l[k].id < i
  | [], _, k, h, _ => absurd h (Nat.not_lt_zero _)
  | c :: l, i, k, h, hk => by
    unfold atS at hk
    by_cases hc : c.id < i
    · rw [if_pos hc] at hk
      match k, h with
      | 0, h => exact hc
      | k + 1, h => exact atS_lt l i k (by simpa using h) (by omega)
    · rw [if_neg hc] at hk
      omega
theorem atS_at : ∀ (l : List Cel) (i : List UInt8) (h : atS l i < l.length), ¬ l[atS l i].id < i
  | [], _, h => absurd h (Nat.not_lt_zero _)
  | c :: l, i, h => by
    by_cases hc : c.id < i
    · have e : atS (c :: l) i = atS l i + 1 := by rw [atS.eq_2, if_pos hc]
      have h2 : atS l i < l.length := by rw [e, List.length_cons] at h; omega
      have := atS_at l i h2
      simpa only [e, List.getElem_cons_succ] using this
    · have e : atS (c :: l) i = 0 := by rw [atS.eq_2, if_neg hc]
      simpa only [e, List.getElem_cons_zero] using hc
/-- The first one that stands not ahead of it. -/
theorem atS_is {l : List Cel} {i : List UInt8} {k : Nat} (hk : k ≤ l.length) (hb : ∀ j (h : j < l.length), j < k → l[j].id < i) (hn : ∀ h : k < l.length, ¬ l[k].id < i) : atS l i = k := by
  have h1 := atS_le l i
  rcases Nat.lt_trichotomy (atS l i) k with h | h | h
  · exact absurd (hb (atS l i) (by omega) h) (atS_at l i (by omega))
  · exact h
  · exact absurd (atS_lt l i k (by omega) h) (hn (by omega))
theorem getS_some {l : List Cel} {i : List UInt8} (h : atS l i < l.length) (e : l[atS l i].id = i) : getS l i = some l[atS l i] := by
  unfold getS
  rw [List.getElem?_eq_getElem h]
  exact if_pos e
theorem getS_none {l : List Cel} {i : List UInt8} (h : ∀ h : atS l i < l.length, l[atS l i].id ≠ i) : getS l i = none := by
  unfold getS
  cases e : l[atS l i]? with
  | none => rfl
  | some c =>
    obtain ⟨h1, h2⟩ := List.getElem?_eq_some_iff.1 e
    exact if_neg (by rw [← h2]; exact h h1)
theorem getS_id {l : List Cel} {i : List UInt8} {c : Cel} (h : getS l i = some c) : c.id = i ∧ ∃ h : atS l i < l.length, l[atS l i] = c := by
  unfold getS at h
  cases e : l[atS l i]? with
  | none => rw [e] at h; cases h
  | some d =>
    rw [e] at h
    by_cases hd : d.id = i
    · have h : (if d.id = i then some d else none) = some c := h
      rw [if_pos hd] at h
      cases h
      exact ⟨hd, List.getElem?_eq_some_iff.1 e⟩
    · have h : (if d.id = i then some d else none) = some c := h
      rw [if_neg hd] at h
      cases h
theorem getS_mem {l : List Cel} {i : List UInt8} {c : Cel} (h : getS l i = some c) : c ∈ l := by
  obtain ⟨_, h1, rfl⟩ := getS_id h
  exact List.getElem_mem h1
theorem lt_of_not {a b : List UInt8} (h : ¬ a < b) (hne : a ≠ b) : b < a := by
  by_cases h2 : b < a
  · exact h2
  · exact absurd (List.le_antisymm (show a ≤ b from h2) (show b ≤ a from h)) hne
/-- Put in at its place, the order stays. -/
theorem srt_put {l : List Cel} {c : Cel} (hs : SrtS l) (hn : getS l c.id = none) : SrtS (putAt l (atS l c.id) c) := by
  have hle := atS_le l c.id
  unfold putAt SrtS
  rw [List.pairwise_append]
  refine ⟨hs.sublist (List.take_sublist _ _), ?_, ?_⟩
  · rw [List.pairwise_cons]
    refine ⟨fun d hd => ?_, hs.sublist (List.drop_sublist _ _)⟩
    obtain ⟨j, hj, rfl⟩ := List.getElem_of_mem hd
    rw [List.length_drop] at hj
    rw [List.getElem_drop]
    have hlt : atS l c.id < l.length := by omega
    have h1 := atS_at l c.id hlt
    have hne : l[atS l c.id].id ≠ c.id := fun e => by rw [getS_some hlt e] at hn; cases hn
    have h2 := lt_of_not h1 hne
    by_cases h0 : j = 0
    · subst h0; exact h2
    · exact List.lt_trans h2 (List.pairwise_iff_getElem.1 hs (atS l c.id) (atS l c.id + j) hlt (by omega) (by omega))
  · intro a ha b hb
    obtain ⟨j, hj, rfl⟩ := List.getElem_of_mem ha
    rw [List.length_take] at hj
    rw [List.getElem_take]
    have h1 := atS_lt l c.id j (by omega) (by omega)
    rcases List.mem_cons.1 hb with rfl | hb
    · exact h1
    · obtain ⟨q, hq, rfl⟩ := List.getElem_of_mem hb
      rw [List.length_drop] at hq
      rw [List.getElem_drop]
      exact List.pairwise_iff_getElem.1 hs j (atS l c.id + q) (by omega) (by omega) (by omega)
/-- In order, an id is told as it stands. -/
theorem getS_of_mem {l : List Cel} (hs : SrtS l) {c : Cel} (h : c ∈ l) : getS l c.id = some c := by
  obtain ⟨k, hk, rfl⟩ := List.getElem_of_mem h
  have e : atS l l[k].id = k := atS_is (Nat.le_of_lt hk) (fun j hj hjk => List.pairwise_iff_getElem.1 hs j k hj hk hjk) (fun _ h2 => List.lt_irrefl _ h2)
  have hlt : atS l l[k].id < l.length := by rw [e]; exact hk
  have e2 : l[atS l l[k].id] = l[k] := by simp only [e]
  rw [getS_some hlt (by rw [e2]), e2]
theorem mem_put {l : List Cel} {k : Nat} {c d : Cel} : d ∈ putAt l k c ↔ d = c ∨ d ∈ l := by
  unfold putAt
  rw [List.mem_append, List.mem_cons]
  constructor
  · rintro (h | rfl | h)
    · exact .inr (List.mem_of_mem_take h)
    · exact .inl rfl
    · exact .inr (List.mem_of_mem_drop h)
  · rintro (rfl | h)
    · exact .inr (.inl rfl)
    · rw [← List.take_append_drop k l, List.mem_append] at h
      rcases h with h | h
      · exact .inl h
      · exact .inr (.inr h)
theorem put_len (l : List Cel) (k : Nat) (c : Cel) (hk : k ≤ l.length) : (putAt l k c).length = l.length + 1 := by
  unfold putAt
  rw [List.length_append, List.length_cons, List.length_take, List.length_drop]
  omega
/-- What a put of an object leaves, answers, says; its id is told by a function. -/
def putS (sum : Int → List UInt8 → List UInt8) (most : Nat) (l : List Cel) (k : Int) (b : List UInt8) : List Cel × List UInt8 × Int :=
  if (printO k b).2 = 0 then
    match getS l (sum k b) with
    | some c => if c.kind = k ∧ c.body = b then (l, sum k b, 0) else (l, List.replicate 20 0, 7)
    | none => if most ≤ l.length then (l, List.replicate 20 0, 5) else (putAt l (atS l (sum k b)) ⟨sum k b, k, b⟩, sum k b, 0)
  else (l, List.replicate 20 0, (printO k b).2)
/-- What a store holds. -/
structure GoodS (sum : Int → List UInt8 → List UInt8) (l : List Cel) : Prop where
  srt : SrtS l
  one : ∀ c ∈ l, c.id = sum c.kind c.body ∧ kindO c.kind ∧ c.body.length ≤ 65536
theorem goodS_nil (sum : Int → List UInt8 → List UInt8) : GoodS sum [] := ⟨List.Pairwise.nil, fun _ h => by cases h⟩
theorem printO_zero {k : Int} {b : List UInt8} (h : (printO k b).2 = 0) : kindO k ∧ b.length ≤ 65536 := by
  by_cases hk : kindO k
  · by_cases hl : b.length ≤ 65536
    · exact ⟨hk, hl⟩
    · rw [printO_limit k b hk (by omega)] at h
      exact absurd h (by decide)
  · rw [printO_kind k b hk] at h
    exact absurd h (by decide)
theorem goodS_put {sum : Int → List UInt8 → List UInt8} {most : Nat} {l : List Cel} (h : GoodS sum l) (k : Int) (b : List UInt8) : GoodS sum (putS sum most l k b).1 := by
  unfold putS
  by_cases he : (printO k b).2 = 0
  · rw [if_pos he]
    cases eg : getS l (sum k b) with
    | some c =>
      by_cases hc : c.kind = k ∧ c.body = b
      · simp only [if_pos hc]; exact h
      · simp only [if_neg hc]; exact h
    | none =>
      by_cases hm : most ≤ l.length
      · simp only [if_pos hm]; exact h
      · simp only [if_neg hm]
        refine ⟨srt_put (c := ⟨sum k b, k, b⟩) h.srt eg, fun d hd => ?_⟩
        rcases mem_put.1 hd with rfl | hd
        · exact ⟨rfl, printO_zero he⟩
        · exact h.one d hd
  · rw [if_neg he]; exact h
theorem putS_len {sum : Int → List UInt8 → List UInt8} {most : Nat} {l : List Cel} (k : Int) (b : List UInt8) : l.length ≤ (putS sum most l k b).1.length ∧ (putS sum most l k b).1.length ≤ l.length + 1 := by
  unfold putS
  by_cases he : (printO k b).2 = 0
  · rw [if_pos he]
    cases eg : getS l (sum k b) with
    | some c =>
      by_cases hc : c.kind = k ∧ c.body = b
      · simp only [if_pos hc]; exact ⟨Nat.le_refl _, Nat.le_succ _⟩
      · simp only [if_neg hc]; exact ⟨Nat.le_refl _, Nat.le_succ _⟩
    | none =>
      by_cases hm : most ≤ l.length
      · simp only [if_pos hm]; exact ⟨Nat.le_refl _, Nat.le_succ _⟩
      · simp only [if_neg hm]
        rw [put_len _ _ _ (atS_le _ _)]
        exact ⟨by omega, Nat.le_refl _⟩
  · rw [if_neg he]; exact ⟨Nat.le_refl _, Nat.le_succ _⟩
end Go.Proofs.YtdgcjjledbnofaaDoor

/-
  Layer 13, plain: files; which lists are valid; the trees that a list of files becomes. Nothing of the program.
-/
namespace Go.Proofs.YtdgcjjledbnofaaDoor
set_option linter.unusedVariables false
set_option linter.unusedSimpArgs false

structure Fil where
  path : List UInt8
  mode : Int
  id : List UInt8
def noF : Fil := ⟨[], 0, []⟩
def soundF (f : Fil) : Bool := decide (1 ≤ f.mode) && decide (f.mode ≤ 3) && pathL f.path && !(f.id == zeroId)
/-- Is p within the directory d? -/
def underF (d p : List UInt8) : Bool := (d ++ [47]).isPrefixOf p
def clearF (l : List Fil) (i : Nat) : Bool := (List.range i).all (fun k => !underF (l.getD k noF).path (l.getD i noF).path)
def stepF (l : List Fil) (i : Nat) : Bool := soundF (l.getD i noF) && (i == 0 || decide ((l.getD (i - 1) noF).path < (l.getD i noF).path)) && clearF l i
def rightF (l : List Fil) : Bool := decide (l.length ≤ 500) && (List.range l.length).all (stepF l)

theorem rightF_iff (l : List Fil) : rightF l = true ↔ l.length ≤ 500 ∧ ∀ i, i < l.length → stepF l i = true := by
  unfold rightF; simp only [Bool.and_eq_true, decide_eq_true_eq, List.all_eq_true, List.mem_range]
theorem rightF_len (l : List Fil) (h : 500 < l.length) : rightF l = false := by
  cases e : rightF l with
  | false => rfl
  | true => have := (rightF_iff l).1 e; omega
theorem rightF_step (l : List Fil) (i : Nat) (hi : i < l.length) (h : stepF l i = false) : rightF l = false := by
  cases e : rightF l with
  | false => rfl
  | true => rw [((rightF_iff l).1 e).2 i hi] at h; cases h
theorem clearF_iff (l : List Fil) (i : Nat) : clearF l i = true ↔ ∀ k, k < i → underF (l.getD k noF).path (l.getD i noF).path = false := by
  unfold clearF; simp only [List.all_eq_true, List.mem_range, Bool.not_eq_true']

/-! Where a slash stands first. -/
def slashF (p : List UInt8) : Nat := p.findIdx (· == 47)
def headF (p : List UInt8) : List UInt8 := p.take (slashF p)
theorem slash_split {p : List UInt8} (h : slashF p < p.length) : p = headF p ++ 47 :: p.drop (slashF p + 1) := by
  have h2 := List.findIdx_getElem (p := (· == (47 : UInt8))) (w := h)
  have e : p[slashF p] = 47 := eq_of_beq h2
  unfold headF
  rw [← e, List.getElem_cons_drop, List.take_append_drop]
theorem head_clean (p : List UInt8) : ∀ c ∈ headF p, c ≠ 47 := by
  intro c hc
  unfold headF slashF at hc
  have : ∀ (p : List UInt8), ∀ c ∈ p.take (p.findIdx (· == 47)), c ≠ 47 := by
    intro p
    induction p with
    | nil => simp
    | cons d p ih =>
      intro c hc
      rw [List.findIdx_cons] at hc
      cases hd : (d == (47 : UInt8)) with
      | true => rw [hd] at hc; simp at hc
      | false =>
        rw [hd] at hc
        simp only [cond_false, List.take_succ_cons, List.mem_cons] at hc
        rcases hc with rfl | hc
        · simpa using hd
        · exact ih c hc
  exact this p c hc
theorem head_count (p : List UInt8) : (headF p).count 47 = 0 := List.count_eq_zero.2 (fun h => head_clean p 47 h rfl)
theorem head_len {p : List UInt8} (h : slashF p < p.length) : (headF p).length = slashF p := by
  unfold headF; rw [List.length_take]; omega

/-! The trees. -/
def cntF (d : List UInt8) : List Fil → Nat
  | [] => 0
  | f :: r => if d.isPrefixOf f.path then cntF d r + 1 else 0
def cutF (n : Nat) (f : Fil) : Fil := { f with path := f.path.drop n }
abbrev PutT := List Cel → Int → List UInt8 → List Cel × List UInt8 × Int
def wl (pt : PutT) : Nat → List Cel → List Fil → List Itm → List Cel × List UInt8 × Int
  | 0, M, _, _ => (M, zeroId, 99)
  | n + 1, M, [], acc => if (printT acc).2 = 0 then pt M 2 (printT acc).1 else (M, zeroId, (printT acc).2)
  | n + 1, M, f :: r, acc =>
    if slashF f.path < f.path.length then
      let z := wl pt n M (((f :: r).take (cntF (headF f.path ++ [47]) (f :: r))).map (cutF (slashF f.path + 1))) []
      if z.2.2 = 0 then wl pt n z.1 ((f :: r).drop (cntF (headF f.path ++ [47]) (f :: r))) (acc ++ [⟨4, headF f.path, z.2.1⟩]) else (z.1, zeroId, z.2.2)
    else wl pt n M r (acc ++ [⟨f.mode, f.path, f.id⟩])
def costF (l : List Fil) : Nat := (l.map (fun f => f.path.length + 1)).sum + 1
def slF (l : List Fil) : Nat := (l.map (fun f => f.path.count 47)).sum

theorem cnt_le (d : List UInt8) : ∀ l, cntF d l ≤ l.length
  | [] => Nat.le_refl _
  | f :: r => by
    have := cnt_le d r
    unfold cntF
    split
    · rw [List.length_cons]; omega
    · exact Nat.zero_le _
theorem cnt_all (d : List UInt8) : ∀ l : List Fil, ∀ f ∈ l.take (cntF d l), d.isPrefixOf f.path = true
  | [], f, h => by simp at h
  | g :: r, f, h => by
    unfold cntF at h
    split at h
    · next hd =>
      rw [List.take_succ_cons, List.mem_cons] at h
      rcases h with rfl | h
      · exact hd
      · exact cnt_all d r f h
    · simp at h
theorem cnt_stop (d : List UInt8) : ∀ (l : List Fil) (h : cntF d l < l.length), d.isPrefixOf l[cntF d l].path = false
  | [], h => by simp at h
  | g :: r, h => by
    by_cases hd : d.isPrefixOf g.path = true
    · have e : cntF d (g :: r) = cntF d r + 1 := by rw [cntF, if_pos hd]
      have := cnt_stop d r (by rw [e, List.length_cons] at h; omega)
      simpa only [e, List.getElem_cons_succ] using this
    · have e : cntF d (g :: r) = 0 := by rw [cntF, if_neg hd]
      simpa only [e, List.getElem_cons_zero, Bool.not_eq_true] using hd
theorem cnt_is {d : List UInt8} {l : List Fil} {k : Nat} (hk : k ≤ l.length) (h : ∀ j (hj : j < l.length), j < k → d.isPrefixOf l[j].path = true) (hs : ∀ h : k < l.length, d.isPrefixOf l[k].path = false) : cntF d l = k := by
  have h1 := cnt_le d l
  rcases Nat.lt_trichotomy (cntF d l) k with h2 | h2 | h2
  · have := h (cntF d l) (by omega) h2
    rw [cnt_stop d l (by omega)] at this
    cases this
  · exact h2
  · have h3 := cnt_all d l l[k] (List.mem_iff_getElem.2 ⟨k, by rw [List.length_take]; omega, by rw [List.getElem_take]⟩)
    rw [hs (by omega)] at h3
    cases h3
theorem head_prefix {p : List UInt8} (h : slashF p < p.length) : (headF p ++ [47]).isPrefixOf p = true := by
  rw [List.isPrefixOf_iff_prefix]
  refine ⟨p.drop (slashF p + 1), ?_⟩
  rw [List.append_assoc, List.singleton_append, ← slash_split h]
theorem cnt_pos {f : Fil} {r : List Fil} (h : slashF f.path < f.path.length) : 1 ≤ cntF (headF f.path ++ [47]) (f :: r) := by
  rw [cntF, if_pos (head_prefix h)]; omega
/-- What a file loses by a cut. -/
theorem cut_parts {p d : List UInt8} (hd : ∀ c ∈ d, c ≠ 47) (h : (d ++ [47]).isPrefixOf p = true) : (p.drop (d.length + 1)).length + d.length + 1 = p.length ∧ (p.drop (d.length + 1)).count 47 + 1 = p.count 47 := by
  rw [List.isPrefixOf_iff_prefix] at h
  obtain ⟨t, rfl⟩ := h
  have e : (d ++ [47] ++ t).drop (d.length + 1) = t := by
    rw [show d.length + 1 = (d ++ [(47 : UInt8)]).length by simp]
    exact List.drop_left
  have z : d.count 47 = 0 := List.count_eq_zero.2 (fun h => hd 47 h rfl)
  rw [e]
  simp [List.count_append, z]
  omega
theorem sums_cut {d : List UInt8} (hd : ∀ c ∈ d, c ≠ 47) : ∀ (l : List Fil), (∀ f ∈ l, (d ++ [47]).isPrefixOf f.path = true) →
    costF (l.map (cutF (d.length + 1))) + l.length ≤ costF l ∧ slF (l.map (cutF (d.length + 1))) + l.length = slF l
  | [], _ => ⟨Nat.le_refl _, rfl⟩
  | f :: r, h => by
    have ih := sums_cut hd r (fun g hg => h g (by simp [hg]))
    have hp := cut_parts hd (h f (by simp))
    simp only [costF, slF, List.map_cons, List.sum_cons, List.length_cons, cutF] at ih hp ⊢
    omega
theorem cost_split (l : List Fil) (k : Nat) : costF (l.take k) + costF (l.drop k) = costF l + 1 ∧ slF (l.take k) + slF (l.drop k) = slF l := by
  have h1 : (l.map (fun f => f.path.length + 1)).sum = ((l.take k).map (fun f => f.path.length + 1)).sum + ((l.drop k).map (fun f => f.path.length + 1)).sum := by
    rw [← List.sum_append_nat, ← List.map_append, List.take_append_drop]
  have h2 : (l.map (fun f => f.path.count 47)).sum = ((l.take k).map (fun f => f.path.count 47)).sum + ((l.drop k).map (fun f => f.path.count 47)).sum := by
    rw [← List.sum_append_nat, ← List.map_append, List.take_append_drop]
  unfold costF slF
  omega
/-- A directory's files, and the others. -/
theorem group_cost {f : Fil} {r : List Fil} (h : slashF f.path < f.path.length) :
    costF (((f :: r).take (cntF (headF f.path ++ [47]) (f :: r))).map (cutF (slashF f.path + 1))) < costF (f :: r) ∧
    costF ((f :: r).drop (cntF (headF f.path ++ [47]) (f :: r))) < costF (f :: r) ∧
    slF (((f :: r).take (cntF (headF f.path ++ [47]) (f :: r))).map (cutF (slashF f.path + 1))) + 1 + slF ((f :: r).drop (cntF (headF f.path ++ [47]) (f :: r))) ≤ slF (f :: r) := by
  have h1 := cnt_pos (r := r) h
  have h2 := cnt_le (headF f.path ++ [47]) (f :: r)
  have h3 := cnt_all (headF f.path ++ [47]) (f :: r)
  generalize cntF (headF f.path ++ [47]) (f :: r) = c at h1 h2 h3 ⊢
  have h4 := sums_cut (head_clean f.path) _ h3
  rw [head_len h] at h4
  have h5 := cost_split (f :: r) c
  have h6 : ((f :: r).take c).length = c := by rw [List.length_take]; omega
  rw [h6] at h4
  have h7 : 1 ≤ costF ((f :: r).drop c) := by unfold costF; omega
  have h8 : 1 ≤ costF (((f :: r).take c).map (cutF (slashF f.path + 1))) := by unfold costF; omega
  omega
theorem cost_cons (f : Fil) (r : List Fil) : costF (f :: r) = f.path.length + 1 + costF r ∧ slF (f :: r) = f.path.count 47 + slF r := by
  simp only [costF, slF, List.map_cons, List.sum_cons]
  exact ⟨by omega, trivial⟩
theorem cost_pos (l : List Fil) : 1 ≤ costF l := Nat.le_add_left _ _

theorem wl_len {pt : PutT} (hlen : ∀ L k b, (pt L k b).1.length ≤ L.length + 1) : ∀ n L l acc, (wl pt n L l acc).1.length ≤ L.length + slF l + 1
  | 0, L, l, acc => by unfold wl; show L.length ≤ _; omega
  | n + 1, L, [], acc => by
    unfold wl
    split
    · have := hlen L 2 (printT acc).1; omega
    · show L.length ≤ _; omega
  | n + 1, L, f :: r, acc => by
    rw [wl]
    by_cases h : slashF f.path < f.path.length
    · rw [if_pos h]
      have hg := (group_cost (r := r) h).2.2
      have h1 := wl_len hlen n L (((f :: r).take (cntF (headF f.path ++ [47]) (f :: r))).map (cutF (slashF f.path + 1))) []
      generalize wl pt n L (((f :: r).take (cntF (headF f.path ++ [47]) (f :: r))).map (cutF (slashF f.path + 1))) [] = z at h1 ⊢
      have h2 := wl_len hlen n z.1 ((f :: r).drop (cntF (headF f.path ++ [47]) (f :: r))) (acc ++ [⟨4, headF f.path, z.2.1⟩])
      simp only
      split
      · omega
      · show z.1.length ≤ _; omega
    · rw [if_neg h]
      have h1 := wl_len hlen n L r (acc ++ [⟨f.mode, f.path, f.id⟩])
      have := (cost_cons f r).2
      omega
/-- Two stores that answer alike. -/
theorem wl_sim {pt pt' : PutT} {R : List Cel → List Cel → Prop} {N : Nat} (hstep : ∀ M L k b, R M L → L.length < N → R (pt M k b).1 (pt' L k b).1 ∧ (pt M k b).2 = (pt' L k b).2) (hlen : ∀ L k b, (pt' L k b).1.length ≤ L.length + 1) :
    ∀ n M L l acc, R M L → L.length + slF l + 1 ≤ N → R (wl pt n M l acc).1 (wl pt' n L l acc).1 ∧ (wl pt n M l acc).2 = (wl pt' n L l acc).2
  | 0, M, L, l, acc, h, _ => by unfold wl; exact ⟨h, rfl⟩
  | n + 1, M, L, [], acc, h, hN => by
    unfold wl
    split
    · exact hstep M L 2 _ h (by omega)
    · exact ⟨h, rfl⟩
  | n + 1, M, L, f :: r, acc, h, hN => by
    rw [wl, wl]
    by_cases hs : slashF f.path < f.path.length
    · rw [if_pos hs, if_pos hs]
      have hg := (group_cost (r := r) hs).2.2
      have h1 := wl_sim hstep hlen n M L (((f :: r).take (cntF (headF f.path ++ [47]) (f :: r))).map (cutF (slashF f.path + 1))) [] h (by omega)
      have h2 := wl_len hlen n L (((f :: r).take (cntF (headF f.path ++ [47]) (f :: r))).map (cutF (slashF f.path + 1))) []
      generalize wl pt n M (((f :: r).take (cntF (headF f.path ++ [47]) (f :: r))).map (cutF (slashF f.path + 1))) [] = z at h1 ⊢
      generalize wl pt' n L (((f :: r).take (cntF (headF f.path ++ [47]) (f :: r))).map (cutF (slashF f.path + 1))) [] = z' at h1 h2 ⊢
      obtain ⟨z1, z2⟩ := z
      obtain ⟨y1, y2⟩ := z'
      obtain ⟨hR, rfl⟩ := h1
      simp only at hR h2 ⊢
      split
      · exact wl_sim hstep hlen n z1 y1 _ _ hR (by omega)
      · exact ⟨hR, rfl⟩
    · rw [if_neg hs, if_neg hs]
      have := (cost_cons f r).2
      exact wl_sim hstep hlen n M L r _ h (by omega)
end Go.Proofs.YtdgcjjledbnofaaDoor
