/-
  Texts that belong together, one behind the other.
-/
import Derived.Test.YtdgcjjledbnofaaDoorFu01
import Derived.Test.YtdgcjjledbnofaaDoorShelf
import Derived.Lib.RuneCountTail
import Derived.Test.YtdgcjjledbnofaaDoorFu05
import Derived.Laws.RangeAny
/-
  What stands behind a place of a text, decoded.
-/
namespace Go.Proofs.YtdgcjjledbnofaaDoor
open Go.RowKit
set_option linter.unusedVariables false

/-- What stands behind a place, decoded. -/
theorem decode_from (s : ByteArray) (i n : Nat) (hn : s.size = n) (h : i < n) (r : Int) (k : Nat) (hr : r = ((Utf8.decode s i).1 : Int)) (hk : k = (Utf8.decode s i).2) (w : World) (hT : Lib.Utf8Tabs 0 1 w) :
    Calls Tryd.prog 72 #[.string (s.extract i n)] w fun e w' => e = .returned (.tuple #[.int .i32 r, .int .i64 k]) ∧ Below w.heap.size w w' := by
  subst hn
  have e : Lib.decodeGo (s.extract i s.size) = Utf8.decode s i := by
    unfold Lib.decodeGo
    rw [if_neg (by rw [Lib.tail_size]; omega), Lib.tail_decode]
    rfl
  subst hr hk
  rw [← e]
  exact Tryd.utf8_DecodeRuneInString _ w hT
end Go.Proofs.YtdgcjjledbnofaaDoor

/-
  Runes and bytes (plain): where a rune of a text begins, and that its bytes are high ones; a decoder that knows Quote's forms alone.
-/
namespace Go.Proofs.YtdgcjjledbnofaaDoor
set_option linter.unusedVariables false
set_option linter.unusedSimpArgs false

theorem decodeN_wide (n b0 b1 b2 b3 : Nat) (h0 : 128 ≤ b0) (hn : 1 ≤ n) :
    128 ≤ (Lib.decodeN n b0 b1 b2 b3).1 ∧ 1 ≤ (Lib.decodeN n b0 b1 b2 b3).2 ∧ (Lib.decodeN n b0 b1 b2 b3).2 ≤ n ∧ (Lib.decodeN n b0 b1 b2 b3).2 ≤ 4 ∧
    (1 < (Lib.decodeN n b0 b1 b2 b3).2 → 128 ≤ b1) ∧ (2 < (Lib.decodeN n b0 b1 b2 b3).2 → 128 ≤ b2) ∧ (3 < (Lib.decodeN n b0 b1 b2 b3).2 → 128 ≤ b3) := by
  unfold Lib.decodeN
  rw [if_neg (by omega)]
  split
  · split
    · refine ⟨?_, ?_, ?_, ?_, ?_, ?_, ?_⟩ <;> simp only <;> omega
    · refine ⟨?_, ?_, ?_, ?_, ?_, ?_, ?_⟩ <;> simp only <;> omega
  · split
    · split
      · refine ⟨?_, ?_, ?_, ?_, ?_, ?_, ?_⟩ <;> simp only <;> omega
      · refine ⟨?_, ?_, ?_, ?_, ?_, ?_, ?_⟩ <;> simp only <;> omega
    · split
      · split
        · refine ⟨?_, ?_, ?_, ?_, ?_, ?_, ?_⟩ <;> simp only <;> omega
        · refine ⟨?_, ?_, ?_, ?_, ?_, ?_, ?_⟩ <;> simp only <;> omega
      · refine ⟨?_, ?_, ?_, ?_, ?_, ?_, ?_⟩ <;> simp only <;> omega

/-- What a range over a text hands over at a place: a low byte by itself, or a high rune whose bytes are all high. -/
theorem rune_at (l : List UInt8) (i : Nat) (hi : i < l.length) :
    ((l.getD i 0).toNat < 128 ∧ Utf8.decode ⟨l.toArray⟩ i = ((l.getD i 0).toNat, 1)) ∨
    (128 ≤ (l.getD i 0).toNat ∧ 128 ≤ (Utf8.decode ⟨l.toArray⟩ i).1 ∧ (Utf8.decode ⟨l.toArray⟩ i).1 ≤ 2147483647 ∧ 1 ≤ (Utf8.decode ⟨l.toArray⟩ i).2 ∧ (Utf8.decode ⟨l.toArray⟩ i).2 ≤ 4 ∧ i + (Utf8.decode ⟨l.toArray⟩ i).2 ≤ l.length ∧
      ∀ j, i ≤ j → j < i + (Utf8.decode ⟨l.toArray⟩ i).2 → 128 ≤ (l.getD j 0).toNat) := by
  have e : Utf8.decode ⟨l.toArray⟩ i = Lib.decodeN (l.length - i) (l.getD i 0).toNat (l.getD (i + 1) 0).toNat (l.getD (i + 2) 0).toNat (l.getD (i + 3) 0).toNat := Lib.decode_N ⟨l.toArray⟩ i
  by_cases h : (l.getD i 0).toNat < 128
  · left
    refine ⟨h, ?_⟩
    rw [e]
    unfold Lib.decodeN
    rw [if_pos h]
  · right
    have w := decodeN_wide (l.length - i) (l.getD i 0).toNat (l.getD (i + 1) 0).toNat (l.getD (i + 2) 0).toNat (l.getD (i + 3) 0).toNat (by omega) (by omega)
    have le := decode_le ⟨l.toArray⟩ i
    rw [e] at le ⊢
    obtain ⟨w1, w2, w3, w4, w5, w6, w7⟩ := w
    refine ⟨by omega, w1, le, w2, w4, by omega, fun j h1 h2 => ?_⟩
    obtain h3 | h3 | h3 | h3 : j = i ∨ j = i + 1 ∨ j = i + 2 ∨ j = i + 3 := by omega
    · subst h3; omega
    · subst h3; exact w5 (by omega)
    · subst h3; exact w6 (by omega)
    · subst h3; exact w7 (by omega)

/-- The form at the head of a text, and its length. -/
def formL : List UInt8 → Option (UInt8 × Nat)
  | [] => none
  | c :: r => if c.toNat ≠ 92 then some (c, 1) else
    match r with
    | [] => none
    | d :: r2 => if d.toNat = 34 ∨ d.toNat = 92 then some (d, 2) else if d.toNat = 110 then some (10, 2) else if d.toNat = 116 then some (9, 2) else
      match r2 with
      | e :: f :: _ => if oct3 d e f then some (octB d e f, 4) else none
      | _ => none
theorem form_pos {l : List UInt8} {c : UInt8} {n : Nat} (h : formL l = some (c, n)) : 1 ≤ n ∧ n ≤ l.length := by
  revert h
  fun_cases formL l <;> intro h <;> simp only [Option.some.injEq, Prod.mk.injEq, reduceCtorEq] at h <;> (obtain ⟨_, rfl⟩ := h; simp)

/-- All the forms of a text. -/
def betL : Nat → List UInt8 → Option (List UInt8)
  | _, [] => some []
  | 0, _ :: _ => none
  | n + 1, c :: r => match formL (c :: r) with
    | none => none
    | some (x, k) => (betL n ((c :: r).drop k)).map (x :: ·)
theorem bet_nil (n : Nat) : betL n [] = some [] := by cases n <;> rfl
theorem bet_none {n : Nat} {l : List UInt8} (hl : l ≠ []) (h : formL l = none) : betL (n + 1) l = none := by
  cases l with
  | nil => exact absurd rfl hl
  | cons c r => simp only [betL, h]
theorem bet_some {n : Nat} {l : List UInt8} {x : UInt8} {k : Nat} (h : formL l = some (x, k)) : betL (n + 1) l = (betL n (l.drop k)).map (x :: ·) := by
  cases l with
  | nil => simp [formL] at h
  | cons c r => simp only [betL, h]
theorem form_one (c : UInt8) (r : List UInt8) : formL (oneL c ++ r) = some (c, (oneL c).length) := by
  unfold oneL
  by_cases h1 : c.toNat = 34
  · rw [if_pos h1]
    have : c = 34 := UInt8.toNat_inj.1 h1
    subst this
    rfl
  rw [if_neg h1]
  by_cases h2 : c.toNat = 92
  · rw [if_pos h2]
    have : c = 92 := UInt8.toNat_inj.1 h2
    subst this
    rfl
  rw [if_neg h2]
  by_cases h3 : c.toNat = 10
  · rw [if_pos h3]
    have : c = 10 := UInt8.toNat_inj.1 h3
    subst this
    rfl
  rw [if_neg h3]
  by_cases h4 : c.toNat = 9
  · rw [if_pos h4]
    have : c = 9 := UInt8.toNat_inj.1 h4
    subst this
    rfl
  rw [if_neg h4]
  by_cases h5 : c.toNat < 32 ∨ 127 ≤ c.toNat
  · rw [if_pos h5]
    obtain ⟨o1, o2, _, _⟩ := oct3_oct c
    have lt := c.toNat_lt
    have n1 : (UInt8.ofNat (48 + c.toNat / 64)).toNat = 48 + c.toNat / 64 := by rw [UInt8.toNat_ofNat']; omega
    unfold octL
    simp only [List.cons_append, List.nil_append, formL]
    rw [if_neg (by decide), if_neg (by omega), if_neg (by omega), if_neg (by omega), o1, if_pos rfl]
    rw [o2]
    rfl
  · rw [if_neg h5]
    simp only [List.cons_append, List.nil_append, formL]
    rw [if_pos h2]
    rfl
theorem bet_body : ∀ (l : List UInt8) (n : Nat), (bodyL l).length ≤ n → betL n (bodyL l) = some l
  | [], n, _ => bet_nil n
  | c :: r, n, h => by
    have e : bodyL (c :: r) = oneL c ++ bodyL r := by simp [bodyL]
    have o := one_len c
    rw [e, List.length_append] at h
    obtain ⟨m, rfl⟩ : ∃ m, n = m + 1 := ⟨n - 1, by omega⟩
    rw [e, bet_some (form_one c (bodyL r)), List.drop_left, bet_body r m (by omega)]
    rfl
/-- What is quoted with marks, by either decoder. -/
theorem quote_marks {t s : List UInt8} {e : Nat} (h0 : (s.getD 0 0).toNat = 34) (he : e < s.length) (h1 : 1 ≤ e) (h : quoteL t = s.take (e + 1)) : (s.take e).tail = bodyL t := by
  unfold quoteL at h
  split at h
  · next hp =>
    rw [Bool.and_eq_true] at hp
    have := (plain_all hp.1 hp.2).2.1
    rw [h, take_getD s (e + 1) 0 (by omega)] at this
    exact absurd h0 this
  · next hp =>
    have hl := congrArg List.length h
    rw [List.length_take, List.length_cons, List.length_append, List.length_cons, List.length_nil] at hl
    have hd : (s.take (e + 1)).dropLast = s.take e := by
      rw [List.dropLast_eq_take, List.length_take, List.take_take]
      congr 1
      omega
    rw [← hd, ← h, List.tail_dropLast, List.tail_cons, List.dropLast_concat]
theorem dec_either {s t' : List UInt8} {e n : Nat} (h0 : (s.getD 0 0).toNat = 34) (he : e < s.length) (h1 : 1 ≤ e) (hn : ((s.take e).tail).length ≤ n) :
    (betL n ((s.take e).tail) = some t' ∧ quoteL t' = s.take (e + 1)) ↔ (t' = unescL ((s.take e).tail) ∧ quoteL t' = s.take (e + 1)) := by
  constructor
  · rintro ⟨a, b⟩
    have := quote_marks h0 he h1 b
    exact ⟨by rw [this, dec_body], b⟩
  · rintro ⟨a, b⟩
    have := quote_marks h0 he h1 b
    refine ⟨?_, b⟩
    rw [this] at hn ⊢
    exact bet_body t' n hn
end Go.Proofs.YtdgcjjledbnofaaDoor

/-
  The rune at a place, as a number, and its width.
-/
namespace Go.Proofs.YtdgcjjledbnofaaDoor
open Go.RowKit
set_option linter.unusedVariables false

/-- The rune at a place, as a number, and its width. -/
theorem rune_int (l : List UInt8) (i : Nat) (hi : i < l.length) : ∃ (r : Int) (k : Nat), r = ((Utf8.decode ⟨l.toArray⟩ i).1 : Int) ∧ k = (Utf8.decode ⟨l.toArray⟩ i).2 ∧ 0 ≤ r ∧ r ≤ 2147483647 ∧ 1 ≤ k ∧ i + k ≤ l.length ∧
    ((r < 128 ∧ r = ((l.getD i 0).toNat : Int) ∧ k = 1) ∨ (128 ≤ r ∧ k ≤ 4 ∧ ∀ j, i ≤ j → j < i + k → 128 ≤ (l.getD j 0).toNat)) := by
  refine ⟨_, _, rfl, rfl, ?_⟩
  rcases rune_at l i hi with ⟨h1, h2⟩ | ⟨h1, h2, h3, h4, h5, h6, h7⟩
  · rw [h2]
    exact ⟨by omega, by simp only; omega, Nat.le_refl _, by simp only; omega, .inl ⟨by simp only; omega, rfl, rfl⟩⟩
  · exact ⟨by omega, by omega, h4, h6, .inr ⟨by omega, h5, h7⟩⟩
end Go.Proofs.YtdgcjjledbnofaaDoor
