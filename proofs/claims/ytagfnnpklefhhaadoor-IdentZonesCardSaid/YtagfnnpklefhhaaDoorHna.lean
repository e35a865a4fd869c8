/-
  Layer 1: numbers written are read, and what is read is written so: lists alone.
-/
import Derived.Test.YtagfnnpklefhhaaDoorHl
import Derived.Test.YtagfnnpklefhhaaDoorHc
namespace Go.Proofs.YtagfnnpklefhhaaDoor
open Go.RowKit
set_option linter.unusedVariables false

theorem decL_append (l : List UInt8) (c : UInt8) : decL (l ++ [c]) = 10 * decL l + (c.toNat - 48) := decL_snoc l c
theorem dig_toNat (k : Nat) (h : k < 10) : (UInt8.ofNat (48 + k)).toNat = 48 + k := by rw [UInt8.toNat_ofNat']; omega
/-- The digits of a number: they are digits, they are that number, and they don't begin with 0 unless it is 0. -/
theorem decDigits_spec (u : Nat) : (∀ c ∈ Lib.decDigits u, isD c) ∧ decL (Lib.decDigits u) = u ∧ Lib.decDigits u ≠ [] ∧ (10 ≤ u → (Lib.decDigits u).getD 0 0 ≠ 48) ∧ (0 < u → (Lib.decDigits u).getD 0 0 ≠ 48) := by
  induction u using Nat.strongRecOn with
  | ind u ih =>
    by_cases h : u < 10
    · rw [Lib.decDigits_one h]
      refine ⟨?_, ?_, by simp, by omega, fun h0 => ?_⟩
      · intro c hc; rw [List.mem_singleton] at hc; subst hc; unfold isD; rw [dig_toNat u h]; omega
      · have := decL_snoc [] (UInt8.ofNat (48 + u)); simp only [List.nil_append] at this; rw [this, dig_toNat u h]; simp [decL]
      · intro e
        have e2 : (UInt8.ofNat (48 + u)).toNat = 48 := congrArg UInt8.toNat e
        rw [dig_toNat u h] at e2; omega
    · obtain ⟨h1, h2, h3, h4, h5⟩ := ih (u / 10) (by omega)
      rw [Lib.decDigits.eq_1 u, dif_neg h]
      have hne : (Lib.decDigits (u / 10) ++ [UInt8.ofNat (48 + u % 10)]).getD 0 0 = (Lib.decDigits (u / 10)).getD 0 0 := by
        cases hd : Lib.decDigits (u / 10) with
        | nil => exact absurd hd h3
        | cons c r => rfl
      refine ⟨?_, ?_, by simp, fun _ => by rw [hne]; exact h5 (by omega), fun _ => by rw [hne]; exact h5 (by omega)⟩
      · intro c hc
        rcases List.mem_append.1 hc with hc | hc
        · exact h1 c hc
        · rw [List.mem_singleton] at hc; subst hc; unfold isD; rw [dig_toNat _ (by omega)]; omega
      · rw [decL_snoc, h2, dig_toNat _ (by omega)]; omega
theorem isD_getD {l : List UInt8} (h : ∀ c ∈ l, isD c) (i : Nat) (hi : i < l.length) : isD (l.getD i 0) := by
  rw [List.getD_eq_getElem?_getD, List.getElem?_eq_getElem hi]; exact h _ (List.getElem_mem _)
theorem takeD_digits (m : Bool) (u : Nat) (h : (u : Int) ≤ if m then 9223372036854775808 else 9223372036854775807) (h0 : m = true → 0 < u) : takeD m (Lib.decDigits u) = some (if m then -(u : Int) else u) := by
  obtain ⟨h1, h2, h3, h4, h5⟩ := decDigits_spec u
  unfold takeD
  rw [if_neg, h2]
  rintro (h | ⟨h, h6 | h6⟩ | h | h)
  · exact h3 h
  · by_cases hu : u < 10
    · rw [Lib.decDigits_one hu] at h6; simp at h6
    · exact h4 (by omega) h
  · exact h5 (h0 h6) h
  · exact h fun i hi => isD_getD h1 i hi
  · rw [h2] at h; omega
theorem take_itoa (n : Int) (h0 : -9223372036854775808 ≤ n) (h1 : n ≤ 9223372036854775807) : takeN (Lib.itoa n) = some n ∧ Lib.itoa n ≠ [] ∧ (Lib.itoa n).length ≤ 21 := by
  rw [Lib.itoa]
  split
  · rename_i hn
    refine ⟨?_, by simp, ?_⟩
    · simp only [takeN, if_true]
      rw [takeD_digits true n.natAbs (by rw [if_pos rfl]; omega) (fun _ => by omega), if_pos rfl]
      congr 1; omega
    · have := nDigits_le n.natAbs (by omega)
      simp [Lib.decDigits_length]; omega
  · rename_i hn
    obtain ⟨g1, g2, g3, _⟩ := decDigits_spec n.toNat
    refine ⟨?_, g3, ?_⟩
    · cases hd : Lib.decDigits n.toNat with
      | nil => exact absurd hd g3
      | cons c r =>
        have hc : c ≠ 45 := fun e => by have := g1 c (by rw [hd]; simp); subst e; exact absurd this (by decide)
        simp only [takeN]
        rw [if_neg hc, ← hd, takeD_digits false n.toNat (by rw [if_neg (by decide)]; omega) (fun h => by cases h), if_neg (by decide)]
        congr 1; omega
    · have := nDigits_le n.toNat (by omega)
      rw [Lib.decDigits_length]; omega
/-- Digits that don't begin with 0 are the digits of their number. -/
theorem digits_dec : ∀ (n : Nat) (d : List UInt8), d.length = n → d ≠ [] → (∀ i, i < d.length → isD (d.getD i 0)) → (d.getD 0 0 = 48 → d.length = 1) → Lib.decDigits (decL d) = d := by
  intro n
  induction n with
  | zero => intro d hl hne; exact absurd (List.eq_nil_of_length_eq_zero hl) hne
  | succ n ih =>
    intro d hl hne hd h0
    obtain ⟨d', c, rfl⟩ : ∃ d' c, d = d' ++ [c] := ⟨d.dropLast, d.getLast hne, (List.dropLast_concat_getLast hne).symm⟩
    have hl' : d'.length = n := by simpa using hl
    have hc : isD c := by
      have := hd n (by simp; omega)
      rwa [List.getD_eq_getElem?_getD, List.getElem?_append_right (by omega), hl', Nat.sub_self] at this
    have hcn : UInt8.ofNat (48 + (c.toNat - 48)) = c := by
      apply UInt8.toNat.inj
      unfold isD at hc
      rw [UInt8.toNat_ofNat']; omega
    rw [decL_snoc]
    cases hd' : d' with
    | nil =>
      unfold isD at hc
      simp only [decL, List.foldl_nil, Nat.mul_zero, Nat.zero_add, List.nil_append]
      rw [Lib.decDigits_one (by omega), hcn]
    | cons e r =>
      rw [← hd']
      have hhead : (d' ++ [c]).getD 0 0 = d'.getD 0 0 := by rw [hd']; rfl
      have hne' : d' ≠ [] := by rw [hd']; simp
      have hd2 : ∀ i, i < d'.length → isD (d'.getD i 0) := fun i hi => by
        have := hd i (by simp; omega)
        rwa [List.getD_eq_getElem?_getD, List.getElem?_append_left hi, ← List.getD_eq_getElem?_getD] at this
      have h48 : d'.getD 0 0 ≠ 48 := fun h => by
        have := h0 (by rw [hhead]; exact h)
        rw [hd'] at this; simp at this
      have e1 := ih d' hl' hne' hd2 (fun h => absurd h h48)
      have h1 : 1 ≤ decL d' := by
        rcases Nat.eq_zero_or_pos (decL d') with h | h
        · rw [h] at e1
          rw [Lib.decDigits_one (by omega)] at e1
          rw [← e1] at h48
          exact absurd rfl h48
        · exact h
      unfold isD at hc
      rw [Lib.decDigits.eq_1, dif_neg (by omega), show (10 * decL d' + (c.toNat - 48)) / 10 = decL d' by omega, show (10 * decL d' + (c.toNat - 48)) % 10 = c.toNat - 48 by omega, e1, hcn]
theorem takeD_some {m : Bool} {d : List UInt8} {v : Int} (h : takeD m d = some v) : d ≠ [] ∧ (d.getD 0 0 = 48 → d.length = 1 ∧ m = false) ∧ (∀ i, i < d.length → isD (d.getD i 0)) ∧ (decL d : Int) ≤ (if m then 9223372036854775808 else 9223372036854775807) ∧ v = if m then -(decL d : Int) else decL d := by
  unfold takeD at h
  rw [Option.ite_none_left_eq_some] at h
  obtain ⟨hc, h⟩ := h
  simp only [Option.some.injEq] at h
  have hne : d ≠ [] := fun e => hc (.inl e)
  have hpos : 0 < d.length := List.length_pos_iff.2 hne
  refine ⟨hne, fun h48 => ?_, ?_, ?_, h.symm⟩
  · by_cases h1 : 1 < d.length
    · exact absurd (.inr (.inl ⟨h48, .inl h1⟩)) hc
    · cases m
      · exact ⟨by omega, rfl⟩
      · exact absurd (.inr (.inl ⟨h48, .inr rfl⟩)) hc
  · exact Classical.byContradiction fun h2 => hc (.inr (.inr (.inl h2)))
  · exact Int.not_lt.1 fun h2 => hc (.inr (.inr (.inr h2)))
theorem itoa_take (l : List UInt8) (v : Int) (h : takeN l = some v) : Lib.itoa v = l ∧ -9223372036854775808 ≤ v ∧ v ≤ 9223372036854775807 := by
  match l, h with
  | c :: r, h =>
    simp only [takeN] at h
    split at h
    · rename_i hc
      subst hc
      obtain ⟨h1, h2, h3, h4, h5⟩ := takeD_some h
      rw [if_pos rfl] at h4 h5
      have h48 : r.getD 0 0 ≠ 48 := fun e => by have := (h2 e).2; cases this
      have hd := digits_dec r.length r rfl h1 h3 (fun e => absurd e h48)
      have hp : 1 ≤ decL r := by
        rcases Nat.eq_zero_or_pos (decL r) with h | h
        · rw [h, Lib.decDigits_one (by omega)] at hd
          rw [← hd] at h48
          exact absurd rfl h48
        · exact h
      refine ⟨?_, by omega, by omega⟩
      rw [Lib.itoa, if_pos (by omega), show v.natAbs = decL r by omega, hd]
    · rename_i hc
      obtain ⟨h1, h2, h3, h4, h5⟩ := takeD_some h
      rw [if_neg (by decide)] at h4 h5
      have hd := digits_dec (c :: r).length (c :: r) rfl h1 h3 (fun e => (h2 e).1)
      refine ⟨?_, by omega, by omega⟩
      rw [Lib.itoa, if_neg (by omega), show v.toNat = decL (c :: r) by omega, hd]
end Go.Proofs.YtagfnnpklefhhaaDoor
