/-
  Texts that belong together, one behind the other.
-/
import Derived.Test.YtonkclkopmdahaaGreatDoorFu09
import Derived.Test.YtonkclkopmdahaaGreatDoorFu11
import Derived.Test.YtonkclkopmdahaaGreatDoorFu07
/-
  Layer 1: Number of the reference.
-/
namespace Go.Proofs.YtonkclkopmdahaaGreatDoor
set_option maxRecDepth 20000
open Go.RowKit
set_option linter.unusedVariables false

theorem conv_cell (b : Nat) (x : Int) (w : World) (h : w.cell? ⟨b, 0, none⟩ = some (.int .u8 x)) :
    (convert 29 9 (.slice (some ⟨b, 0, none⟩) 1 1)).run Tryz.prog w = .ok (.string ⟨[UInt8.ofNat x.toNat].toArray⟩) w :=
  run_convert_bytes_arg _ 29 5 Tryz.underlying29 Tryz.underlying5 b 0 1 1 [x] rfl (fun i hi => by
    obtain rfl : i = 0 := by omega
    exact h) 9 Tryz.underlying9
theorem conv_one (x : Int) (w : World) :
    (convert 29 9 (.slice (some ⟨w.heap.size, 0, none⟩) 1 1)).run Tryz.prog (w.alloc (.cells #[.int .u8 x] 5)) = .ok (.string ⟨[UInt8.ofNat x.toNat].toArray⟩) (w.alloc (.cells #[.int .u8 x] 5)) :=
  run_convert_bytes_arg _ 29 5 Tryz.underlying29 Tryz.underlying5 w.heap.size 0 1 1 [x] rfl (fun i hi => by
    obtain rfl : i = 0 := by omega
    exact Lib.cell_of_heap (heap_alloc_new _ _) 0) 9 Tryz.underlying9

set_option maxHeartbeats 400000 in
theorem rdigits_small (u : Int) (w : World) (h0 : 0 ≤ u) (h1 : u < 10) :
    Calls Tryz.prog 65 #[.int .u64 u] w fun e w' => e = .returned (.string ⟨(Lib.decDigits u.toNat).toArray⟩) ∧ Below w.heap.size w w' := by
  have hcv := conv_one (48 + u) w
  go_enter Tryz.func65, Tryz.ntmps65
  go_wp2
  go_ret
  refine ⟨ret_str ?_, (Below.refl _ w).alloc (Nat.le_refl _) _⟩
  rw [Lib.decDigits_one (by omega), show (48 + u).toNat = 48 + u.toNat by omega]

theorem nDigits_le (u : Nat) (h : u ≤ 18446744073709551615) : Lib.nDigits u ≤ 20 := by
  rw [← Lib.decDigits_length]
  have key : ∀ (k u : Nat), u < 10 ^ (k + 1) → (Lib.decDigits u).length ≤ k + 1 := by
    intro k
    induction k with
    | zero => intro u hu; rw [Lib.decDigits_one (by omega)]; simp
    | succ k ih =>
      intro u hu
      rw [Lib.decDigits]
      split
      · simp
      · have := ih (u / 10) (by rw [Nat.div_lt_iff_lt_mul (by omega)]; rw [Nat.pow_succ] at hu; omega)
        simp; omega
  exact key 19 u (by omega)

set_option maxHeartbeats 4000000 in
set_option maxRecDepth 100000 in
theorem rdigits_step (u : Int) (w : World) (h0 : 10 ≤ u) (h1 : u ≤ 18446744073709551615) (sd sl : ByteArray)
    (hcv : ∀ w : World, (convert 29 9 (.slice (some ⟨w.heap.size, 0, none⟩) 1 1)).run Tryz.prog (w.alloc (.cells #[.int .u8 (48 + u % 10)] 5)) = .ok (.string sl) (w.alloc (.cells #[.int .u8 (48 + u % 10)] 5)))
    (hcl : ∀ W : World, W.cell? ⟨w.heap.size, 0, none⟩ = some (.int .u8 (48 + u % 10)) → (convert 29 9 (.slice (some ⟨w.heap.size, 0, none⟩) 1 1)).run Tryz.prog W = .ok (.string sl) W)
    (hadd : ∀ w : World, (Op.stringOp .add sd sl).run Tryz.prog w = .ok (.string (sd ++ sl)) w)
    (ih : ∀ w, Calls Tryz.prog 65 #[.int .u64 (u / 10)] w fun e w' => e = .returned (.string sd) ∧ Below w.heap.size w w') :
    Calls Tryz.prog 65 #[.int .u64 u] w fun e w' => e = .returned (.string (sd ++ sl)) ∧ Below w.heap.size w w' := by
  have IH := Lib.hid ih; clear ih
  have hcd := hcl (w.alloc (.cells #[.int .u8 (48 + u % 10)] 5)).drew (Lib.cell_of_heap (heap_alloc_new w _) 0)
  have HCL := Lib.hid hcl; clear hcl
  have q1 := IntWalk.u64_quo u 10 (by omega)
  have q2 := IntWalk.rem_in u 10 (by omega)
  have q3 := IntWalk.u64_in (48 + u % 10) (by omega)
  have q4 := IntWalk.u8_in (48 + u % 10) (by omega)
  have H1 := Lib.hid h1
  clear h1
  go_enter Tryz.func65, Tryz.ntmps65
  go_wp2_with fail
  go_region_with (go_at_call 65; refine (IH.out _).mono ?_; rintro e w' ⟨rfl, hb⟩; try have hcw := HCL.out w' ((hb.cell (p := ⟨w.heap.size, 0, none⟩) (by simp)).trans (Lib.cell_of_heap (heap_alloc_new w _) 0)))
  all_goals (try go_wp2)
  all_goals go_ret
  all_goals refine ⟨rfl, ?_⟩
  all_goals first
    | exact (((Below.refl _ w).alloc (Nat.le_refl _) _).drew).trans (hb.mono (by simp))
    | exact ((Below.refl _ w).drew.trans hb).alloc hb.size _

theorem rdigits (u : Int) (w : World) (h0 : 0 ≤ u) (h1 : u ≤ 18446744073709551615) :
    Calls Tryz.prog 65 #[.int .u64 u] w fun e w' => e = .returned (.string ⟨(Lib.decDigits u.toNat).toArray⟩) ∧ Below w.heap.size w w' := by
  have key : ∀ (m : Nat) (u : Int), u.toNat ≤ m → 0 ≤ u → u ≤ 18446744073709551615 → ∀ w : World,
      Calls Tryz.prog 65 #[.int .u64 u] w fun e w' => e = .returned (.string ⟨(Lib.decDigits u.toNat).toArray⟩) ∧ Below w.heap.size w w' := by
    intro m
    induction m with
    | zero => intro u hm h0 h1 w; exact rdigits_small u w h0 (by omega)
    | succ m ih =>
      intro u hm h0 h1 w
      by_cases h10 : u < 10
      · exact rdigits_small u w h0 h10
      · have e := rdigits_step u w (by omega) h1 ⟨(Lib.decDigits (u / 10).toNat).toArray⟩ ⟨[UInt8.ofNat (48 + u % 10).toNat].toArray⟩
          (fun w => conv_one _ w) (fun W h => conv_cell _ _ W h)
          (fun w => run_string_add_sum w _ _ (by
            rw [size_toArray, size_toArray, Lib.decDigits_length]
            have := nDigits_le (u / 10).toNat (by omega)
            simp; omega))
          (ih (u / 10) (by omega) (by omega) (by omega))
        refine e.mono ?_
        rintro e w' ⟨rfl, hb⟩
        refine ⟨?_, hb⟩
        have hh : ¬ u.toNat < 10 := by omega
        rw [Lib.decDigits.eq_1 u.toNat, dif_neg hh, show (u / 10).toNat = u.toNat / 10 by omega, show (48 + u % 10).toNat = 48 + u.toNat % 10 by omega, bytes_append]
  exact key u.toNat u (Nat.le_refl _) h0 h1 w

set_option maxHeartbeats 400000 in
theorem rNumber_pos (n : Int) (h0 : 0 ≤ n) (h1 : n ≤ 9223372036854775807) (w : World) :
    Calls Tryz.prog 43 #[.int .i64 n] w fun e w' => e = .returned (.string ⟨(Lib.itoa n).toArray⟩) ∧ Below w.heap.size w w' := by
  go_enter Tryz.func43, Tryz.ntmps43
  go_wp2_with fail
  refine (rdigits n _ h0 (by omega)).mono ?_
  rintro e w1 ⟨rfl, hb⟩
  go_wp2
  go_ret
  exact ⟨ret_str (by rw [Lib.itoa, if_neg (by omega)]), hb⟩
set_option maxHeartbeats 400000 in
theorem rNumber_neg (n : Int) (h0 : n < 0) (h1 : -9223372036854775808 ≤ n) (w : World) :
    Calls Tryz.prog 43 #[.int .i64 n] w fun e w' => e = .returned (.string ⟨(Lib.itoa n).toArray⟩) ∧ Below w.heap.size w w' := by
  go_enter Tryz.func43, Tryz.ntmps43
  go_wp2_with fail
  have c := fun w => rdigits (-(n + 1) + 1) w (by omega) (by omega)
  rw [show (-(n + 1) + 1).toNat = n.natAbs by omega] at c
  refine (c _).mono ?_
  rintro e w1 ⟨rfl, hb⟩
  clear c
  have hadd := add_lists (P := Tryz.prog) w1 [45] (Lib.decDigits n.natAbs) (by
    rw [Lib.decDigits_length]
    have := nDigits_le n.natAbs (by omega)
    simp; omega)
  go_wp2
  go_ret
  refine ⟨?_, hb⟩
  rw [Lib.itoa, if_pos h0]
  rfl
theorem rNumber (n : Int) (h0 : -9223372036854775808 ≤ n) (h1 : n ≤ 9223372036854775807) (w : World) :
    Calls Tryz.prog 43 #[.int .i64 n] w fun e w' => e = .returned (.string ⟨(Lib.itoa n).toArray⟩) ∧ Below w.heap.size w w' := by
  by_cases h : n < 0
  · exact rNumber_neg n h h0 w
  · exact rNumber_pos n (by omega) h1 w
end Go.Proofs.YtonkclkopmdahaaGreatDoor

/-
  Layer 1: numbers written are read, and what is read is written so: lists alone.
-/
namespace Go.Proofs.YtonkclkopmdahaaGreatDoor
open Go.RowKit
set_option linter.unusedVariables false

theorem decL_append (l : List UInt8) (c : UInt8) : decL (l ++ [c]) = 10 * decL l + (c.toNat - 48) := decL_snoc l c
theorem dig_toNat (k : Nat) (h : k < 10) : (UInt8.ofNat (48 + k)).toNat = 48 + k := by rw [UInt8.toNat_ofNat']; omega
/-- The digits of a number: they are digits, they are that number, and they don't begin with 0 unless it is 0. -/
theorem decDigits_spec (u : Nat) : (∀ c ∈ Lib.decDigits u, isD c) ∧ decL (Lib.decDigits u) = u ∧ Lib.decDigits u ≠ [] ∧ (10 ≤ u → (Lib.decDigits u).getD 0 0 ≠ 48) ∧ (0 < u → (Lib.decDigits u).getD 0 0 ≠ 48) := by
  induction u using Nat.strongRecOn with
  | ind u ih =>
    by_cases h : u < 10
    · rw [Lib.decDigits_one h]
      refine ⟨?_, ?_, by simp, by omega, fun h0 => ?_⟩
      · intro c hc; rw [List.mem_singleton] at hc; subst hc; unfold isD; rw [dig_toNat u h]; omega
      · have := decL_snoc [] (UInt8.ofNat (48 + u)); simp only [List.nil_append] at this; rw [this, dig_toNat u h]; simp [decL]
      · intro e
        have e2 : (UInt8.ofNat (48 + u)).toNat = 48 := congrArg UInt8.toNat e
        rw [dig_toNat u h] at e2; omega
    · obtain ⟨h1, h2, h3, h4, h5⟩ := ih (u / 10) (by omega)
      rw [Lib.decDigits.eq_1 u, dif_neg h]
      have hne : (Lib.decDigits (u / 10) ++ [UInt8.ofNat (48 + u % 10)]).getD 0 0 = (Lib.decDigits (u / 10)).getD 0 0 := by
        cases hd : Lib.decDigits (u / 10) with
        | nil => exact absurd hd h3
        | cons c r => rfl
      refine ⟨?_, ?_, by simp, fun _ => by rw [hne]; exact h5 (by omega), fun _ => by rw [hne]; exact h5 (by omega)⟩
      · intro c hc
        rcases List.mem_append.1 hc with hc | hc
        · exact h1 c hc
        · rw [List.mem_singleton] at hc; subst hc; unfold isD; rw [dig_toNat _ (by omega)]; omega
      · rw [decL_snoc, h2, dig_toNat _ (by omega)]; omega
theorem isD_getD {l : List UInt8} (h : ∀ c ∈ l, isD c) (i : Nat) (hi : i < l.length) : isD (l.getD i 0) := by
  rw [List.getD_eq_getElem?_getD, List.getElem?_eq_getElem hi]; exact h _ (List.getElem_mem _)
theorem takeD_digits (m : Bool) (u : Nat) (h : (u : Int) ≤ if m then 9223372036854775808 else 9223372036854775807) (h0 : m = true → 0 < u) : takeD m (Lib.decDigits u) = some (if m then -(u : Int) else u) := by
  obtain ⟨h1, h2, h3, h4, h5⟩ := decDigits_spec u
  unfold takeD
  rw [if_neg, h2]
  rintro (h | ⟨h, h6 | h6⟩ | h | h)
  · exact h3 h
  · by_cases hu : u < 10
    · rw [Lib.decDigits_one hu] at h6; simp at h6
    · exact h4 (by omega) h
  · exact h5 (h0 h6) h
  · exact h fun i hi => isD_getD h1 i hi
  · rw [h2] at h; omega
theorem take_itoa (n : Int) (h0 : -9223372036854775808 ≤ n) (h1 : n ≤ 9223372036854775807) : takeN (Lib.itoa n) = some n ∧ Lib.itoa n ≠ [] ∧ (Lib.itoa n).length ≤ 21 := by
  rw [Lib.itoa]
  split
  · rename_i hn
    refine ⟨?_, by simp, ?_⟩
    · simp only [takeN, if_true]
      rw [takeD_digits true n.natAbs (by rw [if_pos rfl]; omega) (fun _ => by omega), if_pos rfl]
      congr 1; omega
    · have := nDigits_le n.natAbs (by omega)
      simp [Lib.decDigits_length]; omega
  · rename_i hn
    obtain ⟨g1, g2, g3, _⟩ := decDigits_spec n.toNat
    refine ⟨?_, g3, ?_⟩
    · cases hd : Lib.decDigits n.toNat with
      | nil => exact absurd hd g3
      | cons c r =>
        have hc : c ≠ 45 := fun e => by have := g1 c (by rw [hd]; simp); subst e; exact absurd this (by decide)
        simp only [takeN]
        rw [if_neg hc, ← hd, takeD_digits false n.toNat (by rw [if_neg (by decide)]; omega) (fun h => by cases h), if_neg (by decide)]
        congr 1; omega
    · have := nDigits_le n.toNat (by omega)
      rw [Lib.decDigits_length]; omega
/-- Digits that don't begin with 0 are the digits of their number. -/
theorem digits_dec : ∀ (n : Nat) (d : List UInt8), d.length = n → d ≠ [] → (∀ i, i < d.length → isD (d.getD i 0)) → (d.getD 0 0 = 48 → d.length = 1) → Lib.decDigits (decL d) = d := by
  intro n
  induction n with
  | zero => intro d hl hne; exact absurd (List.eq_nil_of_length_eq_zero hl) hne
  | succ n ih =>
    intro d hl hne hd h0
    obtain ⟨d', c, rfl⟩ : ∃ d' c, d = d' ++ [c] := ⟨d.dropLast, d.getLast hne, (List.dropLast_concat_getLast hne).symm⟩
    have hl' : d'.length = n := by simpa using hl
    have hc : isD c := by
      have := hd n (by simp; omega)
      rwa [List.getD_eq_getElem?_getD, List.getElem?_append_right (by omega), hl', Nat.sub_self] at this
    have hcn : UInt8.ofNat (48 + (c.toNat - 48)) = c := by
      apply UInt8.toNat.inj
      unfold isD at hc
      rw [UInt8.toNat_ofNat']; omega
    rw [decL_snoc]
    cases hd' : d' with
    | nil =>
      unfold isD at hc
      simp only [decL, List.foldl_nil, Nat.mul_zero, Nat.zero_add, List.nil_append]
      rw [Lib.decDigits_one (by omega), hcn]
    | cons e r =>
      rw [← hd']
      have hhead : (d' ++ [c]).getD 0 0 = d'.getD 0 0 := by rw [hd']; rfl
      have hne' : d' ≠ [] := by rw [hd']; simp
      have hd2 : ∀ i, i < d'.length → isD (d'.getD i 0) := fun i hi => by
        have := hd i (by simp; omega)
        rwa [List.getD_eq_getElem?_getD, List.getElem?_append_left hi, ← List.getD_eq_getElem?_getD] at this
      have h48 : d'.getD 0 0 ≠ 48 := fun h => by
        have := h0 (by rw [hhead]; exact h)
        rw [hd'] at this; simp at this
      have e1 := ih d' hl' hne' hd2 (fun h => absurd h h48)
      have h1 : 1 ≤ decL d' := by
        rcases Nat.eq_zero_or_pos (decL d') with h | h
        · rw [h] at e1
          rw [Lib.decDigits_one (by omega)] at e1
          rw [← e1] at h48
          exact absurd rfl h48
        · exact h
      unfold isD at hc
      rw [Lib.decDigits.eq_1, dif_neg (by omega), show (10 * decL d' + (c.toNat - 48)) / 10 = decL d' by omega, show (10 * decL d' + (c.toNat - 48)) % 10 = c.toNat - 48 by omega, e1, hcn]
theorem takeD_some {m : Bool} {d : List UInt8} {v : Int} (h : takeD m d = some v) : d ≠ [] ∧ (d.getD 0 0 = 48 → d.length = 1 ∧ m = false) ∧ (∀ i, i < d.length → isD (d.getD i 0)) ∧ (decL d : Int) ≤ (if m then 9223372036854775808 else 9223372036854775807) ∧ v = if m then -(decL d : Int) else decL d := by
  unfold takeD at h
  rw [Option.ite_none_left_eq_some] at h
  obtain ⟨hc, h⟩ := h
  simp only [Option.some.injEq] at h
  have hne : d ≠ [] := fun e => hc (.inl e)
  have hpos : 0 < d.length := List.length_pos_iff.2 hne
  refine ⟨hne, fun h48 => ?_, ?_, ?_, h.symm⟩
  · by_cases h1 : 1 < d.length
    · exact absurd (.inr (.inl ⟨h48, .inl h1⟩)) hc
    · cases m
      · exact ⟨by omega, rfl⟩
      · exact absurd (.inr (.inl ⟨h48, .inr rfl⟩)) hc
  · exact Classical.byContradiction fun h2 => hc (.inr (.inr (.inl h2)))
  · exact Int.not_lt.1 fun h2 => hc (.inr (.inr (.inr h2)))
theorem itoa_take (l : List UInt8) (v : Int) (h : takeN l = some v) : Lib.itoa v = l ∧ -9223372036854775808 ≤ v ∧ v ≤ 9223372036854775807 := by
  match l, h with
  | c :: r, h =>
    simp only [takeN] at h
    split at h
    · rename_i hc
      subst hc
      obtain ⟨h1, h2, h3, h4, h5⟩ := takeD_some h
      rw [if_pos rfl] at h4 h5
      have h48 : r.getD 0 0 ≠ 48 := fun e => by have := (h2 e).2; cases this
      have hd := digits_dec r.length r rfl h1 h3 (fun e => absurd e h48)
      have hp : 1 ≤ decL r := by
        rcases Nat.eq_zero_or_pos (decL r) with h | h
        · rw [h, Lib.decDigits_one (by omega)] at hd
          rw [← hd] at h48
          exact absurd rfl h48
        · exact h
      refine ⟨?_, by omega, by omega⟩
      rw [Lib.itoa, if_pos (by omega), show v.natAbs = decL r by omega, hd]
    · rename_i hc
      obtain ⟨h1, h2, h3, h4, h5⟩ := takeD_some h
      rw [if_neg (by decide)] at h4 h5
      have hd := digits_dec (c :: r).length (c :: r) rfl h1 h3 (fun e => (h2 e).1)
      refine ⟨?_, by omega, by omega⟩
      rw [Lib.itoa, if_neg (by omega), show v.toNat = decL (c :: r) by omega, hd]
end Go.Proofs.YtonkclkopmdahaaGreatDoor

/-
  Layer 6, the document's answers: which bytes are barred.
-/
namespace Go.Proofs.YtonkclkopmdahaaGreatDoor
open Go.RowKit
set_option linter.unusedVariables false
set_option linter.unusedSimpArgs false

set_option maxHeartbeats 1000000 in
theorem rbarred_is (c : UInt8) (w : World) :
    Calls Tryz.prog 74 #[.int .u8 c.toNat] w fun e w' => e = .returned (.bool (barB c)) ∧ w = w' := by
  unfold barB
  obtain ⟨r, hr⟩ : ∃ r, c.toNat = r := ⟨_, rfl⟩
  have hr2 := c.toNat_lt
  rw [hr] at hr2 ⊢
  clear hr
  by_cases h0 : r = 0
  · subst h0
    go_enter Tryz.func74, Tryz.ntmps74
    go_wp2
    go_ret
    exact ⟨rfl, rfl⟩
  have f0 : ((r : Int) == 0) = false := by simp; omega
  by_cases h1 : r = 10
  · subst h1
    go_enter Tryz.func74, Tryz.ntmps74
    go_wp2
    go_ret
    exact ⟨rfl, rfl⟩
  have f1 : ((r : Int) == 10) = false := by simp; omega
  by_cases h2 : r = 60
  · subst h2
    go_enter Tryz.func74, Tryz.ntmps74
    go_wp2
    go_ret
    exact ⟨rfl, rfl⟩
  have f2 : ((r : Int) == 60) = false := by simp; omega
  by_cases h3 : r = 62
  · subst h3
    go_enter Tryz.func74, Tryz.ntmps74
    go_wp2
    go_ret
    exact ⟨rfl, rfl⟩
  have f3 : ((r : Int) == 62) = false := by simp; omega
  have e : (r == 0 || r == 10 || r == 60 || r == 62) = false := by simp; omega
  rw [e]
  clear h0 h1 h2 h3 e
  go_enter Tryz.func74, Tryz.ntmps74
  go_wp2
  go_ret
  exact ⟨rfl, rfl⟩
end Go.Proofs.YtonkclkopmdahaaGreatDoor

/-
  Layer 6: zones of the program: twoDigits, zoneText, minutes, Zone.
-/
namespace Go.Proofs.YtonkclkopmdahaaGreatDoor
open Go.RowKit
set_option linter.unusedVariables false
set_option linter.unusedSimpArgs false

def minV (s a b c d : UInt8) : Option Int :=
  if digB a = true ∧ digB b = true ∧ digB c = true ∧ digB d = true then some (if s.toNat = 45 then -((digV a * 600 + digV b * 60 + digV c * 10 + digV d : Nat) : Int) else ((digV a * 600 + digV b * 60 + digV c * 10 + digV d : Nat) : Int)) else none
/-- What may be a zone, read. -/
def minR : List UInt8 → Option Int
  | [s, a, b, c, d] => minV s a b c d
  | _ => none
theorem min_read (z : Int) (h0 : -840 ≤ z) (h1 : z ≤ 840) : minR (zoneT z) = some z := by
  obtain ⟨n, hn⟩ : ∃ n, z.natAbs = n := ⟨_, rfl⟩
  have hn840 : n ≤ 840 := by omega
  have e1 := digB_of (n / 60 / 10) (by omega)
  have e2 := digB_of (n / 60 % 10) (by omega)
  have e3 := digB_of (n % 60 / 10) (by omega)
  have e4 := digB_of (n % 60 % 10) (by omega)
  have hz : n / 60 / 10 * 600 + n / 60 % 10 * 60 + n % 60 / 10 * 10 + n % 60 % 10 = n := by omega
  unfold zoneT twoD
  rw [hn]
  simp only [List.cons_append, List.nil_append]
  show minV _ _ _ _ _ = some z
  unfold minV
  rw [e1.1, e1.2, e2.1, e2.2, e3.1, e3.2, e4.1, e4.2, hz]
  by_cases hneg : z < 0
  · rw [if_pos hneg, if_pos ⟨rfl, rfl, rfl, rfl⟩, if_pos (by decide)]
    congr 1; omega
  · rw [if_neg hneg, if_pos ⟨rfl, rfl, rfl, rfl⟩, if_neg (by decide)]
    congr 1; omega
/-- The program's way to read a zone. -/
def zoneP (s : List UInt8) : Option Int := match minR s with
  | none => none
  | some z => if -840 ≤ z ∧ z ≤ 840 ∧ zoneT z = s then some z else none
theorem zoneP_same (s : List UInt8) : zoneP s = zoneR s := by
  cases e : zoneR s with
  | some z =>
    obtain ⟨h1, h2, h3⟩ := zone_back s z e
    unfold zoneP
    rw [← h1, min_read z h2 h3]
    simp only
    rw [if_pos ⟨h2, h3, trivial⟩]
  | none =>
    unfold zoneP
    cases e2 : minR s with
    | none => rfl
    | some z =>
      simp only
      rw [if_neg]
      rintro ⟨h1, h2, h3⟩
      rw [← h3, zone_read z h1 h2] at e
      cases e
def placeL : List Nat := [600, 60, 10, 1]
/-- The places of a zone's digits, as the program's variable has them. -/
structure ZTab (w : World) : Prop where
  lt : 4 < w.heap.size
  cell : ∀ k : Nat, k < 4 → w.cell? ⟨4, k, none⟩ = some (.int .i64 ((placeL.getD k 0 : Nat) : Int))
theorem ZTab.keep {w w' : World} (h : ZTab w) (hb : Below w.heap.size w w') : ZTab w' :=
  ⟨Nat.lt_of_lt_of_le h.lt hb.size, fun k hk => (hb.cell (p := ⟨4, k, none⟩) h.lt).trans (h.cell k hk)⟩
def minA (s : List UInt8) : Value := match minR s with
  | none => .tuple #[.int .i64 0, .bool false]
  | some z => .tuple #[.int .i64 z, .bool true]
theorem min_len (s : List UInt8) (h : s.length ≠ 5) : minR s = none := by
  match s, h with
  | [], _ => rfl
  | [_], _ => rfl
  | [_, _], _ => rfl
  | [_, _, _], _ => rfl
  | [_, _, _, _], _ => rfl
  | [_, _, _, _, _], h => exact absurd rfl h
  | _ :: _ :: _ :: _ :: _ :: _ :: _, _ => rfl
theorem min_bad (x : UInt8) (m : List UInt8) (i : Nat) (hi : i < m.length) (h4 : m.length = 4) (h : digB (m.getD i 0) = false) : minR (x :: m) = none := by
  match m, h4, hi, h with
  | [a, b, c, d], _, hi, h =>
    show minV x a b c d = none
    unfold minV
    rw [if_neg]
    rintro ⟨h1, h2, h3, h5⟩
    obtain rfl | rfl | rfl | rfl : i = 0 ∨ i = 1 ∨ i = 2 ∨ i = 3 := by simp at hi; omega
    · simp at h; rw [h] at h1; cases h1
    · simp at h; rw [h] at h2; cases h2
    · simp at h; rw [h] at h3; cases h3
    · simp at h; rw [h] at h5; cases h5
def zsum (m : List UInt8) : Nat → Nat
  | 0 => 0
  | i + 1 => zsum m i + digV (m.getD i 0) * placeL.getD i 0
theorem min_good (x : UInt8) (m : List UInt8) (h4 : m.length = 4) (h : ∀ i, i < 4 → digB (m.getD i 0) = true) : minR (x :: m) = some (if x.toNat = 45 then -((zsum m 4 : Nat) : Int) else ((zsum m 4 : Nat) : Int)) := by
  match m, h4, h with
  | [a, b, c, d], _, h =>
    show minV x a b c d = _
    unfold minV
    have e : zsum [a, b, c, d] 4 = digV a * 600 + digV b * 60 + digV c * 10 + digV d := by
      simp [zsum, placeL]
    rw [if_pos ⟨h 0 (by omega), h 1 (by omega), h 2 (by omega), h 3 (by omega)⟩, e]
theorem zsum_le (m : List UInt8) : ∀ i, i ≤ 4 → (∀ j, j < i → digB (m.getD j 0) = true) → zsum m i ≤ 5400 * i
  | 0, _, _ => Nat.le_refl _
  | i + 1, hi, h => by
    have ih := zsum_le m i (by omega) (fun j hj => h j (by omega))
    have hd := (digB_iff _ (h i (by omega))).2
    have hp : placeL.getD i 0 ≤ 600 := by
      obtain rfl | rfl | rfl | rfl : i = 0 ∨ i = 1 ∨ i = 2 ∨ i = 3 := by omega
      · decide
      · decide
      · decide
      · decide
    have hm : digV (m.getD i 0) * placeL.getD i 0 ≤ 9 * 600 := Nat.mul_le_mul (by omega) hp
    show zsum m i + digV (m.getD i 0) * placeL.getD i 0 ≤ _
    omega
set_option maxHeartbeats 16000000 in
set_option maxRecDepth 100000 in
theorem minutes_five (x : UInt8) (m : List UInt8) (h4 : m.length = 4) (w : World) (tab : ZTab w) :
    Calls Tryz.prog 115 #[.string ⟨(x :: m).toArray⟩] w fun e w' => e = .returned (minA (x :: m)) ∧ Below w.heap.size w w' := by
  have RI := Lib.hid (rune_int m)
  have MB := Lib.hid (fun i hi h => min_bad x m i hi h4 h)
  have MG := Lib.hid (min_good x m h4)
  have ZS := Lib.hid (zsum_le m)
  have hsz : (⟨(x :: m).toArray⟩ : ByteArray).size = 5 := by rw [size_toArray, List.length_cons, h4]
  have htz := size_toArray m
  have hext : (⟨(x :: m).toArray⟩ : ByteArray).extract 1 5 = ⟨m.toArray⟩ := ext_from (x :: m) 1 5 (by rw [List.length_cons, h4])
  have hx : ∀ h, (⟨(x :: m).toArray⟩ : ByteArray)[0]'h = x := fun _ => rfl
  generalize (⟨(x :: m).toArray⟩ : ByteArray) = s at hsz hext hx ⊢
  generalize (⟨m.toArray⟩ : ByteArray) = t at RI htz hext
  have hx0 := hx (by omega)
  have ZT := Lib.hid tab
  have it0 := Lib.hid (World.iter_heap w t 0)
  have bl0 := Lib.hid ((Below.refl w.heap.size w).alloc (Nat.le_refl _) (.stringIter t 0))
  clear hx tab
  go_enter Tryz.func115, Tryz.ntmps115
  go_wp2_with fail
  go_loopw [4] (fun v4 wr => ∃ i : Nat, i ≤ 4 ∧ v4 = .int .i64 (zsum m i : Nat) ∧ (∀ j, j < i → digB (m.getD j 0) = true) ∧ wr.heap[w.heap.size]? = some (.stringIter t i) ∧ Below w.heap.size w wr) (fun _ wr => 4 - wr.iterPos w.heap.size)
  case atStart => exact ⟨0, by omega, rfl, fun j hj => absurd hj (Nat.not_lt_zero _), it0.out, bl0.out⟩
  case round =>
    clear it0 bl0
    obtain ⟨i, hi, rfl, hdg, hit, hbr⟩ := hrel
    have DG := Lib.hid hdg
    clear hdg
    by_cases hlt : i < 4
    · have hnx := fun ty => Lib.run_next_any_at (P := Tryz.prog) wr w.heap.size t i ty hit (by omega)
      obtain ⟨r, k, hr, hk, hr0, hr1, hk1, hkl, hw⟩ := RI.out i (by omega)
      rw [← hr, ← hk] at hnx
      clear hr hk
      have HP := Lib.hid (show wr.iterPos w.heap.size = i by simp [World.iterPos, hit])
      have hit2 := Lib.iterAt_heap wr w.heap.size t i (i + k) hit
      have hbr2 := Lib.below_iterAt hbr (k := w.heap.size) (Nat.le_refl _) t (i + k)
      generalize wr.iterAt w.heap.size t (i + k) = w3 at hnx hit2 hbr2
      clear hit hbr
      by_cases c1 : 48 ≤ r ∧ r ≤ 57
      · obtain ⟨c1, c2⟩ := c1
        have hlow : k = 1 ∧ r = ((m.getD i 0).toNat : Int) := by
          rcases hw with ⟨_, h1, h2⟩ | ⟨h, _, _⟩
          · exact ⟨h2, h1⟩
          · omega
        obtain ⟨rfl, hrb⟩ := hlow
        have RD := Lib.hid (show ((digV (m.getD i 0) : Nat) : Int) = r - 48 by unfold digV; omega)
        have DG2 := Lib.hid (show ∀ j, j < i + 1 → digB (m.getD j 0) = true from fun j hj => by
          by_cases e : j = i
          · subst e; unfold digB; rw [Bool.and_eq_true, decide_eq_true_eq, decide_eq_true_eq]; omega
          · exact DG.out j (by omega))
        clear hw hrb
        have four : i = 0 ∨ i = 1 ∨ i = 2 ∨ i = 3 := by omega
        rcases four with rfl | rfl | rfl | rfl
        · have hcell : w3.cell? ⟨4, 0, none⟩ = some (.int .i64 600) := (ZT.out.keep hbr2).cell 0 (by omega)
          have EZ := Lib.hid (show zsum m 1 = zsum m 0 + digV (m.getD 0 0) * 600 from rfl)
          have Z1 := Lib.hid (zsum_le m 0 (by omega) DG.out)
          obtain ⟨z, hz⟩ : ∃ z, z = zsum m 0 := ⟨_, rfl⟩
          have hz2 := Z1.out
          rw [← hz] at hz2 EZ
          have E2 := Lib.hid (show (zsum m 1 : Int) = z + (r - 48) * 600 by rw [EZ.out]; have h := RD.out; omega)
          rw [← hz]
          clear hz
          go_wp2
          go_roundw
          case rel => exact ⟨1, by omega, by first | (rw [E2.out]; done) | (rw [E2.out]; go_num), DG2.out, hit2, hbr2⟩
          case measure =>
            rw [HP.out, show World.iterPos _ w.heap.size = 0 + 1 by simp [World.iterPos, hit2]]
            omega
        · have hcell : w3.cell? ⟨4, 1, none⟩ = some (.int .i64 60) := (ZT.out.keep hbr2).cell 1 (by omega)
          have EZ := Lib.hid (show zsum m 2 = zsum m 1 + digV (m.getD 1 0) * 60 from rfl)
          have Z1 := Lib.hid (zsum_le m 1 (by omega) DG.out)
          obtain ⟨z, hz⟩ : ∃ z, z = zsum m 1 := ⟨_, rfl⟩
          have hz2 := Z1.out
          rw [← hz] at hz2 EZ
          have E2 := Lib.hid (show (zsum m 2 : Int) = z + (r - 48) * 60 by rw [EZ.out]; have h := RD.out; omega)
          rw [← hz]
          clear hz
          go_wp2
          go_roundw
          case rel => exact ⟨2, by omega, by first | (rw [E2.out]; done) | (rw [E2.out]; go_num), DG2.out, hit2, hbr2⟩
          case measure =>
            rw [HP.out, show World.iterPos _ w.heap.size = 1 + 1 by simp [World.iterPos, hit2]]
            omega
        · have hcell : w3.cell? ⟨4, 2, none⟩ = some (.int .i64 10) := (ZT.out.keep hbr2).cell 2 (by omega)
          have EZ := Lib.hid (show zsum m 3 = zsum m 2 + digV (m.getD 2 0) * 10 from rfl)
          have Z1 := Lib.hid (zsum_le m 2 (by omega) DG.out)
          obtain ⟨z, hz⟩ : ∃ z, z = zsum m 2 := ⟨_, rfl⟩
          have hz2 := Z1.out
          rw [← hz] at hz2 EZ
          have E2 := Lib.hid (show (zsum m 3 : Int) = z + (r - 48) * 10 by rw [EZ.out]; have h := RD.out; omega)
          rw [← hz]
          clear hz
          go_wp2
          go_roundw
          case rel => exact ⟨3, by omega, by first | (rw [E2.out]; done) | (rw [E2.out]; go_num), DG2.out, hit2, hbr2⟩
          case measure =>
            rw [HP.out, show World.iterPos _ w.heap.size = 2 + 1 by simp [World.iterPos, hit2]]
            omega
        · have hcell : w3.cell? ⟨4, 3, none⟩ = some (.int .i64 1) := (ZT.out.keep hbr2).cell 3 (by omega)
          have EZ := Lib.hid (show zsum m 4 = zsum m 3 + digV (m.getD 3 0) * 1 from rfl)
          have Z1 := Lib.hid (zsum_le m 3 (by omega) DG.out)
          obtain ⟨z, hz⟩ : ∃ z, z = zsum m 3 := ⟨_, rfl⟩
          have hz2 := Z1.out
          rw [← hz] at hz2 EZ
          have E2 := Lib.hid (show (zsum m 4 : Int) = z + (r - 48) * 1 by rw [EZ.out]; have h := RD.out; omega)
          rw [← hz]
          clear hz
          go_wp2
          go_roundw
          case rel => exact ⟨4, by omega, by first | (rw [E2.out]; done) | (rw [E2.out]; go_num), DG2.out, hit2, hbr2⟩
          case measure =>
            rw [HP.out, show World.iterPos _ w.heap.size = 3 + 1 by simp [World.iterPos, hit2]]
            omega
      · have hbad : digB (m.getD i 0) = false := by
          unfold digB
          rcases hw with ⟨_, h1, h2⟩ | ⟨_, _, h⟩
          · rw [Bool.and_eq_false_iff, decide_eq_false_iff_not, decide_eq_false_iff_not]; omega
          · have := h i (Nat.le_refl _) (by omega); rw [Bool.and_eq_false_iff, decide_eq_false_iff_not, decide_eq_false_iff_not]; omega
        have NO := Lib.hid (MB.out i (by omega) hbad)
        clear hw hbad
        by_cases c2 : r < 48
        · go_wp2
          go_ret2
          exact ⟨by unfold minA; rw [NO.out]; rfl, hbr2⟩
        · have c3 : 57 < r := by omega
          go_wp2
          go_ret2
          exact ⟨by unfold minA; rw [NO.out]; rfl, hbr2⟩
    · obtain rfl : i = 4 := by omega
      have hnx := fun ty => Lib.run_next_end_at (P := Tryz.prog) wr w.heap.size t 4 ty hit (by omega)
      have G := Lib.hid (MG.out (fun j hj => DG.out j (by omega)))
      have Z1 := zsum_le m 4 (by omega) DG.out
      generalize zsum m 4 = z at G Z1 ⊢
      by_cases h45 : x.toNat = 45
      · have f : ((x.toNat : Int) == 45) = true := by simp [h45]
        rw [if_pos h45] at G
        clear h45
        go_wp2
        go_ret2
        exact ⟨by unfold minA; rw [G.out]; rfl, hbr⟩
      · have f : ((x.toNat : Int) == 45) = false := by simp; omega
        rw [if_neg h45] at G
        clear h45
        go_wp2
        go_ret2
        exact ⟨by unfold minA; rw [G.out]; rfl, hbr⟩
set_option maxHeartbeats 400000 in
theorem minutes_other (l : List UInt8) (h : l.length ≠ 5) (hn : l.length ≤ 1000000) (w : World) :
    Calls Tryz.prog 115 #[.string ⟨l.toArray⟩] w fun e w' => e = .returned (minA l) ∧ Below w.heap.size w w' := by
  have hsz := size_toArray l
  have NO := Lib.hid (min_len l h)
  have MA := Lib.hid (show minA l = .tuple #[.int .i64 0, .bool false] by unfold minA; rw [NO.out])
  rw [MA.out]
  generalize (⟨l.toArray⟩ : ByteArray) = s at hsz ⊢
  have f : (((l.length : Nat) : Int) != 5) = true := by simp; omega
  clear h
  go_enter Tryz.func115, Tryz.ntmps115
  go_wp2
  go_ret2
  exact ⟨rfl, Below.refl _ _⟩
theorem minutes_is (l : List UInt8) (hn : l.length ≤ 1000000) (w : World) (tab : ZTab w) :
    Calls Tryz.prog 115 #[.string ⟨l.toArray⟩] w fun e w' => e = .returned (minA l) ∧ Below w.heap.size w w' := by
  by_cases h : l.length = 5
  · cases l with
    | nil => cases h
    | cons x m => exact minutes_five x m (by simpa using h) w tab
  · exact minutes_other l h hn w
def zoneA (s : List UInt8) : Value := match zoneR s with
  | none => .tuple #[.int .i64 0, .int .i64 4]
  | some z => .tuple #[.int .i64 z, .int .i64 0]
theorem zoneA_none {s : List UInt8} (h : zoneP s = none) : zoneA s = .tuple #[.int .i64 0, .int .i64 4] := by
  rw [zoneP_same] at h; unfold zoneA; rw [h]
theorem zoneA_some {s : List UInt8} {z : Int} (h : zoneP s = some z) : zoneA s = .tuple #[.int .i64 z, .int .i64 0] := by
  rw [zoneP_same] at h; unfold zoneA; rw [h]
set_option maxHeartbeats 4000000 in
set_option maxRecDepth 100000 in
theorem Zone_is (l : List UInt8) (hn : l.length ≤ 1000000) (w : World) (tab : Tab w) (zt : ZTab w) :
    Calls Tryz.prog 96 #[.string ⟨l.toArray⟩] w fun e w' => e = .returned (zoneA l) ∧ Below w.heap.size w w' := by
  have c1 := minutes_is l hn w zt
  have TAB := Lib.hid tab
  clear tab zt
  cases hm : minR l with
  | none =>
    have A := zoneA_none (show zoneP l = none by unfold zoneP; rw [hm])
    have M : minA l = .tuple #[.int .i64 0, .bool false] := by unfold minA; rw [hm]
    rw [M] at c1
    rw [A]
    clear A M hm
    go_enter Tryz.func96, Tryz.ntmps96
    go_wp2_with fail
    refine c1.mono ?_
    rintro e w1 ⟨rfl, b1⟩
    go_wp2
    go_ret2
    exact ⟨rfl, b1⟩
  | some z =>
    have M : minA l = .tuple #[.int .i64 z, .bool true] := by unfold minA; rw [hm]
    rw [M] at c1
    clear M
    have c2 := fun w => rightZone_is z w
    by_cases hz : -840 ≤ z ∧ z ≤ 840
    · rw [decide_eq_true hz.1, decide_eq_true hz.2] at c2
      have c3 := fun w t => zoneText_is z hz.1 hz.2 w t
      by_cases ht : zoneT z = l
      · have A := zoneA_some (show zoneP l = some z by unfold zoneP; rw [hm]; simp only; rw [if_pos ⟨hz.1, hz.2, ht⟩])
        have f : (zoneT z == l) = true := by rw [ht]; simp
        rw [A]
        generalize zoneT z = t at c3 f
        clear A hm ht hz
        go_enter Tryz.func96, Tryz.ntmps96
        go_wp2_with fail
        refine c1.mono ?_
        rintro e w1 ⟨rfl, b1⟩
        go_wp2_with fail
        refine (c2 _).mono ?_
        rintro e w2 ⟨rfl, rfl⟩
        go_wp2_with fail
        refine (c3 _ (TAB.out.keep b1)).mono ?_
        rintro e w3 ⟨rfl, b3⟩
        go_wp2
        go_ret2
        exact ⟨rfl, b1.trans (b3.mono b1.size)⟩
      · have A := zoneA_none (show zoneP l = none by unfold zoneP; rw [hm]; simp only; rw [if_neg (fun h => ht h.2.2)])
        have f : (zoneT z == l) = false := by rw [beq_eq_false_iff_ne]; exact ht
        rw [A]
        generalize zoneT z = t at c3 f
        clear A hm ht hz
        go_enter Tryz.func96, Tryz.ntmps96
        go_wp2_with fail
        refine c1.mono ?_
        rintro e w1 ⟨rfl, b1⟩
        go_wp2_with fail
        refine (c2 _).mono ?_
        rintro e w2 ⟨rfl, rfl⟩
        go_wp2_with fail
        refine (c3 _ (TAB.out.keep b1)).mono ?_
        rintro e w3 ⟨rfl, b3⟩
        go_wp2
        go_ret2
        exact ⟨rfl, b1.trans (b3.mono b1.size)⟩
    · have A := zoneA_none (show zoneP l = none by unfold zoneP; rw [hm]; simp only; rw [if_neg (fun h => hz ⟨h.1, h.2.1⟩)])
      have e2 : (decide (-840 ≤ z) && decide (z ≤ 840)) = false := by
        rw [Bool.and_eq_false_iff, decide_eq_false_iff_not, decide_eq_false_iff_not]; omega
      rw [e2] at c2
      rw [A]
      clear A hm hz e2
      go_enter Tryz.func96, Tryz.ntmps96
      go_wp2_with fail
      refine c1.mono ?_
      rintro e w1 ⟨rfl, b1⟩
      go_wp2_with fail
      refine (c2 _).mono ?_
      rintro e w2 ⟨rfl, rfl⟩
      go_wp2
      go_ret2
      exact ⟨rfl, b1⟩
end Go.Proofs.YtonkclkopmdahaaGreatDoor

/-
  Layer 1: TakeNumber of the program and of the reference, whatever the text.
-/
namespace Go.Proofs.YtonkclkopmdahaaGreatDoor
open Go.RowKit
set_option linter.unusedVariables false

set_option maxHeartbeats 400000 in
theorem rTake_minus0 (r : List UInt8) (hl : r.length ≤ 1000000) (w : World) :
    Calls Tryz.prog 50 #[.string ⟨(45 :: 48 :: r).toArray⟩] w fun e w' => e = .returned (.tuple #[.int .i64 0, .int .i64 4]) ∧ w = w' := by
  have hi : ((⟨(45 :: 48 :: r).toArray⟩ : ByteArray)[0]'(by simp [ByteArray.size])).toNat = 45 := rfl
  have hi2 : ((⟨(48 :: r).toArray⟩ : ByteArray)[0]'(by simp [ByteArray.size])).toNat = 48 := rfl
  have hc := cut_one (48 :: r)
  rw [List.length_cons] at hc
  by_cases h19 : 19 < r.length + 1
  · have hdl : decide ((19 : Int) < (r.length : Int) + 1) = true := by simp; omega
    go_enter Tryz.func50, Tryz.ntmps50
    go_wp2
    go_ret2
    exact ⟨rfl, rfl⟩
  · have hdl : decide ((19 : Int) < (r.length : Int) + 1) = false := by simp; omega
    by_cases h1 : 1 < r.length + 1
    · have hdl2 : decide ((1 : Int) < (r.length : Int) + 1) = true := by simp; omega
      go_enter Tryz.func50, Tryz.ntmps50
      go_wp2
      go_ret2
      exact ⟨rfl, rfl⟩
    · have hdl2 : decide ((1 : Int) < (r.length : Int) + 1) = false := by simp; omega
      go_enter Tryz.func50, Tryz.ntmps50
      go_wp2
      go_ret2
      exact ⟨rfl, rfl⟩
set_option maxHeartbeats 400000 in
theorem rTake_plus0 (c : UInt8) (r : List UInt8) (hl : r.length ≤ 1000000) (w : World) :
    Calls Tryz.prog 50 #[.string ⟨(48 :: c :: r).toArray⟩] w fun e w' => e = .returned (.tuple #[.int .i64 0, .int .i64 4]) ∧ w = w' := by
  have hi2 : ((⟨(48 :: c :: r).toArray⟩ : ByteArray)[0]'(by simp [ByteArray.size])).toNat = 48 := rfl
  by_cases h19 : 19 < r.length + 1 + 1
  · have hdl : decide ((19 : Int) < (r.length : Int) + 1 + 1) = true := by simp; omega
    go_enter Tryz.func50, Tryz.ntmps50
    go_wp2
    go_ret2
    exact ⟨rfl, rfl⟩
  · have hdl : decide ((19 : Int) < (r.length : Int) + 1 + 1) = false := by simp; omega
    have hdl2 : decide ((1 : Int) < (r.length : Int) + 1 + 1) = true := by simp; omega
    go_enter Tryz.func50, Tryz.ntmps50
    go_wp2
    go_ret2
    exact ⟨rfl, rfl⟩
set_option maxHeartbeats 400000 in
theorem rTake_zero (w : World) :
    Calls Tryz.prog 50 #[.string ⟨#[48]⟩] w fun e w' => e = .returned (.tuple #[.int .i64 0, .int .i64 0]) ∧ w = w' := by
  have hi2 : ((⟨#[48]⟩ : ByteArray)[0]'(by decide)).toNat = 48 := rfl
  go_enter Tryz.func50, Tryz.ntmps50
  go_wp2_with fail
  refine wp_loop_rounds 2 ?_
  rw [rounds_succ]
  go_wp2_with fail
  rw [rounds_succ]
  go_wp2
  go_ret2
  exact ⟨rfl, rfl⟩
set_option maxHeartbeats 400000 in
theorem rTake_mlong (e : UInt8) (t : List UInt8) (hl : t.length ≤ 1000000) (h : 19 ≤ t.length) (w : World) :
    Calls Tryz.prog 50 #[.string ⟨(45 :: e :: t).toArray⟩] w fun e w' => e = .returned (.tuple #[.int .i64 0, .int .i64 4]) ∧ w = w' := by
  have hi : ((⟨(45 :: e :: t).toArray⟩ : ByteArray)[0]'(by simp [ByteArray.size])).toNat = 45 := rfl
  have hc := cut_one (e :: t)
  rw [List.length_cons] at hc
  have hdl : decide ((19 : Int) < (t.length : Int) + 1) = true := by simp; omega
  go_enter Tryz.func50, Tryz.ntmps50
  go_wp2
  go_ret2
  exact ⟨rfl, rfl⟩
set_option maxHeartbeats 400000 in
theorem rTake_plong (e : UInt8) (t : List UInt8) (hl : t.length ≤ 1000000) (h : 19 ≤ t.length) (h45 : e ≠ 45) (w : World) :
    Calls Tryz.prog 50 #[.string ⟨(e :: t).toArray⟩] w fun e w' => e = .returned (.tuple #[.int .i64 0, .int .i64 4]) ∧ w = w' := by
  have hi2 : ((⟨(e :: t).toArray⟩ : ByteArray)[0]'(by simp [ByteArray.size])).toNat = e.toNat := rfl
  have h45b : ((e.toNat : Int) == 45) = false := by
    have : ¬ e.toNat = 45 := fun h => h45 (UInt8.toNat.inj h)
    simp; omega
  clear h45
  have hdl : decide ((19 : Int) < (t.length : Int) + 1) = true := by simp; omega
  go_enter Tryz.func50, Tryz.ntmps50
  go_wp2
  go_ret2
  exact ⟨rfl, rfl⟩

theorem takeD_long (m : Bool) (e : UInt8) (t : List UInt8) (h : 19 ≤ t.length) (h48 : e ≠ 48) : takeD m (e :: t) = none := by
  unfold takeD
  rw [if_pos]
  by_cases hd : ∀ i, i < (e :: t).length → isD ((e :: t).getD i 0)
  · right; right; right
    have := decL_big e t (hd 0 (by simp)) h48 h
    split <;> omega
  · exact .inr (.inr (.inl hd))
theorem rTake_any (l : List UInt8) (hl : l.length ≤ 1000000) (h : l ≠ []) (w : World) :
    Calls Tryz.prog 50 #[.string ⟨l.toArray⟩] w fun e w' => e = .returned (takeV l) ∧ Below w.heap.size w w' := by
  match l, h, hl with
  | c :: r, _, hl =>
    by_cases h45 : c = 45
    · subst h45
      unfold takeV
      rw [show takeN (45 :: r) = takeD true r by simp [takeN]]
      match r, hl with
      | [], _ =>
        refine (rTake_dash w).mono ?_
        rintro e w' ⟨rfl, rfl⟩
        exact ⟨rfl, Below.refl _ _⟩
      | c :: r, hl =>
        by_cases h48 : c = 48
        · subst h48
          refine (rTake_minus0 r (by simp at hl; omega) w).mono ?_
          rintro e w' ⟨rfl, rfl⟩
          have : takeD true (48 :: r) = none := by unfold takeD; rw [if_pos]; exact .inr (.inl ⟨rfl, .inr rfl⟩)
          rw [this]
          exact ⟨rfl, Below.refl _ _⟩
        · by_cases h19 : 19 ≤ r.length
          · refine (rTake_mlong c r (by simp at hl; omega) h19 w).mono ?_
            rintro e w' ⟨rfl, rfl⟩
            rw [takeD_long true c r h19 h48]
            exact ⟨rfl, Below.refl _ _⟩
          · refine (rTake_minus c r (by omega) h48 w).mono ?_
            intro e w' hp
            obtain ⟨a, b⟩ := hp.takeD (by simp) (fun h => h48 h.1)
            exact ⟨b, a⟩
    · unfold takeV
      rw [show takeN (c :: r) = takeD false (c :: r) by simp [takeN, h45]]
      by_cases h48 : c = 48
      · subst h48
        match r, hl with
        | [], _ =>
          refine (rTake_zero w).mono ?_
          rintro e w' ⟨rfl, rfl⟩
          have : takeD false [48] = some 0 := by decide
          rw [this]
          exact ⟨rfl, Below.refl _ _⟩
        | c :: r, hl =>
          refine (rTake_plus0 c r (by simp at hl; omega) w).mono ?_
          rintro e w' ⟨rfl, rfl⟩
          have : takeD false (48 :: c :: r) = none := by unfold takeD; rw [if_pos]; exact .inr (.inl ⟨rfl, .inl (by simp)⟩)
          rw [this]
          exact ⟨rfl, Below.refl _ _⟩
      · by_cases h19 : 19 ≤ r.length
        · refine (rTake_plong c r (by simp at hl; omega) h19 h45 w).mono ?_
          rintro e w' ⟨rfl, rfl⟩
          rw [takeD_long false c r h19 h48]
          exact ⟨rfl, Below.refl _ _⟩
        · refine (rTake_plus c r (by omega) h48 h45 w).mono ?_
          intro e w' hp
          obtain ⟨a, b⟩ := hp.takeD (by simp) (fun h => h48 h.1)
          exact ⟨b, a⟩

/-- The number, and the error, of any text. -/
def tv (l : List UInt8) : Int × Int := if l = [] then (0, 3) else match takeN l with
  | none => (0, 4)
  | some v => (v, 0)
theorem takeV_tv (l : List UInt8) (h : l ≠ []) : takeV l = .tuple #[.int .i64 (tv l).1, .int .i64 (tv l).2] := by
  unfold takeV tv; rw [if_neg h]; cases takeN l <;> rfl
theorem Take_all (l : List UInt8) (hl : l.length ≤ 1000000) (w : World) :
    Calls Tryz.prog 95 #[.string ⟨l.toArray⟩] w fun e w' => e = .returned (.tuple #[.int .i64 (tv l).1, .int .i64 (tv l).2]) ∧ Below w.heap.size w w' := by
  by_cases h : l = []
  · subst h
    refine (Take_empty w).mono ?_
    rintro e w' ⟨rfl, rfl⟩
    exact ⟨rfl, Below.refl _ _⟩
  · rw [← takeV_tv l h]; exact Take_any l hl h w
theorem rTake_all (l : List UInt8) (hl : l.length ≤ 1000000) (w : World) :
    Calls Tryz.prog 50 #[.string ⟨l.toArray⟩] w fun e w' => e = .returned (.tuple #[.int .i64 (tv l).1, .int .i64 (tv l).2]) ∧ Below w.heap.size w w' := by
  by_cases h : l = []
  · subst h
    refine (rTake_empty w).mono ?_
    rintro e w' ⟨rfl, rfl⟩
    exact ⟨rfl, Below.refl _ _⟩
  · rw [← takeV_tv l h]; exact rTake_any l hl h w
end Go.Proofs.YtonkclkopmdahaaGreatDoor
