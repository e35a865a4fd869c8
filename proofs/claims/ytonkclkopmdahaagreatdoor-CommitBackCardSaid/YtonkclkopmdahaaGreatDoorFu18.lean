/-
  Texts that belong together, one behind the other.
-/
import Derived.Test.YtonkclkopmdahaaGreatDoorFu02
import Derived.Lib.Strings
import Derived.OwnWalk
import Derived.WalkSmall
import Derived.IntWalk
import Derived.Lib.Hide
import Derived.Deep.RegionHeld3
import Derived.Test.YtonkclkopmdahaaGreatDoorFu04
/-
  A text's bytes by their places, and pieces of it.
-/
namespace Go.Proofs.YtonkclkopmdahaaGreatDoor
open Go.RowKit
set_option linter.unusedVariables false
set_option linter.unusedSimpArgs false

theorem getD_str (l : List UInt8) (i : Nat) (h : i < l.length) (h2 : i < (⟨l.toArray⟩ : ByteArray).size) : (⟨l.toArray⟩ : ByteArray)[i]'h2 = l.getD i 0 := by
  simp [List.getD_eq_getElem?_getD, h, ByteArray.getElem_eq_getElem_data]
theorem bne32 (n : Nat) : (((n : Int) != 32) = !(n == 32)) := by
  have : ((n : Int) == 32) = (n == 32) := by
    rw [Bool.eq_iff_iff]; simp; omega
  rw [bne, this]

theorem ext_list (l : List UInt8) (a b : Nat) : (⟨l.toArray⟩ : ByteArray).extract a b = ⟨((l.drop a).take (b - a)).toArray⟩ := by
  apply ByteArray.ext
  simp [List.drop_take]
theorem ext_take (l : List UInt8) (b : Nat) : (⟨l.toArray⟩ : ByteArray).extract 0 b = ⟨(l.take b).toArray⟩ := by rw [ext_list]; simp
theorem ext_drop (l : List UInt8) (a : Nat) : (⟨l.toArray⟩ : ByteArray).extract a l.length = ⟨(l.drop a).toArray⟩ := by
  rw [ext_list, List.take_of_length_le (by simp)]

theorem empty_list (l : List UInt8) : (⟨l.toArray⟩ : ByteArray).toList.isEmpty = decide (l.length = 0) := by
  rw [Lib.toList_data]
  cases l <;> rfl
theorem list_text (l : List UInt8) : (⟨l.toArray⟩ : ByteArray).toList = l := by rw [Lib.toList_data]
end Go.Proofs.YtonkclkopmdahaaGreatDoor

/-
  Helpers of the statements: Find of a byte, from a place on.
-/
namespace Go.Proofs.YtonkclkopmdahaaGreatDoor
set_option maxRecDepth 20000
open Go.RowKit
set_option linter.unusedVariables false
set_option linter.unusedSimpArgs false

/-- Where a byte stands first, from a place on; -1. -/
def findB (s : List UInt8) (c : UInt8) (k : Nat) : Int := if (s.drop k).findIdx (· == c) < (s.drop k).length then k + ((s.drop k).findIdx (· == c) : Nat) else -1
theorem findB_at (s : List UInt8) (c d : UInt8) (hd : d ≠ c) (k i : Nat) (hk : k ≤ i) (hi : i < s.length) (h : s.getD i d = c) (hn : ∀ j, k ≤ j → j < i → s.getD j d ≠ c) : findB s c k = i := by
  have hl : (s.drop k).length = s.length - k := List.length_drop
  have e : (s.drop k).findIdx (· == c) = i - k := by
    rw [List.findIdx_eq (by omega)]
    refine ⟨?_, fun j hj => ?_⟩
    · rw [List.getD_eq_getElem?_getD, List.getElem?_eq_getElem hi] at h
      simp only [Option.getD_some] at h
      rw [List.getElem_drop]
      simp only [show k + (i - k) = i by omega, h]
      simp
    · have := hn (k + j) (by omega) (by omega)
      rw [List.getD_eq_getElem?_getD, List.getElem?_eq_getElem (by omega)] at this
      simp only [Option.getD_some] at this
      rw [List.getElem_drop]
      exact beq_false_of_ne this
  unfold findB
  rw [e, if_pos (by omega)]
  omega
theorem findB_no (s : List UInt8) (c d : UInt8) (k : Nat) (hn : ∀ j, k ≤ j → j < s.length → s.getD j d ≠ c) : findB s c k = -1 := by
  unfold findB
  rw [if_neg]
  intro h
  have hl : (s.drop k).length = s.length - k := List.length_drop
  have h2 := List.findIdx_getElem (p := (· == c)) (w := h)
  rw [List.getElem_drop] at h2
  have := hn (k + (s.drop k).findIdx (· == c)) (by omega) (by omega)
  rw [List.getD_eq_getElem?_getD, List.getElem?_eq_getElem (by omega)] at this
  simp only [Option.getD_some] at this
  exact this (eq_of_beq h2)
theorem cut_oneB (s : List UInt8) (d : UInt8) (i : Nat) (hi : i < s.length) : (⟨s.toArray⟩ : ByteArray).extract i (i + 1) = ⟨[s.getD i d].toArray⟩ := by
  rw [ext_list, Nat.add_sub_cancel_left, List.getD_eq_getElem?_getD, List.getElem?_eq_getElem hi]
  rw [List.drop_eq_getElem_cons hi]
  rfl
theorem other_byte (c : UInt8) : ∃ d : UInt8, d ≠ c := ⟨c + 1, by intro h; have := congrArg UInt8.toNat h; rw [UInt8.toNat_add] at this; simp at this; have h2 := c.toNat_lt; omega⟩

set_option maxHeartbeats 4000000 in
theorem Find_byte (c : UInt8) (s : List UInt8) (k : Nat) (hs : s.length ≤ 1000000) (hk : k ≤ s.length) (w : World) :
    Calls Tryz.prog 20 #[.string ⟨s.toArray⟩, .string ⟨#[c]⟩, .int .i64 k] w fun e w' => e = .returned (.int .i64 (findB s c k)) ∧ w = w' := by
  obtain ⟨d, hd⟩ := other_byte c
  have z1 := size_toArray s
  have z2 : (⟨#[c]⟩ : ByteArray).size = 1 := rfl
  have CO := Lib.hid (fun i hi => cut_oneB s d i hi)
  have FA := Lib.hid (fun i h1 h2 h3 h4 => findB_at s c d hd k i h1 h2 h3 h4)
  have FN := Lib.hid (fun h => findB_no s c d k h)
  obtain ⟨R, hR⟩ : ∃ R, findB s c k = R := ⟨_, rfl⟩
  rw [hR] at FA FN ⊢
  clear hR
  generalize (⟨s.toArray⟩ : ByteArray) = S at *
  go_enter Tryz.func20, Tryz.ntmps20
  go_wp2_with fail
  go_loop [7] (fun v => ∃ i : Nat, k ≤ i ∧ i ≤ s.length ∧ v = .int .i64 i ∧ ∀ j, k ≤ j → j < i → s.getD j d ≠ c) (fun v => s.length - (intOf v).toNat)
  case atStart => exact ⟨k, Nat.le_refl _, hk, rfl, fun j h1 hj => absurd hj (Nat.not_lt.2 h1)⟩
  case round =>
    obtain ⟨i, hki, hi, rfl, hno⟩ := hrel
    have HNO := Lib.hid hno
    clear hno
    by_cases hlt : i < s.length
    · have ex := CO.out i hlt
      by_cases h0 : s.getD i d = c
      · have hz := FA.out i hki hlt h0 HNO.out
        rw [h0] at ex
        subst hz
        clear h0
        go_wp2
        go_ret
        exact ⟨rfl, rfl⟩
      · have hb2 : (s.getD i d == c) = false := beq_false_of_ne h0
        have H0 := Lib.hid h0
        clear h0
        generalize hg : s.getD i d = x at ex hb2
        have HG := Lib.hid hg
        clear hg
        go_wp2
        go_round
        case rel =>
          refine ⟨i + 1, by omega, by omega, by go_num, fun j h1 hj => ?_⟩
          by_cases h : j < i
          · exact HNO.out j h1 h
          · obtain rfl : j = i := by omega
            exact H0.out
        case measure => simp [intOf]; omega
    · have hi2 : i = s.length := by omega
      have hz := FN.out (fun j h1 hj => HNO.out j h1 (by omega))
      subst hz
      go_wp2
      go_ret
      exact ⟨rfl, rfl⟩
end Go.Proofs.YtonkclkopmdahaaGreatDoor

/-
  Helpers of the statements: Begins; Find of a byte 0.
-/
namespace Go.Proofs.YtonkclkopmdahaaGreatDoor
open Go.RowKit
set_option linter.unusedVariables false
set_option linter.unusedSimpArgs false

theorem cutt_list (l : List UInt8) (a b : Nat) : (⟨l.toArray⟩ : ByteArray).extract a b = ⟨((l.drop a).take (b - a)).toArray⟩ := by
  apply ByteArray.ext
  simp [List.drop_take]
set_option maxHeartbeats 1000000 in
theorem Begins_is (s t : List UInt8) (hs : s.length ≤ 1000000) (ht : t.length ≤ 1000000) (w : World) :
    Calls Tryz.prog 30 #[.string ⟨s.toArray⟩, .string ⟨t.toArray⟩] w fun e w' => e = .returned (.bool (s.take t.length == t)) ∧ w = w' := by
  have ex := cutt_list s 0 t.length
  rw [List.drop_zero, Nat.sub_zero] at ex
  have z1 := size_toArray s
  have z2 := size_toArray t
  by_cases h : t.length ≤ s.length
  · obtain ⟨r, hr⟩ : ∃ r, (s.take t.length == t) = r := ⟨_, rfl⟩
    rw [hr]
    generalize (⟨s.toArray⟩ : ByteArray) = S at *
    obtain ⟨x, hx⟩ : ∃ x, s.take t.length = x := ⟨_, rfl⟩
    rw [hx] at ex hr
    clear hx
    go_enter Tryz.func30, Tryz.ntmps30
    go_wp2
    go_ret
    exact ⟨rfl, rfl⟩
  · have hr : (s.take t.length == t) = false := by
      rw [beq_eq_false_iff_ne]
      intro e
      have := congrArg List.length e
      rw [List.length_take] at this
      omega
    rw [hr]
    clear hr ex
    generalize (⟨s.toArray⟩ : ByteArray) = S at *
    generalize (⟨t.toArray⟩ : ByteArray) = T at *
    go_enter Tryz.func30, Tryz.ntmps30
    go_wp2
    go_ret
    exact ⟨rfl, rfl⟩

/-- Where the first zero stands; -1. -/
def zeroAt (s : List UInt8) : Int := if s.findIdx (· == 0) < s.length then s.findIdx (· == 0) else -1
theorem zero_at (s : List UInt8) (i : Nat) (hi : i < s.length) (h : s.getD i 1 = 0) (hn : ∀ j, j < i → s.getD j 1 ≠ 0) : s.findIdx (· == 0) = i := by
  rw [List.getD_eq_getElem?_getD, List.getElem?_eq_getElem hi] at h
  simp only [Option.getD_some] at h
  rw [List.findIdx_eq hi]
  refine ⟨by rw [h]; rfl, fun j hj => ?_⟩
  have := hn j hj
  rw [List.getD_eq_getElem?_getD, List.getElem?_eq_getElem (by omega)] at this
  simp only [Option.getD_some] at this
  exact beq_false_of_ne this
theorem zero_no (s : List UInt8) (hn : ∀ j, j < s.length → s.getD j 1 ≠ 0) : ∀ c ∈ s, c ≠ 0 := by
  intro c hc
  obtain ⟨i, hi, rfl⟩ := List.mem_iff_getElem.1 hc
  have := hn i hi
  rw [List.getD_eq_getElem?_getD, List.getElem?_eq_getElem hi] at this
  exact this
theorem zeroAt_here (s : List UInt8) (i : Nat) (hi : i < s.length) (h : s.getD i 1 = 0) (hn : ∀ j, j < i → s.getD j 1 ≠ 0) : zeroAt s = i := by
  unfold zeroAt; rw [zero_at s i hi h hn, if_pos hi]
theorem zeroAt_none (s : List UInt8) (hn : ∀ j, j < s.length → s.getD j 1 ≠ 0) : zeroAt s = -1 := by
  unfold zeroAt
  rw [if_neg]
  have h := zero_no s hn
  have : s.findIdx (· == 0) = s.length := List.findIdx_eq_length.2 (fun c hc => beq_false_of_ne (h c hc))
  omega
theorem cut_one0 (s : List UInt8) (i : Nat) (hi : i < s.length) : (⟨s.toArray⟩ : ByteArray).extract i (i + 1) = ⟨[s.getD i 1].toArray⟩ := by
  rw [cutt_list, Nat.add_sub_cancel_left, List.getD_eq_getElem?_getD, List.getElem?_eq_getElem hi]
  rw [List.drop_eq_getElem_cons hi]
  rfl

set_option maxHeartbeats 4000000 in
theorem Find_zero (s : List UInt8) (hs : s.length ≤ 1000000) (w : World) :
    Calls Tryz.prog 20 #[.string ⟨s.toArray⟩, .string ⟨#[0]⟩, .int .i64 0] w fun e w' => e = .returned (.int .i64 (zeroAt s)) ∧ w = w' := by
  have z1 := size_toArray s
  have CO := Lib.hid (fun i hi => cut_one0 s i hi)
  obtain ⟨R, hR⟩ : ∃ R, zeroAt s = R := ⟨_, rfl⟩
  rw [hR]
  have HR := Lib.hid hR
  clear hR
  generalize (⟨s.toArray⟩ : ByteArray) = S at *
  go_enter Tryz.func20, Tryz.ntmps20
  go_wp2_with fail
  go_loop [7] (fun v => ∃ i : Nat, i ≤ s.length ∧ v = .int .i64 i ∧ ∀ j, j < i → s.getD j 1 ≠ 0) (fun v => s.length - (intOf v).toNat)
  case atStart => exact ⟨0, Nat.zero_le _, rfl, fun j hj => absurd hj (Nat.not_lt_zero j)⟩
  case round =>
    obtain ⟨i, hi, rfl, hno⟩ := hrel
    have HNO := Lib.hid hno
    clear hno
    by_cases hlt : i < s.length
    · have ex := CO.out i hlt
      by_cases h0 : s.getD i 1 = 0
      · rw [h0] at ex
        have hz := zeroAt_here s i hlt h0 HNO.out
        rw [HR.out] at hz
        subst hz
        clear h0
        go_wp2
        go_ret
        exact ⟨rfl, rfl⟩
      · have hb2 : (s.getD i 1 == (0 : UInt8)) = false := beq_false_of_ne h0
        have H0 := Lib.hid h0
        clear h0
        generalize hg : s.getD i 1 = c at ex hb2
        have HG := Lib.hid hg
        clear hg
        go_wp2
        go_round
        case rel =>
          refine ⟨i + 1, by omega, by go_num, fun j hj => ?_⟩
          by_cases h : j < i
          · exact HNO.out j h
          · obtain rfl : j = i := by omega
            exact H0.out
        case measure => simp [intOf]; omega
    · have hi2 : i = s.length := by omega
      have hz := zeroAt_none s (fun j hj => HNO.out j (by omega))
      rw [HR.out] at hz
      subst hz
      go_wp2
      go_ret
      exact ⟨rfl, rfl⟩
end Go.Proofs.YtonkclkopmdahaaGreatDoor

/-
  Layer 9, the document's answers: a line, and what stands behind it.
-/
namespace Go.Proofs.YtonkclkopmdahaaGreatDoor
set_option maxRecDepth 20000
open Go.RowKit
set_option linter.unusedVariables false
set_option linter.unusedSimpArgs false

theorem find_eol (s : List UInt8) : findB s 10 0 = if eolL s < s.length then (eolL s : Int) else -1 := by
  unfold findB eolL
  simp only [List.drop_zero]
  by_cases h : s.findIdx (· == 10) < s.length
  · rw [if_pos h, if_pos h]; simp
  · rw [if_neg h, if_neg h]
/-- What the three results are. -/
def lineR (s w : List UInt8) : List UInt8 × List UInt8 × Bool := match lineL s w with
  | some (x, r) => (x, r, true)
  | none => ([], s, false)
set_option maxHeartbeats 2000000 in
theorem rline_is (s v : List UInt8) (hs : s.length ≤ 1000000) (hv : v.length ≤ 100) (w : World) :
    Calls Tryz.prog 27 #[.string ⟨s.toArray⟩, .string ⟨v.toArray⟩] w fun e w' => e = .returned (.tuple #[.string ⟨(lineR s v).1.toArray⟩, .string ⟨(lineR s v).2.1.toArray⟩, .bool (lineR s v).2.2]) ∧ Below w.heap.size w w' := by
  have F := Find_byte 10 s 0 hs (Nat.zero_le _) w
  rw [find_eol] at F
  have z1 := size_toArray s
  have z2 := size_toArray v
  by_cases h : eolL s < s.length
  · rw [if_pos h] at F
    have B := Begins_is (s.take (eolL s)) v (by rw [List.length_take]; omega) (by omega) w
    have x1 := cutt_list s 0 (eolL s)
    rw [List.drop_zero, Nat.sub_zero] at x1
    by_cases hb : (s.take (eolL s)).take v.length = v
    · have hr : lineR s v = ((s.take (eolL s)).drop v.length, s.drop (eolL s + 1), true) := by
        unfold lineR lineL
        rw [if_pos ⟨h, hb⟩]
      rw [hr]
      have hlen : v.length ≤ eolL s := by
        have := congrArg List.length hb
        rw [List.length_take, List.length_take] at this
        omega
      have x2 := cutt_list s v.length (eolL s)
      rw [← List.drop_take] at x2
      have x3 := cutt_list s (eolL s + 1) s.length
      rw [List.take_of_length_le (by rw [List.length_drop]; omega)] at x3
      rw [beq_iff_eq.2 hb] at B
      have hsm := hs
      clear hr hb
      generalize (s.take (eolL s)).drop v.length = y2 at *
      generalize s.drop (eolL s + 1) = y3 at *
      generalize s.take (eolL s) = y1 at *
      generalize eolL s = k at *
      generalize s.length = n at *
      generalize v.length = m at *
      generalize (⟨s.toArray⟩ : ByteArray) = S at *
      generalize (⟨v.toArray⟩ : ByteArray) = V at *
      go_enter Tryz.func27, Tryz.ntmps27
      go_wp2_with fail
      refine F.mono ?_
      rintro e w1 ⟨rfl, rfl⟩
      go_wp2_with fail
      refine B.mono ?_
      rintro e w1 ⟨rfl, rfl⟩
      go_wp2_with fail
      refine wp_region_held_drew (S := fun u => Below w.heap.size w u) (by kernel_rfl) (Below.refl _ _).drew (fun hHeld => ?_)
      have gw : IntKind.i64.wrap ((k : Int) + 1) = ((k + 1 : Nat) : Int) := by
        rw [IntKind.wrap_i64]
        omega
      refine wpAnyH_take (i := 0) (v := ?hv0) rfl (by kernel_rfl) (by kernel_rfl) (by kernel_rfl) (fun _ _ _ h => h) (Or.inl ⟨by kernel_rfl, ?hy0⟩) hHeld ?_
      case hy0 => intro u hu; go_simp; try with_reducible rfl
      try simp only [Act.put, List.setIfInBounds_toArray, List.set_cons_zero, List.set_cons_succ]
      refine wpAnyH_take (i := 1) (v := ?hv1) rfl (by kernel_rfl) (by kernel_rfl) (by kernel_rfl) (fun _ _ _ h => h) (Or.inl ⟨by kernel_rfl, ?hy1⟩) hHeld ?_
      case hy1 => intro u hu; go_simp; try with_reducible rfl
      try simp only [Act.put, List.setIfInBounds_toArray, List.set_cons_zero, List.set_cons_succ]
      refine wpAnyH_take (i := 2) (v := ?hv2) rfl (by kernel_rfl) (by kernel_rfl) (by kernel_rfl) (fun _ _ _ h => h) (Or.inl ⟨by kernel_rfl, ?hy2⟩) hHeld ?_
      case hy2 => intro u hu; go_simp; try with_reducible rfl
      try simp only [Act.put, List.setIfInBounds_toArray, List.set_cons_zero, List.set_cons_succ]
      refine wpAnyH_take (i := 3) (v := ?hv3) rfl (by kernel_rfl) (by kernel_rfl) (by kernel_rfl) (fun _ _ _ h => h) (Or.inl ⟨by kernel_rfl, ?hy3⟩) hHeld ?_
      case hy3 => intro u hu; go_simp; try with_reducible rfl
      try simp only [Act.put, List.setIfInBounds_toArray, List.set_cons_zero, List.set_cons_succ]
      refine wpAnyH_take (i := 4) (v := ?hv4) rfl (by kernel_rfl) (by kernel_rfl) (by kernel_rfl) (fun _ _ _ h => h) (Or.inl ⟨by kernel_rfl, ?hy4⟩) hHeld ?_
      case hy4 => intro u hu; go_simp; try with_reducible rfl
      try simp only [Act.put, List.setIfInBounds_toArray, List.set_cons_zero, List.set_cons_succ]
      refine wpAnyH_take (i := 5) (v := ?hv5) rfl (by kernel_rfl) (by kernel_rfl) (by kernel_rfl) (fun _ _ _ h => h) (Or.inl ⟨by kernel_rfl, ?hy5⟩) hHeld ?_
      case hy5 => intro u hu; go_simp; try with_reducible rfl
      try simp only [Act.put, List.setIfInBounds_toArray, List.set_cons_zero, List.set_cons_succ]
      refine wpAnyH_take (i := 6) (v := ?hv6) rfl (by kernel_rfl) (by kernel_rfl) (by kernel_rfl) (fun _ _ _ h => h) (Or.inl ⟨by kernel_rfl, ?hy6⟩) hHeld ?_
      case hy6 => intro u hu; go_simp; try with_reducible rfl
      try simp only [Act.put, List.setIfInBounds_toArray, List.set_cons_zero, List.set_cons_succ]
      refine wpAnyH_take (i := 7) (v := ?hv7) rfl (by kernel_rfl) (by kernel_rfl) (by kernel_rfl) (fun _ _ _ h => h) (Or.inl ⟨by kernel_rfl, ?hy7⟩) hHeld ?_
      case hy7 => intro u hu; go_simp; try with_reducible rfl
      try simp only [Act.put, List.setIfInBounds_toArray, List.set_cons_zero, List.set_cons_succ]
      refine wpAnyH_take (i := 8) (v := .string ⟨y3.toArray⟩) rfl (by kernel_rfl) (by kernel_rfl) (by kernel_rfl) (fun _ _ _ h => h) (Or.inl ⟨by kernel_rfl, ?hy8⟩) hHeld ?_
      case hy8 => intro u hu; go_simp; intro hq; exact absurd (hq (by omega)) (by omega)
      try simp only [Act.put, List.setIfInBounds_toArray, List.set_cons_zero, List.set_cons_succ]
      refine wpAnyH_take (i := 9) (v := ?hv9) rfl (by kernel_rfl) (by kernel_rfl) (by kernel_rfl) (fun _ _ _ h => h) (Or.inl ⟨by kernel_rfl, ?hy9⟩) hHeld ?_
      case hy9 => intro u hu; go_simp; try with_reducible rfl
      try simp only [Act.put, List.setIfInBounds_toArray, List.set_cons_zero, List.set_cons_succ]
      refine wpAnyH_take (i := 10) (v := ?hv10) rfl (by kernel_rfl) (by kernel_rfl) (by kernel_rfl) (fun _ _ _ h => h) (Or.inl ⟨by kernel_rfl, ?hy10⟩) hHeld ?_
      case hy10 => intro u hu; go_simp; try with_reducible rfl
      try simp only [Act.put, List.setIfInBounds_toArray, List.set_cons_zero, List.set_cons_succ]
      refine wpAnyH_take (i := 11) (v := ?hv11) rfl (by kernel_rfl) (by kernel_rfl) (by kernel_rfl) (fun _ _ _ h => h) (Or.inl ⟨by kernel_rfl, ?hy11⟩) hHeld ?_
      case hy11 => intro u hu; go_simp; try with_reducible rfl
      try simp only [Act.put, List.getElem_toArray, List.getElem_cons_succ, List.getElem_cons_zero, List.setIfInBounds_toArray, List.set_cons_zero, List.set_cons_succ]
      refine wpAnyH_done (by kernel_rfl) ?_ _
      clear gw
      have HB := Lib.hid hHeld
      clear hHeld
      go_wp2
      go_ret3
      exact ⟨rfl, HB.out⟩
    · have hr : lineR s v = ([], s, false) := by
        unfold lineR lineL
        rw [if_neg (fun q => hb q.2)]
      rw [hr]
      rw [beq_eq_false_iff_ne.2 hb] at B
      clear hr hb
      generalize s.take (eolL s) = y1 at *
      generalize eolL s = k at *
      generalize s.length = n at *
      generalize (⟨s.toArray⟩ : ByteArray) = S at *
      generalize (⟨v.toArray⟩ : ByteArray) = V at *
      go_enter Tryz.func27, Tryz.ntmps27
      go_wp2_with fail
      refine F.mono ?_
      rintro e w1 ⟨rfl, rfl⟩
      go_wp2_with fail
      refine B.mono ?_
      rintro e w1 ⟨rfl, rfl⟩
      go_wp2_with fail
      go_ret3
      exact ⟨rfl, Below.refl _ _⟩
  · rw [if_neg h] at F
    have hr : lineR s v = ([], s, false) := by
      unfold lineR lineL
      rw [if_neg (fun q => h q.1)]
    rw [hr]
    clear hr h
    generalize (⟨s.toArray⟩ : ByteArray) = S at *
    generalize (⟨v.toArray⟩ : ByteArray) = V at *
    go_enter Tryz.func27, Tryz.ntmps27
    go_wp2_with fail
    refine F.mono ?_
    rintro e w1 ⟨rfl, rfl⟩
    go_wp2_with fail
    go_ret3
    exact ⟨rfl, Below.refl _ _⟩
end Go.Proofs.YtonkclkopmdahaaGreatDoor

/-
  The helper Own of the statements over ids: a copy with three ids of room behind it.
-/
namespace Go.Proofs.YtonkclkopmdahaaGreatDoor
set_option maxRecDepth 20000
open Go.RowKit
set_option linter.unusedVariables false
set_option linter.unusedSimpArgs false

/-- What Own leaves: the copy, and its room, in a block of its own. -/
def OwnIds (w : World) (g : Nat) (l : List (List UInt8)) (f : List UInt8) : Prop :=
  w.ownsRow g 23 20 (.slice (some ⟨g, 0, none⟩) (l.length + 3) (l.length + 3)) (l.length + 3) ((l ++ List.replicate 3 f).flatMap cellsD)
theorem OwnIds.keep {w w' : World} {g : Nat} {l : List (List UInt8)} {f : List UInt8} (h : OwnIds w g l f) (hb : Below w.heap.size w w') : OwnIds w' g l f := own_keepD h hb
theorem OwnIds.lt {w : World} {g : Nat} {l : List (List UInt8)} {f : List UInt8} (h : OwnIds w g l f) : g < w.heap.size := own_ltD h
set_option maxHeartbeats 8000000 in
theorem OwnIds_any (a : Option Addr) (n c : Nat) (l : List (List UInt8)) (f : List UInt8) (w : World) (h : IdsAt w a l) (hnone : a = none → n = 0 ∧ c = 0) (hl : n = l.length) (hn : n ≤ 1000000) (hid : ∀ i ∈ l, i.length = 20) (hf : f.length = 20) :
    Calls Tryz.prog 8 #[.slice a n c, .agg (arrD f)] w fun e w' => e = .returned (.slice (some ⟨w.heap.size + 1, 0, none⟩) n (n + 3)) ∧ OwnIds w' (w.heap.size + 1) l f ∧ Below w.heap.size w w' := by
  obtain ⟨i0, hi, hz0, hz1, hz2⟩ := infoD_all
  obtain ⟨A, hA⟩ : ∃ A, arrD f = A := ⟨_, rfl⟩
  have HAS := Lib.hid (show A.size = 20 by rw [← hA]; exact arrD_size f hf)
  have HA := Lib.hid hA
  have b1 := (Below.refl w.heap.size w).alloc (Nat.le_refl _) (.cells A 23)
  have h1 := heap_alloc_new w (.cells A 23)
  have hs1 : (w.alloc (.cells A 23)).heap.size = w.heap.size + 1 := by simp
  have HC := Lib.hid (fun w' (hb : Below w.heap.size w w') => (h.keep hb).cells hid)
  have HFL := Lib.hid (flatD_len l hid)
  have HN := Lib.hid hnone
  have HL := Lib.hid hl
  have H1 := Lib.hid h1
  have B1 := Lib.hid b1
  have S1 := Lib.hid hs1
  rw [hA]
  obtain ⟨g, hg⟩ : ∃ g, g = w.heap.size + 1 := ⟨_, rfl⟩
  have HG := Lib.hid hg
  rw [← hg]
  rw [← hg] at hs1
  clear h hnone hl hid hA b1 h1 hg
  go_enter Tryz.func8, Tryz.ntmps8
  go_wp2_with (at_make; refine wpList_make_own _ rfl _ _ 24 rfl w.heap.size 23 i0 (.agg (arrD idZ)) 20 Tryz.underlying24 hi hz0 hz1 _ _ _ (n + 3) rfl rfl (by omega) (by rw [hz2]; omega) (by unfold maxLen; omega) (by have := S1.out; omega) ?_)
  intro w0 hown0 hgrow0
  have hb0 : Below w.heap.size w w0 := B1.out.grown hgrow0 B1.out.size (fun k h => by cases h)
  have hx0 := (hgrow0.block w.heap.size (by have := S1.out; omega) (by simp)).trans H1.out
  have HC0 := Lib.hid (HC.out w0 hb0)
  have HN2 := Lib.hid (show (l.flatMap cellsD).length = n * 20 by rw [HFL.out, ← HL.out])
  have HX0 := Lib.hid hx0
  clear hgrow0 hx0
  go_wp2_with (at_builtin; refine wpList_append_fits_any _ rfl _ _ 24 rfl w.heap.size 23 i0 20 Tryz.underlying24 hi hz1 g 0 (n + 3) _ rfl hown0 a n c (l.flatMap cellsD) rfl HN2.out HN.out HC0.out (flatD_one l) (by omega) ?_)
  intro w1 hown1 hgrow1
  have hlt0 := Nat.lt_of_lt_of_le (own_ltD hown0) hgrow1.size
  have hb1 : Below w.heap.size w w1 := hb0.grown hgrow1 hb0.size (fun k hk => by cases hk; have := HG.out; omega)
  have hx1 := (hgrow1.block w.heap.size (lt_of_heap HX0.out) (by intro e; have := HG.out; cases e; omega)).trans HX0.out
  clear hown0 HC0 hb0 HX0 hgrow1
  have hown2 : w1.ownsRow w.heap.size 23 20 (.slice (some ⟨g, 0, none⟩) n (n + 3)) n (l.flatMap cellsD) := by simpa using hown1
  obtain ⟨ys, hown, hys⟩ := own_fullD hown2
  clear hown2 hown1
  have HY := Lib.hid hys; have HX1 := Lib.hid hx1; have HOWN := Lib.hid hown; have HB1 := Lib.hid hb1
  clear hys hx1 hown hb1 hlt0 HN2
  go_wp2_with fail
  go_loopw [7] (fun i wr => ∃ (k : Nat) (ys : List Value), n ≤ k ∧ k ≤ n + 3 ∧ i = .int .i64 k ∧ wr.ownsRow w.heap.size 23 20 (.slice (some ⟨g, 0, none⟩) (n + 3) (n + 3)) (n + 3) ys ∧
      ys.take (k * 20) = (l ++ List.replicate (k - n) f).flatMap cellsD ∧ wr.heap[w.heap.size]? = some (.cells A 23 (0, 0)) ∧ Below w.heap.size w wr) (fun i _ => n + 3 - (intOf i).toNat)
  case atStart => exact ⟨n, ys, Nat.le_refl _, by omega, rfl, HOWN.out, by rw [HY.out]; simp, HX1.out, HB1.out⟩
  case round =>
    clear HOWN HB1 HY HX1
    obtain ⟨k, ys, hk0, hk, rfl, hown, hys, hx, hbr⟩ := hrel
    have HY := Lib.hid hys; have HOWN := Lib.hid hown; have HX := Lib.hid hx; have HBR := Lib.hid hbr
    clear hys hown hx hbr
    by_cases hlt : k < n + 3
    · go_wp2_with (first
        | (with_reducible refine wpList_load_row rfl 23 _ rfl w.heap.size rfl 23 A (0, 0) _ HX.out Tryz.underlying23 rfl (infoD_arr A HAS.out) ?_)
        | (refine wpList_store_cells20 rfl _ _ rfl w.heap.size g (n + 3) (n + 3) k _ ys f A HA.out.symm rfl rfl rfl hlt hf HOWN.out ?_))
      intro w2 hown2 hgr2
      have HO2 := Lib.hid hown2
      have HB2 := Lib.hid (HBR.out.grown hgr2 HBR.out.size (fun k hk => by cases hk; have := HG.out; omega))
      have HX2 := Lib.hid ((hgr2.block w.heap.size (lt_of_heap HX.out) (by intro e; have := HG.out; cases e; omega)).trans HX.out)
      clear hown2 hgr2
      go_wp2
      go_roundw
      case rel =>
        refine ⟨k + 1, _, by omega, by omega, by go_num, HO2.out, ?_, HX2.out, HB2.out⟩
        rw [putD_take ys k f hf (by rw [HOWN.out.1]; omega), HY.out, show k + 1 - n = (k - n) + 1 by omega, List.replicate_succ', ← List.append_assoc, List.flatMap_append]
        simp
      case measure => simp [intOf]; omega
    · obtain rfl : k = n + 3 := by omega
      have hY := HY.out
      rw [List.take_of_length_le (by rw [HOWN.out.1]; omega), show n + 3 - n = 3 by omega] at hY
      subst hY
      go_wp2
      go_ret
      refine ⟨rfl, ?_, HBR.out⟩
      unfold OwnIds
      rw [← HL.out]
      have ho := HOWN.out
      refine ⟨ho.1, ?_⟩
      rcases ho.2 with ⟨h', _⟩ | ⟨g', cap', cur, h', hb', r⟩
      · simp at h'
      · refine .inr ⟨g', cap', cur, h', ?_, r⟩
        simp only [Value.slice.injEq, Option.some.injEq, Addr.mk.injEq, and_true, true_and] at h'
        omega
end Go.Proofs.YtonkclkopmdahaaGreatDoor
