/-
  Helpers of the statements: Find of a byte, from a place on.
-/
import Derived.Test.YtbnhchffdccjnaaDoorGs
import Derived.OwnWalk
import Derived.WalkSmall
import Derived.IntWalk
import Derived.Lib.Hide
namespace Go.Proofs.YtbnhchffdccjnaaDoor
set_option maxRecDepth 20000
open Go.RowKit
set_option linter.unusedVariables false
set_option linter.unusedSimpArgs false

/-- Where a byte stands first, from a place on; -1. -/
def findB (s : List UInt8) (c : UInt8) (k : Nat) : Int := if (s.drop k).findIdx (· == c) < (s.drop k).length then k + ((s.drop k).findIdx (· == c) : Nat) else -1
theorem findB_at (s : List UInt8) (c d : UInt8) (hd : d ≠ c) (k i : Nat) (hk : k ≤ i) (hi : i < s.length) (h : s.getD i d = c) (hn : ∀ j, k ≤ j → j < i → s.getD j d ≠ c) : findB s c k = i := by
  have hl : (s.drop k).length = s.length - k := List.length_drop
  have e : (s.drop k).findIdx (· == c) = i - k := by
    rw [List.findIdx_eq (by omega)]
    refine ⟨?_, fun j hj => ?_⟩
    · rw [List.getD_eq_getElem?_getD, List.getElem?_eq_getElem hi] at h
      simp only [Option.getD_some] at h
      rw [List.getElem_drop]
      simp only [show k + (i - k) = i by omega, h]
      simp
    · have := hn (k + j) (by omega) (by omega)
      rw [List.getD_eq_getElem?_getD, List.getElem?_eq_getElem (by omega)] at this
      simp only [Option.getD_some] at this
      rw [List.getElem_drop]
      exact beq_false_of_ne this
  unfold findB
  rw [e, if_pos (by omega)]
  omega
theorem findB_no (s : List UInt8) (c d : UInt8) (k : Nat) (hn : ∀ j, k ≤ j → j < s.length → s.getD j d ≠ c) : findB s c k = -1 := by
  unfold findB
  rw [if_neg]
  intro h
  have hl : (s.drop k).length = s.length - k := List.length_drop
  have h2 := List.findIdx_getElem (p := (· == c)) (w := h)
  rw [List.getElem_drop] at h2
  have := hn (k + (s.drop k).findIdx (· == c)) (by omega) (by omega)
  rw [List.getD_eq_getElem?_getD, List.getElem?_eq_getElem (by omega)] at this
  simp only [Option.getD_some] at this
  exact this (eq_of_beq h2)
theorem cut_oneB (s : List UInt8) (d : UInt8) (i : Nat) (hi : i < s.length) : (⟨s.toArray⟩ : ByteArray).extract i (i + 1) = ⟨[s.getD i d].toArray⟩ := by
  rw [ext_list, Nat.add_sub_cancel_left, List.getD_eq_getElem?_getD, List.getElem?_eq_getElem hi]
  rw [List.drop_eq_getElem_cons hi]
  rfl
theorem other_byte (c : UInt8) : ∃ d : UInt8, d ≠ c := ⟨c + 1, by intro h; have := congrArg UInt8.toNat h; rw [UInt8.toNat_add] at this; simp at this; have h2 := c.toNat_lt; omega⟩

set_option maxHeartbeats 4000000 in
theorem Find_byte (c : UInt8) (s : List UInt8) (k : Nat) (hs : s.length ≤ 1000000) (hk : k ≤ s.length) (w : World) :
    Calls Tryd.prog 18 #[.string ⟨s.toArray⟩, .string ⟨#[c]⟩, .int .i64 k] w fun e w' => e = .returned (.int .i64 (findB s c k)) ∧ w = w' := by
  obtain ⟨d, hd⟩ := other_byte c
  have z1 := size_toArray s
  have z2 : (⟨#[c]⟩ : ByteArray).size = 1 := rfl
  have CO := Lib.hid (fun i hi => cut_oneB s d i hi)
  have FA := Lib.hid (fun i h1 h2 h3 h4 => findB_at s c d hd k i h1 h2 h3 h4)
  have FN := Lib.hid (fun h => findB_no s c d k h)
  obtain ⟨R, hR⟩ : ∃ R, findB s c k = R := ⟨_, rfl⟩
  rw [hR] at FA FN ⊢
  clear hR
  generalize (⟨s.toArray⟩ : ByteArray) = S at *
  go_enter Tryd.func18, Tryd.ntmps18
  go_wp2_with fail
  go_loop [7] (fun v => ∃ i : Nat, k ≤ i ∧ i ≤ s.length ∧ v = .int .i64 i ∧ ∀ j, k ≤ j → j < i → s.getD j d ≠ c) (fun v => s.length - (intOf v).toNat)
  case atStart => exact ⟨k, Nat.le_refl _, hk, rfl, fun j h1 hj => absurd hj (Nat.not_lt.2 h1)⟩
  case round =>
    obtain ⟨i, hki, hi, rfl, hno⟩ := hrel
    have HNO := Lib.hid hno
    clear hno
    by_cases hlt : i < s.length
    · have ex := CO.out i hlt
      by_cases h0 : s.getD i d = c
      · have hz := FA.out i hki hlt h0 HNO.out
        rw [h0] at ex
        subst hz
        clear h0
        go_wp2
        go_ret
        exact ⟨rfl, rfl⟩
      · have hb2 : (s.getD i d == c) = false := beq_false_of_ne h0
        have H0 := Lib.hid h0
        clear h0
        generalize hg : s.getD i d = x at ex hb2
        have HG := Lib.hid hg
        clear hg
        go_wp2
        go_round
        case rel =>
          refine ⟨i + 1, by omega, by omega, by go_num, fun j h1 hj => ?_⟩
          by_cases h : j < i
          · exact HNO.out j h1 h
          · obtain rfl : j = i := by omega
            exact H0.out
        case measure => simp [intOf]; omega
    · have hi2 : i = s.length := by omega
      have hz := FN.out (fun j h1 hj => HNO.out j h1 (by omega))
      subst hz
      go_wp2
      go_ret
      exact ⟨rfl, rfl⟩
end Go.Proofs.YtbnhchffdccjnaaDoor
