/-
  Helpers of the statements: Begins; Find of a byte 0.
-/
import Derived.Test.YtbnhchffdccjnaaDoorMm
import Derived.OwnWalk
import Derived.WalkSmall
import Derived.IntWalk
namespace Go.Proofs.YtbnhchffdccjnaaDoor
open Go.RowKit
set_option linter.unusedVariables false
set_option linter.unusedSimpArgs false

theorem cutt_list (l : List UInt8) (a b : Nat) : (⟨l.toArray⟩ : ByteArray).extract a b = ⟨((l.drop a).take (b - a)).toArray⟩ := by
  apply ByteArray.ext
  simp [List.drop_take]
set_option maxHeartbeats 1000000 in
theorem Begins_is (s t : List UInt8) (hs : s.length ≤ 1000000) (ht : t.length ≤ 1000000) (w : World) :
    Calls Tryd.prog 21 #[.string ⟨s.toArray⟩, .string ⟨t.toArray⟩] w fun e w' => e = .returned (.bool (s.take t.length == t)) ∧ w = w' := by
  have ex := cutt_list s 0 t.length
  rw [List.drop_zero, Nat.sub_zero] at ex
  have z1 := size_toArray s
  have z2 := size_toArray t
  by_cases h : t.length ≤ s.length
  · obtain ⟨r, hr⟩ : ∃ r, (s.take t.length == t) = r := ⟨_, rfl⟩
    rw [hr]
    generalize (⟨s.toArray⟩ : ByteArray) = S at *
    obtain ⟨x, hx⟩ : ∃ x, s.take t.length = x := ⟨_, rfl⟩
    rw [hx] at ex hr
    clear hx
    go_enter Tryd.func21, Tryd.ntmps21
    go_wp2
    go_ret
    exact ⟨rfl, rfl⟩
  · have hr : (s.take t.length == t) = false := by
      rw [beq_eq_false_iff_ne]
      intro e
      have := congrArg List.length e
      rw [List.length_take] at this
      omega
    rw [hr]
    clear hr ex
    generalize (⟨s.toArray⟩ : ByteArray) = S at *
    generalize (⟨t.toArray⟩ : ByteArray) = T at *
    go_enter Tryd.func21, Tryd.ntmps21
    go_wp2
    go_ret
    exact ⟨rfl, rfl⟩

/-- Where the first zero stands; -1. -/
def zeroAt (s : List UInt8) : Int := if s.findIdx (· == 0) < s.length then s.findIdx (· == 0) else -1
theorem zero_at (s : List UInt8) (i : Nat) (hi : i < s.length) (h : s.getD i 1 = 0) (hn : ∀ j, j < i → s.getD j 1 ≠ 0) : s.findIdx (· == 0) = i := by
  rw [List.getD_eq_getElem?_getD, List.getElem?_eq_getElem hi] at h
  simp only [Option.getD_some] at h
  rw [List.findIdx_eq hi]
  refine ⟨by rw [h]; rfl, fun j hj => ?_⟩
  have := hn j hj
  rw [List.getD_eq_getElem?_getD, List.getElem?_eq_getElem (by omega)] at this
  simp only [Option.getD_some] at this
  exact beq_false_of_ne this
theorem zero_no (s : List UInt8) (hn : ∀ j, j < s.length → s.getD j 1 ≠ 0) : ∀ c ∈ s, c ≠ 0 := by
  intro c hc
  obtain ⟨i, hi, rfl⟩ := List.mem_iff_getElem.1 hc
  have := hn i hi
  rw [List.getD_eq_getElem?_getD, List.getElem?_eq_getElem hi] at this
  exact this
theorem zeroAt_here (s : List UInt8) (i : Nat) (hi : i < s.length) (h : s.getD i 1 = 0) (hn : ∀ j, j < i → s.getD j 1 ≠ 0) : zeroAt s = i := by
  unfold zeroAt; rw [zero_at s i hi h hn, if_pos hi]
theorem zeroAt_none (s : List UInt8) (hn : ∀ j, j < s.length → s.getD j 1 ≠ 0) : zeroAt s = -1 := by
  unfold zeroAt
  rw [if_neg]
  have h := zero_no s hn
  have : s.findIdx (· == 0) = s.length := List.findIdx_eq_length.2 (fun c hc => beq_false_of_ne (h c hc))
  omega
theorem cut_one0 (s : List UInt8) (i : Nat) (hi : i < s.length) : (⟨s.toArray⟩ : ByteArray).extract i (i + 1) = ⟨[s.getD i 1].toArray⟩ := by
  rw [cutt_list, Nat.add_sub_cancel_left, List.getD_eq_getElem?_getD, List.getElem?_eq_getElem hi]
  rw [List.drop_eq_getElem_cons hi]
  rfl

set_option maxHeartbeats 4000000 in
theorem Find_zero (s : List UInt8) (hs : s.length ≤ 1000000) (w : World) :
    Calls Tryd.prog 18 #[.string ⟨s.toArray⟩, .string ⟨#[0]⟩, .int .i64 0] w fun e w' => e = .returned (.int .i64 (zeroAt s)) ∧ w = w' := by
  have z1 := size_toArray s
  have CO := Lib.hid (fun i hi => cut_one0 s i hi)
  obtain ⟨R, hR⟩ : ∃ R, zeroAt s = R := ⟨_, rfl⟩
  rw [hR]
  have HR := Lib.hid hR
  clear hR
  generalize (⟨s.toArray⟩ : ByteArray) = S at *
  go_enter Tryd.func18, Tryd.ntmps18
  go_wp2_with fail
  go_loop [7] (fun v => ∃ i : Nat, i ≤ s.length ∧ v = .int .i64 i ∧ ∀ j, j < i → s.getD j 1 ≠ 0) (fun v => s.length - (intOf v).toNat)
  case atStart => exact ⟨0, Nat.zero_le _, rfl, fun j hj => absurd hj (Nat.not_lt_zero j)⟩
  case round =>
    obtain ⟨i, hi, rfl, hno⟩ := hrel
    have HNO := Lib.hid hno
    clear hno
    by_cases hlt : i < s.length
    · have ex := CO.out i hlt
      by_cases h0 : s.getD i 1 = 0
      · rw [h0] at ex
        have hz := zeroAt_here s i hlt h0 HNO.out
        rw [HR.out] at hz
        subst hz
        clear h0
        go_wp2
        go_ret
        exact ⟨rfl, rfl⟩
      · have hb2 : (s.getD i 1 == (0 : UInt8)) = false := beq_false_of_ne h0
        have H0 := Lib.hid h0
        clear h0
        generalize hg : s.getD i 1 = c at ex hb2
        have HG := Lib.hid hg
        clear hg
        go_wp2
        go_round
        case rel =>
          refine ⟨i + 1, by omega, by go_num, fun j hj => ?_⟩
          by_cases h : j < i
          · exact HNO.out j h
          · obtain rfl : j = i := by omega
            exact H0.out
        case measure => simp [intOf]; omega
    · have hi2 : i = s.length := by omega
      have hz := zeroAt_none s (fun j hj => HNO.out j (by omega))
      rw [HR.out] at hz
      subst hz
      go_wp2
      go_ret
      exact ⟨rfl, rfl⟩
end Go.Proofs.YtbnhchffdccjnaaDoor
