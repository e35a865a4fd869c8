/-
  Layer 11, the document's helpers: Find of two bytes, Ends; a part of a ref's name.
-/
import Derived.Test.YtbnhchffdccjnaaDoorVa
import Derived.Test.YtbnhchffdccjnaaDoorGs
import Derived.OwnWalk
import Derived.WalkSmall
import Derived.IntWalk
namespace Go.Proofs.YtbnhchffdccjnaaDoor
open Go.RowKit
set_option linter.unusedVariables false
set_option linter.unusedSimpArgs false
set_option maxRecDepth 20000

/-- Do two bytes stand beside each other? -/
def hasTwo (c d : UInt8) (l : List UInt8) : Prop := ∃ i, i + 1 < l.length ∧ l.getD i 0 = c ∧ l.getD (i + 1) 0 = d
theorem pairs_two (l : List UInt8) : pairsL l = true ↔ ¬ hasTwo 46 46 l ∧ ¬ hasTwo 64 123 l := by
  rw [pairs_iff]
  unfold hasTwo pairB
  constructor
  · intro h
    refine ⟨fun ⟨i, hi, a, b⟩ => ?_, fun ⟨i, hi, a, b⟩ => ?_⟩
    · have := h i hi
      rw [a, b] at this
      cases this
    · have := h i hi
      rw [a, b] at this
      cases this
  · rintro ⟨h1, h2⟩ i hi
    rw [Bool.or_eq_false_iff, Bool.and_eq_false_iff, Bool.and_eq_false_iff]
    refine ⟨?_, ?_⟩
    · by_cases e : l.getD i 0 = 46
      · right
        rw [beq_eq_false_iff_ne]
        intro e2
        exact h1 ⟨i, hi, e, UInt8.toNat_inj.1 e2⟩
      · left
        rw [beq_eq_false_iff_ne]
        intro e2
        exact e (UInt8.toNat_inj.1 e2)
    · by_cases e : l.getD i 0 = 64
      · right
        rw [beq_eq_false_iff_ne]
        intro e2
        exact h2 ⟨i, hi, e, UInt8.toNat_inj.1 e2⟩
      · left
        rw [beq_eq_false_iff_ne]
        intro e2
        exact e (UInt8.toNat_inj.1 e2)
theorem cut_two (s : List UInt8) (i : Nat) (hi : i + 2 ≤ s.length) : (⟨s.toArray⟩ : ByteArray).extract i (i + 2) = ⟨[s.getD i 0, s.getD (i + 1) 0].toArray⟩ := by
  apply ByteArray.ext
  rw [List.getD_eq_getElem?_getD, List.getElem?_eq_getElem (by omega), List.getD_eq_getElem?_getD, List.getElem?_eq_getElem (by omega)]
  simp [List.drop_take]
  rw [List.drop_eq_getElem_cons (by omega), List.drop_eq_getElem_cons (show i + 1 < s.length by omega)]
  rfl

set_option maxHeartbeats 4000000 in
theorem Find_two (c d : UInt8) (s : List UInt8) (hs : s.length ≤ 1000000) (w : World) :
    Calls Tryd.prog 18 #[.string ⟨s.toArray⟩, .string ⟨#[c, d]⟩, .int .i64 0] w fun e w' => ∃ v : Int, e = .returned (.int .i64 v) ∧ w = w' ∧ -1 ≤ v ∧ v ≤ 1000000 ∧ (0 ≤ v ↔ hasTwo c d s) := by
  have z1 := size_toArray s
  have z2 : (⟨#[c, d]⟩ : ByteArray).size = 2 := rfl
  have CO := Lib.hid (fun i hi => cut_two s i hi)
  generalize (⟨s.toArray⟩ : ByteArray) = S at *
  go_enter Tryd.func18, Tryd.ntmps18
  go_wp2_with fail
  go_loop [7] (fun v => ∃ i : Nat, i ≤ s.length ∧ v = .int .i64 i ∧ ∀ j, j < i → ¬ (s.getD j 0 = c ∧ s.getD (j + 1) 0 = d)) (fun v => s.length - (intOf v).toNat)
  case atStart => exact ⟨0, Nat.zero_le _, rfl, fun j h1 => absurd h1 (Nat.not_lt_zero _)⟩
  case round =>
    obtain ⟨i, hi, rfl, hno⟩ := hrel
    have HNO := Lib.hid hno
    clear hno
    by_cases hlt : i + 2 ≤ s.length
    · have ex := CO.out i hlt
      have q : IntKind.i64.wrap ((i : Int) + 2) = (i : Int) + 2 := IntWalk.i64_in _ (by omega)
      by_cases h0 : s.getD i 0 = c ∧ s.getD (i + 1) 0 = d
      · have HH := Lib.hid (show hasTwo c d s from ⟨i, by omega, h0.1, h0.2⟩)
        rw [h0.1, h0.2] at ex
        clear h0
        go_wp2
        go_ret
        exact ⟨_, rfl, rfl, by omega, by omega, ⟨fun _ => HH.out, fun _ => by omega⟩⟩
      · have H0 := Lib.hid h0
        clear h0
        have hb2 : ((⟨[s.getD i 0, s.getD (i + 1) 0].toArray⟩ : ByteArray).toList == [c, d]) = false := by
          rw [list_text, beq_eq_false_iff_ne]
          intro h
          have := H0.out
          simp at h
          exact this h
        generalize (⟨[s.getD i 0, s.getD (i + 1) 0].toArray⟩ : ByteArray) = X at ex hb2
        go_wp2
        go_round
        case rel =>
          refine ⟨i + 1, by omega, by go_num, fun j h1 => ?_⟩
          by_cases h : j < i
          · exact HNO.out j h
          · obtain rfl : j = i := by omega
            exact H0.out
        case measure => simp [intOf]; omega
    · have q : IntKind.i64.wrap ((i : Int) + 2) = (i : Int) + 2 := IntWalk.i64_in _ (by omega)
      have hz : ¬ hasTwo c d s := by
        rintro ⟨j, hj, h1, h2⟩
        exact HNO.out j (by omega) ⟨h1, h2⟩
      have HZ := Lib.hid hz
      clear hz
      go_wp2
      go_ret
      exact ⟨_, rfl, rfl, by omega, by omega, ⟨fun h => absurd h (by omega), fun h => absurd h HZ.out⟩⟩
end Go.Proofs.YtbnhchffdccjnaaDoor
