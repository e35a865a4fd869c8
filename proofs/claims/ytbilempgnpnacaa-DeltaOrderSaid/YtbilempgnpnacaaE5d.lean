/-
  Layer 14, plain: edits that put back what is there; edits that are not in order.
-/
import Derived.Test.YtbilempgnpnacaaE4g
namespace Go.Proofs.Ytbilempgnpnacaa
open Go
set_option linter.unusedVariables false
set_option linter.unusedSimpArgs false

/-- Edits that put back what is there, up to some byte. -/
structure CutL (a : List UInt8) (l : List Edx) (p : Nat) : Prop where
  ok : okE l 0 a.length = true
  last : lastE l 0 = (p : Int)
  pre : (preE a l 0).flatten = a.take p
  sum : sumE l ≤ p
  le : p ≤ a.length
theorem CutL.nil (a : List UInt8) : CutL a [] 0 := ⟨rfl, rfl, by simp [preE], Nat.le_refl _, Nat.zero_le _⟩
theorem cut_join (a : List UInt8) (p f t : Nat) (h1 : p ≤ f) (h2 : f ≤ t) (h3 : t ≤ a.length) : a.take p ++ ((a.take f).drop p ++ (a.take t).drop f) = a.take t := by
  have e1 : a.take p = (a.take f).take p := by rw [List.take_take, Nat.min_eq_left h1]
  have e2 : a.take f = (a.take t).take f := by rw [List.take_take, Nat.min_eq_left h2]
  rw [← List.append_assoc, e1, List.take_append_drop, e2, List.take_append_drop]
theorem CutL.next {a : List UInt8} {l : List Edx} {p f t : Nat} (h : CutL a l p) (h1 : p ≤ f) (h2 : f ≤ t) (h3 : t ≤ a.length) : CutL a (l ++ [((f : Int), (t : Int), (a.take t).drop f)]) t := by
  refine ⟨?_, ?_, ?_, ?_, h3⟩
  · rw [okE_app, h.ok, h.last]
    simp only [okE, stepE, Bool.true_and, Bool.and_true, Bool.and_eq_true, decide_eq_true_eq]
    exact ⟨⟨by omega, by omega⟩, by omega⟩
  · rw [lastE_app]; rfl
  · rw [preE_app, List.flatten_append, h.pre, h.last]
    simp only [preE, List.flatten_cons, List.flatten_nil, List.append_nil, Int.toNat_natCast]
    exact cut_join a p f t h1 h2 h3
  · have e : sumE (l ++ [((f : Int), (t : Int), (a.take t).drop f)]) = sumE l + ((a.take t).drop f).length := by unfold sumE; simp
    have := h.sum
    rw [e, List.length_drop, List.length_take, Nat.min_eq_left h3]
    omega
theorem CutL.app {a : List UInt8} {l : List Edx} {p : Nat} (h : CutL a l p) : appE a l = a := by
  unfold appE
  rw [h.pre, h.last, Int.toNat_natCast, List.take_append_drop]
theorem bad0 (l : List Edx) (n : Nat) (b : List UInt8) : okE (l ++ [((n : Int), (n : Int) + 1, b)]) 0 n = false := by
  rw [okE_app]
  simp [okE, stepE]
  intro _ _ _ ; omega
theorem bad1 (l : List Edx) (n : Nat) (b : List UInt8) : okE (((-1 : Int), (0 : Int), b) :: l) 0 n = false := by
  simp [okE, stepE]
theorem bad2 (l : List Edx) (n : Nat) (b : List UInt8) : okE (l ++ [((n : Int), (n : Int) - 1, b)]) 0 n = false := by
  rw [okE_app]
  simp [okE, stepE]
  intro _ _ ; omega
theorem bad3 (l : List Edx) (n : Nat) (b d : List UInt8) : okE (((0 : Int), (n : Int), b) :: (l ++ [((n : Int) - 1, (n : Int), d)])) 0 n = false := by
  have q : okE (l ++ [((n : Int) - 1, (n : Int), d)]) n n = false := by
    rw [okE_app]
    cases h : okE l n n with
    | false => rfl
    | true =>
      have := (okE_last l n n h (Int.le_refl _)).1
      simp only [okE, stepE, Bool.true_and, Bool.and_true]
      have e : decide (lastE l n ≤ (n : Int) - 1) = false := decide_eq_false (by omega)
      rw [e]; rfl
  show (stepE 0 n (0, (n : Int), b) && okE (l ++ [((n : Int) - 1, (n : Int), d)]) n n) = false
  rw [q, Bool.and_false]
end Go.Proofs.Ytbilempgnpnacaa
