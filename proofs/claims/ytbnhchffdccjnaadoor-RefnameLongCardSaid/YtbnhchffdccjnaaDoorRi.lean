/-
  The rune at a place, as a number, and its width.
-/
import Derived.Test.YtbnhchffdccjnaaDoorQs
namespace Go.Proofs.YtbnhchffdccjnaaDoor
open Go.RowKit
set_option linter.unusedVariables false

/-- The rune at a place, as a number, and its width. -/
theorem rune_int (l : List UInt8) (i : Nat) (hi : i < l.length) : ∃ (r : Int) (k : Nat), r = ((Utf8.decode ⟨l.toArray⟩ i).1 : Int) ∧ k = (Utf8.decode ⟨l.toArray⟩ i).2 ∧ 0 ≤ r ∧ r ≤ 2147483647 ∧ 1 ≤ k ∧ i + k ≤ l.length ∧
    ((r < 128 ∧ r = ((l.getD i 0).toNat : Int) ∧ k = 1) ∨ (128 ≤ r ∧ k ≤ 4 ∧ ∀ j, i ≤ j → j < i + k → 128 ≤ (l.getD j 0).toNat)) := by
  refine ⟨_, _, rfl, rfl, ?_⟩
  rcases rune_at l i hi with ⟨h1, h2⟩ | ⟨h1, h2, h3, h4, h5, h6, h7⟩
  · rw [h2]
    exact ⟨by omega, by simp only; omega, Nat.le_refl _, by simp only; omega, .inl ⟨by simp only; omega, rfl, rfl⟩⟩
  · exact ⟨by omega, by omega, h4, h6, .inr ⟨by omega, h5, h7⟩⟩
end Go.Proofs.YtbnhchffdccjnaaDoor
