/-
  A slice of bytes that is read alone, in its parts.
-/
import Derived.Test.YtbcbbkdfdfgnfaaDoorNw
namespace Go.Proofs.YtbcbbkdfdfgnfaaDoor
open Go.RowKit

theorem red_parts {w : World} {a : Option Addr} {n c : Nat} {l : List UInt8} (h : Red w (.slice a n c) l) : n = l.length ∧ BAt w a l ∧ (a = none → n = 0 ∧ c = 0) ∧ n ≤ c ∧ c ≤ maxLen := by
  obtain ⟨a', c', e, h1, h2, h3, h4⟩ := h
  cases e
  exact ⟨rfl, h1, h2, h3, h4⟩
theorem red_of {w : World} {a : Option Addr} {n c : Nat} {l : List UInt8} (h0 : n = l.length) (h1 : BAt w a l) (h2 : a = none → n = 0 ∧ c = 0) (h3 : n ≤ c) (h4 : c ≤ maxLen) : Red w (.slice a n c) l := by
  subst h0; exact ⟨a, c, rfl, h1, h2, h3, h4⟩
end Go.Proofs.YtbcbbkdfdfgnfaaDoor
