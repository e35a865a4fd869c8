/-
  Bytes that are read alone.
-/
import Derived.Test.YtbilempgnpnacaaMm
namespace Go.Proofs.Ytbilempgnpnacaa
open Go.RowKit
set_option linter.unusedVariables false

/-- Bytes that are read alone. -/
def Red (w : World) (v : Value) (l : List UInt8) : Prop := ∃ a c, v = .slice a l.length c ∧ BAt w a l ∧ (a = none → l.length = 0 ∧ c = 0) ∧ l.length ≤ c ∧ c ≤ maxLen
theorem Red.below {w w' : World} {v : Value} {l : List UInt8} (h : Red w v l) {B : Nat} (hb : Below B w w') (hB : w.heap.size ≤ B) : Red w' v l := by
  obtain ⟨a, c, e, hba, r⟩ := h
  exact ⟨a, c, e, hba.below hb hB, r⟩
theorem Red.none (w : World) : Red w (.slice none 0 0) [] := ⟨.none, 0, rfl, BAt.nil w _, fun _ => ⟨rfl, rfl⟩, Nat.le_refl _, Nat.zero_le _⟩
end Go.Proofs.Ytbilempgnpnacaa
