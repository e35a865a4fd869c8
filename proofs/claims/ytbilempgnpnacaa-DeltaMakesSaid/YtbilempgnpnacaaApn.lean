/-
  What an append leaves (cut out of Fg).
-/
import Derived.Test.YtbilempgnpnacaaCb
namespace Go.Proofs.Ytbilempgnpnacaa
set_option maxRecDepth 20000
open Go.RowKit
set_option linter.unusedVariables false

theorem Appended.new {w w' : World} {v v' : Value} {l : List UInt8} (h : Appended w v l v' w') {B : Nat} (hf : ∀ g, foot v = some g → B ≤ g) (hB : B ≤ w.heap.size) : ∀ g, foot v' = some g → B ≤ g := fun g hg => by
  rcases h.2.2 with h3 | h3 | h3
  · rw [h3] at hg; exact hf g hg
  · rw [h3] at hg; cases hg
  · rw [h3] at hg; cases hg; exact hB
theorem Appended.below {w w' w0 : World} {v v' : Value} {l : List UInt8} (h : Appended w v l v' w') {B : Nat} (hb : Below B w0 w) (hf : ∀ g, foot v = some g → B ≤ g) (hB : B ≤ w.heap.size) : Below B w0 w' :=
  hb.grown h.2.1 hB hf
end Go.Proofs.Ytbilempgnpnacaa
