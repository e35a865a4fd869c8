/-
  The helper Own of the statements over ids: a copy with three ids of room behind it.
-/
import Derived.Test.YtajmgjhknmkfpaaGc
import Derived.IntWalk
import Derived.WalkSmall
import Derived.OwnWalk
namespace Go.Proofs.Ytajmgjhknmkfpaa
set_option maxRecDepth 20000
open Go.RowKit
set_option linter.unusedVariables false
set_option linter.unusedSimpArgs false

/-- What Own leaves: the copy, and its room, in a block of its own. -/
def OwnIds (w : World) (g : Nat) (l : List (List UInt8)) (f : List UInt8) : Prop :=
  w.ownsRow g 32 20 (.slice (some ⟨g, 0, none⟩) (l.length + 3) (l.length + 3)) (l.length + 3) ((l ++ List.replicate 3 f).flatMap cellsD)
theorem OwnIds.keep {w w' : World} {g : Nat} {l : List (List UInt8)} {f : List UInt8} (h : OwnIds w g l f) (hb : Below w.heap.size w w') : OwnIds w' g l f := own_keepD h hb
theorem OwnIds.lt {w : World} {g : Nat} {l : List (List UInt8)} {f : List UInt8} (h : OwnIds w g l f) : g < w.heap.size := own_ltD h
end Go.Proofs.Ytajmgjhknmkfpaa
