/-
  An id as a value; two new blocks.
-/
import Derived.Test.YtajmgjhknmkfpaaMm
import Derived.Below
namespace Go.Proofs.Ytajmgjhknmkfpaa
open Go.RowKit
set_option linter.unusedVariables false

/-- An id as a value. -/
def idv (l : List UInt8) : Value := .agg (Lib.byteCells l).toArray
theorem info29 : (Try.prog.info? 32).map (·.size) = some 20 := by kernel_rfl
theorem two_new (w : World) (A B : Obj) : ((w.alloc A).alloc B).heap[w.heap.size]? = some A :=
  (Below.heap_alloc (w.alloc A) B w.heap.size (by simp)).trans (heap_alloc_new w A)
end Go.Proofs.Ytajmgjhknmkfpaa
