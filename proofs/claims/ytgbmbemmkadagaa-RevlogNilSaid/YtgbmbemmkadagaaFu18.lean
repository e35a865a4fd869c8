/-
  Texts that belong together, one behind the other.
-/
import Derived.Test.YtgbmbemmkadagaaFu01
import Derived.Below
import Derived.Test.YtgbmbemmkadagaaFu04
import Derived.Laws.CopyRow
import Derived.Laws.CopyOwn
import Derived.Laws.Rows
import Derived.Laws.Tables
import Derived.Deep.WholeRow
import Derived.Stop.BytesEq
/-
  An id as a value; two new blocks.
-/
namespace Go.Proofs.Ytgbmbemmkadagaa
open Go.RowKit
set_option linter.unusedVariables false

/-- An id as a value. -/
def idv (l : List UInt8) : Value := .agg (Lib.byteCells l).toArray
theorem info29 : (Try.prog.info? 24).map (·.size) = some 20 := by kernel_rfl
theorem two_new (w : World) (A B : Obj) : ((w.alloc A).alloc B).heap[w.heap.size]? = some A :=
  (Below.heap_alloc (w.alloc A) B w.heap.size (by simp)).trans (heap_alloc_new w A)
end Go.Proofs.Ytgbmbemmkadagaa

/-
  Ids as values: their cells, held against each other; what a block holds.
-/
namespace Go.Proofs.Ytgbmbemmkadagaa
set_option maxRecDepth 20000
open Go.RowKit
set_option linter.unusedVariables false
set_option linter.unusedSimpArgs false

theorem u8_lt (b : UInt8) : (0 : Int) ≤ b.toNat ∧ (b.toNat : Int) < 256 := by have := b.toNat_lt; omega
theorem bc_len (l : List UInt8) : (Lib.byteCells l).length = l.length := by simp [Lib.byteCells]
theorem bc_at (l : List UInt8) (i : Nat) (h : i < l.length) : (Lib.byteCells l)[i]? = some (.int .u8 (l.getD i 0).toNat) := by simp [Lib.byteCells, h]
theorem arr_bc {arr : Array Value} {l : List UInt8} (hs : arr.size = l.length) (h : ∀ j, j < l.length → arr[j]? = some (.int .u8 (l.getD j 0).toNat)) : arr = (Lib.byteCells l).toArray := by
  apply Array.ext_getElem?
  intro i
  have e : (Lib.byteCells l).toArray[i]? = (Lib.byteCells l)[i]? := by simp
  by_cases hi : i < l.length
  · rw [h i hi, e, bc_at l i hi]
  · rw [Array.getElem?_eq_none (by omega), e, List.getElem?_eq_none (by rw [bc_len]; omega)]
theorem bc_all (l : List UInt8) : (Lib.byteCells l).toArray.all (·.oneCell') = true := by
  rw [Array.all_eq_true]
  intro i hi
  simp [Lib.byteCells, Value.oneCell']
theorem z29 : ∃ z : Array Value, (Try.prog.info? 24).map (fun i => (i.zero, i.size)) = some (some (.agg z), 20) ∧ z = Array.replicate 20 (.int .u8 0) := ⟨Array.replicate 20 (.int .u8 0), by kernel_rfl, rfl⟩
theorem eql_idv (w : World) (l m : List UInt8) (h : l.length = 20) (h' : m.length = 20) : (binOp .eql 24 (idv l) (idv m)).run Try.prog w = .ok (.bool (l == m)) w :=
  run_eql_bytes (P := Try.prog) w 24 5 20 Try.underlying24 Try.underlying5 Try.sizeOf5 l m h h'
theorem neq_idv (w : World) (l m : List UInt8) (h : l.length = 20) (h' : m.length = 20) : (binOp .neq 24 (idv l) (idv m)).run Try.prog w = .ok (.bool (!(l == m))) w := by
  have e := run_equalIn_bytes (P := Try.prog) w 9998 24 5 20 Try.underlying24 Try.underlying5 Try.sizeOf5 l m h h'
  unfold idv
  rw [run_neq_struct]
  erw [e]
  rfl
end Go.Proofs.Ytgbmbemmkadagaa
