/-
  Texts that belong together, one behind the other.
-/
import Derived.Laws.CopyRow
import Derived.Laws.CopyOwn
import Derived.Laws.Rows
import Derived.Laws.Tables
import Derived.Deep.WholeRow
import Derived.Test.YtdgcjjledbnofaaDoorFu01
import Derived.Test.YtdgcjjledbnofaaDoorFu14
import Derived.Stop.BytesEq
/-
  The id of twenty zeros.
-/
namespace Go.Proofs.YtdgcjjledbnofaaDoor

def idZ : List UInt8 := List.replicate 20 0
end Go.Proofs.YtdgcjjledbnofaaDoor

/-
  A zero value of cells, carried by a name; blocks of cells (cut out of Zi).
-/
namespace Go.Proofs.YtdgcjjledbnofaaDoor
set_option maxRecDepth 20000
open Go.RowKit
set_option linter.unusedVariables false
set_option linter.unusedSimpArgs false

theorem lt_of_heap {w : World} {b : Nat} {o : Obj} (h : w.heap[b]? = some o) : b < w.heap.size := by
  rcases Nat.lt_or_ge b w.heap.size with h' | h'
  · exact h'
  · simp [Array.getElem?_eq_none h'] at h
theorem not_frozen {w : World} {g : Nat} {cs : Array Value} {t : TypeId} (h : w.heap[g]? = some (.cells cs t (0, 0))) (i : Nat) : w.frozen? ⟨g, i, none⟩ = false := by
  simp [World.frozen?, h]
theorem heap_set {w : World} {g : Nat} {cs : Array Value} {t : TypeId} {fr : Nat × Nat} (h : w.heap[g]? = some (.cells cs t fr)) (i : Nat) (v : Value) : (w.setCell ⟨g, i, none⟩ v).heap[g]? = some (.cells (cs.setIfInBounds i v) t fr) := by
  simp [World.setCell, Array.getElem?_modify, h]
theorem set_get (cs : Array Value) (i j : Nat) (v : Value) (h : i < cs.size) : (cs.setIfInBounds i v)[j]? = if j = i then some v else cs[j]? := by
  rw [Array.getElem?_setIfInBounds]
  by_cases e : j = i
  · subst e; simp [h]
  · rw [if_neg (fun q => e q.symm), if_neg e]
/-- An array's zero value, carried by a name. -/
theorem zero_arr {t : TypeId} {n : Nat} {z : Array Value} (h : (Tryd.prog.info? t).map (fun i => (i.zero, i.size)) = some (some (.agg z), n)) : ∀ w, (zeroValue t).run Tryd.prog w = .ok (.agg z) w := (zero_of_info h).1
theorem heap_keep {w w' : World} {g : Nat} {o : Obj} (h : w.heap[g]? = some o) (b : Below w.heap.size w w') : w'.heap[g]? = some o := (b.block g (Array.getElem?_eq_some_iff.1 h).1).trans h
end Go.Proofs.YtdgcjjledbnofaaDoor

/-
  Ids as values: their cells, held against each other; what a block holds.
-/
namespace Go.Proofs.YtdgcjjledbnofaaDoor
set_option maxRecDepth 20000
open Go.RowKit
set_option linter.unusedVariables false
set_option linter.unusedSimpArgs false

theorem u8_lt (b : UInt8) : (0 : Int) ≤ b.toNat ∧ (b.toNat : Int) < 256 := by have := b.toNat_lt; omega
theorem bc_len (l : List UInt8) : (Lib.byteCells l).length = l.length := by simp [Lib.byteCells]
theorem bc_at (l : List UInt8) (i : Nat) (h : i < l.length) : (Lib.byteCells l)[i]? = some (.int .u8 (l.getD i 0).toNat) := by simp [Lib.byteCells, h]
theorem arr_bc {arr : Array Value} {l : List UInt8} (hs : arr.size = l.length) (h : ∀ j, j < l.length → arr[j]? = some (.int .u8 (l.getD j 0).toNat)) : arr = (Lib.byteCells l).toArray := by
  apply Array.ext_getElem?
  intro i
  have e : (Lib.byteCells l).toArray[i]? = (Lib.byteCells l)[i]? := by simp
  by_cases hi : i < l.length
  · rw [h i hi, e, bc_at l i hi]
  · rw [Array.getElem?_eq_none (by omega), e, List.getElem?_eq_none (by rw [bc_len]; omega)]
theorem bc_all (l : List UInt8) : (Lib.byteCells l).toArray.all (·.oneCell') = true := by
  rw [Array.all_eq_true]
  intro i hi
  simp [Lib.byteCells, Value.oneCell']
theorem z29 : ∃ z : Array Value, (Tryd.prog.info? 26).map (fun i => (i.zero, i.size)) = some (some (.agg z), 20) ∧ z = Array.replicate 20 (.int .u8 0) := ⟨Array.replicate 20 (.int .u8 0), by kernel_rfl, rfl⟩
theorem eql_idv (w : World) (l m : List UInt8) (h : l.length = 20) (h' : m.length = 20) : (binOp .eql 26 (idv l) (idv m)).run Tryd.prog w = .ok (.bool (l == m)) w :=
  run_eql_bytes (P := Tryd.prog) w 26 5 20 Tryd.underlying26 Tryd.underlying5 Tryd.sizeOf5 l m h h'
theorem neq_idv (w : World) (l m : List UInt8) (h : l.length = 20) (h' : m.length = 20) : (binOp .neq 26 (idv l) (idv m)).run Tryd.prog w = .ok (.bool (!(l == m))) w := by
  have e := run_equalIn_bytes (P := Tryd.prog) w 9998 26 5 20 Tryd.underlying26 Tryd.underlying5 Tryd.sizeOf5 l m h h'
  unfold idv
  rw [run_neq_struct]
  erw [e]
  rfl
end Go.Proofs.YtdgcjjledbnofaaDoor
