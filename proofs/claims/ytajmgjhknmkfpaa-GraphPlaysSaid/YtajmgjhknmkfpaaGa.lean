/-
  Layer 9: rows of ids: their cells, what a block holds.
-/
import Derived.Test.YtajmgjhknmkfpaaIz
import Derived.Test.YtajmgjhknmkfpaaZi
import Derived.Lib.Hide
import Derived.Deep.RegionHeld3
import Derived.Lib.Bytes
import Derived.IntWalk
import Derived.WalkSmall
import Derived.BigFrame
namespace Go.Proofs.Ytajmgjhknmkfpaa
set_option maxRecDepth 20000
open Go.RowKit
set_option linter.unusedVariables false
set_option linter.unusedSimpArgs false

/-- An id's cells. -/
def cellsD (i : List UInt8) : List Value := Lib.byteCells i
theorem cellsD_len (i : List UInt8) (h : i.length = 20) : (cellsD i).length = 20 := by simp [cellsD, Lib.byteCells, h]
theorem cellsD_one (i : List UInt8) : (cellsD i).toArray.all (·.oneCell') = true := bc_all i
/-- An id's cells, as one array. -/
def arrD (i : List UInt8) : Array Value := (cellsD i).toArray
theorem idv_arrD (i : List UInt8) : idv i = .agg (arrD i) := rfl
theorem arrD_size (i : List UInt8) (h : i.length = 20) : (arrD i).size = 20 := by unfold arrD; rw [List.size_toArray, cellsD_len i h]
theorem arrD_one (i : List UInt8) : (arrD i).all (·.oneCell') = true := cellsD_one i
theorem infoD_n : (Try.prog.info? 32).map (·.size) = some 20 := by kernel_rfl
theorem infoD_arr (a : Array Value) (h : a.size = 20) : (Try.prog.info? 32).map (·.size) = some a.size := by rw [h]; exact infoD_n
theorem zIdD : (Try.prog.info? 32).map (fun i => (i.zero, i.size)) = some (some (.agg (arrD idZ)), 20) := by kernel_rfl
/-- Two ids alike. -/
def eqD (i j : List UInt8) : Bool := i == j
theorem eqD_iff (i j : List UInt8) : eqD i j = true ↔ i = j := by unfold eqD; exact beq_iff_eq
theorem eqD_same (i : List UInt8) : eqD i i = true := (eqD_iff i i).2 rfl
theorem eql_arrD (i j : List UInt8) (hi : i.length = 20) (hj : j.length = 20) (w : World) : (binOp .eql 32 (.agg (arrD i)) (.agg (arrD j))).run Try.prog w = .ok (.bool (eqD i j)) w := eql_idv w i j hi hj
theorem neq_arrD (i j : List UInt8) (hi : i.length = 20) (hj : j.length = 20) (w : World) : (binOp .neq 32 (.agg (arrD i)) (.agg (arrD j))).run Try.prog w = .ok (.bool (!eqD i j)) w := neq_idv w i j hi hj
/-- Ids, one behind the other. -/
def IdsAt (w : World) (a : Option Addr) (l : List (List UInt8)) : Prop :=
  0 < l.length → ∃ b o, a = some ⟨b, o, none⟩ ∧ b < w.heap.size ∧ ∀ k (h : k < l.length) j v, (cellsD l[k])[j]? = some v → w.cell? ⟨b, o + k * 20 + j, none⟩ = some v
theorem IdsAt.keep {w w' : World} {a : Option Addr} {l : List (List UInt8)} (h : IdsAt w a l) (b : Below w.heap.size w w') : IdsAt w' a l := fun hp => by
  obtain ⟨g, o, h1, h2, h3⟩ := h hp
  exact ⟨g, o, h1, Nat.lt_of_lt_of_le h2 b.size, fun k hk j v hv => (b.cell (p := ⟨g, o + k * 20 + j, none⟩) h2).trans (h3 k hk j v hv)⟩
theorem IdsAt.nil (w : World) (a : Option Addr) : IdsAt w a [] := fun h => absurd h (Nat.lt_irrefl 0)
theorem IdsAt.take {w : World} {a : Option Addr} {l : List (List UInt8)} (h : IdsAt w a l) (n : Nat) : IdsAt w a (l.take n) := fun hp => by
  have hp2 : 0 < l.length := by rw [List.length_take] at hp; omega
  obtain ⟨g, o, h1, h2, h3⟩ := h hp2
  refine ⟨g, o, h1, h2, fun k hk j v hv => ?_⟩
  rw [List.length_take] at hk
  rw [List.getElem_take] at hv
  exact h3 k (by omega) j v hv
theorem load_cellsD {w : World} {b o : Nat} (l : List Value) (n : Nat) (hn : n = l.length) (h : ∀ j v, l[j]? = some v → w.cell? ⟨b, o + j, none⟩ = some v) : (loadCellsFrom ⟨b, o, none⟩ 0 n #[]).run Try.prog w = .ok l.toArray w := by
  subst hn
  have := run_loadCells_list (P := Try.prog) w ⟨b, o, none⟩ l (fun j v hv => by
    rw [show (⟨b, o, none⟩ : Addr).add j = ⟨b, o + j, none⟩ by unfold Addr.add; split <;> simp_all]
    exact h j v hv)
  simpa [loadCells] using this
/-- An item's cells in a block of its own. -/
theorem row_cellsD {w : World} {g : Nat} {i : List UInt8} {t : TypeId} {fr : Nat × Nat} (h : w.heap[g]? = some (.cells (cellsD i).toArray t fr)) : ∀ j v, (cellsD i)[j]? = some v → w.cell? ⟨g, 0 + j, none⟩ = some v := fun j v hv => by
  rw [Nat.zero_add, Lib.cell_of_heap h, ← hv]
  simp

end Go.Proofs.Ytajmgjhknmkfpaa
