/-
  Ids as values: a whole id out of its block, its first bytes.
-/
import Derived.Test.YtbcbbkdfdfgnfaaDoorSu
namespace Go.Proofs.YtbcbbkdfdfgnfaaDoor
set_option maxRecDepth 20000
open Go.RowKit
set_option linter.unusedVariables false
set_option linter.unusedSimpArgs false

theorem idv_cells (l : List UInt8) : ∃ arr, idv l = .agg arr ∧ arr = (Lib.byteCells l).toArray := ⟨_, rfl, rfl⟩
theorem bytes_get (l : List UInt8) (i : Nat) (h : i < l.length) : (Lib.byteCells l).toArray[i]? = some (.int .u8 (l.getD i 0).toNat) := by
  have e : (Lib.byteCells l).toArray[i]? = (Lib.byteCells l)[i]? := by simp
  rw [e, bc_at l i h]
theorem load20 {u : World} {g : Nat} {arr : Array Value} {fr : Nat × Nat} (hg : u.heap[g]? = some (.cells arr 34 fr)) (hs : arr.size = 20) : (loadCellsFrom ⟨g, 0, none⟩ 0 20 #[]).run Tryd.prog u = .ok arr u := by
  have := run_loadCells_list (P := Tryd.prog) u ⟨g, 0, none⟩ arr.toList (fun j v hv => by
    rw [addr_add, Nat.zero_add, cell_of_row _ _ j arr 34 fr hg]
    simpa using hv)
  have e : arr.toList.length = 20 := by rw [Array.length_toList, hs]
  rw [e] at this
  simpa [loadCells] using this
/-- A whole id out of its block, as a step of a region that draws its order. -/
theorem step_load_arr {ops : Array Oper} {o : Oper} {a : Act} {w : World} {K : Act → World → Prop} {Q : Exit → Act → World → Prop} {E : Prop} (hw : Region.wanted o (yielded ops a.tmps) = true) (x : Operand) (ho : o.op = .load 34 x)
    (g : Nat) (hx : a.eval x = .pointer (some ⟨g, 0, none⟩)) (arr : Array Value) (hg : w.heap[g]? = some (.cells arr 34 (0, 0))) (hs : arr.size = 20) (h : K (a.put o.dst (.agg arr)) w) :
    if Region.wanted o (yielded ops a.tmps) = true then Oper.wp Tryd.prog o a w K Q else E := by
  rw [if_pos hw]
  exact wp_load_row 34 x ho g hx 34 arr (0, 0) _ hg Tryd.underlying34 rfl (by rw [info29, hs]) h
theorem slice20_h (w : World) (g k : Nat) (hk : k ≤ 20) (h : Int) (hh : h = (k : Int)) :
    (Instr.sliceAt 34 (.pointer (some ⟨g, 0, none⟩)) none (some (.int .i64 h)) none).run Tryd.prog w = .ok (.slice (some ⟨g, 0, none⟩) k 20) w := by
  have ea : Tryd.prog.arrayLen 34 = 20 := by kernel_rfl
  have ee : Tryd.prog.elem 34 = 5 := by kernel_rfl
  rw [run_sliceAt_array_h w 34 ⟨g, 0, none⟩ (by rw [ea, ee]; exact Tryd.underlying34) .i64 h (by omega) (by rw [ea]; omega), ea, ee, size_u8]
  simp only [Result.andThen_ok, slicedAt]
  simp [Addr.add]
  omega
/-- The first bytes of an id in its block. -/
theorem id_bat {w : World} {g : Nat} {l : List UInt8} {arr : Array Value} {t : TypeId} {fr : Nat × Nat} (hg : w.heap[g]? = some (.cells arr t fr)) (ha : arr = (Lib.byteCells l).toArray) (k : Nat) : BAt w (some ⟨g, 0, none⟩) (l.take k) := fun hp =>
  ⟨g, 0, rfl, lt_of_heap hg, fun i hi => by
    have hi2 : i < l.length := by rw [List.length_take] at hi; omega
    rw [Nat.zero_add, cell_of_row _ _ i _ _ _ hg, ha, bytes_get l i hi2]
    simp [hi2]⟩
end Go.Proofs.YtbcbbkdfdfgnfaaDoor
