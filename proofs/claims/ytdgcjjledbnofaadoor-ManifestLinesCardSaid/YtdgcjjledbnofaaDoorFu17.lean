/-
  Texts that belong together, one behind the other.
-/
import Derived.Test.YtdgcjjledbnofaaDoorFu16
import Derived.Lib.Hide
import Derived.Deep.RegionHeld3
import Derived.Lib.Bytes
import Derived.IntWalk
import Derived.WalkSmall
import Derived.BigFrame
import Derived.Test.YtdgcjjledbnofaaDoorFu06
import Derived.Test.YtdgcjjledbnofaaDoorFu15
/-
  Layer 9: rows of ids: their cells, what a block holds.
-/
namespace Go.Proofs.YtdgcjjledbnofaaDoor
set_option maxRecDepth 20000
open Go.RowKit
set_option linter.unusedVariables false
set_option linter.unusedSimpArgs false

/-- An id's cells. -/
def cellsD (i : List UInt8) : List Value := Lib.byteCells i
theorem cellsD_len (i : List UInt8) (h : i.length = 20) : (cellsD i).length = 20 := by simp [cellsD, Lib.byteCells, h]
theorem cellsD_one (i : List UInt8) : (cellsD i).toArray.all (·.oneCell') = true := bc_all i
/-- An id's cells, as one array. -/
def arrD (i : List UInt8) : Array Value := (cellsD i).toArray
theorem idv_arrD (i : List UInt8) : idv i = .agg (arrD i) := rfl
theorem arrD_size (i : List UInt8) (h : i.length = 20) : (arrD i).size = 20 := by unfold arrD; rw [List.size_toArray, cellsD_len i h]
theorem arrD_one (i : List UInt8) : (arrD i).all (·.oneCell') = true := cellsD_one i
theorem infoD_n : (Tryd.prog.info? 26).map (·.size) = some 20 := by kernel_rfl
theorem infoD_arr (a : Array Value) (h : a.size = 20) : (Tryd.prog.info? 26).map (·.size) = some a.size := by rw [h]; exact infoD_n
theorem zIdD : (Tryd.prog.info? 26).map (fun i => (i.zero, i.size)) = some (some (.agg (arrD idZ)), 20) := by kernel_rfl
/-- Two ids alike. -/
def eqD (i j : List UInt8) : Bool := i == j
theorem eqD_iff (i j : List UInt8) : eqD i j = true ↔ i = j := by unfold eqD; exact beq_iff_eq
theorem eqD_same (i : List UInt8) : eqD i i = true := (eqD_iff i i).2 rfl
theorem eql_arrD (i j : List UInt8) (hi : i.length = 20) (hj : j.length = 20) (w : World) : (binOp .eql 26 (.agg (arrD i)) (.agg (arrD j))).run Tryd.prog w = .ok (.bool (eqD i j)) w := eql_idv w i j hi hj
theorem neq_arrD (i j : List UInt8) (hi : i.length = 20) (hj : j.length = 20) (w : World) : (binOp .neq 26 (.agg (arrD i)) (.agg (arrD j))).run Tryd.prog w = .ok (.bool (!eqD i j)) w := neq_idv w i j hi hj
/-- Ids, one behind the other. -/
def IdsAt (w : World) (a : Option Addr) (l : List (List UInt8)) : Prop :=
  0 < l.length → ∃ b o, a = some ⟨b, o, none⟩ ∧ b < w.heap.size ∧ ∀ k (h : k < l.length) j v, (cellsD l[k])[j]? = some v → w.cell? ⟨b, o + k * 20 + j, none⟩ = some v
theorem IdsAt.keep {w w' : World} {a : Option Addr} {l : List (List UInt8)} (h : IdsAt w a l) (b : Below w.heap.size w w') : IdsAt w' a l := fun hp => by
  obtain ⟨g, o, h1, h2, h3⟩ := h hp
  exact ⟨g, o, h1, Nat.lt_of_lt_of_le h2 b.size, fun k hk j v hv => (b.cell (p := ⟨g, o + k * 20 + j, none⟩) h2).trans (h3 k hk j v hv)⟩
theorem IdsAt.nil (w : World) (a : Option Addr) : IdsAt w a [] := fun h => absurd h (Nat.lt_irrefl 0)
theorem IdsAt.take {w : World} {a : Option Addr} {l : List (List UInt8)} (h : IdsAt w a l) (n : Nat) : IdsAt w a (l.take n) := fun hp => by
  have hp2 : 0 < l.length := by rw [List.length_take] at hp; omega
  obtain ⟨g, o, h1, h2, h3⟩ := h hp2
  refine ⟨g, o, h1, h2, fun k hk j v hv => ?_⟩
  rw [List.length_take] at hk
  rw [List.getElem_take] at hv
  exact h3 k (by omega) j v hv
theorem load_cellsD {w : World} {b o : Nat} (l : List Value) (n : Nat) (hn : n = l.length) (h : ∀ j v, l[j]? = some v → w.cell? ⟨b, o + j, none⟩ = some v) : (loadCellsFrom ⟨b, o, none⟩ 0 n #[]).run Tryd.prog w = .ok l.toArray w := by
  subst hn
  have := run_loadCells_list (P := Tryd.prog) w ⟨b, o, none⟩ l (fun j v hv => by
    rw [show (⟨b, o, none⟩ : Addr).add j = ⟨b, o + j, none⟩ by unfold Addr.add; split <;> simp_all]
    exact h j v hv)
  simpa [loadCells] using this
/-- An item's cells in a block of its own. -/
theorem row_cellsD {w : World} {g : Nat} {i : List UInt8} {t : TypeId} {fr : Nat × Nat} (h : w.heap[g]? = some (.cells (cellsD i).toArray t fr)) : ∀ j v, (cellsD i)[j]? = some v → w.cell? ⟨g, 0 + j, none⟩ = some v := fun j v hv => by
  rw [Nat.zero_add, Lib.cell_of_heap h, ← hv]
  simp

end Go.Proofs.YtdgcjjledbnofaaDoor

/-
  Layer 13: files as rows of cells.
-/
namespace Go.Proofs.YtdgcjjledbnofaaDoor
set_option maxRecDepth 20000
open Go.RowKit
set_option linter.unusedVariables false
set_option linter.unusedSimpArgs false

def cellsF (f : Fil) : List Value := .string ⟨f.path.toArray⟩ :: .int .i64 f.mode :: cellsD f.id
def arrF (f : Fil) : Array Value := (cellsF f).toArray
theorem cellsF_len (f : Fil) (h : f.id.length = 20) : (cellsF f).length = 22 := by simp [cellsF, cellsD_len f.id h]
theorem cellsF_one (f : Fil) : ∀ v ∈ cellsF f, v.oneCell' = true := by
  intro v hv
  simp only [cellsF, List.mem_cons] at hv
  rcases hv with rfl | rfl | hv
  · rfl
  · rfl
  · exact Array.all_eq_true_iff_forall_mem.1 (cellsD_one f.id) v (by simpa using hv)
theorem arrF_size (f : Fil) (h : f.id.length = 20) : (arrF f).size = 22 := by unfold arrF; rw [List.size_toArray, cellsF_len f h]
theorem arrF_one (f : Fil) : (arrF f).all (·.oneCell') = true := by
  rw [Array.all_eq_true_iff_forall_mem]
  intro v hv
  exact cellsF_one f v (by simpa [arrF] using hv)
def rowF : RowT Fil := ⟨cellsF, 22, 48, 28, 22, fun f => f.id.length = 20⟩
theorem goodF : RowT.Good rowF Tryd.prog := rgood_of (by decide) (fun x h => cellsF_len x h) (fun x _ => cellsF_one x) Tryd.underlying22 (by kernel_rfl) (by decide)
/-- What files lie somewhere, read alone. -/
abbrev FilesAt (w : World) (a : Option Addr) (l : List Fil) : Prop := RowAt rowF w a l
def zFil : Fil := ⟨[], 0, zeroId⟩
theorem zFile : (Tryd.prog.info? 28).map (fun i => (i.zero, i.size)) = some (some (.agg (arrF zFil)), 22) := by kernel_rfl
theorem infoFile : (Tryd.prog.info? 28).map (·.size) = some 22 := by kernel_rfl
theorem zFile_any : ∃ z : Array Value, z = arrF zFil ∧ z.size = 22 ∧ (∀ w, (zeroValue 28).run Tryd.prog w = .ok (.agg z) w) ∧ Tryd.prog.built 28 [] = some z ∧ z.all (·.oneCell') = true :=
  ⟨arrF zFil, rfl, by kernel_rfl, zero_arr zFile, by kernel_rfl, arrF_one _⟩
end Go.Proofs.YtdgcjjledbnofaaDoor

/-
  Cut of Dq: a file as a literal.
-/
namespace Go.Proofs.YtdgcjjledbnofaaDoor
set_option maxRecDepth 20000
open Go.RowKit
set_option linter.unusedVariables false
set_option linter.unusedSimpArgs false

theorem built_file20 (m : Int) (s : ByteArray) (b0 b1 b2 b3 b4 b5 b6 b7 b8 b9 b10 b11 b12 b13 b14 b15 b16 b17 b18 b19 : UInt8) :
    Tryd.prog.built 28 [(0, .string s), (1, .int .i64 m), (2, .agg (arrD [b0, b1, b2, b3, b4, b5, b6, b7, b8, b9, b10, b11, b12, b13, b14, b15, b16, b17, b18, b19]))] = some (.string s :: .int .i64 m :: cellsD [b0, b1, b2, b3, b4, b5, b6, b7, b8, b9, b10, b11, b12, b13, b14, b15, b16, b17, b18, b19]).toArray := by kernel_rfl
theorem built_fil (m : Int) (s : ByteArray) : ∀ (i : List UInt8), i.length = 20 → Tryd.prog.built 28 [(0, .string s), (1, .int .i64 m), (2, .agg (arrD i))] = some (.string s :: .int .i64 m :: cellsD i).toArray
  | [b0, b1, b2, b3, b4, b5, b6, b7, b8, b9, b10, b11, b12, b13, b14, b15, b16, b17, b18, b19], _ => built_file20 m s b0 b1 b2 b3 b4 b5 b6 b7 b8 b9 b10 b11 b12 b13 b14 b15 b16 b17 b18 b19
end Go.Proofs.YtdgcjjledbnofaaDoor
