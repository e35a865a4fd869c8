/-
  Texts that belong together, one behind the other.
-/
import Derived.Test.YtnohonjjfjppoaaGreatDoorFu02
import Derived.Below
import Derived.Laws.CopyRow
import Derived.Laws.CopyOwn
import Derived.Laws.Rows
import Derived.Laws.Tables
import Derived.Deep.WholeRow
import Derived.Stop.BytesEq
import Derived.Test.YtnohonjjfjppoaaGreatDoorFu03
import Derived.Lib.Hide
import Derived.Deep.RegionHeld3
import Derived.Lib.Bytes
import Derived.IntWalk
import Derived.WalkSmall
import Derived.BigFrame
/-
  An id as a value; two new blocks.
-/
namespace Go.Proofs.YtnohonjjfjppoaaGreatDoor
open Go.RowKit
set_option linter.unusedVariables false
/-- An id as a value. -/
def idv (l : List UInt8) : Value := .agg (Lib.byteCells l).toArray
theorem info29 : (Tryz.prog.info? 27).map (·.size) = some 20 := by kernel_rfl
theorem two_new (w : World) (A B : Obj) : ((w.alloc A).alloc B).heap[w.heap.size]? = some A :=
  (Below.heap_alloc (w.alloc A) B w.heap.size (by simp)).trans (heap_alloc_new w A)
end Go.Proofs.YtnohonjjfjppoaaGreatDoor

/-
  Ids as values: their cells, held against each other; what a block holds.
-/
namespace Go.Proofs.YtnohonjjfjppoaaGreatDoor
set_option maxRecDepth 20000
open Go.RowKit
set_option linter.unusedVariables false
set_option linter.unusedSimpArgs false
theorem lt_of_heap {w : World} {b : Nat} {o : Obj} (h : w.heap[b]? = some o) : b < w.heap.size := by
  rcases Nat.lt_or_ge b w.heap.size with h' | h'
  · exact h'
  · simp [Array.getElem?_eq_none h'] at h
theorem not_frozen {w : World} {g : Nat} {cs : Array Value} {t : TypeId} (h : w.heap[g]? = some (.cells cs t (0, 0))) (i : Nat) : w.frozen? ⟨g, i, none⟩ = false := by
  simp [World.frozen?, h]
theorem u8_lt (b : UInt8) : (0 : Int) ≤ b.toNat ∧ (b.toNat : Int) < 256 := by have := b.toNat_lt; omega
theorem heap_set {w : World} {g : Nat} {cs : Array Value} {t : TypeId} {fr : Nat × Nat} (h : w.heap[g]? = some (.cells cs t fr)) (i : Nat) (v : Value) : (w.setCell ⟨g, i, none⟩ v).heap[g]? = some (.cells (cs.setIfInBounds i v) t fr) := by
  simp [World.setCell, Array.getElem?_modify, h]
theorem set_get (cs : Array Value) (i j : Nat) (v : Value) (h : i < cs.size) : (cs.setIfInBounds i v)[j]? = if j = i then some v else cs[j]? := by
  rw [Array.getElem?_setIfInBounds]
  by_cases e : j = i
  · subst e; simp [h]
  · rw [if_neg (fun q => e q.symm), if_neg e]
theorem bc_len (l : List UInt8) : (Lib.byteCells l).length = l.length := by simp [Lib.byteCells]
theorem bc_at (l : List UInt8) (i : Nat) (h : i < l.length) : (Lib.byteCells l)[i]? = some (.int .u8 (l.getD i 0).toNat) := by simp [Lib.byteCells, h]
theorem arr_bc {arr : Array Value} {l : List UInt8} (hs : arr.size = l.length) (h : ∀ j, j < l.length → arr[j]? = some (.int .u8 (l.getD j 0).toNat)) : arr = (Lib.byteCells l).toArray := by
  apply Array.ext_getElem?
  intro i
  have e : (Lib.byteCells l).toArray[i]? = (Lib.byteCells l)[i]? := by simp
  by_cases hi : i < l.length
  · rw [h i hi, e, bc_at l i hi]
  · rw [Array.getElem?_eq_none (by omega), e, List.getElem?_eq_none (by rw [bc_len]; omega)]
theorem bc_all (l : List UInt8) : (Lib.byteCells l).toArray.all (·.oneCell') = true := by
  rw [Array.all_eq_true]
  intro i hi
  simp [Lib.byteCells, Value.oneCell']
/-- An array's zero value, carried by a name. -/
theorem zero_arr {t : TypeId} {n : Nat} {z : Array Value} (h : (Tryz.prog.info? t).map (fun i => (i.zero, i.size)) = some (some (.agg z), n)) : ∀ w, (zeroValue t).run Tryz.prog w = .ok (.agg z) w := (zero_of_info h).1
theorem z29 : ∃ z : Array Value, (Tryz.prog.info? 27).map (fun i => (i.zero, i.size)) = some (some (.agg z), 20) ∧ z = Array.replicate 20 (.int .u8 0) := ⟨Array.replicate 20 (.int .u8 0), by kernel_rfl, rfl⟩
theorem eql_idv (w : World) (l m : List UInt8) (h : l.length = 20) (h' : m.length = 20) : (binOp .eql 27 (idv l) (idv m)).run Tryz.prog w = .ok (.bool (l == m)) w :=
  run_eql_bytes (P := Tryz.prog) w 27 5 20 Tryz.underlying27 Tryz.underlying5 Tryz.sizeOf5 l m h h'
theorem neq_idv (w : World) (l m : List UInt8) (h : l.length = 20) (h' : m.length = 20) : (binOp .neq 27 (idv l) (idv m)).run Tryz.prog w = .ok (.bool (!(l == m))) w := by
  have e := run_equalIn_bytes (P := Tryz.prog) w 9998 27 5 20 Tryz.underlying27 Tryz.underlying5 Tryz.sizeOf5 l m h h'
  unfold idv
  rw [run_neq_struct]
  erw [e]
  rfl
theorem heap_keep {w w' : World} {g : Nat} {o : Obj} (h : w.heap[g]? = some o) (b : Below w.heap.size w w') : w'.heap[g]? = some o := (b.block g (Array.getElem?_eq_some_iff.1 h).1).trans h
end Go.Proofs.YtnohonjjfjppoaaGreatDoor

/-
  Layer 9: rows of ids: their cells, what a block holds.
-/
namespace Go.Proofs.YtnohonjjfjppoaaGreatDoor
set_option maxRecDepth 20000
open Go.RowKit
set_option linter.unusedVariables false
set_option linter.unusedSimpArgs false
/-- An id's cells. -/
def cellsD (i : List UInt8) : List Value := Lib.byteCells i
theorem cellsD_len (i : List UInt8) (h : i.length = 20) : (cellsD i).length = 20 := by simp [cellsD, Lib.byteCells, h]
theorem cellsD_one (i : List UInt8) : (cellsD i).toArray.all (·.oneCell') = true := bc_all i
/-- An id's cells, as one array. -/
def arrD (i : List UInt8) : Array Value := (cellsD i).toArray
theorem idv_arrD (i : List UInt8) : idv i = .agg (arrD i) := rfl
theorem arrD_size (i : List UInt8) (h : i.length = 20) : (arrD i).size = 20 := by unfold arrD; rw [List.size_toArray, cellsD_len i h]
theorem arrD_one (i : List UInt8) : (arrD i).all (·.oneCell') = true := cellsD_one i
theorem infoD_n : (Tryz.prog.info? 27).map (·.size) = some 20 := by kernel_rfl
theorem zIdD : (Tryz.prog.info? 27).map (fun i => (i.zero, i.size)) = some (some (.agg (arrD idZ)), 20) := by kernel_rfl
/-- Ids, one behind the other. -/
def IdsAt (w : World) (a : Option Addr) (l : List (List UInt8)) : Prop :=
  0 < l.length → ∃ b o, a = some ⟨b, o, none⟩ ∧ b < w.heap.size ∧ ∀ k (h : k < l.length) j v, (cellsD l[k])[j]? = some v → w.cell? ⟨b, o + k * 20 + j, none⟩ = some v
theorem IdsAt.keep {w w' : World} {a : Option Addr} {l : List (List UInt8)} (h : IdsAt w a l) (b : Below w.heap.size w w') : IdsAt w' a l := fun hp => by
  obtain ⟨g, o, h1, h2, h3⟩ := h hp
  exact ⟨g, o, h1, Nat.lt_of_lt_of_le h2 b.size, fun k hk j v hv => (b.cell (p := ⟨g, o + k * 20 + j, none⟩) h2).trans (h3 k hk j v hv)⟩
theorem IdsAt.nil (w : World) (a : Option Addr) : IdsAt w a [] := fun h => absurd h (Nat.lt_irrefl 0)
theorem IdsAt.take {w : World} {a : Option Addr} {l : List (List UInt8)} (h : IdsAt w a l) (n : Nat) : IdsAt w a (l.take n) := fun hp => by
  have hp2 : 0 < l.length := by rw [List.length_take] at hp; omega
  obtain ⟨g, o, h1, h2, h3⟩ := h hp2
  refine ⟨g, o, h1, h2, fun k hk j v hv => ?_⟩
  rw [List.length_take] at hk
  rw [List.getElem_take] at hv
  exact h3 k (by omega) j v hv
/-- An item's cells in a block of its own. -/
theorem row_cellsD {w : World} {g : Nat} {i : List UInt8} {t : TypeId} {fr : Nat × Nat} (h : w.heap[g]? = some (.cells (cellsD i).toArray t fr)) : ∀ j v, (cellsD i)[j]? = some v → w.cell? ⟨g, 0 + j, none⟩ = some v := fun j v hv => by
  rw [Nat.zero_add, Lib.cell_of_heap h, ← hv]
  simp
end Go.Proofs.YtnohonjjfjppoaaGreatDoor

/-
  Layer 13: files as rows of cells.
-/
namespace Go.Proofs.YtnohonjjfjppoaaGreatDoor
set_option maxRecDepth 20000
open Go.RowKit
set_option linter.unusedVariables false
set_option linter.unusedSimpArgs false
def cellsF (f : Fil) : List Value := .string ⟨f.path.toArray⟩ :: .int .i64 f.mode :: cellsD f.id
def arrF (f : Fil) : Array Value := (cellsF f).toArray
theorem cellsF_len (f : Fil) (h : f.id.length = 20) : (cellsF f).length = 22 := by simp [cellsF, cellsD_len f.id h]
theorem cellsF_one (f : Fil) : ∀ v ∈ cellsF f, v.oneCell' = true := by
  intro v hv
  simp only [cellsF, List.mem_cons] at hv
  rcases hv with rfl | rfl | hv
  · rfl
  · rfl
  · exact Array.all_eq_true_iff_forall_mem.1 (cellsD_one f.id) v (by simpa using hv)
theorem arrF_size (f : Fil) (h : f.id.length = 20) : (arrF f).size = 22 := by unfold arrF; rw [List.size_toArray, cellsF_len f h]
theorem arrF_one (f : Fil) : (arrF f).all (·.oneCell') = true := by
  rw [Array.all_eq_true_iff_forall_mem]
  intro v hv
  exact cellsF_one f v (by simpa [arrF] using hv)
def rowF : RowT Fil := ⟨cellsF, 22, 48, 29, 22, fun f => f.id.length = 20⟩
theorem goodF : RowT.Good rowF Tryz.prog := rgood_of (by decide) (fun x h => cellsF_len x h) (fun x _ => cellsF_one x) Tryz.underlying22 (by kernel_rfl) (by decide)
/-- What files lie somewhere, read alone. -/
abbrev FilesAt (w : World) (a : Option Addr) (l : List Fil) : Prop := RowAt rowF w a l
def zFil : Fil := ⟨[], 0, zeroId⟩
theorem zFile : (Tryz.prog.info? 29).map (fun i => (i.zero, i.size)) = some (some (.agg (arrF zFil)), 22) := by kernel_rfl
theorem infoFile : (Tryz.prog.info? 29).map (·.size) = some 22 := by kernel_rfl
theorem zFile_any : ∃ z : Array Value, z = arrF zFil ∧ z.size = 22 ∧ (∀ w, (zeroValue 29).run Tryz.prog w = .ok (.agg z) w) ∧ Tryz.prog.built 29 [] = some z ∧ z.all (·.oneCell') = true :=
  ⟨arrF zFil, rfl, by kernel_rfl, zero_arr zFile, by kernel_rfl, arrF_one _⟩
end Go.Proofs.YtnohonjjfjppoaaGreatDoor
