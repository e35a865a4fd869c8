/-
  Texts that belong together, one behind the other.
-/
import Derived.Test.YtalmoaofodjehaaDoorFu02
import Derived.Below
import Derived.Laws.CopyRow
import Derived.Laws.CopyOwn
import Derived.Laws.Rows
import Derived.Laws.Tables
import Derived.Deep.WholeRow
import Derived.Stop.BytesEq
import Derived.Great.BuildSlice
import Derived.OrdersHeld
import Derived.Laws.StructEq
import Derived.Laws.ResultCell
import Derived.BigFrame
/-
  An id as a value; two new blocks.
-/
namespace Go.Proofs.YtalmoaofodjehaaDoor
open Go.RowKit
set_option linter.unusedVariables false

/-- An id as a value. -/
def idv (l : List UInt8) : Value := .agg (Lib.byteCells l).toArray
theorem info29 : (Tryd.prog.info? 28).map (·.size) = some 20 := by kernel_rfl
theorem two_new (w : World) (A B : Obj) : ((w.alloc A).alloc B).heap[w.heap.size]? = some A :=
  (Below.heap_alloc (w.alloc A) B w.heap.size (by simp)).trans (heap_alloc_new w A)
end Go.Proofs.YtalmoaofodjehaaDoor

/-
  Ids as values: their cells, held against each other; what a block holds.
-/
namespace Go.Proofs.YtalmoaofodjehaaDoor
set_option maxRecDepth 20000
open Go.RowKit
set_option linter.unusedVariables false
set_option linter.unusedSimpArgs false

theorem lt_of_heap {w : World} {b : Nat} {o : Obj} (h : w.heap[b]? = some o) : b < w.heap.size := by
  rcases Nat.lt_or_ge b w.heap.size with h' | h'
  · exact h'
  · simp [Array.getElem?_eq_none h'] at h
theorem not_frozen {w : World} {g : Nat} {cs : Array Value} {t : TypeId} (h : w.heap[g]? = some (.cells cs t (0, 0))) (i : Nat) : w.frozen? ⟨g, i, none⟩ = false := by
  simp [World.frozen?, h]
theorem u8_lt (b : UInt8) : (0 : Int) ≤ b.toNat ∧ (b.toNat : Int) < 256 := by have := b.toNat_lt; omega
theorem heap_set {w : World} {g : Nat} {cs : Array Value} {t : TypeId} {fr : Nat × Nat} (h : w.heap[g]? = some (.cells cs t fr)) (i : Nat) (v : Value) : (w.setCell ⟨g, i, none⟩ v).heap[g]? = some (.cells (cs.setIfInBounds i v) t fr) := by
  simp [World.setCell, Array.getElem?_modify, h]
theorem set_get (cs : Array Value) (i j : Nat) (v : Value) (h : i < cs.size) : (cs.setIfInBounds i v)[j]? = if j = i then some v else cs[j]? := by
  rw [Array.getElem?_setIfInBounds]
  by_cases e : j = i
  · subst e; simp [h]
  · rw [if_neg (fun q => e q.symm), if_neg e]
theorem bc_len (l : List UInt8) : (Lib.byteCells l).length = l.length := by simp [Lib.byteCells]
theorem bc_at (l : List UInt8) (i : Nat) (h : i < l.length) : (Lib.byteCells l)[i]? = some (.int .u8 (l.getD i 0).toNat) := by simp [Lib.byteCells, h]
theorem arr_bc {arr : Array Value} {l : List UInt8} (hs : arr.size = l.length) (h : ∀ j, j < l.length → arr[j]? = some (.int .u8 (l.getD j 0).toNat)) : arr = (Lib.byteCells l).toArray := by
  apply Array.ext_getElem?
  intro i
  have e : (Lib.byteCells l).toArray[i]? = (Lib.byteCells l)[i]? := by simp
  by_cases hi : i < l.length
  · rw [h i hi, e, bc_at l i hi]
  · rw [Array.getElem?_eq_none (by omega), e, List.getElem?_eq_none (by rw [bc_len]; omega)]
theorem bc_all (l : List UInt8) : (Lib.byteCells l).toArray.all (·.oneCell') = true := by
  rw [Array.all_eq_true]
  intro i hi
  simp [Lib.byteCells, Value.oneCell']
/-- An array's zero value, carried by a name. -/
theorem zero_arr {t : TypeId} {n : Nat} {z : Array Value} (h : (Tryd.prog.info? t).map (fun i => (i.zero, i.size)) = some (some (.agg z), n)) : ∀ w, (zeroValue t).run Tryd.prog w = .ok (.agg z) w := (zero_of_info h).1
theorem z29 : ∃ z : Array Value, (Tryd.prog.info? 28).map (fun i => (i.zero, i.size)) = some (some (.agg z), 20) ∧ z = Array.replicate 20 (.int .u8 0) := ⟨Array.replicate 20 (.int .u8 0), by kernel_rfl, rfl⟩
theorem eql_idv (w : World) (l m : List UInt8) (h : l.length = 20) (h' : m.length = 20) : (binOp .eql 28 (idv l) (idv m)).run Tryd.prog w = .ok (.bool (l == m)) w :=
  run_eql_bytes (P := Tryd.prog) w 28 5 20 Tryd.underlying28 Tryd.underlying5 Tryd.sizeOf5 l m h h'
theorem neq_idv (w : World) (l m : List UInt8) (h : l.length = 20) (h' : m.length = 20) : (binOp .neq 28 (idv l) (idv m)).run Tryd.prog w = .ok (.bool (!(l == m))) w := by
  have e := run_equalIn_bytes (P := Tryd.prog) w 9998 28 5 20 Tryd.underlying28 Tryd.underlying5 Tryd.sizeOf5 l m h h'
  unfold idv
  rw [run_neq_struct]
  erw [e]
  rfl
theorem heap_keep {w w' : World} {g : Nat} {o : Obj} (h : w.heap[g]? = some o) (b : Below w.heap.size w w') : w'.heap[g]? = some o := (b.block g (Array.getElem?_eq_some_iff.1 h).1).trans h
end Go.Proofs.YtalmoaofodjehaaDoor

/-
  A literal of a struct or an array.
-/
namespace Go.Proofs.YtalmoaofodjehaaDoor
open Go.RowKit
set_option linter.unusedVariables false

/-- A literal of a struct or an array, its cells carried by a name. -/
theorem wpList_build_as {P : Program} {ops : Array Oper} {rest : List Oper} {o : Oper} {a : Act} {w : World} {Q : Exit → Act → World → Prop} (hgd : o.guard = none) (t : TypeId) (parts : Array (Nat × Operand)) (ho : o.op = .build t parts)
    (cells : Array Value) (hb : P.built t (parts.map fun (i, x) => (i, a.eval x)).toList = some cells)
    (h : wpList P ops Q rest (a.put o.dst (.agg cells)) w) : wpList P ops Q (o :: rest) a w :=
  wpList_plain hgd fun K hK => wp_build t parts ho (by rw [hb]; rfl) (by rw [hb]; exact hK _ _ h)
/-- The same, with one part. -/
theorem wpList_build_one {P : Program} {ops : Array Oper} {rest : List Oper} {o : Oper} {a : Act} {w : World} {Q : Exit → Act → World → Prop} (hgd : o.guard = none) (t : TypeId) (k : Nat) (x : Operand) (ho : o.op = .build t #[(k, x)])
    (v : Value) (hx : a.eval x = v) (cells : Array Value) (hb : P.built t [(k, v)] = some cells)
    (h : wpList P ops Q rest (a.put o.dst (.agg cells)) w) : wpList P ops Q (o :: rest) a w :=
  wpList_build_as hgd t #[(k, x)] ho cells (by simp [hx, hb]) h
/-- A literal of three parts, in a region that draws its order. -/
theorem yields_build3 {P : Program} {ops : Array Oper} {S : World → Prop} {o : Oper} {a : Act} (hw : Region.wanted o (yielded ops a.tmps) = true) (t : TypeId) (k0 k1 k2 : Nat) (x0 x1 x2 : Operand) (ho : o.op = .build t #[(k0, x0), (k1, x1), (k2, x2)])
    (v0 v1 v2 : Value) (h0 : a.eval x0 = v0) (h1 : a.eval x1 = v1) (h2 : a.eval x2 = v2) (cells : Array Value) (hb : P.built t [(k0, v0), (k1, v1), (k2, v2)] = some cells) : YieldsIf P ops S o (.agg cells) a :=
  .inl ⟨hw, fun u _ => by
    have hp : P.built t (#[(k0, x0), (k1, x1), (k2, x2)].map fun (i, x) => (i, a.eval x)).toList = some cells := by simp [h0, h1, h2, hb]
    unfold execOp
    simp only [ho, Sem.run_bind, run_build u t _ cells hp, Result.andThen_ok, Sem.run_pure]⟩
/-- Two structs held against each other, in a region that draws its order. -/
theorem yields_eql {P : Program} {ops : Array Oper} {S : World → Prop} {o : Oper} {a : Act} (hw : Region.wanted o (yielded ops a.tmps) = true) (t r : TypeId) (x y : Operand) (ho : o.op = .binOp .eql t x y r) (xs ys : Array Value) (hx : a.eval x = .agg xs) (hy : a.eval y = .agg ys)
    (hm : P.eqGuardType P.depth t = false) (b : Bool) (h : ∀ u, (binOp .eql t (.agg xs) (.agg ys)).run P u = .ok (.bool b) u) : YieldsIf P ops S o (.bool b) a :=
  .inl ⟨hw, fun u _ => by
    unfold execOp
    simp only [ho, hx, hy, Sem.run_bind, run_eqGuard_agg u .eql t x y xs ys hm, Result.andThen_ok, h, Sem.run_pure]⟩
end Go.Proofs.YtalmoaofodjehaaDoor

/-
  Layer 8: items in blocks of their own: the one that tells nothing, literals, an id copied in, results.
-/
namespace Go.Proofs.YtalmoaofodjehaaDoor
set_option maxRecDepth 20000
open Go.RowKit
set_option linter.unusedVariables false
set_option linter.unusedSimpArgs false

/-- The item that tells nothing. -/
def zItm : Itm := ⟨0, [], zeroId⟩
/-- An item's cells, as one array. -/
def arrI (i : Itm) : Array Value := (cellsI i).toArray
theorem arrI_size (i : Itm) (h : i.id.length = 20) : (arrI i).size = 22 := by unfold arrI; rw [List.size_toArray, cellsI_len i h]
theorem arrI_one (i : Itm) : (arrI i).all (·.oneCell') = true := cellsI_one i
theorem zItem : (Tryd.prog.info? 30).map (fun i => (i.zero, i.size)) = some (some (.agg (arrI zItm)), 22) := by kernel_rfl
theorem zItem_any : ∃ z : Array Value, z = arrI zItm ∧ z.size = 22 ∧ (∀ w, (zeroValue 30).run Tryd.prog w = .ok (.agg z) w) ∧ Tryd.prog.built 30 [] = some z ∧ z.all (·.oneCell') = true :=
  ⟨arrI zItm, rfl, by kernel_rfl, zero_arr zItem, by kernel_rfl, arrI_one _⟩
theorem built_item (m : Int) (s : List UInt8) : Tryd.prog.built 30 [(0, .int .i64 m), (1, .string ⟨s.toArray⟩)] = some (arrI ⟨m, s, zeroId⟩) := by kernel_rfl
theorem info_arr (a : Array Value) (h : a.size = 22) : (Tryd.prog.info? 30).map (·.size) = some a.size := by rw [h]; exact infoItem
theorem slice20_all (u : World) (g k : Nat) : (Instr.sliceAt 28 (.pointer (some ⟨g, k, none⟩)) none none none).run Tryd.prog u = .ok (.slice (some ⟨g, k, none⟩) 20 20) u := by
  have ea : Tryd.prog.arrayLen 28 = 20 := by kernel_rfl
  have ee : Tryd.prog.elem 28 = 5 := by kernel_rfl
  rw [run_sliceAt_array_all u 28 ⟨g, k, none⟩ (by rw [ea, ee]; exact Tryd.underlying28), ea, ee, Tryd.sizeOf5]
  simp [Result.andThen, slicedAt, Addr.add]
theorem bc_take (l : List UInt8) (n : Nat) : Lib.byteCells (l.take n) = (Lib.byteCells l).take n := by simp [Lib.byteCells]
theorem bc_one (l : List UInt8) : ∀ v ∈ Lib.byteCells l, v.oneCell' = true := by
  intro v hv
  simp only [Lib.byteCells, List.mem_map] at hv
  obtain ⟨b, _, rfl⟩ := hv
  rfl
/-- 'copy(x.Id[:], s)'. -/
theorem copy_item (w : World) (g : Nat) (m : Int) (nm y : List UInt8) (cs : Array Value) (hcs : cs = arrI ⟨m, nm, zeroId⟩) (hg : w.heap[g]? = some (.cells cs 30 (0, 0))) (hy : 20 ≤ y.length) :
    (Builtin.copy_ #[23, 9] 3 #[.slice (some ⟨g, 2, none⟩) 20 20, .string ⟨y.toArray⟩]).run Tryd.prog w = .ok (.int .i64 20) (w.setRow g (arrI ⟨m, nm, y.take 20⟩)) := by
  have hl : (Lib.byteCells (y.take 20)).length = 20 := by simp [Lib.byteCells]; omega
  have hcz : cs.size = 22 := by rw [hcs]; exact arrI_size _ (by simp [zeroId])
  have hst := run_storeCells_at Tryd.prog g 2 30 (Lib.byteCells (y.take 20)) 0 cs w hg (by rw [hl, hcz]; omega) (bc_one _)
  have hmin : Nat.min y.length 20 = 20 := Nat.min_eq_right hy
  have hu : Tryd.prog.underlying 23 = some (.slice 5) := Tryd.underlying23
  have e1 : (List.take 20 (List.map (fun b : UInt8 => Value.int IntKind.u8 (b.toNat : Int)) y)) = Lib.byteCells (y.take 20) := by simp [Lib.byteCells]
  have e2 : (cs.toList.take 2 ++ Lib.byteCells (y.take 20) ++ cs.toList.drop 22).toArray = arrI ⟨m, nm, y.take 20⟩ := by
    rw [List.drop_eq_nil_of_le (by rw [Array.length_toList, hcz]; omega), List.append_nil, hcs]
    rfl
  rw [hl] at hst
  simp only [Nat.add_zero] at hst
  rw [show 2 + 20 = 22 from rfl, e2] at hst
  simp [Builtin.copy_, run_underlying hu, Builtin.lenOf, Builtin.firstCells, Tryd.sizeOf5, Result.andThen, size_toArray, hmin]
  rw [e1, hst]
  rfl
/-- What a function hands back: an item out of its block, and two values. -/
theorem results_item3 {fn : Func} (h : fn.results = #[.cell 2 30, .tmp 3, .tmp 4]) (tmps : Array Value) (w : World) (g : Nat) (cs : Array Value) (fr : Nat × Nat) (x y : Value)
    (hp : tmps.getD 2 undef = .pointer (some ⟨g, 0, none⟩)) (hx : tmps.getD 3 undef = x) (hy : tmps.getD 4 undef = y) (hg : w.heap[g]? = some (.cells cs 30 fr)) (hn : cs.size = 22) :
    (results fn tmps).run Tryd.prog w = .ok (.tuple #[.agg cs, x, y]) w := by
  have hl := run_loadVar_row w g 30 30 cs fr _ hg Tryd.underlying30 rfl (info_arr cs hn)
  have hp' : tmps[2]?.getD undef = .pointer (some ⟨g, 0, none⟩) := by simpa using hp
  have hx' : tmps[3]?.getD undef = x := by simpa using hx
  have hy' : tmps[4]?.getD undef = y := by simpa using hy
  simp [results, h, hp', hx', hy', asAddr, hl, Result.andThen]
/-- A load of many cells out of the middle of a block, under a guard that holds. -/
theorem wpList_load_midW {ops : Array Oper} {rest : List Oper} {op : Oper} {a : Act} {w : World} {Q : Exit → Act → World → Prop} (ty : TypeId) (x : Operand) (ho : op.op = .load ty x) (hw : Region.wanted op (yielded ops a.tmps) = true)
    (b o : Nat) (hx : a.eval x = .pointer (some ⟨b, o, none⟩)) (cs : List Value) (d : TypeDesc) (hc : w.rangeAt b o cs)
    (hu : Tryd.prog.underlying ty = some d) (hd : d.isRow = true) (hi : (Tryd.prog.info? ty).map (·.size) = some cs.length)
    (h : wpList Tryd.prog ops Q rest (a.put op.dst (.agg cs.toArray)) w) : wpList Tryd.prog ops Q (op :: rest) a w :=
  Go.BigFrame.wpList_want hw fun _ hK => wp_load_mid ty x ho b o hx cs d hc hu hd hi (hK _ _ h)
end Go.Proofs.YtalmoaofodjehaaDoor
