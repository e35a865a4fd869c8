/-
  Texts that belong together, one behind the other.
-/
import Derived.Test.YtdgcjjledbnofaaDoorFu18
import Derived.Deep.MidRow
import Derived.Laws.ResultCell
import Derived.Laws.CopyRow
import Derived.Deep.RegionHeld3
import Derived.Test.YtdgcjjledbnofaaDoorFu17
import Derived.Test.YtdgcjjledbnofaaDoorFu08
import Derived.Test.YtdgcjjledbnofaaDoorFu13
import Derived.Test.YtdgcjjledbnofaaDoorFu14
/-
  Stores into blocks, the world behind them told by what stays (cut out of Gr).
-/
namespace Go.Proofs.YtdgcjjledbnofaaDoor
set_option maxRecDepth 20000
open Go.RowKit
set_option linter.unusedVariables false
set_option linter.unusedSimpArgs false

/-- All blocks but one stay. -/
structure Off (g : Nat) (w w' : World) : Prop where
  os : w'.os = w.os
  tape : w'.tape = w.tape
  output : w'.output = w.output
  size : w.heap.size ≤ w'.heap.size
  block : ∀ k, k < w.heap.size → k ≠ g → w'.heap[k]? = w.heap[k]?
theorem Off.refl (g : Nat) (w : World) : Off g w w := ⟨rfl, rfl, rfl, Nat.le_refl _, fun _ _ _ => rfl⟩
theorem Off.trans {g : Nat} {a b c : World} (h : Off g a b) (k : Off g b c) : Off g a c :=
  ⟨k.os.trans h.os, k.tape.trans h.tape, k.output.trans h.output, Nat.le_trans h.size k.size, fun i hi hn => (k.block i (Nat.lt_of_lt_of_le hi h.size) hn).trans (h.block i hi hn)⟩
theorem Off.below {g B : Nat} {w w' : World} (h : Off g w w') (hB : B ≤ g) (hs : B ≤ w.heap.size) : Below B w w' := ⟨h.os, h.tape, h.output, h.size, fun k hk => h.block k (by omega) (by omega)⟩
theorem off_of {g : Nat} {w w' : World} (h : Below w.heap.size w w') : Off g w w' := ⟨h.os, h.tape, h.output, h.size, fun k hk _ => h.block k hk⟩
theorem Off.cell {g : Nat} {w w' : World} (h : Off g w w') {p : Addr} {v : Value} (hv : w.cell? p = some v) (hn : p.block ≠ g) : w'.cell? p = some v := by
  have hb := h.block p.block (World.block_lt_of_cell? w p hv) hn
  rw [← hv]
  exact World.cell?_of_block (w := w) hb
/-- A value of cells, stored into a block. -/
theorem wpList_store_any {ops : Array Oper} {rest : List Oper} {o : Oper} {a : Act} {w : World} {Q : Exit → Act → World → Prop} (hgd : o.guard = none) (ty : TypeId) (x y : Operand) (ho : o.op = .store ty x y) (g off : Nat) (cells : Array Value)
    (hx : a.eval x = .pointer (some ⟨g, off, none⟩)) (hy : a.eval y = .agg cells) (T : TypeId) (cur : Array Value) (hg : w.heap[g]? = some (.cells cur T (0, 0))) (hi : (Tryd.prog.info? ty).map (·.size) = some cells.size) (hfit : off + cells.size ≤ cur.size)
    (h1 : cells.all (·.oneCell') = true)
    (h : ∀ w', w'.heap[g]? = some (.cells (cur.toList.take off ++ cells.toList ++ cur.toList.drop (off + cells.size)).toArray T (0, 0)) → Off g w w' → w'.heap.size = w.heap.size → wpList Tryd.prog ops Q rest (a.put o.dst undef) w') :
    wpList Tryd.prog ops Q (o :: rest) a w := by
  refine wpList_plain hgd fun K hK => ?_
  obtain ⟨ie, hie, hsz⟩ : ∃ ie, Tryd.prog.info? ty = some ie ∧ ie.size = cells.size := by
    cases e : Tryd.prog.info? ty with
    | none => rw [e] at hi; cases hi
    | some ie => rw [e] at hi; exact ⟨ie, rfl, Option.some.inj hi⟩
  have hst := run_storeCells_at Tryd.prog g off T cells.toList 0 cur w hg (by rw [Array.length_toList]; omega) (fun v hv => (Array.all_eq_true_iff_forall_mem.1 h1) v (by simpa using hv))
  unfold Oper.wp execOp
  simp only [ho, hx, hy, Instr.storeAt, Instr.sureAddr, Sem.run_bind, Sem.run_pure, Result.andThen_ok]
  have hrun : (storeVar ty ⟨g, off, none⟩ (.agg cells)).run Tryd.prog w = .ok () (w.setRow g (cur.toList.take off ++ cells.toList ++ cur.toList.drop (off + cells.size)).toArray) := by
    simp only [Nat.add_zero, Array.length_toList] at hst
    simp [storeVar, sizeOf, typeInfo, hie, hsz, Value.cells, hst]
  rw [hrun]
  have b := below_setRow (B := g) (Below.refl g w) (Nat.le_refl _) (cur.toList.take off ++ cells.toList ++ cur.toList.drop (off + cells.size)).toArray
  refine hK _ _ (h _ (setRow_heap w g cur _ T (0, 0) hg) ⟨b.os, b.tape, b.output, b.size, fun k _ hk => ?_⟩ (by simp [World.setRow]))
  have hkg : ¬ g = k := fun e => hk e.symm
  simp [World.setRow, Array.getElem?_modify, hkg]
/-- All of a block. -/
theorem wpList_store_all {ops : Array Oper} {rest : List Oper} {o : Oper} {a : Act} {w : World} {Q : Exit → Act → World → Prop} (hgd : o.guard = none) (ty : TypeId) (x y : Operand) (ho : o.op = .store ty x y) (g : Nat) (cells : Array Value)
    (hx : a.eval x = .pointer (some ⟨g, 0, none⟩)) (hy : a.eval y = .agg cells) (T : TypeId) (cur : Array Value) (hg : w.heap[g]? = some (.cells cur T (0, 0))) (hi : (Tryd.prog.info? ty).map (·.size) = some cells.size) (hfit : cells.size = cur.size)
    (h1 : cells.all (·.oneCell') = true)
    (h : ∀ w', w'.heap[g]? = some (.cells cells T (0, 0)) → Off g w w' → w'.heap.size = w.heap.size → wpList Tryd.prog ops Q rest (a.put o.dst undef) w') :
    wpList Tryd.prog ops Q (o :: rest) a w := by
  refine wpList_store_any hgd ty x y ho g 0 cells hx hy T cur hg hi (by omega) h1 (fun w' hw => h w' ?_)
  rw [hw, List.take_zero, List.nil_append, Nat.zero_add, hfit, List.drop_of_length_le (by simp), List.append_nil]
/-- All of a block, read. -/
theorem wpList_load_all {ops : Array Oper} {rest : List Oper} {op : Oper} {a : Act} {w : World} {Q : Exit → Act → World → Prop} (ty : TypeId) (x : Operand) (ho : op.op = .load ty x) (hw : Region.wanted op (yielded ops a.tmps) = true)
    (g : Nat) (A : Array Value) (T : TypeId) (fr : Nat × Nat) (hx : a.eval x = .pointer (some ⟨g, 0, none⟩)) (hg : w.heap[g]? = some (.cells A T fr)) (d : TypeDesc)
    (hu : Tryd.prog.underlying ty = some d) (hd : d.isRow = true) (hi : (Tryd.prog.info? ty).map (·.size) = some A.size)
    (h : wpList Tryd.prog ops Q rest (a.put op.dst (.agg A)) w) : wpList Tryd.prog ops Q (op :: rest) a w :=
  wpList_load_midD ty x ho hw g 0 hx A.toList d (row_arrD hg) hu hd (by rw [Array.length_toList]; exact hi) (by rw [Array.toArray_toList]; exact h)
/-- A literal without parts: the zero value. -/
theorem wpList_build_none {ops : Array Oper} {rest : List Oper} {o : Oper} {a : Act} {w : World} {Q : Exit → Act → World → Prop} (hgd : o.guard = none) (t : TypeId) (ho : o.op = .build t #[])
    (cells : Array Value) (hb : Tryd.prog.built t [] = some cells) (h : wpList Tryd.prog ops Q rest (a.put o.dst (.agg cells)) w) : wpList Tryd.prog ops Q (o :: rest) a w :=
  wpList_plain hgd fun K hK => wp_build t #[] ho (by simp [hb]) (by simp [hb]; exact hK _ _ h)
theorem yields_build0 {ops : Array Oper} {S : World → Prop} {o : Oper} {a : Act} (hw : Region.wanted o (yielded ops a.tmps) = true) (t : TypeId) (ho : o.op = .build t #[]) (cells : Array Value) (hb : Tryd.prog.built t [] = some cells) : YieldsIf Tryd.prog ops S o (.agg cells) a :=
  .inl ⟨hw, fun u _ => by
    have hp : Tryd.prog.built t ((#[] : Array (Nat × Operand)).map fun (i, x) => (i, a.eval x)).toList = some cells := by simp [hb]
    unfold execOp
    simp only [ho, Sem.run_bind, run_build u t _ cells hp, Result.andThen_ok, Sem.run_pure]⟩
end Go.Proofs.YtdgcjjledbnofaaDoor

/-
  Cut of Gr: the id that tells nothing.
-/
namespace Go.Proofs.YtdgcjjledbnofaaDoor
set_option maxRecDepth 20000
open Go.RowKit
set_option linter.unusedVariables false
set_option linter.unusedSimpArgs false

theorem zId_any : ∃ z : Array Value, z = arrD idZ ∧ z.size = 20 ∧ (∀ w, (zeroValue 26).run Tryd.prog w = .ok (.agg z) w) ∧ Tryd.prog.built 26 [] = some z ∧ z.all (·.oneCell') = true :=
  ⟨arrD idZ, rfl, arrD_size _ rfl, zero_arr zIdD, by kernel_rfl, arrD_one _⟩
end Go.Proofs.YtdgcjjledbnofaaDoor

/-
  Layer 16, the program: the line that a text begins with; the file of a line.
-/
namespace Go.Proofs.YtdgcjjledbnofaaDoor
set_option maxRecDepth 20000
open Go.RowKit
set_option linter.unusedVariables false
set_option linter.unusedSimpArgs false

def cutV (c : UInt8) (s : List UInt8) : List UInt8 × List UInt8 × Bool := if idxB c s < s.length then (s.take (idxB c s), s.drop (idxB c s + 1), true) else (s, [], false)
theorem CutB_is (c : UInt8) (l : List UInt8) (hn : l.length ≤ 1000000) (w : World) (tab : QTab w) :
    Calls Tryd.prog 37 #[.string ⟨l.toArray⟩, .string ⟨#[c]⟩] w fun e w' => e = .returned (.tuple #[.string ⟨(cutV c l).1.toArray⟩, .string ⟨(cutV c l).2.1.toArray⟩, .bool (cutV c l).2.2]) ∧ Below w.heap.size w w' := by
  obtain ⟨m, hm⟩ := tab.max
  refine (Tryd.strings_Cut ⟨l.toArray⟩ ⟨#[c]⟩ m w (by rw [size_toArray]; omega) hm).mono ?_
  rintro e w' ⟨rfl, n, rfl⟩
  have e : Lib.cut l [c] = cutV c l := cutB_is c l
  exact ⟨by rw [← e], (Below.refl _ _).trans ⟨rfl, rfl, rfl, Nat.le_refl _, fun _ _ => rfl⟩⟩
/-- The first line. -/
def lineV (s : List UInt8) : List UInt8 × Bool := if idxB 10 s < s.length then (s.take (idxB 10 s), true) else ([], false)
theorem firstLine_is (l : List UInt8) (hn : l.length ≤ 1000000) (w : World) (tab : QTab w) :
    Calls Tryd.prog 24 #[.string ⟨l.toArray⟩] w fun e w' => e = .returned (.tuple #[.string ⟨(lineV l).1.toArray⟩, .bool (lineV l).2]) ∧ Below w.heap.size w w' := by
  have C := Lib.hid (CutB_is 10 l hn w tab)
  unfold cutV at C
  unfold lineV
  by_cases h : idxB 10 l < l.length
  · rw [if_pos h] at C ⊢
    clear tab h
    go_enter Tryd.func24, Tryd.ntmps24
    go_wp2_with fail
    refine C.out.mono ?_
    rintro e u ⟨rfl, b⟩
    have B := Lib.hid b
    clear b
    go_wp2
    go_ret2
    exact ⟨rfl, B.out⟩
  · rw [if_neg h] at C ⊢
    clear tab h
    go_enter Tryd.func24, Tryd.ntmps24
    go_wp2_with fail
    refine C.out.mono ?_
    rintro e u ⟨rfl, b⟩
    have B := Lib.hid b
    clear b
    go_wp2
    go_ret2
    exact ⟨rfl, B.out⟩
theorem results_fil {fn : Func} {p u : Tmp} (h : fn.results = #[.cell p 28, .tmp u]) (tmps : Array Value) (w : World) (g : Nat) (cs : Array Value) (fr : Nat × Nat) (x : Value)
    (hp : tmps.getD p undef = .pointer (some ⟨g, 0, none⟩)) (hx : tmps.getD u undef = x) (hg : w.heap[g]? = some (.cells cs 28 fr)) (hn : cs.size = 22) :
    (results fn tmps).run Tryd.prog w = .ok (.tuple #[.agg cs, x]) w := by
  rw [results_cell_tmp h, hp, hx]
  have e : (asAddr (.pointer (some ⟨g, 0, none⟩))).run Tryd.prog w = .ok ⟨g, 0, none⟩ w := rfl
  rw [e]
  simp only [Result.andThen_ok]
  rw [run_loadVar_row w g 28 28 cs fr _ hg Tryd.underlying28 rfl (by rw [infoFile, hn])]
  rfl
/-- What file answers. -/
def fileV (o : Option Fil) : Value := match o with
  | some f => .tuple #[.agg (arrF f), .bool true]
  | none => .tuple #[.agg (arrF zFil), .bool false]
set_option maxHeartbeats 4000000 in
theorem file_none (l : List UInt8) (hn : l.length ≤ 1000000) (w : World) (tab : QTab w) (h : ¬ idxB 0 l < l.length ∨ (l.drop (idxB 0 l + 1)).length < 40) :
    Calls Tryd.prog 25 #[.string ⟨l.toArray⟩] w fun e w' => e = .returned (.tuple #[.agg (arrF zFil), .bool false]) ∧ Below w.heap.size w w' := by
  obtain ⟨z, hz, hzs, hzv, hzb, hz1⟩ := zFile_any
  rw [← hz]
  have b0 := (Below.refl w.heap.size w).alloc (Nat.le_refl _) (.cells z 28)
  have C := CutB_is 0 l hn _ (tab.below b0)
  have H0 := Lib.hid (heap_alloc_new w (.cells z 28))
  have B0 := Lib.hid b0
  have IZ := Lib.hid (show (Tryd.prog.info? 28).map (·.size) = some z.size by rw [hzs]; exact infoFile)
  have HZB := Lib.hid hzb; have HZS := Lib.hid hzs; have HZ1 := Lib.hid hz1
  unfold cutV at C
  by_cases h1 : idxB 0 l < l.length
  · have h2 : (l.drop (idxB 0 l + 1)).length < 40 := h.resolve_left (fun q => q h1)
    rw [if_pos h1] at C
    obtain ⟨r, hr⟩ : ∃ r, l.drop (idxB 0 l + 1) = r := ⟨_, rfl⟩
    rw [hr] at C h2
    have hsz := size_toArray r
    have g1 : (r.length : Int) < 40 := by omega
    simp only at C
    generalize (⟨r.toArray⟩ : ByteArray) = sr at hsz C
    have C := Lib.hid C
    clear tab h h1 hz hzs hzb hz1 b0 hr h2
    go_enter Tryd.func25, Tryd.ntmps25
    go_wp2_with fail
    refine C.out.mono ?_
    rintro e u ⟨rfl, b⟩
    have B := Lib.hid (B0.out.trans (b.mono B0.out.size))
    have H1 := Lib.hid ((b.block _ (lt_of_heap H0.out)).trans H0.out)
    clear b
    go_wp2_with (first
      | (refine wpList_build_none rfl 28 rfl z HZB.out ?_)
      | (with_reducible refine wpList_store_all rfl 28 (.tmp 2) (.tmp 23) rfl w.heap.size z rfl rfl 28 z H1.out IZ.out rfl HZ1.out ?_)
      | fail)
    intro w4 r4 off4 sz4
    have B4 := Lib.hid (B.out.trans (off4.below (B := w.heap.size) (Nat.le_refl _) B.out.size))
    have R4 := Lib.hid r4
    clear r4 off4 sz4
    go_wp2_with fail
    exact bodyPost_ret (results_fil Tryd.results25 _ _ w.heap.size z (0, 0) (.bool false) rfl rfl R4.out HZS.out) rfl ⟨rfl, B4.out⟩
  · rw [if_neg h1] at C
    have C := Lib.hid C
    clear tab h h1 hz hzs hzb hz1 b0
    go_enter Tryd.func25, Tryd.ntmps25
    go_wp2_with fail
    refine C.out.mono ?_
    rintro e u ⟨rfl, b⟩
    have B := Lib.hid (B0.out.trans (b.mono B0.out.size))
    have H1 := Lib.hid ((b.block _ (lt_of_heap H0.out)).trans H0.out)
    clear b
    go_wp2_with (first
      | (refine wpList_build_none rfl 28 rfl z HZB.out ?_)
      | (with_reducible refine wpList_store_all rfl 28 (.tmp 2) (.tmp 23) rfl w.heap.size z rfl rfl 28 z H1.out IZ.out rfl HZ1.out ?_)
      | fail)
    intro w4 r4 off4 sz4
    have B4 := Lib.hid (B.out.trans (off4.below (B := w.heap.size) (Nat.le_refl _) B.out.size))
    have R4 := Lib.hid r4
    clear r4 off4 sz4
    go_wp2_with fail
    exact bodyPost_ret (results_fil Tryd.results25 _ _ w.heap.size z (0, 0) (.bool false) rfl rfl R4.out HZS.out) rfl ⟨rfl, B4.out⟩
end Go.Proofs.YtdgcjjledbnofaaDoor
