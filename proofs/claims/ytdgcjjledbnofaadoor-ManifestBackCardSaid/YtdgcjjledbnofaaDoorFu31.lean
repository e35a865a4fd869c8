/-
  Texts that belong together, one behind the other.
-/
import Derived.Test.YtdgcjjledbnofaaDoorFu17
import Derived.Test.YtdgcjjledbnofaaDoorFu25
import Derived.Test.YtdgcjjledbnofaaDoorFu07
import Derived.Test.YtdgcjjledbnofaaDoorFu16
/-
  Cut of Dx: an id of one byte.
-/
namespace Go.Proofs.YtdgcjjledbnofaaDoor
set_option maxRecDepth 20000
open Go.RowKit
set_option linter.unusedVariables false
set_option linter.unusedSimpArgs false

theorem built_id1 (k : UInt8) : Tryd.prog.built 26 [(0, .int .u8 k.toNat)] = some (arrD (k :: List.replicate 19 0)) := by kernel_rfl
end Go.Proofs.YtdgcjjledbnofaaDoor

/-
  Layer 16: the program does what a program that does nothing does not.
-/
namespace Go.Proofs.YtdgcjjledbnofaaDoor
set_option maxRecDepth 20000
open Go.RowKit
set_option linter.unusedVariables false
set_option linter.unusedSimpArgs false

def filW : Fil := ⟨[97], 2, 1 :: List.replicate 19 0⟩
def texW : List UInt8 := [97, 0, 48, 49, 48, 48, 48, 48, 48, 48, 48, 48, 48, 48, 48, 48, 48, 48, 48, 48, 48, 48, 48, 48, 48, 48, 48, 48, 48, 48, 48, 48, 48, 48, 48, 48, 48, 48, 48, 48, 48, 48, 120, 10]
theorem print_filW : printM [filW] = (texW, 0) := by decide +kernel
set_option maxHeartbeats 8000000 in
theorem awake16 (w : World) (tab : QTab w) : Calls Tryd.prog 6 #[] w fun e w' => e = .returned (.bool true) ∧ Below w.heap.size w w' := by
  obtain ⟨A1, hA1⟩ : ∃ A, arrD (1 :: List.replicate 19 0) = A := ⟨_, rfl⟩
  have BI := Lib.hid (show Tryd.prog.built 26 [(0, .int .u8 1)] = some A1 by rw [← hA1]; exact built_id1 1)
  obtain ⟨sA, hsA⟩ : ∃ s : ByteArray, (⟨#[97]⟩ : ByteArray) = s := ⟨_, rfl⟩
  obtain ⟨AF, hAF⟩ : ∃ A, arrF filW = A := ⟨_, rfl⟩
  have BF := Lib.hid (show Tryd.prog.built 28 [(0, .string sA), (1, .int .i64 2), (2, .agg A1)] = some AF by rw [← hsA, ← hA1, ← hAF]; exact built_fil 2 ⟨#[97]⟩ (1 :: List.replicate 19 0) rfl)
  have SF := Lib.hid (show AF.size = rowF.size by rw [← hAF]; exact arrF_size filW rfl)
  have b2 := (Below.refl w.heap.size w).alloc (Nat.le_refl _) (.cells AF rowF.ty)
  have h2 := heap_alloc_new w (.cells AF rowF.ty)
  obtain ⟨w2, hw2⟩ : ∃ w2, w.alloc (.cells AF rowF.ty) = w2 := ⟨_, rfl⟩
  rw [hw2] at b2 h2
  have hat2 : FilesAt w2 (some ⟨w.heap.size, 0, none⟩) [filW] := rowR_one (x := filW) goodF (h2.trans (by rw [← hAF]; rfl))
  have CP := mPrint_is (some ⟨w.heap.size, 0, none⟩) 1 1 [filW] w2 rfl (by unfold maxLen; decide) hat2 (fun f hf => by rw [List.mem_singleton.1 hf]; rfl) (fun f hf => by rw [List.mem_singleton.1 hf]; decide) (tab.below b2)
  rw [print_filW] at CP
  have CP := Lib.hid CP; have B2 := Lib.hid b2; have HSA := Lib.hid hsA; have HW2 := Lib.hid hw2
  clear tab b2 h2 hat2 hA1 hAF hw2
  go_enter Tryd.func6, Tryd.ntmps6
  rw [hsA]
  clear hsA
  go_wp2_with (first
    | (refine wpList_build_one rfl 26 0 _ rfl _ rfl A1 BI.out ?_)
    | (refine wpList_build_three rfl 28 0 1 2 _ _ _ rfl _ _ _ rfl rfl rfl AF BF.out ?_)
    | (with_reducible refine wpList_build_oneR goodF rfl (.tmp 5) rfl AF SF.out rfl ?_; rw [HW2.out])
    | fail)
  refine CP.out.mono ?_
  rintro e w3 ⟨v, rfl, ⟨a, c, rfl, hb, -, -, -⟩, b3⟩
  obtain ⟨bb, oo, rfl, -, hc⟩ := hb (by decide)
  have q0 := hc 0 (by decide)
  have q1 := hc 42 (by decide)
  rw [Nat.add_zero] at q0
  rw [show (texW[0]'(by decide)).toNat = 97 from rfl] at q0
  rw [show (texW[42]'(by decide)).toNat = 120 from rfl] at q1
  have B3 := Lib.hid (B2.out.trans (b3.mono B2.out.size))
  simp only [show texW.length = 44 from rfl]
  clear hc hb b3 CP
  go_wp2
  go_ret
  exact ⟨rfl, B3.out⟩
end Go.Proofs.YtdgcjjledbnofaaDoor

/-
  Files held against each other. (Made by tools/genfil13.py.)
-/
namespace Go.Proofs.YtdgcjjledbnofaaDoor
set_option maxRecDepth 20000
open Go.RowKit
set_option linter.unusedVariables false
set_option linter.unusedSimpArgs false

theorem file_part0 (xs : Array Value) (v : Value) (u : World) (h : xs[0]? = some v) : (part 9 xs 0).run Tryd.prog u = .ok v u := by
  simp [part, isAgg, run_underlying Tryd.underlying9, h]
theorem file_part1 (xs : Array Value) (v : Value) (u : World) (h : xs[1]? = some v) : (part 3 xs 1).run Tryd.prog u = .ok v u := by
  simp [part, isAgg, run_underlying Tryd.underlying3, h]
theorem file_part2 (i : Fil) (hid : i.id.length = 20) (u : World) : (part 26 (arrF i) 2).run Tryd.prog u = .ok (idv i.id) u := by
  have hs : (sizeOf 26).run Tryd.prog u = .ok 20 u := Tryd.sizeOf26 u
  have hl : (Lib.byteCells i.id).length = 20 := by simp [Lib.byteCells, hid]
  have e : ((arrF i).extract 2 (2 + 20)) = (Lib.byteCells i.id).toArray := by
    apply Array.ext'
    unfold arrF
    rw [Array.toList_extract]
    simp only [List.extract, cellsF]
    show ((Lib.byteCells i.id)).take 20 = _
    rw [List.take_of_length_le (by omega)]
  simp [part, isAgg, run_underlying Tryd.underlying26, hs, idv]
  simpa using e
theorem file_fields : ∃ f0 f1 f2 : Field, (Tryd.prog.fieldsOf 28).toList = [f0, f1, f2] ∧ (f0.type = 9 ∧ f0.offset = 0 ∧ (f0.name == "_") = false) ∧ (f1.type = 3 ∧ f1.offset = 1 ∧ (f1.name == "_") = false) ∧ (f2.type = 26 ∧ f2.offset = 2 ∧ (f2.name == "_") = false) := by
  have h : (Tryd.prog.fieldsOf 28).toList.map (fun f => (f.type, f.offset, f.name == "_")) = [(9, 0, false), (3, 1, false), (26, 2, false)] := by kernel_rfl
  generalize (Tryd.prog.fieldsOf 28).toList = fs at h ⊢
  rcases fs with _ | ⟨f0, _ | ⟨f1, _ | ⟨f2, _ | ⟨f3, fs⟩⟩⟩⟩
  · cases h
  · exact absurd (congrArg List.length h) (by simp)
  · exact absurd (congrArg List.length h) (by simp)
  · simp only [List.map_cons, List.map_nil, List.cons.injEq, Prod.mk.injEq, and_true] at h
    exact ⟨f0, f1, f2, rfl, h.1, h.2.1, h.2.2⟩
  · exact absurd (congrArg List.length h) (by simp)
/-- Two items alike. -/
def eqF (i j : Fil) : Bool := (i.path == j.path) && ((i.mode == j.mode) && (i.id == j.id))
theorem eqF_iff (i j : Fil) : eqF i j = true ↔ i = j := by
  cases i; cases j
  simp [eqF]
theorem eqF_same (i : Fil) : eqF i i = true := (eqF_iff i i).2 rfl
theorem file_under : Tryd.prog.underlying 28 = some (.struct (Tryd.prog.fieldsOf 28)) := by kernel_rfl
theorem equalIn_file (d : Nat) (i j : Fil) (hi : i.id.length = 20) (hj : j.id.length = 20) (w : World) : (Op.equalIn (d + 3) 28 (.agg (arrF i)) (.agg (arrF j))).run Tryd.prog w = .ok (eqF i j) w := by
  obtain ⟨f0, f1, f2, hf, ⟨a0, b0, c0⟩, ⟨a1, b1, c1⟩, ⟨a2, b2, c2⟩⟩ := file_fields
  have n0 : f0.name ≠ "_" := by intro e; rw [e] at c0; simp at c0
  have n1 : f1.name ≠ "_" := by intro e; rw [e] at c1; simp at c1
  have n2 : f2.name ≠ "_" := by intro e; rw [e] at c2; simp at c2
  have p0 := fun k u => file_part0 (arrF k) (.string ⟨k.path.toArray⟩) u rfl
  have p1 := fun k u => file_part1 (arrF k) (.int .i64 k.mode) u rfl
  have e0 := fun u => run_equalIn_string (P := Tryd.prog) u (d + 1) 9 ⟨i.path.toArray⟩ ⟨j.path.toArray⟩ Tryd.underlying9
  have e1 := fun u => run_equalIn_int (P := Tryd.prog) u (d + 1) 3 .i64 .i64 i.mode j.mode Tryd.underlying3
  have e2 : ∀ u, (Op.equalIn (d + 1 + 1) 26 (idv i.id) (idv j.id)).run Tryd.prog u = .ok (i.id == j.id) u := fun u => run_equalIn_bytes (P := Tryd.prog) u d 26 5 20 Tryd.underlying26 Tryd.underlying5 Tryd.sizeOf5 i.id j.id hi hj
  have p2 := fun u => file_part2 i hi u
  have p3 := fun u => file_part2 j hj u
  rw [run_equalIn_struct w (d + 2) 28 _ _ file_under (by kernel_rfl), hf]
  unfold eqF
  rw [toList_mk, toList_mk] at e0
  generalize (i.path == j.path) = x at e0 ⊢
  generalize (i.mode == j.mode) = y at e1 ⊢
  generalize (i.id == j.id) = z at e2 ⊢
  simp only [Op.eqFields, n0, n1, n2, ne_eq, not_false_eq_true, if_true, Sem.run_bind, a0, b0, a1, b1, a2, b2, p0, p1, p2, p3, Result.andThen_ok, e0, e1, e2]
  cases x <;> cases y <;> cases z <;> simp [e1, e2, p1, p2, p3]
theorem eql_file (i j : Fil) (hi : i.id.length = 20) (hj : j.id.length = 20) (w : World) : (binOp .eql 28 (.agg (arrF i)) (.agg (arrF j))).run Tryd.prog w = .ok (.bool (eqF i j)) w := by
  have h := equalIn_file 9997 i j hi hj w
  rw [run_eql_struct]
  rw [show Op.equalIn 10000 = Op.equalIn (9997 + 3) from rfl, h]
  rfl
theorem neq_file (i j : Fil) (hi : i.id.length = 20) (hj : j.id.length = 20) (w : World) : (binOp .neq 28 (.agg (arrF i)) (.agg (arrF j))).run Tryd.prog w = .ok (.bool (!eqF i j)) w := by
  have h := equalIn_file 9997 i j hi hj w
  rw [run_neq_struct]
  rw [show Op.equalIn 10000 = Op.equalIn (9997 + 3) from rfl, h]
  rfl
theorem info_arrF (a : Array Value) (h : a.size = 22) : (Tryd.prog.info? 28).map (·.size) = some a.size := by rw [h]; exact infoFile
end Go.Proofs.YtdgcjjledbnofaaDoor
