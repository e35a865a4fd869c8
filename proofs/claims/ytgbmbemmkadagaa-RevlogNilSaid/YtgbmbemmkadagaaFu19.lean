/-
  Texts that belong together, one behind the other.
-/
import Derived.Test.YtgbmbemmkadagaaFu17
import Derived.Test.YtgbmbemmkadagaaFu18
import Derived.Lib.Hide
import Derived.Deep.RegionHeld3
import Derived.Lib.Bytes
import Derived.IntWalk
import Derived.WalkSmall
import Derived.BigFrame
import Derived.Great.BuildSlice
import Derived.Great.FillDense
import Derived.Laws.AppendOwn
import Derived.OwnWalk
/-
  Layer 9: rows of ids: their cells, what a block holds.
-/
namespace Go.Proofs.Ytgbmbemmkadagaa
set_option maxRecDepth 20000
open Go.RowKit
set_option linter.unusedVariables false
set_option linter.unusedSimpArgs false

/-- An id's cells. -/
def cellsD (i : List UInt8) : List Value := Lib.byteCells i
theorem cellsD_len (i : List UInt8) (h : i.length = 20) : (cellsD i).length = 20 := by simp [cellsD, Lib.byteCells, h]
theorem cellsD_one (i : List UInt8) : (cellsD i).toArray.all (·.oneCell') = true := bc_all i
/-- An id's cells, as one array. -/
def arrD (i : List UInt8) : Array Value := (cellsD i).toArray
theorem idv_arrD (i : List UInt8) : idv i = .agg (arrD i) := rfl
theorem arrD_size (i : List UInt8) (h : i.length = 20) : (arrD i).size = 20 := by unfold arrD; rw [List.size_toArray, cellsD_len i h]
theorem arrD_one (i : List UInt8) : (arrD i).all (·.oneCell') = true := cellsD_one i
theorem infoD_n : (Try.prog.info? 24).map (·.size) = some 20 := by kernel_rfl
theorem infoD_arr (a : Array Value) (h : a.size = 20) : (Try.prog.info? 24).map (·.size) = some a.size := by rw [h]; exact infoD_n
theorem zIdD : (Try.prog.info? 24).map (fun i => (i.zero, i.size)) = some (some (.agg (arrD idZ)), 20) := by kernel_rfl
/-- Two ids alike. -/
def eqD (i j : List UInt8) : Bool := i == j
theorem eqD_iff (i j : List UInt8) : eqD i j = true ↔ i = j := by unfold eqD; exact beq_iff_eq
theorem eqD_same (i : List UInt8) : eqD i i = true := (eqD_iff i i).2 rfl
theorem eql_arrD (i j : List UInt8) (hi : i.length = 20) (hj : j.length = 20) (w : World) : (binOp .eql 24 (.agg (arrD i)) (.agg (arrD j))).run Try.prog w = .ok (.bool (eqD i j)) w := eql_idv w i j hi hj
theorem neq_arrD (i j : List UInt8) (hi : i.length = 20) (hj : j.length = 20) (w : World) : (binOp .neq 24 (.agg (arrD i)) (.agg (arrD j))).run Try.prog w = .ok (.bool (!eqD i j)) w := neq_idv w i j hi hj
/-- Ids, one behind the other. -/
def IdsAt (w : World) (a : Option Addr) (l : List (List UInt8)) : Prop :=
  0 < l.length → ∃ b o, a = some ⟨b, o, none⟩ ∧ b < w.heap.size ∧ ∀ k (h : k < l.length) j v, (cellsD l[k])[j]? = some v → w.cell? ⟨b, o + k * 20 + j, none⟩ = some v
theorem IdsAt.keep {w w' : World} {a : Option Addr} {l : List (List UInt8)} (h : IdsAt w a l) (b : Below w.heap.size w w') : IdsAt w' a l := fun hp => by
  obtain ⟨g, o, h1, h2, h3⟩ := h hp
  exact ⟨g, o, h1, Nat.lt_of_lt_of_le h2 b.size, fun k hk j v hv => (b.cell (p := ⟨g, o + k * 20 + j, none⟩) h2).trans (h3 k hk j v hv)⟩
theorem IdsAt.nil (w : World) (a : Option Addr) : IdsAt w a [] := fun h => absurd h (Nat.lt_irrefl 0)
theorem IdsAt.take {w : World} {a : Option Addr} {l : List (List UInt8)} (h : IdsAt w a l) (n : Nat) : IdsAt w a (l.take n) := fun hp => by
  have hp2 : 0 < l.length := by rw [List.length_take] at hp; omega
  obtain ⟨g, o, h1, h2, h3⟩ := h hp2
  refine ⟨g, o, h1, h2, fun k hk j v hv => ?_⟩
  rw [List.length_take] at hk
  rw [List.getElem_take] at hv
  exact h3 k (by omega) j v hv
theorem load_cellsD {w : World} {b o : Nat} (l : List Value) (n : Nat) (hn : n = l.length) (h : ∀ j v, l[j]? = some v → w.cell? ⟨b, o + j, none⟩ = some v) : (loadCellsFrom ⟨b, o, none⟩ 0 n #[]).run Try.prog w = .ok l.toArray w := by
  subst hn
  have := run_loadCells_list (P := Try.prog) w ⟨b, o, none⟩ l (fun j v hv => by
    rw [show (⟨b, o, none⟩ : Addr).add j = ⟨b, o + j, none⟩ by unfold Addr.add; split <;> simp_all]
    exact h j v hv)
  simpa [loadCells] using this
/-- An item's cells in a block of its own. -/
theorem row_cellsD {w : World} {g : Nat} {i : List UInt8} {t : TypeId} {fr : Nat × Nat} (h : w.heap[g]? = some (.cells (cellsD i).toArray t fr)) : ∀ j v, (cellsD i)[j]? = some v → w.cell? ⟨g, 0 + j, none⟩ = some v := fun j v hv => by
  rw [Nat.zero_add, Lib.cell_of_heap h, ← hv]
  simp

end Go.Proofs.Ytgbmbemmkadagaa

/-
  Layer 9: rows of ids that a call owns.
-/
namespace Go.Proofs.Ytgbmbemmkadagaa
set_option maxRecDepth 20000
open Go.RowKit
set_option linter.unusedVariables false
set_option linter.unusedSimpArgs false

/-- A row of ids that a call owns. -/
abbrev OwnD (B : Nat) (v : Value) (l : List (List UInt8)) (w : World) : Prop := w.ownsRow B 24 20 v l.length (l.flatMap cellsD)
theorem ownD_nil (w : World) (B : Nat) : OwnD B (.slice none 0 0) [] w := World.ownsRow_nil w B _ _
theorem ownD_below {B : Nat} {v : Value} {l : List (List UInt8)} {w w' : World} (h : OwnD B v l w) (hb : Below w.heap.size w w') : OwnD B v l w' :=
  World.ownsRow.kept (row := none) h ⟨hb.os, hb.tape, hb.output, hb.size, fun k hk _ => hb.block k hk⟩ (by cases v.ownBlock <;> simp)
theorem flatD_at : ∀ (l : List (List UInt8)) (hid : ∀ i ∈ l, i.length = 20) (k : Nat) (h : k < l.length) (j : Nat) (v : Value), (cellsD l[k])[j]? = some v → (l.flatMap cellsD)[k * 20 + j]? = some v
  | [], _, k, h, _, _, _ => absurd h (Nat.not_lt_zero _)
  | i :: l, hid, 0, h, j, v, hv => by
    have hj : j < (cellsD i).length := (List.getElem?_eq_some_iff.1 hv).1
    rw [List.flatMap_cons, Nat.zero_mul, Nat.zero_add, List.getElem?_append_left hj]
    exact hv
  | i :: l, hid, k + 1, h, j, v, hv => by
    have hl := cellsD_len i (hid i (by simp))
    rw [List.flatMap_cons, List.getElem?_append_right (by omega), hl, show (k + 1) * 20 + j - 20 = k * 20 + j by omega]
    exact flatD_at l (fun x hx => hid x (by simp [hx])) k (by simpa using h) j v hv
theorem flatD_len (l : List (List UInt8)) (hid : ∀ i ∈ l, i.length = 20) : (l.flatMap cellsD).length = l.length * 20 := by
  induction l with
  | nil => rfl
  | cons i l ih =>
    rw [List.flatMap_cons, List.length_append, cellsD_len i (hid i (by simp)), ih (fun x hx => hid x (by simp [hx])), List.length_cons]
    omega
theorem ownD_ids {B : Nat} {v : Value} {l : List (List UInt8)} {w : World} (h : OwnD B v l w) (hid : ∀ i ∈ l, i.length = 20) : ∃ a c, v = .slice a l.length c ∧ l.length ≤ c ∧ c ≤ maxLen ∧ IdsAt w a l ∧ (a = none → l.length = 0 ∧ c = 0) := by
  rcases h.2 with ⟨hv, h0⟩ | ⟨g, cap, cur, hv, hB, hg, hc, hm, _, _⟩
  · obtain rfl : l = [] := List.eq_nil_of_length_eq_zero h0
    exact ⟨none, 0, hv, Nat.le_refl _, Nat.zero_le _, IdsAt.nil w _, fun _ => ⟨rfl, rfl⟩⟩
  · have hcs := World.ownsRow.cells h (g := g) (by rw [hv]; rfl)
    refine ⟨_, cap, hv, hc, hm, fun _ => ⟨g, 0, rfl, (Array.getElem?_eq_some_iff.1 hg).1, fun k hk j u hu => ?_⟩, fun e => by cases e⟩
    have := hcs (k * 20 + j) u (flatD_at l hid k hk j u hu)
    rw [show (⟨g, 0, none⟩ : Addr).add (k * 20 + j) = ⟨g, 0 + k * 20 + j, none⟩ by unfold Addr.add; split <;> simp_all] at this
    exact this
theorem infoD : (Try.prog.info? 24).map (fun i => (i.zero, i.size)) = some (some (.agg (arrD idZ)), 20) := zIdD
theorem infoD_b : (Try.prog.info? 24).map (fun i => i.bytes) = some 20 := by kernel_rfl
theorem infoD_all : ∃ ie, Try.prog.info? 24 = some ie ∧ ie.zero = some (.agg (arrD idZ)) ∧ ie.size = 20 ∧ ie.bytes = 20 := by
  have h1 := infoD
  have h2 := infoD_b
  cases hq : Try.prog.info? 24 with
  | none => rw [hq] at h1; cases h1
  | some ie =>
    rw [hq] at h1 h2
    simp only [Option.map_some, Option.some.injEq, Prod.mk.injEq] at h1 h2
    exact ⟨ie, rfl, h1.1, h1.2, h2⟩
theorem fillD_one (A z : Array Value) (hA : A.size = 20) (hz : z.size = 20) : Instr.fill (fun i => some (i * 20, 20)) z [(0, .agg A)] = some A := by
  have h := Great.fill_whole (s := 20) (by decide) [.agg A] z (fun v hv => by simp at hv; subst hv; exact hA) (by simp [hz])
  simpa [Value.cells] using h
/-- A literal of one id: a block of its own. -/
theorem wpList_build_idD {ops : Array Oper} {rest : List Oper} {o : Oper} {a : Act} {w : World} {Q : Exit → Act → World → Prop} (hgd : o.guard = none) (x : Operand) (ho : o.op = .buildSlice 63 1 #[(0, x)])
    (A : Array Value) (hA : A.size = 20) (hx : a.eval x = .agg A)
    (h : wpList Try.prog ops Q rest (a.put o.dst (.slice (some ⟨w.heap.size, 0, none⟩) 1 1)) (w.alloc (.cells A 24))) : wpList Try.prog ops Q (o :: rest) a w := by
  obtain ⟨ie, hie, hz, hs, _⟩ := infoD_all
  have hzs : (arrD idZ).size = 20 := arrD_size _ (by simp [idZ])
  refine wpList_buildSlice hgd 63 24 1 _ ho A ie (.agg (arrD idZ)) Try.underlying63 hie hz (by rw [hs]; decide) (by rw [hs]; decide) ?_ h
  rw [hs]
  have e : (Array.map (fun (p : Nat × Operand) => (p.1, a.eval p.2)) #[(0, x)]).toList = [(0, .agg A)] := by simp [hx]
  rw [show (fun (p : Nat × Operand) => match p with | (i, x) => (i, a.eval x)) = (fun (p : Nat × Operand) => (p.1, a.eval p.2)) from rfl, e]
  exact fillD_one A _ hA (by simp)
/-- 'append(l, x)'. -/
theorem wpList_append_idD {ops : Array Oper} {rest : List Oper} {o : Oper} {a : Act} {w : World} {Q : Exit → Act → World → Prop} (hgd : o.guard = none) (sl x : Operand)
    (ho : o.op = .call { callee := .builtin .append, args := #[sl, x], argTypes := #[63, 63] }) (B : Nat) (v : Value) (l : List (List UInt8)) (i : List UInt8) (g : Nat) (A : Array Value) (hA : A = arrD i) (hs : a.eval sl = v) (hx : a.eval x = .slice (some ⟨g, 0, none⟩) 1 1)
    (hg : w.heap[g]? = some (.cells A 24 (0, 0))) (hid : i.length = 20) (hown : OwnD B v l w) (hb : l.length ≤ 1000000000) (hB : B ≤ w.heap.size)
    (h : ∀ v' w', OwnD B v' (l ++ [i]) w' → w.grownBy w' v.ownBlock → wpList Try.prog ops Q rest (a.put o.dst v') w') : wpList Try.prog ops Q (o :: rest) a w := by
  obtain ⟨ie, hie, hz, hsz, hby⟩ := infoD_all
  refine wpList_append_own w hgd sl x 63 ho B 24 ie (.agg (arrD idZ)) 20 20 Try.underlying63 hie hz hsz hby (arrD_size _ (by simp [idZ])) (by decide) v l.length (l.flatMap cellsD) hs hown ⟨g, 0, none⟩ 1 1 (cellsD i) hx (by rw [cellsD_len i hid]) (fun j u hu => ?_) (fun u hu => (Array.all_eq_true_iff_forall_mem.1 (cellsD_one i)) u (by simpa using hu)) (by unfold maxLen; omega) (by omega) hB ?_
  · have := row_cellsD (i := i) (by rw [hA] at hg; exact hg) j u hu
    rw [show (⟨g, 0, none⟩ : Addr).add j = ⟨g, 0 + j, none⟩ by unfold Addr.add; split <;> simp_all]
    exact this
  · intro v' w' ho hgr _
    refine h v' w' ?_ hgr
    unfold OwnD
    rw [List.length_append, List.flatMap_append]
    simpa using ho
end Go.Proofs.Ytgbmbemmkadagaa
