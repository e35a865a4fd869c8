/-
  Layer 1: Unhex and Id, whatever the text, of the program and of its reference in one form.
-/
import Derived.Test.YtgjfaiidnloicaaDoorHi
import Derived.Stop.BytesEq
namespace Go.Proofs.YtgjfaiidnloicaaDoor
open Go.RowKit
set_option linter.unusedVariables false

/-- The bytes, and the error, of any text. -/
def uR (l : List UInt8) : List UInt8 × Int := match unhexL l with
  | none => ([], 4)
  | some t => (t, 0)
theorem uR_len (l : List UInt8) : (uR l).1.length ≤ l.length := by
  unfold uR
  cases h : unhexL l with
  | none => simp
  | some t => have := (unhex_spec _ _ _ (Nat.le_refl _) h).1; simp; omega
theorem Unhex_all (l : List UInt8) (hl : l.length ≤ 1000000) (w : World) :
    Calls Tryd.prog 10 #[.string ⟨l.toArray⟩] w fun e w' => ∃ g c, e = .returned (.tuple #[.slice g (uR l).1.length c, .int .i64 (uR l).2]) ∧ BAt w' g (uR l).1 ∧ (uR l).1.length ≤ c ∧ Below w.heap.size w w' := by
  unfold uR
  cases h : unhexL l with
  | none =>
    refine (Unhex_none ⟨l.toArray⟩ w (by rw [size_toArray]; omega) h).mono ?_
    rintro e w' ⟨rfl, hb⟩
    exact ⟨none, 0, rfl, BAt.nil _ _, Nat.le_refl _, hb⟩
  | some t =>
    refine (Unhex_some ⟨l.toArray⟩ t w (by rw [size_toArray]; omega) h).mono ?_
    rintro e w' ⟨g, c, rfl, hbat, hc, _, hb⟩
    exact ⟨g, c, rfl, hbat, hc, hb⟩
theorem rUnhex_all (l : List UInt8) (hl : l.length ≤ 1000000) (w : World) :
    Calls Tryd.prog 11 #[.string ⟨l.toArray⟩] w fun e w' => ∃ g c, e = .returned (.tuple #[.slice g (uR l).1.length c, .int .i64 (uR l).2]) ∧ BAt w' g (uR l).1 ∧ (uR l).1.length ≤ c ∧ Below w.heap.size w w' := by
  unfold uR
  cases h : unhexL l with
  | none =>
    refine (rUnhex_none ⟨l.toArray⟩ w (by rw [size_toArray]; omega) h).mono ?_
    rintro e w' ⟨rfl, hb⟩
    exact ⟨none, 0, rfl, BAt.nil _ _, Nat.le_refl _, hb⟩
  | some t =>
    refine (rUnhex_some ⟨l.toArray⟩ t w (by rw [size_toArray]; omega) h).mono ?_
    rintro e w' ⟨g, c, rfl, hbat, hc, _, hb⟩
    exact ⟨g, c, rfl, hbat, hc, hb⟩
/-- The id, and the error, of any text. -/
def idR (l : List UInt8) : List UInt8 × Int := match unhexL l with
  | none => (List.replicate 20 0, 4)
  | some t => if t.length = 20 then (t, 0) else (List.replicate 20 0, 4)
theorem idR_len (l : List UInt8) : (idR l).1.length = 20 := by
  unfold idR
  cases unhexL l with
  | none => simp
  | some t =>
    simp only
    split
    · assumption
    · simp
theorem idR_bad (l : List UInt8) (h : l.length ≠ 40) : idR l = (List.replicate 20 0, 4) := by
  unfold idR
  cases hu : unhexL l with
  | none => rfl
  | some t => have := (unhex_spec _ _ _ (Nat.le_refl _) hu).1; simp only; rw [if_neg (by omega)]
theorem Id_all (l : List UInt8) (hl : l.length ≤ 1000000) (w : World) :
    Calls Tryd.prog 12 #[.string ⟨l.toArray⟩] w fun e w' => e = .returned (.tuple #[idv (idR l).1, .int .i64 (idR l).2]) ∧ Below w.heap.size w w' := by
  by_cases h40 : l.length = 40
  · unfold idR
    cases h : unhexL l with
    | none => exact Id_bad ⟨l.toArray⟩ w (by rw [size_toArray]; exact h40) h
    | some t =>
      have := (unhex_spec _ _ _ (Nat.le_refl _) h).1
      simp only
      rw [if_pos (by omega)]
      exact Id_good ⟨l.toArray⟩ t w (by rw [size_toArray]; exact h40) h
  · rw [idR_bad l h40]
    exact Id_len ⟨l.toArray⟩ w (by rw [size_toArray]; omega) (by rw [size_toArray]; exact h40)
theorem rId_all (l : List UInt8) (hl : l.length ≤ 1000000) (w : World) :
    Calls Tryd.prog 13 #[.string ⟨l.toArray⟩] w fun e w' => e = .returned (.tuple #[idv (idR l).1, .int .i64 (idR l).2]) ∧ Below w.heap.size w w' := by
  unfold idR
  cases h : unhexL l with
  | none => exact rId_none ⟨l.toArray⟩ w (by rw [size_toArray]; omega) h
  | some t =>
    simp only
    by_cases ht : t.length = 20
    · rw [if_pos ht]; exact rId_good ⟨l.toArray⟩ t w (by rw [size_toArray]; omega) h ht
    · rw [if_neg ht]; exact rId_len ⟨l.toArray⟩ t w (by rw [size_toArray]; omega) h ht

/-- A whole array out of a block, where the operation is guarded and its guard says yes. -/
theorem wpList_load_guard {P : Program} {ops : Array Oper} {rest : List Oper} {o : Oper} {a : Act} {w : World} {Q : Exit → Act → World → Prop} (hgd : Region.wanted o (yielded ops a.tmps) = true) (ty : TypeId) (x : Operand) (ho : o.op = .load ty x)
    (g : Nat) (hx : a.eval x = .pointer (some ⟨g, 0, none⟩)) (t : TypeId) (cs : Array Value) (fr : Nat × Nat) (d : TypeDesc) (hg : w.heap[g]? = some (.cells cs t fr))
    (hu : P.underlying ty = some d) (hd : (match d with | .struct _ | .array _ _ => true | _ => false) = true) (hi : (P.info? ty).map (·.size) = some cs.size)
    (h : wpList P ops Q rest (a.put o.dst (.agg cs)) w) : wpList P ops Q (o :: rest) a w := by
  unfold wpList
  rw [if_pos hgd]
  exact .inl (wp_load_row ty x ho g hx t cs fr d hg hu hd hi h)

/-- An array of twenty bytes, as the walks carry it: written out nowhere. -/
structure Arr20 (arr : Array Value) (l : List UInt8) : Prop where
  eq : arr = (Lib.byteCells l).toArray
  len : l.length = 20
theorem Arr20.size {arr : Array Value} {l : List UInt8} (h : Arr20 arr l) : arr.size = 20 := by rw [h.eq, size_bytes, h.len]
theorem Arr20.one {arr : Array Value} {l : List UInt8} (h : Arr20 arr l) : arr.all (·.oneCell') = true := by rw [h.eq]; exact oneCell_all l
theorem Arr20.eql {arr brr : Array Value} {l m : List UInt8} (h : Arr20 arr l) (k : Arr20 brr m) (w : World) : (binOp .eql 29 (.agg arr) (.agg brr)).run Tryd.prog w = .ok (.bool (l == m)) w := by
  rw [h.eq, k.eq]
  exact run_eql_bytes w 29 5 20 Tryd.underlying29 Tryd.underlying5 Tryd.sizeOf5 l m h.len k.len
theorem Arr20.store {arr : Array Value} {l : List UInt8} (h : Arr20 arr l) (w : World) : (storeCells ⟨w.heap.size, 0, none⟩ arr.toList 0).run Tryd.prog (w.alloc (.cells zero20 29)) = .ok () (w.alloc (.cells arr 29)) :=
  run_storeCells_new w 29 zero20 arr (by rw [info29, h.size]) (by rw [h.size]; rfl) h.one
theorem Arr20.load {arr : Array Value} {l : List UInt8} (h : Arr20 arr l) {w : World} {g : Nat} {fr : Nat × Nat} (hg : w.heap[g]? = some (.cells arr 29 fr)) : (loadCellsFrom ⟨g, 0, none⟩ 0 20 #[]).run Tryd.prog w = .ok arr w := by
  have := run_loadCells_list (P := Tryd.prog) w ⟨g, 0, none⟩ arr.toList (fun j v hv => by
    have hadd : (⟨g, 0, none⟩ : Addr).add j = ⟨g, j, none⟩ := by unfold Addr.add; split <;> simp_all
    rw [hadd, cell_of_row _ _ j arr 29 fr hg]
    simpa using hv)
  have e : arr.toList.length = 20 := by rw [Array.length_toList, h.size]
  rw [e] at this
  simpa [loadCells] using this
end Go.Proofs.YtgjfaiidnloicaaDoor
