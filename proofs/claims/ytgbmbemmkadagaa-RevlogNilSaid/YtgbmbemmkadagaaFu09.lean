/-
  Texts that belong together, one behind the other.
-/
import Derived.Test.YtgbmbemmkadagaaFu01
import Derived.Great.BuildSlice
import Derived.OrdersHeld
import Derived.Laws.Tables
import Derived.Laws.StructEq
import Derived.Test.YtgbmbemmkadagaaFu07
import Derived.Deep.AppendSrc
import Derived.Deep.Upon
import Derived.Laws.AppendOwn
import Derived.Laws.Rows
/-
  A literal of a struct or an array.
-/
namespace Go.Proofs.Ytgbmbemmkadagaa
open Go.RowKit
set_option linter.unusedVariables false

/-- A literal of a struct or an array, its cells carried by a name. -/
theorem wpList_build_as {P : Program} {ops : Array Oper} {rest : List Oper} {o : Oper} {a : Act} {w : World} {Q : Exit → Act → World → Prop} (hgd : o.guard = none) (t : TypeId) (parts : Array (Nat × Operand)) (ho : o.op = .build t parts)
    (cells : Array Value) (hb : P.built t (parts.map fun (i, x) => (i, a.eval x)).toList = some cells)
    (h : wpList P ops Q rest (a.put o.dst (.agg cells)) w) : wpList P ops Q (o :: rest) a w :=
  wpList_plain hgd fun K hK => wp_build t parts ho (by rw [hb]; rfl) (by rw [hb]; exact hK _ _ h)
/-- The same, with one part. -/
theorem wpList_build_one {P : Program} {ops : Array Oper} {rest : List Oper} {o : Oper} {a : Act} {w : World} {Q : Exit → Act → World → Prop} (hgd : o.guard = none) (t : TypeId) (k : Nat) (x : Operand) (ho : o.op = .build t #[(k, x)])
    (v : Value) (hx : a.eval x = v) (cells : Array Value) (hb : P.built t [(k, v)] = some cells)
    (h : wpList P ops Q rest (a.put o.dst (.agg cells)) w) : wpList P ops Q (o :: rest) a w :=
  wpList_build_as hgd t #[(k, x)] ho cells (by simp [hx, hb]) h
/-- A literal of three parts, in a region that draws its order. -/
theorem yields_build3 {P : Program} {ops : Array Oper} {S : World → Prop} {o : Oper} {a : Act} (hw : Region.wanted o (yielded ops a.tmps) = true) (t : TypeId) (k0 k1 k2 : Nat) (x0 x1 x2 : Operand) (ho : o.op = .build t #[(k0, x0), (k1, x1), (k2, x2)])
    (v0 v1 v2 : Value) (h0 : a.eval x0 = v0) (h1 : a.eval x1 = v1) (h2 : a.eval x2 = v2) (cells : Array Value) (hb : P.built t [(k0, v0), (k1, v1), (k2, v2)] = some cells) : YieldsIf P ops S o (.agg cells) a :=
  .inl ⟨hw, fun u _ => by
    have hp : P.built t (#[(k0, x0), (k1, x1), (k2, x2)].map fun (i, x) => (i, a.eval x)).toList = some cells := by simp [h0, h1, h2, hb]
    unfold execOp
    simp only [ho, Sem.run_bind, run_build u t _ cells hp, Result.andThen_ok, Sem.run_pure]⟩
/-- Two structs held against each other, in a region that draws its order. -/
theorem yields_eql {P : Program} {ops : Array Oper} {S : World → Prop} {o : Oper} {a : Act} (hw : Region.wanted o (yielded ops a.tmps) = true) (t r : TypeId) (x y : Operand) (ho : o.op = .binOp .eql t x y r) (xs ys : Array Value) (hx : a.eval x = .agg xs) (hy : a.eval y = .agg ys)
    (hm : P.eqGuardType P.depth t = false) (b : Bool) (h : ∀ u, (binOp .eql t (.agg xs) (.agg ys)).run P u = .ok (.bool b) u) : YieldsIf P ops S o (.bool b) a :=
  .inl ⟨hw, fun u _ => by
    unfold execOp
    simp only [ho, hx, hy, Sem.run_bind, run_eqGuard_agg u .eql t x y xs ys hm, Result.andThen_ok, h, Sem.run_pure]⟩
end Go.Proofs.Ytgbmbemmkadagaa

/-
  Layer 4: rows of bytes that a tape holds, a tape's own block, and what a call of a tape may turn.
-/
namespace Go.Proofs.Ytgbmbemmkadagaa
open Go.RowKit
set_option linter.unusedVariables false

theorem byteCells_len (l : List UInt8) : (Lib.byteCells l).length = l.length := by simp [Lib.byteCells]
theorem byteCells_one (l : List UInt8) : ∀ u ∈ Lib.byteCells l, u.oneCell' = true := by
  intro u hu; simp [Lib.byteCells] at hu; obtain ⟨x, _, rfl⟩ := hu; rfl
theorem byteCells_take (l : List UInt8) (n : Nat) : (Lib.byteCells l).take n = Lib.byteCells (l.take n) := by simp [Lib.byteCells, List.map_take]

/-- The block that a slice can write into. -/
def foot : Value → Option Nat
  | .slice (some a) _ (_ + 1) => some a.block
  | _ => none
theorem foot_zero (a : Option Addr) (n : Nat) : foot (.slice a n 0) = none := by cases a <;> rfl
theorem foot_succ (a : Addr) (n c : Nat) : foot (.slice (some a) n (c + 1)) = some a.block := rfl

/-- The bytes l: at the head of a block without marks; or none, and no room. -/
def Row (w : World) (v : Value) (l : List UInt8) : Prop :=
  (∃ a, v = .slice a 0 0 ∧ l = []) ∨
  ∃ g cap cur, v = .slice (some ⟨g, 0, none⟩) l.length (cap + 1) ∧ w.heap[g]? = some (.cells cur 5 (0, 0)) ∧ l.length ≤ cap + 1 ∧ cap + 1 ≤ maxLen ∧ cur.size = cap + 1 ∧ cur.toList.take l.length = Lib.byteCells l
theorem Row.nil (w : World) (a : Option Addr) : Row w (.slice a 0 0) [] := .inl ⟨a, rfl, rfl⟩
theorem Row.lt {w : World} {v : Value} {l : List UInt8} (h : Row w v l) (g : Nat) (hg : foot v = some g) : g < w.heap.size := by
  rcases h with ⟨a, rfl, _⟩ | ⟨g', cap, cur, rfl, hh, _⟩
  · rw [foot_zero] at hg; cases hg
  · cases hg; exact (Array.getElem?_eq_some_iff.1 hh).1
theorem Row.keep {w w' : World} {v : Value} {l : List UInt8} (h : Row w v l) (hk : ∀ g, foot v = some g → w'.heap[g]? = w.heap[g]?) : Row w' v l := by
  rcases h with h | ⟨g', cap, cur, rfl, hh, r⟩
  · exact .inl h
  · exact .inr ⟨g', cap, cur, rfl, (hk g' rfl).trans hh, r⟩
theorem Row.chg {S : Nat → Prop} {w w' : World} {v : Value} {l : List UInt8} (h : Row w v l) (hc : Chg S w w') (hn : ∀ g, foot v = some g → ¬ S g) : Row w' v l :=
  h.keep fun g hg => hc.block g (h.lt g hg) (hn g hg)
theorem Row.shape {w : World} {v : Value} {l : List UInt8} (h : Row w v l) : ∃ a c, v = .slice a l.length c ∧ l.length ≤ c ∧ c ≤ maxLen ∧ BAt w a l ∧ (a = none → l.length = 0 ∧ c = 0) := by
  rcases h with ⟨a, rfl, rfl⟩ | ⟨g, cap, cur, rfl, hh, h1, h2, h3, h4⟩
  · exact ⟨a, 0, rfl, Nat.le_refl _, Nat.zero_le _, BAt.nil _ _, fun _ => ⟨rfl, rfl⟩⟩
  · refine ⟨_, _, rfl, h1, h2, fun hp => ⟨g, 0, rfl, (Array.getElem?_eq_some_iff.1 hh).1, fun i hi => ?_⟩, fun h => by cases h⟩
    have e : (cur.toList.take l.length)[i]? = (Lib.byteCells l)[i]? := by rw [h4]
    rw [List.getElem?_take, if_pos hi, byteCells_at, List.getElem?_eq_getElem hi] at e
    rw [Nat.zero_add, cell_of_row w g i cur _ _ hh, ← Array.getElem?_toList, e]; rfl
/-- Its first n bytes. -/
theorem Row.cut {w : World} {a : Option Addr} {c : Nat} {l : List UInt8} (h : Row w (.slice a l.length c) l) (n : Nat) (hn : n ≤ l.length) : Row w (.slice a n c) (l.take n) ∧ foot (.slice a n c) = foot (.slice a l.length c) := by
  have hlen : (l.take n).length = n := by rw [List.length_take]; omega
  rcases h with ⟨a', e, rfl⟩ | ⟨g, cap, cur, e, hh, h1, h2, h3, h4⟩
  · simp only [Value.slice.injEq, List.length_nil] at e
    obtain ⟨rfl, _, rfl⟩ := e
    obtain rfl : n = 0 := by simpa using hn
    exact ⟨by simpa using Row.nil w a, rfl⟩
  · simp only [Value.slice.injEq] at e
    obtain ⟨rfl, _, rfl⟩ := e
    refine ⟨.inr ⟨g, cap, cur, by rw [hlen], hh, by omega, h2, h3, ?_⟩, rfl⟩
    rw [hlen, ← byteCells_take, ← h4, List.take_take, Nat.min_eq_left hn]

theorem info_u8 : (Try.prog.info? 5).map (fun i => (i.zero, i.size, i.bytes)) = some (some (.int .u8 0), 1, 1) := by kernel_rfl
/-- What is appended: bytes behind an address, or none. -/
theorem src_of {w : World} {x : Option Addr} {n c : Nat} {m : List UInt8} (hx : BAt w x m) (hn : n = m.length) (hno : x = none → n = 0 ∧ c = 0) : Src Try.prog 1 32 (.slice x n c) n (Lib.byteCells m) w := by
  subst hn
  cases x with
  | none =>
    obtain ⟨h1, h2⟩ := hno rfl
    obtain rfl : m = [] := List.eq_nil_of_length_eq_zero h1
    exact Src.ofNil w Try.underlying32 c
  | some a =>
    refine Src.ofSlice w Try.underlying32 a m.length c (Lib.byteCells m) (by rw [byteCells_len, Nat.mul_one]) (fun j u hj => ?_) (byteCells_one m)
    have hlt : j < m.length := by
      rcases Nat.lt_or_ge j m.length with h' | h'
      · exact h'
      · rw [byteCells_at, List.getElem?_eq_none h'] at hj; cases hj
    obtain ⟨b, o, e, _, hc⟩ := hx (by omega)
    cases e
    rw [show (⟨b, o, none⟩ : Addr).add j = ⟨b, o + j, none⟩ by unfold Addr.add; split <;> simp_all, hc j hlt]
    rw [byteCells_at, List.getElem?_eq_getElem hlt] at hj
    simpa using hj
/-- What an append leaves: the row; what it may have written; its block is the old one or a new one. -/
def Appended (w : World) (v : Value) (l : List UInt8) (v' : Value) (w' : World) : Prop :=
  Row w' v' l ∧ w.grownBy w' (foot v) ∧ (foot v' = foot v ∨ foot v' = none ∨ foot v' = some w.heap.size)
theorem run_append_row {w : World} {v : Value} {l m : List UInt8} (h : Row w v l) {x : Option Addr} {n c : Nat} (hx : BAt w x m) (hn : n = m.length) (hno : x = none → n = 0 ∧ c = 0) (hb : l.length + m.length ≤ 1099511627776) (ty : TypeId) :
    ∃ v' w', (Builtin.append_ #[32, 32] ty #[v, .slice x n c]).run Try.prog w = .ok v' w' ∧ Appended w v (l ++ m) v' w' := by
  obtain ⟨i, hi, hz, hs, hby⟩ := info_parts info_u8
  have hsrc := src_of hx hn hno
  rw [← hs] at hsrc
  subst hn
  have hml : (Lib.byteCells m).length = m.length := byteCells_len m
  by_cases hm0 : m.length = 0
  · obtain rfl : m = [] := List.eq_nil_of_length_eq_zero hm0
    obtain ⟨a, c', rfl, hle, _, _, _⟩ := h.shape
    refine ⟨_, w, run_append_nothing w 32 32 ty 5 i Try.underlying32 hi a l.length c' hle _ (by simpa [Lib.byteCells] using hsrc), ?_, ⟨rfl, rfl, rfl, Nat.le_refl _, fun _ _ _ => rfl⟩, .inl rfl⟩
    rw [List.append_nil]; exact h
  · have grow : ∀ (base : Option Addr) (cap : Nat), cap < l.length + m.length → (Builtin.firstCells i.size l.length (.slice base l.length cap)).run Try.prog w.drew = .ok (Lib.byteCells l).toArray w.drew →
        ∃ v' w', (Builtin.append_ #[32, 32] ty #[.slice base l.length cap, .slice x m.length c]).run Try.prog w = .ok v' w' ∧ Row w' v' (l ++ m) ∧ w.grownBy w' (foot (.slice base l.length cap)) ∧ foot v' = some w.heap.size := by
      intro base cap hcap hold
      have hge := grownCap_ge w (l.length + m.length) cap 5
      have hcm : grownCap w (l.length + m.length) cap 5 ≤ maxLen := grownCap_le_maxLen w _ _ _ (by unfold maxLen; omega)
      have hr := run_append_grow_src w 32 32 ty 5 i (.int .u8 0) Try.underlying32 hi hz base l.length cap (Lib.byteCells l) hold (.slice x m.length c) m.length (Lib.byteCells m) hsrc hcap (by omega) (growslice_fits (by omega) (by rw [hby]; omega))
      refine ⟨_, _, hr, ?_, ⟨rfl, rfl, rfl, by simp, fun k hk _ => Below.heap_alloc w.drew _ k hk⟩, ?_⟩
      · obtain ⟨cap', hc'⟩ : ∃ cap', grownCap w (l.length + m.length) cap 5 = cap' + 1 := ⟨grownCap w (l.length + m.length) cap 5 - 1, by omega⟩
        rw [hc'] at hge hcm ⊢
        refine .inr ⟨w.heap.size, cap', _, by rw [List.length_append], heap_alloc_new w.drew _, by rw [List.length_append]; exact hge, hcm, ?_, ?_⟩
        · simp only [Array.size_append, List.size_toArray, size_zeroCells, List.length_append, byteCells_len, Value.cells]
          simp; omega
        · rw [List.length_append, ← Lib.byteCells_append]
          simp only [Array.toList_append]
          rw [← List.length_append, ← byteCells_len (l ++ m)]
          exact List.take_left
      · obtain ⟨cap', hc'⟩ : ∃ cap', grownCap w (l.length + m.length) cap 5 = cap' + 1 := ⟨grownCap w (l.length + m.length) cap 5 - 1, by omega⟩
        rw [hc', foot_succ]
    rcases h with ⟨a, rfl, rfl⟩ | ⟨g, cap, cur, rfl, hh, h1, h2, h3, h4⟩
    · obtain ⟨v', w', r1, r2, r3, r4⟩ := grow a 0 (by simp; omega) (by
        have e : (Lib.byteCells []).toArray = (#[] : Array Value) := rfl
        rw [e]
        cases a with
        | none => exact run_firstCells_none w.drew i.size 0 0 0
        | some ad => exact run_firstCells_some w.drew i.size 0 ad 0 0 [] (by simp) (fun j v hj => by simp at hj))
      exact ⟨v', w', r1, r2, r3, .inr (.inr r4)⟩
    · by_cases hroom : l.length + m.length ≤ cap + 1
      · have hfit : l.length * i.size + (Lib.byteCells m).length ≤ cur.size := by rw [hs, hml, h3]; omega
        have hcells : ∀ j, j < cap + 1 → (w.cell? ⟨g, j, none⟩).isSome = true := fun j hj => by
          rw [cell_of_row w g j cur _ _ hh, Array.getElem?_eq_getElem (by omega)]; rfl
        have hfz : ∀ j, w.frozen? ⟨g, j, none⟩ = false := fun j => by simp [World.frozen?, hh]
        have hr : (Builtin.append_ #[32, 32] ty #[.slice (some ⟨g, 0, none⟩) l.length (cap + 1), .slice x m.length c]).run Try.prog w = .ok (.slice (some ⟨g, 0, none⟩) (l.length + m.length) (cap + 1)) (w.setRow g (cur.toList.take (l.length * i.size) ++ Lib.byteCells m ++ cur.toList.drop (l.length * i.size + (Lib.byteCells m).length)).toArray) := by
          cases x with
          | none => exact absurd (hno rfl).1 hm0
          | some ad =>
            refine run_append_room w 32 ty 5 i Try.underlying32 hi g l.length (cap + 1) cur hh ad m.length c (Lib.byteCells m) (by rw [hs, hml, Nat.mul_one]) (fun j u hj => ?_) (byteCells_one m) hroom hfit
            have hlt : j < m.length := by
              rcases Nat.lt_or_ge j m.length with h' | h'
              · exact h'
              · rw [byteCells_at, List.getElem?_eq_none h'] at hj; cases hj
            obtain ⟨b, o, e, _, hc⟩ := hx (by omega)
            cases e
            rw [show (⟨b, o, none⟩ : Addr).add j = ⟨b, o + j, none⟩ by unfold Addr.add; split <;> simp_all, hc j hlt]
            rw [byteCells_at, List.getElem?_eq_getElem hlt] at hj
            simpa using hj
        refine ⟨_, _, hr, ?_, ⟨rfl, rfl, rfl, by simp, fun k _ hk => setRow_other w g k _ (fun e => hk (by rw [foot_succ, e]))⟩, .inl rfl⟩
        refine .inr ⟨g, cap, _, by rw [List.length_append], setRow_heap w g cur _ _ _ hh, by rw [List.length_append]; exact hroom, h2, ?_, ?_⟩
        · simp only [List.size_toArray, List.length_append, List.length_take, List.length_drop, Array.length_toList, hml, hs]
          omega
        · simp only [hs, Nat.mul_one]
          rw [h4, ← Lib.byteCells_append, ← byteCells_len (l ++ m)]
          exact List.take_left
      · obtain ⟨v', w', r1, r2, r3, r4⟩ := grow (some ⟨g, 0, none⟩) (cap + 1) (by omega) (by
          refine run_firstCells_some w.drew i.size l.length ⟨g, 0, none⟩ l.length (cap + 1) (Lib.byteCells l) (by rw [byteCells_len, hs, Nat.mul_one]) (fun j u hj => ?_)
          have hlt : j < l.length := by
            rcases Nat.lt_or_ge j l.length with h' | h'
            · exact h'
            · rw [byteCells_at, List.getElem?_eq_none h'] at hj; cases hj
          have e : (cur.toList.take l.length)[j]? = (Lib.byteCells l)[j]? := by rw [h4]
          rw [List.getElem?_take, if_pos hlt] at e
          show w.cell? _ = _
          rw [show (⟨g, 0, none⟩ : Addr).add j = ⟨g, j, none⟩ by unfold Addr.add; split <;> simp_all, cell_of_row w g j cur _ _ hh, ← Array.getElem?_toList, e, hj])
        exact ⟨v', w', r1, r2, r3, .inr (.inr r4)⟩
/-- The same, as a law for the walk. -/
theorem wpList_append_row {ops : Array Oper} {rest : List Oper} {o : Oper} {a : Act} {w : World} {Q : Exit → Act → World → Prop} (hgd : o.guard = none) (s y : Operand)
    (ho : o.op = .call { callee := .builtin .append, args := #[s, y], argTypes := #[32, 32] })
    (v : Value) (hs : a.eval s = v) (l m : List UInt8) (hrow : Row w v l) (x : Option Addr) (n c : Nat) (hy : a.eval y = .slice x n c) (hx : BAt w x m) (hn : n = m.length) (hno : x = none → n = 0 ∧ c = 0) (hb : l.length + m.length ≤ 1099511627776)
    (h : ∀ v' w', Appended w v (l ++ m) v' w' → wpList Try.prog ops Q rest (a.put o.dst v') w') : wpList Try.prog ops Q (o :: rest) a w := by
  obtain ⟨v', w', hr, hap⟩ := run_append_row hrow hx hn hno hb o.type
  refine wpList_plain hgd fun K hK => ?_
  unfold Oper.wp execOp
  simp only [ho, resolve, invoke, builtin, Sem.run_bind, Sem.run_pure, Result.andThen_ok, List.map_toArray, List.map_cons, List.map_nil, hs, hy, hr]
  exact hK _ _ (h v' w' hap)
end Go.Proofs.Ytgbmbemmkadagaa
