/-
  Texts that belong together, one behind the other.
-/
import Derived.Test.YtdgcjjledbnofaaDoorFu02
import Derived.Test.YtdgcjjledbnofaaDoorFu15
import Derived.Deep.AppendSrc
import Derived.Deep.Upon
import Derived.Laws.AppendOwn
import Derived.Laws.Rows
import Derived.Laws.Tables
import Derived.Laws.IdiomStrings
import Derived.Lib.FrozenHead2
import Derived.Test.YtdgcjjledbnofaaDoorFu25
import Derived.Test.YtdgcjjledbnofaaDoorFu27
/-
  Layer 4: rows of bytes that a tape holds, a tape's own block, and what a call of a tape may turn.
-/
namespace Go.Proofs.YtdgcjjledbnofaaDoor
open Go.RowKit
set_option linter.unusedVariables false

theorem byteCells_len (l : List UInt8) : (Lib.byteCells l).length = l.length := by simp [Lib.byteCells]
theorem byteCells_one (l : List UInt8) : ∀ u ∈ Lib.byteCells l, u.oneCell' = true := by
  intro u hu; simp [Lib.byteCells] at hu; obtain ⟨x, _, rfl⟩ := hu; rfl
theorem byteCells_take (l : List UInt8) (n : Nat) : (Lib.byteCells l).take n = Lib.byteCells (l.take n) := by simp [Lib.byteCells, List.map_take]

/-- The block that a slice can write into. -/
def foot : Value → Option Nat
  | .slice (some a) _ (_ + 1) => some a.block
  | _ => none
theorem foot_zero (a : Option Addr) (n : Nat) : foot (.slice a n 0) = none := by cases a <;> rfl
theorem foot_succ (a : Addr) (n c : Nat) : foot (.slice (some a) n (c + 1)) = some a.block := rfl

/-- The bytes l: at the head of a block without marks; or none, and no room. -/
def Row (w : World) (v : Value) (l : List UInt8) : Prop :=
  (∃ a, v = .slice a 0 0 ∧ l = []) ∨
  ∃ g cap cur, v = .slice (some ⟨g, 0, none⟩) l.length (cap + 1) ∧ w.heap[g]? = some (.cells cur 5 (0, 0)) ∧ l.length ≤ cap + 1 ∧ cap + 1 ≤ maxLen ∧ cur.size = cap + 1 ∧ cur.toList.take l.length = Lib.byteCells l
theorem Row.nil (w : World) (a : Option Addr) : Row w (.slice a 0 0) [] := .inl ⟨a, rfl, rfl⟩
theorem Row.lt {w : World} {v : Value} {l : List UInt8} (h : Row w v l) (g : Nat) (hg : foot v = some g) : g < w.heap.size := by
  rcases h with ⟨a, rfl, _⟩ | ⟨g', cap, cur, rfl, hh, _⟩
  · rw [foot_zero] at hg; cases hg
  · cases hg; exact (Array.getElem?_eq_some_iff.1 hh).1
theorem Row.keep {w w' : World} {v : Value} {l : List UInt8} (h : Row w v l) (hk : ∀ g, foot v = some g → w'.heap[g]? = w.heap[g]?) : Row w' v l := by
  rcases h with h | ⟨g', cap, cur, rfl, hh, r⟩
  · exact .inl h
  · exact .inr ⟨g', cap, cur, rfl, (hk g' rfl).trans hh, r⟩
theorem Row.chg {S : Nat → Prop} {w w' : World} {v : Value} {l : List UInt8} (h : Row w v l) (hc : Chg S w w') (hn : ∀ g, foot v = some g → ¬ S g) : Row w' v l :=
  h.keep fun g hg => hc.block g (h.lt g hg) (hn g hg)
theorem Row.shape {w : World} {v : Value} {l : List UInt8} (h : Row w v l) : ∃ a c, v = .slice a l.length c ∧ l.length ≤ c ∧ c ≤ maxLen ∧ BAt w a l ∧ (a = none → l.length = 0 ∧ c = 0) := by
  rcases h with ⟨a, rfl, rfl⟩ | ⟨g, cap, cur, rfl, hh, h1, h2, h3, h4⟩
  · exact ⟨a, 0, rfl, Nat.le_refl _, Nat.zero_le _, BAt.nil _ _, fun _ => ⟨rfl, rfl⟩⟩
  · refine ⟨_, _, rfl, h1, h2, fun hp => ⟨g, 0, rfl, (Array.getElem?_eq_some_iff.1 hh).1, fun i hi => ?_⟩, fun h => by cases h⟩
    have e : (cur.toList.take l.length)[i]? = (Lib.byteCells l)[i]? := by rw [h4]
    rw [List.getElem?_take, if_pos hi, byteCells_at, List.getElem?_eq_getElem hi] at e
    rw [Nat.zero_add, cell_of_row w g i cur _ _ hh, ← Array.getElem?_toList, e]; rfl
/-- Its first n bytes. -/
theorem Row.cut {w : World} {a : Option Addr} {c : Nat} {l : List UInt8} (h : Row w (.slice a l.length c) l) (n : Nat) (hn : n ≤ l.length) : Row w (.slice a n c) (l.take n) ∧ foot (.slice a n c) = foot (.slice a l.length c) := by
  have hlen : (l.take n).length = n := by rw [List.length_take]; omega
  rcases h with ⟨a', e, rfl⟩ | ⟨g, cap, cur, e, hh, h1, h2, h3, h4⟩
  · simp only [Value.slice.injEq, List.length_nil] at e
    obtain ⟨rfl, _, rfl⟩ := e
    obtain rfl : n = 0 := by simpa using hn
    exact ⟨by simpa using Row.nil w a, rfl⟩
  · simp only [Value.slice.injEq] at e
    obtain ⟨rfl, _, rfl⟩ := e
    refine ⟨.inr ⟨g, cap, cur, by rw [hlen], hh, by omega, h2, h3, ?_⟩, rfl⟩
    rw [hlen, ← byteCells_take, ← h4, List.take_take, Nat.min_eq_left hn]

theorem info_u8 : (Tryd.prog.info? 5).map (fun i => (i.zero, i.size, i.bytes)) = some (some (.int .u8 0), 1, 1) := by kernel_rfl
/-- What is appended: bytes behind an address, or none. -/
theorem src_of {w : World} {x : Option Addr} {n c : Nat} {m : List UInt8} (hx : BAt w x m) (hn : n = m.length) (hno : x = none → n = 0 ∧ c = 0) : Src Tryd.prog 1 23 (.slice x n c) n (Lib.byteCells m) w := by
  subst hn
  cases x with
  | none =>
    obtain ⟨h1, h2⟩ := hno rfl
    obtain rfl : m = [] := List.eq_nil_of_length_eq_zero h1
    exact Src.ofNil w Tryd.underlying23 c
  | some a =>
    refine Src.ofSlice w Tryd.underlying23 a m.length c (Lib.byteCells m) (by rw [byteCells_len, Nat.mul_one]) (fun j u hj => ?_) (byteCells_one m)
    have hlt : j < m.length := by
      rcases Nat.lt_or_ge j m.length with h' | h'
      · exact h'
      · rw [byteCells_at, List.getElem?_eq_none h'] at hj; cases hj
    obtain ⟨b, o, e, _, hc⟩ := hx (by omega)
    cases e
    rw [show (⟨b, o, none⟩ : Addr).add j = ⟨b, o + j, none⟩ by unfold Addr.add; split <;> simp_all, hc j hlt]
    rw [byteCells_at, List.getElem?_eq_getElem hlt] at hj
    simpa using hj
/-- What an append leaves: the row; what it may have written; its block is the old one or a new one. -/
def Appended (w : World) (v : Value) (l : List UInt8) (v' : Value) (w' : World) : Prop :=
  Row w' v' l ∧ w.grownBy w' (foot v) ∧ (foot v' = foot v ∨ foot v' = none ∨ foot v' = some w.heap.size)
theorem run_append_row {w : World} {v : Value} {l m : List UInt8} (h : Row w v l) {x : Option Addr} {n c : Nat} (hx : BAt w x m) (hn : n = m.length) (hno : x = none → n = 0 ∧ c = 0) (hb : l.length + m.length ≤ 1099511627776) (ty : TypeId) :
    ∃ v' w', (Builtin.append_ #[23, 23] ty #[v, .slice x n c]).run Tryd.prog w = .ok v' w' ∧ Appended w v (l ++ m) v' w' := by
  obtain ⟨i, hi, hz, hs, hby⟩ := info_parts info_u8
  have hsrc := src_of hx hn hno
  rw [← hs] at hsrc
  subst hn
  have hml : (Lib.byteCells m).length = m.length := byteCells_len m
  by_cases hm0 : m.length = 0
  · obtain rfl : m = [] := List.eq_nil_of_length_eq_zero hm0
    obtain ⟨a, c', rfl, hle, _, _, _⟩ := h.shape
    refine ⟨_, w, run_append_nothing w 23 23 ty 5 i Tryd.underlying23 hi a l.length c' hle _ (by simpa [Lib.byteCells] using hsrc), ?_, ⟨rfl, rfl, rfl, Nat.le_refl _, fun _ _ _ => rfl⟩, .inl rfl⟩
    rw [List.append_nil]; exact h
  · have grow : ∀ (base : Option Addr) (cap : Nat), cap < l.length + m.length → (Builtin.firstCells i.size l.length (.slice base l.length cap)).run Tryd.prog w.drew = .ok (Lib.byteCells l).toArray w.drew →
        ∃ v' w', (Builtin.append_ #[23, 23] ty #[.slice base l.length cap, .slice x m.length c]).run Tryd.prog w = .ok v' w' ∧ Row w' v' (l ++ m) ∧ w.grownBy w' (foot (.slice base l.length cap)) ∧ foot v' = some w.heap.size := by
      intro base cap hcap hold
      have hge := grownCap_ge w (l.length + m.length) cap 5
      have hcm : grownCap w (l.length + m.length) cap 5 ≤ maxLen := grownCap_le_maxLen w _ _ _ (by unfold maxLen; omega)
      have hr := run_append_grow_src w 23 23 ty 5 i (.int .u8 0) Tryd.underlying23 hi hz base l.length cap (Lib.byteCells l) hold (.slice x m.length c) m.length (Lib.byteCells m) hsrc hcap (by omega) (growslice_fits (by omega) (by rw [hby]; omega))
      refine ⟨_, _, hr, ?_, ⟨rfl, rfl, rfl, by simp, fun k hk _ => Below.heap_alloc w.drew _ k hk⟩, ?_⟩
      · obtain ⟨cap', hc'⟩ : ∃ cap', grownCap w (l.length + m.length) cap 5 = cap' + 1 := ⟨grownCap w (l.length + m.length) cap 5 - 1, by omega⟩
        rw [hc'] at hge hcm ⊢
        refine .inr ⟨w.heap.size, cap', _, by rw [List.length_append], heap_alloc_new w.drew _, by rw [List.length_append]; exact hge, hcm, ?_, ?_⟩
        · simp only [Array.size_append, List.size_toArray, size_zeroCells, List.length_append, byteCells_len, Value.cells]
          simp; omega
        · rw [List.length_append, ← Lib.byteCells_append]
          simp only [Array.toList_append]
          rw [← List.length_append, ← byteCells_len (l ++ m)]
          exact List.take_left
      · obtain ⟨cap', hc'⟩ : ∃ cap', grownCap w (l.length + m.length) cap 5 = cap' + 1 := ⟨grownCap w (l.length + m.length) cap 5 - 1, by omega⟩
        rw [hc', foot_succ]
    rcases h with ⟨a, rfl, rfl⟩ | ⟨g, cap, cur, rfl, hh, h1, h2, h3, h4⟩
    · obtain ⟨v', w', r1, r2, r3, r4⟩ := grow a 0 (by simp; omega) (by
        have e : (Lib.byteCells []).toArray = (#[] : Array Value) := rfl
        rw [e]
        cases a with
        | none => exact run_firstCells_none w.drew i.size 0 0 0
        | some ad => exact run_firstCells_some w.drew i.size 0 ad 0 0 [] (by simp) (fun j v hj => by simp at hj))
      exact ⟨v', w', r1, r2, r3, .inr (.inr r4)⟩
    · by_cases hroom : l.length + m.length ≤ cap + 1
      · have hfit : l.length * i.size + (Lib.byteCells m).length ≤ cur.size := by rw [hs, hml, h3]; omega
        have hcells : ∀ j, j < cap + 1 → (w.cell? ⟨g, j, none⟩).isSome = true := fun j hj => by
          rw [cell_of_row w g j cur _ _ hh, Array.getElem?_eq_getElem (by omega)]; rfl
        have hfz : ∀ j, w.frozen? ⟨g, j, none⟩ = false := fun j => by simp [World.frozen?, hh]
        have hr : (Builtin.append_ #[23, 23] ty #[.slice (some ⟨g, 0, none⟩) l.length (cap + 1), .slice x m.length c]).run Tryd.prog w = .ok (.slice (some ⟨g, 0, none⟩) (l.length + m.length) (cap + 1)) (w.setRow g (cur.toList.take (l.length * i.size) ++ Lib.byteCells m ++ cur.toList.drop (l.length * i.size + (Lib.byteCells m).length)).toArray) := by
          cases x with
          | none => exact absurd (hno rfl).1 hm0
          | some ad =>
            refine run_append_room w 23 ty 5 i Tryd.underlying23 hi g l.length (cap + 1) cur hh ad m.length c (Lib.byteCells m) (by rw [hs, hml, Nat.mul_one]) (fun j u hj => ?_) (byteCells_one m) hroom hfit
            have hlt : j < m.length := by
              rcases Nat.lt_or_ge j m.length with h' | h'
              · exact h'
              · rw [byteCells_at, List.getElem?_eq_none h'] at hj; cases hj
            obtain ⟨b, o, e, _, hc⟩ := hx (by omega)
            cases e
            rw [show (⟨b, o, none⟩ : Addr).add j = ⟨b, o + j, none⟩ by unfold Addr.add; split <;> simp_all, hc j hlt]
            rw [byteCells_at, List.getElem?_eq_getElem hlt] at hj
            simpa using hj
        refine ⟨_, _, hr, ?_, ⟨rfl, rfl, rfl, by simp, fun k _ hk => setRow_other w g k _ (fun e => hk (by rw [foot_succ, e]))⟩, .inl rfl⟩
        refine .inr ⟨g, cap, _, by rw [List.length_append], setRow_heap w g cur _ _ _ hh, by rw [List.length_append]; exact hroom, h2, ?_, ?_⟩
        · simp only [List.size_toArray, List.length_append, List.length_take, List.length_drop, Array.length_toList, hml, hs]
          omega
        · simp only [hs, Nat.mul_one]
          rw [h4, ← Lib.byteCells_append, ← byteCells_len (l ++ m)]
          exact List.take_left
      · obtain ⟨v', w', r1, r2, r3, r4⟩ := grow (some ⟨g, 0, none⟩) (cap + 1) (by omega) (by
          refine run_firstCells_some w.drew i.size l.length ⟨g, 0, none⟩ l.length (cap + 1) (Lib.byteCells l) (by rw [byteCells_len, hs, Nat.mul_one]) (fun j u hj => ?_)
          have hlt : j < l.length := by
            rcases Nat.lt_or_ge j l.length with h' | h'
            · exact h'
            · rw [byteCells_at, List.getElem?_eq_none h'] at hj; cases hj
          have e : (cur.toList.take l.length)[j]? = (Lib.byteCells l)[j]? := by rw [h4]
          rw [List.getElem?_take, if_pos hlt] at e
          show w.cell? _ = _
          rw [show (⟨g, 0, none⟩ : Addr).add j = ⟨g, j, none⟩ by unfold Addr.add; split <;> simp_all, cell_of_row w g j cur _ _ hh, ← Array.getElem?_toList, e, hj])
        exact ⟨v', w', r1, r2, r3, .inr (.inr r4)⟩
/-- The same, as a law for the walk. -/
theorem wpList_append_row {ops : Array Oper} {rest : List Oper} {o : Oper} {a : Act} {w : World} {Q : Exit → Act → World → Prop} (hgd : o.guard = none) (s y : Operand)
    (ho : o.op = .call { callee := .builtin .append, args := #[s, y], argTypes := #[23, 23] })
    (v : Value) (hs : a.eval s = v) (l m : List UInt8) (hrow : Row w v l) (x : Option Addr) (n c : Nat) (hy : a.eval y = .slice x n c) (hx : BAt w x m) (hn : n = m.length) (hno : x = none → n = 0 ∧ c = 0) (hb : l.length + m.length ≤ 1099511627776)
    (h : ∀ v' w', Appended w v (l ++ m) v' w' → wpList Tryd.prog ops Q rest (a.put o.dst v') w') : wpList Tryd.prog ops Q (o :: rest) a w := by
  obtain ⟨v', w', hr, hap⟩ := run_append_row hrow hx hn hno hb o.type
  refine wpList_plain hgd fun K hK => ?_
  unfold Oper.wp execOp
  simp only [ho, resolve, invoke, builtin, Sem.run_bind, Sem.run_pure, Result.andThen_ok, List.map_toArray, List.map_cons, List.map_nil, hs, hy, hr]
  exact hK _ _ (h v' w' hap)
end Go.Proofs.YtdgcjjledbnofaaDoor

/-
  '[]byte(s)' of a text as a row of bytes, and what is appended to it.
-/
namespace Go.Proofs.YtdgcjjledbnofaaDoor
open Go.RowKit
set_option linter.unusedVariables false
set_option linter.unusedSimpArgs false

/-- Stores into a row of which no cell is frozen, whatever its mark. -/
theorem run_storeCells_atX (P : Program) (g o : Nat) (t : TypeId) (fz : Nat × Nat) : ∀ (vs : List Value) (i : Nat) (cur : Array Value) (w : World), w.heap[g]? = some (.cells cur t fz) → (∀ j, j < cur.size → ¬ (fz.1 ≤ j ∧ j < fz.2)) → o + i + vs.length ≤ cur.size → (∀ v ∈ vs, v.oneCell' = true) →
    (storeCells ⟨g, o, none⟩ vs i).run P w = .ok () (w.setRow g (cur.toList.take (o + i) ++ vs ++ cur.toList.drop (o + i + vs.length)).toArray)
  | [], i, cur, w, hg, _, _, _ => by
    simp only [storeCells, List.append_nil, List.length_nil, Nat.add_zero, List.take_append_drop, Array.toArray_toList]
    rw [setRow_self w g cur t fz hg]
    rfl
  | v :: rest, i, cur, w, hg, hfz, hl, h1 => by
    have hi : o + i < cur.size := by simp at hl; omega
    have hadd : (⟨g, o, none⟩ : Addr).add i = ⟨g, o + i, none⟩ := by unfold Addr.add; split <;> simp_all
    have hcell : w.cell? ⟨g, o + i, none⟩ = some cur[o + i] := by simp [World.cell?, hg, hi]
    have hfro : w.frozen? ⟨g, o + i, none⟩ = false := by
      have h := hfz (o + i) hi
      obtain ⟨lo, hi'⟩ := fz
      simp only [World.frozen?, hg, Bool.and_eq_false_iff, decide_eq_false_iff_not]
      simp only at h
      omega
    have hst : (store ((⟨g, o, none⟩ : Addr).add i) v).run P w = .ok () (w.setRow g (cur.setIfInBounds (o + i) v)) := by
      rw [hadd, run_store P w _ v _ (h1 v (by simp)), hcell]
      simp [hfro, setCell_eq_setRow w g (o + i) cur t fz v hg]
    have ih := run_storeCells_atX P g o t fz rest (i + 1) (cur.setIfInBounds (o + i) v) (w.setRow g (cur.setIfInBounds (o + i) v)) (setRow_heap w g cur _ t _ hg) (fun j hj => hfz j (by simpa using hj)) (by simp at hl ⊢; omega) (fun x hx => h1 x (by simp [hx]))
    simp only [storeCells, Sem.run_bind, hst, Result.andThen_ok, ih, setRow_setRow]
    congr 3
    have e := list_seg_step cur.toList (o + i) v rest (by simp at hl ⊢; omega)
    simpa [Array.toList_setIfInBounds, Nat.add_assoc] using e

/-- A row of bytes with its room, of which no cell is frozen. -/
def RowX (w : World) (g cap : Nat) (l : List UInt8) : Prop :=
  ∃ cur fz, w.heap[g]? = some (.cells cur 5 fz) ∧ l.length ≤ cap ∧ cap ≤ maxLen ∧ cur.size = cap ∧ cur.toList.take l.length = Lib.byteCells l ∧ ∀ j, j < cur.size → ¬ (fz.1 ≤ j ∧ j < fz.2)
theorem RowX.lt {w : World} {g cap : Nat} {l : List UInt8} (h : RowX w g cap l) : g < w.heap.size := by
  obtain ⟨cur, fz, hg, _⟩ := h
  exact (Array.getElem?_eq_some_iff.1 hg).1
theorem RowX.below {w w' : World} {g cap : Nat} {l : List UInt8} (h : RowX w g cap l) {B : Nat} (hb : Below B w w') (hB : g < B) : RowX w' g cap l := by
  obtain ⟨cur, fz, hg, r⟩ := h
  exact ⟨cur, fz, (hb.block g hB).trans hg, r⟩
theorem RowX.cells {w : World} {g cap : Nat} {l : List UInt8} (h : RowX w g cap l) : ∀ j u, (Lib.byteCells l)[j]? = some u → w.cell? ((⟨g, 0, none⟩ : Addr).add j) = some u := by
  obtain ⟨cur, fz, hg, h1, h2, h3, h4, _⟩ := h
  intro j u hj
  have hlt : j < l.length := by
    rcases Nat.lt_or_ge j l.length with h' | h'
    · exact h'
    · rw [List.getElem?_eq_none (by rw [byteCells_len]; exact h')] at hj; cases hj
  rw [← h4, List.getElem?_take, if_pos hlt] at hj
  rw [show (⟨g, 0, none⟩ : Addr).add j = ⟨g, j, none⟩ by unfold Addr.add; split <;> simp_all, cell_of_row w g j cur _ _ hg, ← Array.getElem?_toList, hj]
theorem RowX.bat {w : World} {g cap : Nat} {l : List UInt8} (h : RowX w g cap l) : BAt w (some ⟨g, 0, none⟩) l := fun _ => by
  refine ⟨g, 0, rfl, h.lt, fun i hi => ?_⟩
  have := h.cells i (.int .u8 (l[i]).toNat) (by simp [Lib.byteCells, List.getElem?_map, hi])
  rwa [show (⟨g, 0, none⟩ : Addr).add i = ⟨g, 0 + i, none⟩ by unfold Addr.add; split <;> simp_all] at this
/-- '[]byte(s)'. -/
theorem str_row (w : World) (l : List UInt8) (hl : l.length ≤ 1099511627776) :
    ∃ cap w', (convert 9 23 (.string ⟨l.toArray⟩)).run Tryd.prog w = .ok (.slice (some ⟨w.heap.size, 0, none⟩) l.length cap) w' ∧ Below w.heap.size w w' ∧ RowX w' w.heap.size cap l := by
  have h := run_bytes_of_string (P := Tryd.prog) w 9 23 5 ⟨l.toArray⟩ Tryd.underlying9 Tryd.underlying23 Tryd.underlying5
  rw [size_toArray] at h
  have hge := grownCap_ge w l.length 0 5
  have hcm : grownCap w l.length 0 5 ≤ maxLen := grownCap_le_maxLen w _ _ _ (by unfold maxLen; omega)
  have hsz : (bytesRow ⟨l.toArray⟩ (grownCap w l.length 0 5)).size = grownCap w l.length 0 5 := by
    unfold bytesRow
    simp only [Array.size_append, Array.size_map, Array.size_replicate, List.size_toArray, size_toArray]
    omega
  refine ⟨_, _, h, ((Below.refl _ w).drew).alloc (Nat.le_refl _) _, _, _, heap_alloc_new w.drew _, hge, hcm, hsz, ?_, fun j hj hf => ?_⟩
  · simp [bytesRow, Lib.byteCells]
  · have := hf.1
    simp only at this
    omega

/-- 'append(b, x...)' to9 such a row. -/
theorem run_append_rowX {w : World} {g cap : Nat} {l m : List UInt8} (h : RowX w g cap l) {x : Option Addr} {n c : Nat} (hx : BAt w x m) (hn : n = m.length) (hno : x = none → n = 0 ∧ c = 0) (hb : l.length + m.length ≤ 1099511627776) (ty : TypeId) :
    ∃ g' cap' w', (Builtin.append_ #[23, 23] ty #[.slice (some ⟨g, 0, none⟩) l.length cap, .slice x n c]).run Tryd.prog w = .ok (.slice (some ⟨g', 0, none⟩) (l.length + m.length) cap') w' ∧ RowX w' g' cap' (l ++ m) ∧ w.grownBy w' (some g) ∧ (g' = g ∨ w.heap.size ≤ g') := by
  obtain ⟨i, hi, hz, hs, hby⟩ := info_parts info_u8
  have hsrc := src_of hx hn hno
  rw [← hs] at hsrc
  subst hn
  have hml : (Lib.byteCells m).length = m.length := byteCells_len m
  have hcl := h.cells
  by_cases hm0 : m.length = 0
  · obtain rfl : m = [] := List.eq_nil_of_length_eq_zero hm0
    obtain ⟨cur, fz, hg, h1, h2, h3, h4, h5⟩ := h
    refine ⟨g, cap, w, run_append_nothing w 23 23 ty 5 i Tryd.underlying23 hi _ l.length cap h1 _ (by simpa [Lib.byteCells] using hsrc), ?_, ⟨rfl, rfl, rfl, Nat.le_refl _, fun _ _ _ => rfl⟩, .inl rfl⟩
    rw [List.append_nil]; exact ⟨cur, fz, hg, h1, h2, h3, h4, h5⟩
  · obtain ⟨cur, fz, hg, h1, h2, h3, h4, h5⟩ := h
    by_cases hroom : l.length + m.length ≤ cap
    · have hfit : l.length * i.size + (Lib.byteCells m).length ≤ cur.size := by rw [hs, hml, h3]; omega
      have hr : (Builtin.append_ #[23, 23] ty #[.slice (some ⟨g, 0, none⟩) l.length cap, .slice x m.length c]).run Tryd.prog w = .ok (.slice (some ⟨g, 0, none⟩) (l.length + m.length) cap) (w.setRow g (cur.toList.take (l.length * i.size) ++ Lib.byteCells m ++ cur.toList.drop (l.length * i.size + (Lib.byteCells m).length)).toArray) := by
        cases x with
        | none => exact absurd (hno rfl).1 hm0
        | some ad =>
          have hnews : ∀ j u, (Lib.byteCells m)[j]? = some u → w.cell? (ad.add j) = some u := fun j u hj => by
            have hlt : j < m.length := by
              rcases Nat.lt_or_ge j m.length with h' | h'
              · exact h'
              · rw [byteCells_at, List.getElem?_eq_none h'] at hj; cases hj
            obtain ⟨b, o, e, _, hc⟩ := hx (by omega)
            cases e
            rw [show (⟨b, o, none⟩ : Addr).add j = ⟨b, o + j, none⟩ by unfold Addr.add; split <;> simp_all, hc j hlt]
            rw [byteCells_at, List.getElem?_eq_getElem hlt] at hj
            simpa using hj
          have hf := run_firstCells_some (P := Tryd.prog) w i.size m.length ad m.length c (Lib.byteCells m) (by rw [hs, hml, Nat.mul_one]) hnews
          have hst := run_storeCells_atX Tryd.prog g (l.length * i.size) 5 fz (Lib.byteCells m) 0 cur w hg h5 (by simpa using hfit) (byteCells_one m)
          simp only [Nat.add_zero] at hst
          have hu := Tryd.underlying23
          simp [Builtin.append_, run_underlying hu, sizeOf, typeInfo, hi, Builtin.lenOf, hroom, hf, Addr.add_lit, hst]
      have hsz : (cur.toList.take (l.length * i.size) ++ Lib.byteCells m ++ cur.toList.drop (l.length * i.size + (Lib.byteCells m).length)).toArray.size = cur.size := by
        simp only [List.size_toArray, List.length_append, List.length_take, List.length_drop, Array.length_toList, hml, hs]
        omega
      refine ⟨g, cap, _, hr, ⟨_, fz, setRow_heap w g cur _ _ _ hg, by rw [List.length_append]; exact hroom, h2, by rw [hsz]; exact h3, ?_, fun j hj => h5 j (by rw [hsz] at hj; exact hj)⟩, ⟨rfl, rfl, rfl, by simp, fun k _ hk => setRow_other w g k _ (fun e => hk (by rw [e]))⟩, .inl rfl⟩
      simp only [hs, Nat.mul_one]
      rw [h4, ← Lib.byteCells_append, ← byteCells_len (l ++ m)]
      exact List.take_left
    · have hge := grownCap_ge w (l.length + m.length) cap 5
      have hcm : grownCap w (l.length + m.length) cap 5 ≤ maxLen := grownCap_le_maxLen w _ _ _ (by unfold maxLen; omega)
      have hold : (Builtin.firstCells i.size l.length (.slice (some ⟨g, 0, none⟩) l.length cap)).run Tryd.prog w.drew = .ok (Lib.byteCells l).toArray w.drew :=
        run_firstCells_some w.drew i.size l.length ⟨g, 0, none⟩ l.length cap (Lib.byteCells l) (by rw [byteCells_len, hs, Nat.mul_one]) hcl
      have hr := run_append_grow_src w 23 23 ty 5 i (.int .u8 0) Tryd.underlying23 hi hz (some ⟨g, 0, none⟩) l.length cap (Lib.byteCells l) hold (.slice x m.length c) m.length (Lib.byteCells m) hsrc (by omega) (by omega) (growslice_fits (by omega) (by rw [hby]; omega))
      refine ⟨_, _, _, hr, ⟨_, (0, 0), heap_alloc_new w.drew _, by rw [List.length_append]; exact hge, hcm, ?_, ?_, fun j _ hf => absurd hf.2 (Nat.not_lt_zero j)⟩, ⟨rfl, rfl, rfl, by simp, fun k hk _ => Below.heap_alloc w.drew _ k hk⟩, .inr (Nat.le_refl _)⟩
      · simp only [Array.size_append, List.size_toArray, size_zeroCells, List.length_append, byteCells_len, Value.cells]
        simp; omega
      · rw [List.length_append, ← Lib.byteCells_append]
        simp only [Array.toList_append]
        rw [← List.length_append, ← byteCells_len (l ++ m)]
        exact List.take_left
/-- The same, at one operation. -/
theorem wp_append_rowX {o : Oper} {a : Act} {w : World} {K : Act → World → Prop} {Q : Exit → Act → World → Prop} (s y : Operand)
    (ho : o.op = .call { callee := .builtin .append, args := #[s, y], argTypes := #[23, 23] })
    (g cap k : Nat) (l m : List UInt8) (hk : k = l.length) (hs : a.eval s = .slice (some ⟨g, 0, none⟩) k cap) (hrow : RowX w g cap l) (x : Option Addr) (n c : Nat) (hy : a.eval y = .slice x n c) (hx : BAt w x m) (hn : n = m.length) (hno : x = none → n = 0 ∧ c = 0) (hb : l.length + m.length ≤ 1099511627776)
    (h : ∀ g' cap' w', RowX w' g' cap' (l ++ m) → w.grownBy w' (some g) → (g' = g ∨ w.heap.size ≤ g') → K (a.put o.dst (.slice (some ⟨g', 0, none⟩) (l.length + m.length) cap')) w') : Oper.wp Tryd.prog o a w K Q := by
  subst hk
  obtain ⟨g', cap', w', hr, h1, h2, h3⟩ := run_append_rowX hrow hx hn hno hb o.type
  unfold Oper.wp execOp
  simp only [ho, resolve, invoke, builtin, Sem.run_bind, Sem.run_pure, Result.andThen_ok, List.map_toArray, List.map_cons, List.map_nil, hs, hy, hr]
  exact h g' cap' w' h1 h2 h3
/-- The same, in a region that draws its order. -/
theorem step_append_rowX {ops : Array Oper} {o : Oper} {a : Act} {w : World} {K : Act → World → Prop} {Q : Exit → Act → World → Prop} {E : Prop} (hgd : o.guard = none) (s y : Operand)
    (ho : o.op = .call { callee := .builtin .append, args := #[s, y], argTypes := #[23, 23] })
    (g cap k : Nat) (l m : List UInt8) (hk : k = l.length) (hs : a.eval s = .slice (some ⟨g, 0, none⟩) k cap) (hrow : RowX w g cap l) (x : Option Addr) (n c : Nat) (hy : a.eval y = .slice x n c) (hx : BAt w x m) (hn : n = m.length) (hno : x = none → n = 0 ∧ c = 0) (hb : l.length + m.length ≤ 1099511627776)
    (h : ∀ g' cap' w', RowX w' g' cap' (l ++ m) → w.grownBy w' (some g) → (g' = g ∨ w.heap.size ≤ g') → K (a.put o.dst (.slice (some ⟨g', 0, none⟩) (l.length + m.length) cap')) w') : if Region.wanted o (yielded ops a.tmps) = true then Oper.wp Tryd.prog o a w K Q else E := by
  have hw : Region.wanted o (yielded ops a.tmps) = true := by simp [Region.wanted, hgd]
  rw [if_pos hw]
  exact wp_append_rowX s y ho g cap k l m hk hs hrow x n c hy hx hn hno hb h
/-- The same, as a law for the walk. -/
theorem wpList_append_rowX {ops : Array Oper} {rest : List Oper} {o : Oper} {a : Act} {w : World} {Q : Exit → Act → World → Prop} (hgd : o.guard = none) (s y : Operand)
    (ho : o.op = .call { callee := .builtin .append, args := #[s, y], argTypes := #[23, 23] })
    (g cap k : Nat) (l m : List UInt8) (hk : k = l.length) (hs : a.eval s = .slice (some ⟨g, 0, none⟩) k cap) (hrow : RowX w g cap l) (x : Option Addr) (n c : Nat) (hy : a.eval y = .slice x n c) (hx : BAt w x m) (hn : n = m.length) (hno : x = none → n = 0 ∧ c = 0) (hb : l.length + m.length ≤ 1099511627776)
    (h : ∀ g' cap' w', RowX w' g' cap' (l ++ m) → w.grownBy w' (some g) → (g' = g ∨ w.heap.size ≤ g') → wpList Tryd.prog ops Q rest (a.put o.dst (.slice (some ⟨g', 0, none⟩) (l.length + m.length) cap')) w') : wpList Tryd.prog ops Q (o :: rest) a w := by
  subst hk
  obtain ⟨g', cap', w', hr, h1, h2, h3⟩ := run_append_rowX hrow hx hn hno hb o.type
  refine wpList_plain hgd fun K hK => ?_
  unfold Oper.wp execOp
  simp only [ho, resolve, invoke, builtin, Sem.run_bind, Sem.run_pure, Result.andThen_ok, List.map_toArray, List.map_cons, List.map_nil, hs, hy, hr]
  exact hK _ _ (h g' cap' w' h1 h2 h3)
end Go.Proofs.YtdgcjjledbnofaaDoor

/-
  Layer 16, the document: Print.
-/
namespace Go.Proofs.YtdgcjjledbnofaaDoor
set_option maxRecDepth 20000
open Go.RowKit
set_option linter.unusedVariables false
set_option linter.unusedSimpArgs false

theorem findB_zero (c : UInt8) (s : List UInt8) : findB s c 0 = if idxB c s < s.length then (idxB c s : Int) else -1 := by
  unfold findB idxB
  rw [List.drop_zero]
  split
  · simp
  · rfl
theorem bytes_red (w : World) (l : List UInt8) (hl : l.length ≤ 1099511627776) : ∃ v u, (convert 9 23 (.string ⟨l.toArray⟩)).run Tryd.prog w = .ok v u ∧ Red u v l ∧ Below w.heap.size w u := by
  obtain ⟨cap, u, h, b, r⟩ := str_row w l hl
  have hb := r.bat
  obtain ⟨cur, fz, hg, h1, h2, -⟩ := r
  exact ⟨_, u, h, ⟨_, cap, rfl, hb, (fun e => by cases e), h1, h2⟩, b⟩
set_option maxHeartbeats 16000000 in
theorem rmPrint_some (b o n c : Nat) (l : List Fil) (w : World) (hn : n = l.length) (h1 : 1 ≤ n) (hm : n ≤ 1000000) (hat : FilesAt w (some ⟨b, o, none⟩) l) (hid : ∀ i ∈ l, i.id.length = 20) (hnm : ∀ i ∈ l, i.path.length ≤ 100000) (tab : QTab w) :
    Calls Tryd.prog 10 #[.slice (some ⟨b, o, none⟩) n c] w fun e w' => ∃ v, e = .returned (.tuple #[v, .int .i64 (printM l).2]) ∧ Red w' v (printM l).1 ∧ Below w.heap.size w w' := by
  have cR := rfRight_is (some ⟨b, o, none⟩) n c l w hn hm hat hid hnm tab
  have HN := Lib.hid hn; have HAT := Lib.hid hat; have HID := Lib.hid hid; have HBL := Lib.hid (hat.lt (by omega))
  have NOF := Lib.hid (fun (h : rightF l = false) => printM_no (by unfold rightM; rw [h]; rfl : rightM l = false))
  have NO := Lib.hid (fun k hk h => printM_no (@rightM_no l k hk h))
  have YES := Lib.hid (fun h1 h2 => printM_yes (@rightM_yes l h1 h2))
  have FPL := Lib.hid (fun (h : rightF l = true) => (fun f hf => path_len0 (sound_parts (by
    obtain ⟨k, hk, rfl⟩ := List.mem_iff_getElem.1 hf
    have hs := ((rightF_iff l).1 h).2 k hk
    unfold stepF at hs
    simp only [Bool.and_eq_true] at hs
    have := hs.1.1
    rwa [List.getD_eq_getElem?_getD, List.getElem?_eq_getElem hk] at this : soundF f = true)).2.2 : ∀ f ∈ l, f.path.length ≤ 400))
  have RLE := Lib.hid (fun (h : rightF l = true) => ((rightF_iff l).1 h).1)
  obtain ⟨P, hP⟩ : ∃ P, printM l = P := ⟨_, rfl⟩
  rw [hP] at NOF NO YES ⊢
  cases hr : rightF l with
  | false =>
    rw [hr] at cR
    have hp := NOF.out hr
    subst hp
    clear hn hat hid hnm tab hP hr HN HAT HID HBL NOF NO YES FPL RLE
    go_enter Tryd.func10, Tryd.ntmps10
    go_wp2_with fail
    refine cR.mono ?_
    rintro e w1 ⟨rfl, b1⟩
    have B1 := Lib.hid b1
    clear b1
    go_wp2
    go_ret2
    exact ⟨_, rfl, Red.none _, B1.out⟩
  | true =>
    rw [hr] at cR
    have hn5 : n ≤ 500 := by rw [hn]; exact RLE.out hr
    have HONE := Lib.hid (FPL.out hr); have YES2 := Lib.hid (fun h => YES.out hr h); have CR := Lib.hid cR
    clear hn hm hat hid hnm tab hP hr cR YES FPL RLE NOF
    go_enter Tryd.func10, Tryd.ntmps10
    go_wp2_with fail
    refine CR.out.mono ?_
    rintro e w1 ⟨rfl, b1⟩
    have B1 := Lib.hid b1
    clear b1 CR
    go_wp2_with fail
    go_loopw [4, 5] (fun v4 v5 wr => ∃ i : Nat, i ≤ n ∧ v5 = .int .i64 i ∧ v4 = .string ⟨(textM (l.take i)).toArray⟩ ∧ AllM l i ∧ Below w.heap.size w wr) (fun _ v5 _ => n - (intOf v5).toNat)
    case atStart => exact ⟨0, Nat.zero_le _, rfl, rfl, fun j _ h => absurd h (Nat.not_lt_zero _), B1.out⟩
    case round =>
      obtain ⟨i, hi, rfl, rfl, hall, hbr⟩ := hrel
      have HALL := Lib.hid hall
      have HBR := Lib.hid hbr
      clear hall hbr
      by_cases hlt : i < n
      · have hil : i < l.length := by rw [← HN.out]; exact hlt
        obtain ⟨x, hx⟩ : ∃ x, l[i] = x := ⟨_, rfl⟩
        have hxm : x ∈ l := by rw [← hx]; exact List.getElem_mem _
        have hidx := HID.out x hxm
        have hpx := HONE.out x hxm
        have rx : ∀ u, Below w.heap.size w u → u.rangeAt b (o + i * 22) (cellsF x) := fun u hu j v hv => (hu.cell (p := ⟨b, o + i * 22 + j, none⟩) HBL.out).trans (HAT.out.elem i hil j v (by rw [hx]; exact hv))
        have QP := Lib.hid (fun u hu => (rx u hu 0 _ rfl : u.cell? ⟨b, o + i * 22, none⟩ = some (.string ⟨x.path.toArray⟩)))
        have QM := Lib.hid (fun u hu => (rx u hu 1 _ rfl : u.cell? ⟨b, o + i * 22 + 1, none⟩ = some (.int .i64 x.mode)))
        have HFN := Lib.hid (show textM (l.take (i + 1)) = textM (l.take i) ++ x.path ++ [0] ++ hexL x.id ++ flagM x.mode ++ [10] by rw [textM_next l i hil, hx]; unfold lineM; simp only [List.append_assoc])
        have fle : (textM (l.take i)).length ≤ 443 * 500 := by
          have := textM_len 400 (l.take i) (fun j hj => HID.out j (List.mem_of_mem_take hj)) (fun j hj => HONE.out j (List.mem_of_mem_take hj))
          rw [List.length_take] at this
          omega
        have hxl : (hexL x.id).length = 40 := by rw [hexL_length, hidx]
        have hfl := flagM_len x.mode
        obtain ⟨out, hout⟩ : ∃ out, textM (l.take i) = out := ⟨_, rfl⟩
        rw [hout] at HFN fle ⊢
        have a1 := fun u => add_lists (P := Tryd.prog) u out x.path (by omega)
        have a2 := fun u => add_lists (P := Tryd.prog) u (out ++ x.path) [0] (by simp; omega)
        have a3 := fun u => add_lists (P := Tryd.prog) u (out ++ x.path ++ [0]) (hexL x.id) (by simp; omega)
        have a4 := fun u => add_lists (P := Tryd.prog) u (out ++ x.path ++ [0] ++ hexL x.id) (flagM x.mode) (by simp; omega)
        have a5 := fun u => add_lists (P := Tryd.prog) u (out ++ x.path ++ [0] ++ hexL x.id ++ flagM x.mode) [10] (by simp; omega)
        have CH := Lib.hid (fun (u : World) (hu : Below w.heap.size w u) => rHex_any (some ⟨b, o + i * 22 + 2, none⟩) 20 20 x.id u (bat_of_range (Nat.lt_of_lt_of_le HBL.out hu.size) (fun j v hv => by
          have := rx u hu (j + 2) v hv
          rwa [show o + i * 22 + (j + 2) = o + i * 22 + 2 + j by omega] at this)) hidx.symm (by omega))
        have CF := Lib.hid (fun u => rflag_is x.mode u)
        have CN := Lib.hid (fun u => Find_byte 10 x.path 0 (by omega) (Nat.zero_le _) u)
        rw [findB_zero] at CN
        have HNX := Lib.hid (show noEndM l[i] = decide (¬ idxB 10 x.path < x.path.length) by rw [hx]; rfl)
        obtain ⟨m, hm⟩ : ∃ m, x.mode = m := ⟨_, rfl⟩
        rw [hm] at a4 a5 CF QM HFN
        generalize (⟨(out ++ x.path ++ [0] ++ hexL x.id ++ flagM m).toArray⟩ : ByteArray) = s4 at a4 a5
        generalize (⟨(out ++ x.path ++ [0] ++ hexL x.id).toArray⟩ : ByteArray) = s3 at a3 a4
        generalize (⟨(out ++ x.path ++ [0]).toArray⟩ : ByteArray) = s2 at a2 a3
        generalize (⟨(out ++ x.path).toArray⟩ : ByteArray) = s1 at a1 a2
        generalize (⟨(hexL x.id).toArray⟩ : ByteArray) = sh at a3 CH
        generalize (⟨(flagM m).toArray⟩ : ByteArray) = sf at a4 CF
        generalize (⟨x.path.toArray⟩ : ByteArray) = sp at a1 QP CN
        generalize (⟨out.toArray⟩ : ByteArray) = so at a1 ⊢
        rw [← HFN.out] at a5
        have q0 := QP.out wr HBR.out
        clear rx hidx hx hxm hpx fle hxl hfl hm hout
        by_cases hlb : idxB 10 x.path < x.path.length
        · have hp := NO.out i hil (by rw [HNX.out]; exact decide_eq_false (fun h => h hlb))
          subst hp
          rw [if_pos hlb] at CN
          clear hlb NO YES2 a1 a2 a3 a4 a5 CH CF
          go_wp2_with fail
          refine (CN.out _).mono ?_
          rintro e u ⟨rfl, rfl⟩
          have g1 : ((idxB 10 x.path : Nat) : Int) ≥ 0 := by omega
          go_wp2
          go_ret2
          exact ⟨_, rfl, Red.none _, HBR.out⟩
        · have HNE := Lib.hid (show AllM l (i + 1) from fun j hj h2 => by
            by_cases e : j < i
            · exact HALL.out j hj e
            · obtain rfl : j = i := by omega
              rw [HNX.out]; exact decide_eq_true hlb)
          rw [if_neg hlb] at CN
          clear hlb NO HNX
          go_wp2_with fail
          refine (CN.out _).mono ?_
          rintro e u ⟨rfl, rfl⟩
          clear CN
          go_wp2_with fail
          have HD := Lib.hid HBR.out.drew
          refine wp_region_held_drew (S := fun u => Below w.heap.size w u) (by kernel_rfl) HD.out (fun hHeld => ?_)
          refine tkW 0 rfl hHeld ?_
          refine tkW 1 rfl hHeld ?_
          refine tkW 2 rfl hHeld ?_
          refine tkV 3 rfl (.pointer (some ⟨b, o + i * 22, none⟩)) (fun u hu => by go_simp) hHeld ?_
          refine tkW 4 rfl hHeld ?_
          refine tkV 5 rfl (.string sp) (fun u hu => by have q := QP.out u hu; go_simp) hHeld ?_
          refine tkW 6 rfl hHeld ?_
          refine tkW 7 rfl hHeld ?_
          refine tkW 8 rfl hHeld ?_
          refine tkW 9 rfl hHeld ?_
          refine tkV 10 rfl (.pointer (some ⟨b, o + i * 22, none⟩)) (fun u hu => by go_simp) hHeld ?_
          refine tkW 11 rfl hHeld ?_
          refine tkV 12 rfl (.slice (some ⟨b, o + i * 22 + 2, none⟩) 20 20) (fun u hu => by have q := slice20_all u b (o + i * 22 + 2); go_simp) hHeld ?_
          refine tkW 15 rfl hHeld ?_
          refine tkW 16 rfl hHeld ?_
          refine tkV 17 rfl (.pointer (some ⟨b, o + i * 22, none⟩)) (fun u hu => by go_simp) hHeld ?_
          refine tkW 18 rfl hHeld ?_
          refine tkV 19 rfl (.int .i64 m) (fun u hu => by have q := QM.out u hu; go_simp) hHeld ?_
          refine rdH 13 rfl (fun K hK => ?_)
          go_simp
          refine (CH.out _ hHeld).mono ?_
          rintro e u5 ⟨rfl, bh⟩
          have hH := hHeld.trans (bh.mono hHeld.size)
          clear hHeld bh
          refine hK.out _ _ hH (fun hHeld => ?_)
          clear hK K
          try simp only [Act.put, List.getElem_toArray, List.getElem_cons_succ, List.getElem_cons_zero, lsA, lsZ, lsS]
          refine tkW 14 rfl hHeld ?_
          refine rdH 20 rfl (fun K hK => ?_)
          go_simp
          refine (CF.out _).mono ?_
          rintro e u6 ⟨rfl, rfl⟩
          refine hK.out _ _ hHeld (fun hHeld => ?_)
          clear hK K
          try simp only [Act.put, List.getElem_toArray, List.getElem_cons_succ, List.getElem_cons_zero, lsA, lsZ, lsS]
          refine tkW 21 rfl hHeld ?_
          refine tkW 22 rfl hHeld ?_
          refine tkW 23 rfl hHeld ?_
          try simp only [Act.put, List.getElem_toArray, List.getElem_cons_succ, List.getElem_cons_zero, lsA, lsZ, lsS]
          refine wpAnyH_done (by kernel_rfl) ?_ _
          have HB6 := Lib.hid hHeld
          clear hHeld hH
          go_wp2
          go_roundw
          case rel => exact ⟨i + 1, by omega, by go_num, rfl, HNE.out, HB6.out⟩
          case measure => simp [intOf]; omega
      · have hin : i = l.length := by rw [← HN.out]; omega
        have hfl : l.take i = l := by rw [hin, List.take_length]
        rw [hfl]
        have hp := YES2.out (fun j hj h2 => HALL.out j hj (by omega))
        have HFL := Lib.hid (show (textM l).length ≤ 443 * 500 by
          have := textM_len 400 l HID.out HONE.out
          have := HN.out
          omega)
        obtain ⟨fl, hfl3⟩ : ∃ fl, textM l = fl := ⟨_, rfl⟩
        rw [hfl3] at hp HFL ⊢
        obtain ⟨v, uz, cv, rv, bz⟩ := bytes_red wr fl (by have := HFL.out; omega)
        have RV := Lib.hid rv; have BZ := Lib.hid (HBR.out.trans (bz.mono HBR.out.size))
        have szf := size_toArray fl
        generalize (⟨fl.toArray⟩ : ByteArray) = sfl at cv szf ⊢
        clear hin hfl hfl3 rv bz NO YES2
        by_cases h64 : 65536 < fl.length
        · rw [if_pos h64] at hp
          subst hp
          have g6 : (fl.length : Int) > 65536 := by omega
          clear h64
          go_wp2
          go_ret2
          exact ⟨_, rfl, Red.none _, HBR.out⟩
        · rw [if_neg h64] at hp
          subst hp
          have g6 : ¬ (fl.length : Int) > 65536 := by omega
          clear h64
          go_wp2
          go_ret2
          exact ⟨_, rfl, RV.out, BZ.out⟩
theorem rmPrint_is (a : Option Addr) (n c : Nat) (l : List Fil) (w : World) (hn : n = l.length) (hm : n ≤ 1000000) (hat : FilesAt w a l) (hid : ∀ i ∈ l, i.id.length = 20) (hnm : ∀ i ∈ l, i.path.length ≤ 100000) (tab : QTab w) :
    Calls Tryd.prog 10 #[.slice a n c] w fun e w' => ∃ v, e = .returned (.tuple #[v, .int .i64 (printM l).2]) ∧ Red w' v (printM l).1 ∧ Below w.heap.size w w' := by
  by_cases h1 : n = 0
  · have cR := rfRight_is a n c l w hn hm hat hid hnm tab
    obtain rfl : l = [] := List.eq_nil_of_length_eq_zero (by omega)
    rw [show printM [] = ([], 0) from rfl]
    rw [show rightF [] = true from rfl] at cR
    subst h1
    clear hn hm hat hid hnm tab
    go_enter Tryd.func10, Tryd.ntmps10
    go_wp2_with fail
    refine cR.mono ?_
    rintro e u ⟨rfl, b1⟩
    obtain ⟨v, uz, cv, rv, bz⟩ := bytes_red u [] (by decide)
    have RV := Lib.hid rv; have BZ := Lib.hid (b1.trans (bz.mono b1.size))
    clear b1 cR rv bz
    go_wp2_with fail
    refine wp_loop_rounds 1 ?_
    rw [rounds_succ]
    go_wp2
    go_ret2
    exact ⟨_, rfl, RV.out, BZ.out⟩
  · obtain ⟨b, o, rfl, -⟩ := hat.some (by omega)
    exact rmPrint_some b o n c l w hn (by omega) hm hat hid hnm tab
end Go.Proofs.YtdgcjjledbnofaaDoor
