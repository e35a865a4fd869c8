/-
  Texts that belong together, one behind the other.
-/
import Derived.Test.YtdgcjjledbnofaaDoorFu07
import Derived.OwnWalk
import Derived.WalkSmall
import Derived.IntWalk
import Derived.Lib.Hide
import Derived.Test.YtdgcjjledbnofaaDoorFu02
import Derived.Test.YtdgcjjledbnofaaDoorFu15
import Derived.Deep.AppendSrc
import Derived.Deep.Upon
import Derived.Laws.AppendOwn
import Derived.Laws.Rows
import Derived.Laws.Tables
import Derived.Laws.IdiomStrings
import Derived.Lib.FrozenHead2
/-
  Helpers of the statements: Find of a byte, from a place on.
-/
namespace Go.Proofs.YtdgcjjledbnofaaDoor
set_option maxRecDepth 20000
open Go.RowKit
set_option linter.unusedVariables false
set_option linter.unusedSimpArgs false

/-- Where a byte stands first, from a place on; -1. -/
def findB (s : List UInt8) (c : UInt8) (k : Nat) : Int := if (s.drop k).findIdx (· == c) < (s.drop k).length then k + ((s.drop k).findIdx (· == c) : Nat) else -1
theorem findB_at (s : List UInt8) (c d : UInt8) (hd : d ≠ c) (k i : Nat) (hk : k ≤ i) (hi : i < s.length) (h : s.getD i d = c) (hn : ∀ j, k ≤ j → j < i → s.getD j d ≠ c) : findB s c k = i := by
  have hl : (s.drop k).length = s.length - k := List.length_drop
  have e : (s.drop k).findIdx (· == c) = i - k := by
    rw [List.findIdx_eq (by omega)]
    refine ⟨?_, fun j hj => ?_⟩
    · rw [List.getD_eq_getElem?_getD, List.getElem?_eq_getElem hi] at h
      simp only [Option.getD_some] at h
      rw [List.getElem_drop]
      simp only [show k + (i - k) = i by omega, h]
      simp
    · have := hn (k + j) (by omega) (by omega)
      rw [List.getD_eq_getElem?_getD, List.getElem?_eq_getElem (by omega)] at this
      simp only [Option.getD_some] at this
      rw [List.getElem_drop]
      exact beq_false_of_ne this
  unfold findB
  rw [e, if_pos (by omega)]
  omega
theorem findB_no (s : List UInt8) (c d : UInt8) (k : Nat) (hn : ∀ j, k ≤ j → j < s.length → s.getD j d ≠ c) : findB s c k = -1 := by
  unfold findB
  rw [if_neg]
  intro h
  have hl : (s.drop k).length = s.length - k := List.length_drop
  have h2 := List.findIdx_getElem (p := (· == c)) (w := h)
  rw [List.getElem_drop] at h2
  have := hn (k + (s.drop k).findIdx (· == c)) (by omega) (by omega)
  rw [List.getD_eq_getElem?_getD, List.getElem?_eq_getElem (by omega)] at this
  simp only [Option.getD_some] at this
  exact this (eq_of_beq h2)
theorem cut_oneB (s : List UInt8) (d : UInt8) (i : Nat) (hi : i < s.length) : (⟨s.toArray⟩ : ByteArray).extract i (i + 1) = ⟨[s.getD i d].toArray⟩ := by
  rw [ext_list, Nat.add_sub_cancel_left, List.getD_eq_getElem?_getD, List.getElem?_eq_getElem hi]
  rw [List.drop_eq_getElem_cons hi]
  rfl
theorem other_byte (c : UInt8) : ∃ d : UInt8, d ≠ c := ⟨c + 1, by intro h; have := congrArg UInt8.toNat h; rw [UInt8.toNat_add] at this; simp at this; have h2 := c.toNat_lt; omega⟩

set_option maxHeartbeats 4000000 in
theorem Find_byte (c : UInt8) (s : List UInt8) (k : Nat) (hs : s.length ≤ 1000000) (hk : k ≤ s.length) (w : World) :
    Calls Tryd.prog 22 #[.string ⟨s.toArray⟩, .string ⟨#[c]⟩, .int .i64 k] w fun e w' => e = .returned (.int .i64 (findB s c k)) ∧ w = w' := by
  obtain ⟨d, hd⟩ := other_byte c
  have z1 := size_toArray s
  have z2 : (⟨#[c]⟩ : ByteArray).size = 1 := rfl
  have CO := Lib.hid (fun i hi => cut_oneB s d i hi)
  have FA := Lib.hid (fun i h1 h2 h3 h4 => findB_at s c d hd k i h1 h2 h3 h4)
  have FN := Lib.hid (fun h => findB_no s c d k h)
  obtain ⟨R, hR⟩ : ∃ R, findB s c k = R := ⟨_, rfl⟩
  rw [hR] at FA FN ⊢
  clear hR
  generalize (⟨s.toArray⟩ : ByteArray) = S at *
  go_enter Tryd.func22, Tryd.ntmps22
  go_wp2_with fail
  go_loop [7] (fun v => ∃ i : Nat, k ≤ i ∧ i ≤ s.length ∧ v = .int .i64 i ∧ ∀ j, k ≤ j → j < i → s.getD j d ≠ c) (fun v => s.length - (intOf v).toNat)
  case atStart => exact ⟨k, Nat.le_refl _, hk, rfl, fun j h1 hj => absurd hj (Nat.not_lt.2 h1)⟩
  case round =>
    obtain ⟨i, hki, hi, rfl, hno⟩ := hrel
    have HNO := Lib.hid hno
    clear hno
    by_cases hlt : i < s.length
    · have ex := CO.out i hlt
      by_cases h0 : s.getD i d = c
      · have hz := FA.out i hki hlt h0 HNO.out
        rw [h0] at ex
        subst hz
        clear h0
        go_wp2
        go_ret
        exact ⟨rfl, rfl⟩
      · have hb2 : (s.getD i d == c) = false := beq_false_of_ne h0
        have H0 := Lib.hid h0
        clear h0
        generalize hg : s.getD i d = x at ex hb2
        have HG := Lib.hid hg
        clear hg
        go_wp2
        go_round
        case rel =>
          refine ⟨i + 1, by omega, by omega, by go_num, fun j h1 hj => ?_⟩
          by_cases h : j < i
          · exact HNO.out j h1 h
          · obtain rfl : j = i := by omega
            exact H0.out
        case measure => simp [intOf]; omega
    · have hi2 : i = s.length := by omega
      have hz := FN.out (fun j h1 hj => HNO.out j h1 (by omega))
      subst hz
      go_wp2
      go_ret
      exact ⟨rfl, rfl⟩
end Go.Proofs.YtdgcjjledbnofaaDoor

/-
  Layer 4: rows of bytes that a tape holds, a tape's own block, and what a call of a tape may turn.
-/
namespace Go.Proofs.YtdgcjjledbnofaaDoor
open Go.RowKit
set_option linter.unusedVariables false

theorem byteCells_len (l : List UInt8) : (Lib.byteCells l).length = l.length := by simp [Lib.byteCells]
theorem byteCells_one (l : List UInt8) : ∀ u ∈ Lib.byteCells l, u.oneCell' = true := by
  intro u hu; simp [Lib.byteCells] at hu; obtain ⟨x, _, rfl⟩ := hu; rfl
theorem byteCells_take (l : List UInt8) (n : Nat) : (Lib.byteCells l).take n = Lib.byteCells (l.take n) := by simp [Lib.byteCells, List.map_take]

/-- The block that a slice can write into. -/
def foot : Value → Option Nat
  | .slice (some a) _ (_ + 1) => some a.block
  | _ => none
theorem foot_zero (a : Option Addr) (n : Nat) : foot (.slice a n 0) = none := by cases a <;> rfl
theorem foot_succ (a : Addr) (n c : Nat) : foot (.slice (some a) n (c + 1)) = some a.block := rfl

/-- The bytes l: at the head of a block without marks; or none, and no room. -/
def Row (w : World) (v : Value) (l : List UInt8) : Prop :=
  (∃ a, v = .slice a 0 0 ∧ l = []) ∨
  ∃ g cap cur, v = .slice (some ⟨g, 0, none⟩) l.length (cap + 1) ∧ w.heap[g]? = some (.cells cur 5 (0, 0)) ∧ l.length ≤ cap + 1 ∧ cap + 1 ≤ maxLen ∧ cur.size = cap + 1 ∧ cur.toList.take l.length = Lib.byteCells l
theorem Row.nil (w : World) (a : Option Addr) : Row w (.slice a 0 0) [] := .inl ⟨a, rfl, rfl⟩
theorem Row.lt {w : World} {v : Value} {l : List UInt8} (h : Row w v l) (g : Nat) (hg : foot v = some g) : g < w.heap.size := by
  rcases h with ⟨a, rfl, _⟩ | ⟨g', cap, cur, rfl, hh, _⟩
  · rw [foot_zero] at hg; cases hg
  · cases hg; exact (Array.getElem?_eq_some_iff.1 hh).1
theorem Row.keep {w w' : World} {v : Value} {l : List UInt8} (h : Row w v l) (hk : ∀ g, foot v = some g → w'.heap[g]? = w.heap[g]?) : Row w' v l := by
  rcases h with h | ⟨g', cap, cur, rfl, hh, r⟩
  · exact .inl h
  · exact .inr ⟨g', cap, cur, rfl, (hk g' rfl).trans hh, r⟩
theorem Row.chg {S : Nat → Prop} {w w' : World} {v : Value} {l : List UInt8} (h : Row w v l) (hc : Chg S w w') (hn : ∀ g, foot v = some g → ¬ S g) : Row w' v l :=
  h.keep fun g hg => hc.block g (h.lt g hg) (hn g hg)
theorem Row.shape {w : World} {v : Value} {l : List UInt8} (h : Row w v l) : ∃ a c, v = .slice a l.length c ∧ l.length ≤ c ∧ c ≤ maxLen ∧ BAt w a l ∧ (a = none → l.length = 0 ∧ c = 0) := by
  rcases h with ⟨a, rfl, rfl⟩ | ⟨g, cap, cur, rfl, hh, h1, h2, h3, h4⟩
  · exact ⟨a, 0, rfl, Nat.le_refl _, Nat.zero_le _, BAt.nil _ _, fun _ => ⟨rfl, rfl⟩⟩
  · refine ⟨_, _, rfl, h1, h2, fun hp => ⟨g, 0, rfl, (Array.getElem?_eq_some_iff.1 hh).1, fun i hi => ?_⟩, fun h => by cases h⟩
    have e : (cur.toList.take l.length)[i]? = (Lib.byteCells l)[i]? := by rw [h4]
    rw [List.getElem?_take, if_pos hi, byteCells_at, List.getElem?_eq_getElem hi] at e
    rw [Nat.zero_add, cell_of_row w g i cur _ _ hh, ← Array.getElem?_toList, e]; rfl
/-- Its first n bytes. -/
theorem Row.cut {w : World} {a : Option Addr} {c : Nat} {l : List UInt8} (h : Row w (.slice a l.length c) l) (n : Nat) (hn : n ≤ l.length) : Row w (.slice a n c) (l.take n) ∧ foot (.slice a n c) = foot (.slice a l.length c) := by
  have hlen : (l.take n).length = n := by rw [List.length_take]; omega
  rcases h with ⟨a', e, rfl⟩ | ⟨g, cap, cur, e, hh, h1, h2, h3, h4⟩
  · simp only [Value.slice.injEq, List.length_nil] at e
    obtain ⟨rfl, _, rfl⟩ := e
    obtain rfl : n = 0 := by simpa using hn
    exact ⟨by simpa using Row.nil w a, rfl⟩
  · simp only [Value.slice.injEq] at e
    obtain ⟨rfl, _, rfl⟩ := e
    refine ⟨.inr ⟨g, cap, cur, by rw [hlen], hh, by omega, h2, h3, ?_⟩, rfl⟩
    rw [hlen, ← byteCells_take, ← h4, List.take_take, Nat.min_eq_left hn]

theorem info_u8 : (Tryd.prog.info? 5).map (fun i => (i.zero, i.size, i.bytes)) = some (some (.int .u8 0), 1, 1) := by kernel_rfl
/-- What is appended: bytes behind an address, or none. -/
theorem src_of {w : World} {x : Option Addr} {n c : Nat} {m : List UInt8} (hx : BAt w x m) (hn : n = m.length) (hno : x = none → n = 0 ∧ c = 0) : Src Tryd.prog 1 23 (.slice x n c) n (Lib.byteCells m) w := by
  subst hn
  cases x with
  | none =>
    obtain ⟨h1, h2⟩ := hno rfl
    obtain rfl : m = [] := List.eq_nil_of_length_eq_zero h1
    exact Src.ofNil w Tryd.underlying23 c
  | some a =>
    refine Src.ofSlice w Tryd.underlying23 a m.length c (Lib.byteCells m) (by rw [byteCells_len, Nat.mul_one]) (fun j u hj => ?_) (byteCells_one m)
    have hlt : j < m.length := by
      rcases Nat.lt_or_ge j m.length with h' | h'
      · exact h'
      · rw [byteCells_at, List.getElem?_eq_none h'] at hj; cases hj
    obtain ⟨b, o, e, _, hc⟩ := hx (by omega)
    cases e
    rw [show (⟨b, o, none⟩ : Addr).add j = ⟨b, o + j, none⟩ by unfold Addr.add; split <;> simp_all, hc j hlt]
    rw [byteCells_at, List.getElem?_eq_getElem hlt] at hj
    simpa using hj
/-- What an append leaves: the row; what it may have written; its block is the old one or a new one. -/
def Appended (w : World) (v : Value) (l : List UInt8) (v' : Value) (w' : World) : Prop :=
  Row w' v' l ∧ w.grownBy w' (foot v) ∧ (foot v' = foot v ∨ foot v' = none ∨ foot v' = some w.heap.size)
theorem run_append_row {w : World} {v : Value} {l m : List UInt8} (h : Row w v l) {x : Option Addr} {n c : Nat} (hx : BAt w x m) (hn : n = m.length) (hno : x = none → n = 0 ∧ c = 0) (hb : l.length + m.length ≤ 1099511627776) (ty : TypeId) :
    ∃ v' w', (Builtin.append_ #[23, 23] ty #[v, .slice x n c]).run Tryd.prog w = .ok v' w' ∧ Appended w v (l ++ m) v' w' := by
  obtain ⟨i, hi, hz, hs, hby⟩ := info_parts info_u8
  have hsrc := src_of hx hn hno
  rw [← hs] at hsrc
  subst hn
  have hml : (Lib.byteCells m).length = m.length := byteCells_len m
  by_cases hm0 : m.length = 0
  · obtain rfl : m = [] := List.eq_nil_of_length_eq_zero hm0
    obtain ⟨a, c', rfl, hle, _, _, _⟩ := h.shape
    refine ⟨_, w, run_append_nothing w 23 23 ty 5 i Tryd.underlying23 hi a l.length c' hle _ (by simpa [Lib.byteCells] using hsrc), ?_, ⟨rfl, rfl, rfl, Nat.le_refl _, fun _ _ _ => rfl⟩, .inl rfl⟩
    rw [List.append_nil]; exact h
  · have grow : ∀ (base : Option Addr) (cap : Nat), cap < l.length + m.length → (Builtin.firstCells i.size l.length (.slice base l.length cap)).run Tryd.prog w.drew = .ok (Lib.byteCells l).toArray w.drew →
        ∃ v' w', (Builtin.append_ #[23, 23] ty #[.slice base l.length cap, .slice x m.length c]).run Tryd.prog w = .ok v' w' ∧ Row w' v' (l ++ m) ∧ w.grownBy w' (foot (.slice base l.length cap)) ∧ foot v' = some w.heap.size := by
      intro base cap hcap hold
      have hge := grownCap_ge w (l.length + m.length) cap 5
      have hcm : grownCap w (l.length + m.length) cap 5 ≤ maxLen := grownCap_le_maxLen w _ _ _ (by unfold maxLen; omega)
      have hr := run_append_grow_src w 23 23 ty 5 i (.int .u8 0) Tryd.underlying23 hi hz base l.length cap (Lib.byteCells l) hold (.slice x m.length c) m.length (Lib.byteCells m) hsrc hcap (by omega) (growslice_fits (by omega) (by rw [hby]; omega))
      refine ⟨_, _, hr, ?_, ⟨rfl, rfl, rfl, by simp, fun k hk _ => Below.heap_alloc w.drew _ k hk⟩, ?_⟩
      · obtain ⟨cap', hc'⟩ : ∃ cap', grownCap w (l.length + m.length) cap 5 = cap' + 1 := ⟨grownCap w (l.length + m.length) cap 5 - 1, by omega⟩
        rw [hc'] at hge hcm ⊢
        refine .inr ⟨w.heap.size, cap', _, by rw [List.length_append], heap_alloc_new w.drew _, by rw [List.length_append]; exact hge, hcm, ?_, ?_⟩
        · simp only [Array.size_append, List.size_toArray, size_zeroCells, List.length_append, byteCells_len, Value.cells]
          simp; omega
        · rw [List.length_append, ← Lib.byteCells_append]
          simp only [Array.toList_append]
          rw [← List.length_append, ← byteCells_len (l ++ m)]
          exact List.take_left
      · obtain ⟨cap', hc'⟩ : ∃ cap', grownCap w (l.length + m.length) cap 5 = cap' + 1 := ⟨grownCap w (l.length + m.length) cap 5 - 1, by omega⟩
        rw [hc', foot_succ]
    rcases h with ⟨a, rfl, rfl⟩ | ⟨g, cap, cur, rfl, hh, h1, h2, h3, h4⟩
    · obtain ⟨v', w', r1, r2, r3, r4⟩ := grow a 0 (by simp; omega) (by
        have e : (Lib.byteCells []).toArray = (#[] : Array Value) := rfl
        rw [e]
        cases a with
        | none => exact run_firstCells_none w.drew i.size 0 0 0
        | some ad => exact run_firstCells_some w.drew i.size 0 ad 0 0 [] (by simp) (fun j v hj => by simp at hj))
      exact ⟨v', w', r1, r2, r3, .inr (.inr r4)⟩
    · by_cases hroom : l.length + m.length ≤ cap + 1
      · have hfit : l.length * i.size + (Lib.byteCells m).length ≤ cur.size := by rw [hs, hml, h3]; omega
        have hcells : ∀ j, j < cap + 1 → (w.cell? ⟨g, j, none⟩).isSome = true := fun j hj => by
          rw [cell_of_row w g j cur _ _ hh, Array.getElem?_eq_getElem (by omega)]; rfl
        have hfz : ∀ j, w.frozen? ⟨g, j, none⟩ = false := fun j => by simp [World.frozen?, hh]
        have hr : (Builtin.append_ #[23, 23] ty #[.slice (some ⟨g, 0, none⟩) l.length (cap + 1), .slice x m.length c]).run Tryd.prog w = .ok (.slice (some ⟨g, 0, none⟩) (l.length + m.length) (cap + 1)) (w.setRow g (cur.toList.take (l.length * i.size) ++ Lib.byteCells m ++ cur.toList.drop (l.length * i.size + (Lib.byteCells m).length)).toArray) := by
          cases x with
          | none => exact absurd (hno rfl).1 hm0
          | some ad =>
            refine run_append_room w 23 ty 5 i Tryd.underlying23 hi g l.length (cap + 1) cur hh ad m.length c (Lib.byteCells m) (by rw [hs, hml, Nat.mul_one]) (fun j u hj => ?_) (byteCells_one m) hroom hfit
            have hlt : j < m.length := by
              rcases Nat.lt_or_ge j m.length with h' | h'
              · exact h'
              · rw [byteCells_at, List.getElem?_eq_none h'] at hj; cases hj
            obtain ⟨b, o, e, _, hc⟩ := hx (by omega)
            cases e
            rw [show (⟨b, o, none⟩ : Addr).add j = ⟨b, o + j, none⟩ by unfold Addr.add; split <;> simp_all, hc j hlt]
            rw [byteCells_at, List.getElem?_eq_getElem hlt] at hj
            simpa using hj
        refine ⟨_, _, hr, ?_, ⟨rfl, rfl, rfl, by simp, fun k _ hk => setRow_other w g k _ (fun e => hk (by rw [foot_succ, e]))⟩, .inl rfl⟩
        refine .inr ⟨g, cap, _, by rw [List.length_append], setRow_heap w g cur _ _ _ hh, by rw [List.length_append]; exact hroom, h2, ?_, ?_⟩
        · simp only [List.size_toArray, List.length_append, List.length_take, List.length_drop, Array.length_toList, hml, hs]
          omega
        · simp only [hs, Nat.mul_one]
          rw [h4, ← Lib.byteCells_append, ← byteCells_len (l ++ m)]
          exact List.take_left
      · obtain ⟨v', w', r1, r2, r3, r4⟩ := grow (some ⟨g, 0, none⟩) (cap + 1) (by omega) (by
          refine run_firstCells_some w.drew i.size l.length ⟨g, 0, none⟩ l.length (cap + 1) (Lib.byteCells l) (by rw [byteCells_len, hs, Nat.mul_one]) (fun j u hj => ?_)
          have hlt : j < l.length := by
            rcases Nat.lt_or_ge j l.length with h' | h'
            · exact h'
            · rw [byteCells_at, List.getElem?_eq_none h'] at hj; cases hj
          have e : (cur.toList.take l.length)[j]? = (Lib.byteCells l)[j]? := by rw [h4]
          rw [List.getElem?_take, if_pos hlt] at e
          show w.cell? _ = _
          rw [show (⟨g, 0, none⟩ : Addr).add j = ⟨g, j, none⟩ by unfold Addr.add; split <;> simp_all, cell_of_row w g j cur _ _ hh, ← Array.getElem?_toList, e, hj])
        exact ⟨v', w', r1, r2, r3, .inr (.inr r4)⟩
/-- The same, as a law for the walk. -/
theorem wpList_append_row {ops : Array Oper} {rest : List Oper} {o : Oper} {a : Act} {w : World} {Q : Exit → Act → World → Prop} (hgd : o.guard = none) (s y : Operand)
    (ho : o.op = .call { callee := .builtin .append, args := #[s, y], argTypes := #[23, 23] })
    (v : Value) (hs : a.eval s = v) (l m : List UInt8) (hrow : Row w v l) (x : Option Addr) (n c : Nat) (hy : a.eval y = .slice x n c) (hx : BAt w x m) (hn : n = m.length) (hno : x = none → n = 0 ∧ c = 0) (hb : l.length + m.length ≤ 1099511627776)
    (h : ∀ v' w', Appended w v (l ++ m) v' w' → wpList Tryd.prog ops Q rest (a.put o.dst v') w') : wpList Tryd.prog ops Q (o :: rest) a w := by
  obtain ⟨v', w', hr, hap⟩ := run_append_row hrow hx hn hno hb o.type
  refine wpList_plain hgd fun K hK => ?_
  unfold Oper.wp execOp
  simp only [ho, resolve, invoke, builtin, Sem.run_bind, Sem.run_pure, Result.andThen_ok, List.map_toArray, List.map_cons, List.map_nil, hs, hy, hr]
  exact hK _ _ (h v' w' hap)
end Go.Proofs.YtdgcjjledbnofaaDoor

/-
  '[]byte(s)' of a text as a row of bytes, and what is appended to it.
-/
namespace Go.Proofs.YtdgcjjledbnofaaDoor
open Go.RowKit
set_option linter.unusedVariables false
set_option linter.unusedSimpArgs false

/-- Stores into a row of which no cell is frozen, whatever its mark. -/
theorem run_storeCells_atX (P : Program) (g o : Nat) (t : TypeId) (fz : Nat × Nat) : ∀ (vs : List Value) (i : Nat) (cur : Array Value) (w : World), w.heap[g]? = some (.cells cur t fz) → (∀ j, j < cur.size → ¬ (fz.1 ≤ j ∧ j < fz.2)) → o + i + vs.length ≤ cur.size → (∀ v ∈ vs, v.oneCell' = true) →
    (storeCells ⟨g, o, none⟩ vs i).run P w = .ok () (w.setRow g (cur.toList.take (o + i) ++ vs ++ cur.toList.drop (o + i + vs.length)).toArray)
  | [], i, cur, w, hg, _, _, _ => by
    simp only [storeCells, List.append_nil, List.length_nil, Nat.add_zero, List.take_append_drop, Array.toArray_toList]
    rw [setRow_self w g cur t fz hg]
    rfl
  | v :: rest, i, cur, w, hg, hfz, hl, h1 => by
    have hi : o + i < cur.size := by simp at hl; omega
    have hadd : (⟨g, o, none⟩ : Addr).add i = ⟨g, o + i, none⟩ := by unfold Addr.add; split <;> simp_all
    have hcell : w.cell? ⟨g, o + i, none⟩ = some cur[o + i] := by simp [World.cell?, hg, hi]
    have hfro : w.frozen? ⟨g, o + i, none⟩ = false := by
      have h := hfz (o + i) hi
      obtain ⟨lo, hi'⟩ := fz
      simp only [World.frozen?, hg, Bool.and_eq_false_iff, decide_eq_false_iff_not]
      simp only at h
      omega
    have hst : (store ((⟨g, o, none⟩ : Addr).add i) v).run P w = .ok () (w.setRow g (cur.setIfInBounds (o + i) v)) := by
      rw [hadd, run_store P w _ v _ (h1 v (by simp)), hcell]
      simp [hfro, setCell_eq_setRow w g (o + i) cur t fz v hg]
    have ih := run_storeCells_atX P g o t fz rest (i + 1) (cur.setIfInBounds (o + i) v) (w.setRow g (cur.setIfInBounds (o + i) v)) (setRow_heap w g cur _ t _ hg) (fun j hj => hfz j (by simpa using hj)) (by simp at hl ⊢; omega) (fun x hx => h1 x (by simp [hx]))
    simp only [storeCells, Sem.run_bind, hst, Result.andThen_ok, ih, setRow_setRow]
    congr 3
    have e := list_seg_step cur.toList (o + i) v rest (by simp at hl ⊢; omega)
    simpa [Array.toList_setIfInBounds, Nat.add_assoc] using e

/-- A row of bytes with its room, of which no cell is frozen. -/
def RowX (w : World) (g cap : Nat) (l : List UInt8) : Prop :=
  ∃ cur fz, w.heap[g]? = some (.cells cur 5 fz) ∧ l.length ≤ cap ∧ cap ≤ maxLen ∧ cur.size = cap ∧ cur.toList.take l.length = Lib.byteCells l ∧ ∀ j, j < cur.size → ¬ (fz.1 ≤ j ∧ j < fz.2)
theorem RowX.lt {w : World} {g cap : Nat} {l : List UInt8} (h : RowX w g cap l) : g < w.heap.size := by
  obtain ⟨cur, fz, hg, _⟩ := h
  exact (Array.getElem?_eq_some_iff.1 hg).1
theorem RowX.below {w w' : World} {g cap : Nat} {l : List UInt8} (h : RowX w g cap l) {B : Nat} (hb : Below B w w') (hB : g < B) : RowX w' g cap l := by
  obtain ⟨cur, fz, hg, r⟩ := h
  exact ⟨cur, fz, (hb.block g hB).trans hg, r⟩
theorem RowX.cells {w : World} {g cap : Nat} {l : List UInt8} (h : RowX w g cap l) : ∀ j u, (Lib.byteCells l)[j]? = some u → w.cell? ((⟨g, 0, none⟩ : Addr).add j) = some u := by
  obtain ⟨cur, fz, hg, h1, h2, h3, h4, _⟩ := h
  intro j u hj
  have hlt : j < l.length := by
    rcases Nat.lt_or_ge j l.length with h' | h'
    · exact h'
    · rw [List.getElem?_eq_none (by rw [byteCells_len]; exact h')] at hj; cases hj
  rw [← h4, List.getElem?_take, if_pos hlt] at hj
  rw [show (⟨g, 0, none⟩ : Addr).add j = ⟨g, j, none⟩ by unfold Addr.add; split <;> simp_all, cell_of_row w g j cur _ _ hg, ← Array.getElem?_toList, hj]
theorem RowX.bat {w : World} {g cap : Nat} {l : List UInt8} (h : RowX w g cap l) : BAt w (some ⟨g, 0, none⟩) l := fun _ => by
  refine ⟨g, 0, rfl, h.lt, fun i hi => ?_⟩
  have := h.cells i (.int .u8 (l[i]).toNat) (by simp [Lib.byteCells, List.getElem?_map, hi])
  rwa [show (⟨g, 0, none⟩ : Addr).add i = ⟨g, 0 + i, none⟩ by unfold Addr.add; split <;> simp_all] at this
/-- '[]byte(s)'. -/
theorem str_row (w : World) (l : List UInt8) (hl : l.length ≤ 1099511627776) :
    ∃ cap w', (convert 9 23 (.string ⟨l.toArray⟩)).run Tryd.prog w = .ok (.slice (some ⟨w.heap.size, 0, none⟩) l.length cap) w' ∧ Below w.heap.size w w' ∧ RowX w' w.heap.size cap l := by
  have h := run_bytes_of_string (P := Tryd.prog) w 9 23 5 ⟨l.toArray⟩ Tryd.underlying9 Tryd.underlying23 Tryd.underlying5
  rw [size_toArray] at h
  have hge := grownCap_ge w l.length 0 5
  have hcm : grownCap w l.length 0 5 ≤ maxLen := grownCap_le_maxLen w _ _ _ (by unfold maxLen; omega)
  have hsz : (bytesRow ⟨l.toArray⟩ (grownCap w l.length 0 5)).size = grownCap w l.length 0 5 := by
    unfold bytesRow
    simp only [Array.size_append, Array.size_map, Array.size_replicate, List.size_toArray, size_toArray]
    omega
  refine ⟨_, _, h, ((Below.refl _ w).drew).alloc (Nat.le_refl _) _, _, _, heap_alloc_new w.drew _, hge, hcm, hsz, ?_, fun j hj hf => ?_⟩
  · simp [bytesRow, Lib.byteCells]
  · have := hf.1
    simp only at this
    omega

/-- 'append(b, x...)' to9 such a row. -/
theorem run_append_rowX {w : World} {g cap : Nat} {l m : List UInt8} (h : RowX w g cap l) {x : Option Addr} {n c : Nat} (hx : BAt w x m) (hn : n = m.length) (hno : x = none → n = 0 ∧ c = 0) (hb : l.length + m.length ≤ 1099511627776) (ty : TypeId) :
    ∃ g' cap' w', (Builtin.append_ #[23, 23] ty #[.slice (some ⟨g, 0, none⟩) l.length cap, .slice x n c]).run Tryd.prog w = .ok (.slice (some ⟨g', 0, none⟩) (l.length + m.length) cap') w' ∧ RowX w' g' cap' (l ++ m) ∧ w.grownBy w' (some g) ∧ (g' = g ∨ w.heap.size ≤ g') := by
  obtain ⟨i, hi, hz, hs, hby⟩ := info_parts info_u8
  have hsrc := src_of hx hn hno
  rw [← hs] at hsrc
  subst hn
  have hml : (Lib.byteCells m).length = m.length := byteCells_len m
  have hcl := h.cells
  by_cases hm0 : m.length = 0
  · obtain rfl : m = [] := List.eq_nil_of_length_eq_zero hm0
    obtain ⟨cur, fz, hg, h1, h2, h3, h4, h5⟩ := h
    refine ⟨g, cap, w, run_append_nothing w 23 23 ty 5 i Tryd.underlying23 hi _ l.length cap h1 _ (by simpa [Lib.byteCells] using hsrc), ?_, ⟨rfl, rfl, rfl, Nat.le_refl _, fun _ _ _ => rfl⟩, .inl rfl⟩
    rw [List.append_nil]; exact ⟨cur, fz, hg, h1, h2, h3, h4, h5⟩
  · obtain ⟨cur, fz, hg, h1, h2, h3, h4, h5⟩ := h
    by_cases hroom : l.length + m.length ≤ cap
    · have hfit : l.length * i.size + (Lib.byteCells m).length ≤ cur.size := by rw [hs, hml, h3]; omega
      have hr : (Builtin.append_ #[23, 23] ty #[.slice (some ⟨g, 0, none⟩) l.length cap, .slice x m.length c]).run Tryd.prog w = .ok (.slice (some ⟨g, 0, none⟩) (l.length + m.length) cap) (w.setRow g (cur.toList.take (l.length * i.size) ++ Lib.byteCells m ++ cur.toList.drop (l.length * i.size + (Lib.byteCells m).length)).toArray) := by
        cases x with
        | none => exact absurd (hno rfl).1 hm0
        | some ad =>
          have hnews : ∀ j u, (Lib.byteCells m)[j]? = some u → w.cell? (ad.add j) = some u := fun j u hj => by
            have hlt : j < m.length := by
              rcases Nat.lt_or_ge j m.length with h' | h'
              · exact h'
              · rw [byteCells_at, List.getElem?_eq_none h'] at hj; cases hj
            obtain ⟨b, o, e, _, hc⟩ := hx (by omega)
            cases e
            rw [show (⟨b, o, none⟩ : Addr).add j = ⟨b, o + j, none⟩ by unfold Addr.add; split <;> simp_all, hc j hlt]
            rw [byteCells_at, List.getElem?_eq_getElem hlt] at hj
            simpa using hj
          have hf := run_firstCells_some (P := Tryd.prog) w i.size m.length ad m.length c (Lib.byteCells m) (by rw [hs, hml, Nat.mul_one]) hnews
          have hst := run_storeCells_atX Tryd.prog g (l.length * i.size) 5 fz (Lib.byteCells m) 0 cur w hg h5 (by simpa using hfit) (byteCells_one m)
          simp only [Nat.add_zero] at hst
          have hu := Tryd.underlying23
          simp [Builtin.append_, run_underlying hu, sizeOf, typeInfo, hi, Builtin.lenOf, hroom, hf, Addr.add_lit, hst]
      have hsz : (cur.toList.take (l.length * i.size) ++ Lib.byteCells m ++ cur.toList.drop (l.length * i.size + (Lib.byteCells m).length)).toArray.size = cur.size := by
        simp only [List.size_toArray, List.length_append, List.length_take, List.length_drop, Array.length_toList, hml, hs]
        omega
      refine ⟨g, cap, _, hr, ⟨_, fz, setRow_heap w g cur _ _ _ hg, by rw [List.length_append]; exact hroom, h2, by rw [hsz]; exact h3, ?_, fun j hj => h5 j (by rw [hsz] at hj; exact hj)⟩, ⟨rfl, rfl, rfl, by simp, fun k _ hk => setRow_other w g k _ (fun e => hk (by rw [e]))⟩, .inl rfl⟩
      simp only [hs, Nat.mul_one]
      rw [h4, ← Lib.byteCells_append, ← byteCells_len (l ++ m)]
      exact List.take_left
    · have hge := grownCap_ge w (l.length + m.length) cap 5
      have hcm : grownCap w (l.length + m.length) cap 5 ≤ maxLen := grownCap_le_maxLen w _ _ _ (by unfold maxLen; omega)
      have hold : (Builtin.firstCells i.size l.length (.slice (some ⟨g, 0, none⟩) l.length cap)).run Tryd.prog w.drew = .ok (Lib.byteCells l).toArray w.drew :=
        run_firstCells_some w.drew i.size l.length ⟨g, 0, none⟩ l.length cap (Lib.byteCells l) (by rw [byteCells_len, hs, Nat.mul_one]) hcl
      have hr := run_append_grow_src w 23 23 ty 5 i (.int .u8 0) Tryd.underlying23 hi hz (some ⟨g, 0, none⟩) l.length cap (Lib.byteCells l) hold (.slice x m.length c) m.length (Lib.byteCells m) hsrc (by omega) (by omega) (growslice_fits (by omega) (by rw [hby]; omega))
      refine ⟨_, _, _, hr, ⟨_, (0, 0), heap_alloc_new w.drew _, by rw [List.length_append]; exact hge, hcm, ?_, ?_, fun j _ hf => absurd hf.2 (Nat.not_lt_zero j)⟩, ⟨rfl, rfl, rfl, by simp, fun k hk _ => Below.heap_alloc w.drew _ k hk⟩, .inr (Nat.le_refl _)⟩
      · simp only [Array.size_append, List.size_toArray, size_zeroCells, List.length_append, byteCells_len, Value.cells]
        simp; omega
      · rw [List.length_append, ← Lib.byteCells_append]
        simp only [Array.toList_append]
        rw [← List.length_append, ← byteCells_len (l ++ m)]
        exact List.take_left
/-- The same, at one operation. -/
theorem wp_append_rowX {o : Oper} {a : Act} {w : World} {K : Act → World → Prop} {Q : Exit → Act → World → Prop} (s y : Operand)
    (ho : o.op = .call { callee := .builtin .append, args := #[s, y], argTypes := #[23, 23] })
    (g cap k : Nat) (l m : List UInt8) (hk : k = l.length) (hs : a.eval s = .slice (some ⟨g, 0, none⟩) k cap) (hrow : RowX w g cap l) (x : Option Addr) (n c : Nat) (hy : a.eval y = .slice x n c) (hx : BAt w x m) (hn : n = m.length) (hno : x = none → n = 0 ∧ c = 0) (hb : l.length + m.length ≤ 1099511627776)
    (h : ∀ g' cap' w', RowX w' g' cap' (l ++ m) → w.grownBy w' (some g) → (g' = g ∨ w.heap.size ≤ g') → K (a.put o.dst (.slice (some ⟨g', 0, none⟩) (l.length + m.length) cap')) w') : Oper.wp Tryd.prog o a w K Q := by
  subst hk
  obtain ⟨g', cap', w', hr, h1, h2, h3⟩ := run_append_rowX hrow hx hn hno hb o.type
  unfold Oper.wp execOp
  simp only [ho, resolve, invoke, builtin, Sem.run_bind, Sem.run_pure, Result.andThen_ok, List.map_toArray, List.map_cons, List.map_nil, hs, hy, hr]
  exact h g' cap' w' h1 h2 h3
/-- The same, in a region that draws its order. -/
theorem step_append_rowX {ops : Array Oper} {o : Oper} {a : Act} {w : World} {K : Act → World → Prop} {Q : Exit → Act → World → Prop} {E : Prop} (hgd : o.guard = none) (s y : Operand)
    (ho : o.op = .call { callee := .builtin .append, args := #[s, y], argTypes := #[23, 23] })
    (g cap k : Nat) (l m : List UInt8) (hk : k = l.length) (hs : a.eval s = .slice (some ⟨g, 0, none⟩) k cap) (hrow : RowX w g cap l) (x : Option Addr) (n c : Nat) (hy : a.eval y = .slice x n c) (hx : BAt w x m) (hn : n = m.length) (hno : x = none → n = 0 ∧ c = 0) (hb : l.length + m.length ≤ 1099511627776)
    (h : ∀ g' cap' w', RowX w' g' cap' (l ++ m) → w.grownBy w' (some g) → (g' = g ∨ w.heap.size ≤ g') → K (a.put o.dst (.slice (some ⟨g', 0, none⟩) (l.length + m.length) cap')) w') : if Region.wanted o (yielded ops a.tmps) = true then Oper.wp Tryd.prog o a w K Q else E := by
  have hw : Region.wanted o (yielded ops a.tmps) = true := by simp [Region.wanted, hgd]
  rw [if_pos hw]
  exact wp_append_rowX s y ho g cap k l m hk hs hrow x n c hy hx hn hno hb h
/-- The same, as a law for the walk. -/
theorem wpList_append_rowX {ops : Array Oper} {rest : List Oper} {o : Oper} {a : Act} {w : World} {Q : Exit → Act → World → Prop} (hgd : o.guard = none) (s y : Operand)
    (ho : o.op = .call { callee := .builtin .append, args := #[s, y], argTypes := #[23, 23] })
    (g cap k : Nat) (l m : List UInt8) (hk : k = l.length) (hs : a.eval s = .slice (some ⟨g, 0, none⟩) k cap) (hrow : RowX w g cap l) (x : Option Addr) (n c : Nat) (hy : a.eval y = .slice x n c) (hx : BAt w x m) (hn : n = m.length) (hno : x = none → n = 0 ∧ c = 0) (hb : l.length + m.length ≤ 1099511627776)
    (h : ∀ g' cap' w', RowX w' g' cap' (l ++ m) → w.grownBy w' (some g) → (g' = g ∨ w.heap.size ≤ g') → wpList Tryd.prog ops Q rest (a.put o.dst (.slice (some ⟨g', 0, none⟩) (l.length + m.length) cap')) w') : wpList Tryd.prog ops Q (o :: rest) a w := by
  subst hk
  obtain ⟨g', cap', w', hr, h1, h2, h3⟩ := run_append_rowX hrow hx hn hno hb o.type
  refine wpList_plain hgd fun K hK => ?_
  unfold Oper.wp execOp
  simp only [ho, resolve, invoke, builtin, Sem.run_bind, Sem.run_pure, Result.andThen_ok, List.map_toArray, List.map_cons, List.map_nil, hs, hy, hr]
  exact hK _ _ (h g' cap' w' h1 h2 h3)
end Go.Proofs.YtdgcjjledbnofaaDoor
