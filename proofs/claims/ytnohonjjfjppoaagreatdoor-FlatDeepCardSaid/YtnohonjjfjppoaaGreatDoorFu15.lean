/-
  Texts that belong together, one behind the other.
-/
import Derived.Test.YtnohonjjfjppoaaGreatDoorFu13
import Derived.Test.YtnohonjjfjppoaaGreatDoorFu14
import Derived.Test.YtnohonjjfjppoaaGreatDoorFu03
import Derived.Deep.AppendSrc
import Derived.Deep.Upon
import Derived.Laws.AppendOwn
import Derived.Laws.Rows
import Derived.Laws.Tables
import Derived.IntWalk
import Derived.WalkSmall
import Derived.OwnWalk
import Derived.Laws.OwnMore
import Derived.Lib.Hide
import Derived.StillTailTactics
import Derived.RegionTactic
/-
  Layer 10, the program's store: objects as values of their kind's type, under their ids in a map.
-/
namespace Go.Proofs.YtnohonjjfjppoaaGreatDoor
set_option maxRecDepth 20000
open Go.RowKit Go.Maps
set_option linter.unusedVariables false
set_option linter.unusedSimpArgs false
/-- An object as a value of its kind's type. -/
def thingP (k : Int) (v : Value) : Value := if k = 1 then .iface 148 (.agg #[v]) else if k = 2 then .iface 150 (.agg #[v]) else if k = 3 then .iface 152 (.agg #[v]) else .nilIface
theorem thingP1 (v : Value) : thingP 1 v = .iface 148 (.agg #[v]) := rfl
theorem thingP2 (v : Value) : thingP 2 v = .iface 150 (.agg #[v]) := rfl
theorem thingP3 (v : Value) : thingP 3 v = .iface 152 (.agg #[v]) := rfl
/-- What a map of such objects holds. -/
def celP (E : List Ent) : List (Value × Value) := E.map (fun e => (.agg (arrD e.c.id), thingP e.c.kind e.v))
theorem celP_keys {E : List Ent} (h : ∀ e ∈ E, okE e) : ∀ m ∈ celP E, ∃ l, keyOf Tryz.prog 27 m.1 = some l := by
  intro m hm
  obtain ⟨e, he, rfl⟩ := List.mem_map.1 hm
  exact key_id _ (h e he).1
/-- What stands under an id. -/
def getM (M : List Cel) (i : List UInt8) : Option Cel := M.find? (fun c => c.id == i)
/-- The program's store in its block: its map and its bytes lie in blocks of S. -/
def StoreP (S : Nat → Prop) (w : World) (g : Nat) (M : List Cel) : Prop :=
  S g ∧ ∃ (E : List Ent) (mb : Option Nat), E.map Ent.c = M ∧ w.heap[g]? = some (.cells #[.map mb] 66 (0, 0)) ∧
    (∀ e ∈ E, okE e ∧ kindO e.c.kind ∧ RedS (fun k => S k ∧ k ≠ g ∧ mb ≠ some k) w e.v e.c.body) ∧
    (mb = none → E = []) ∧ ∀ b, mb = some b → S b ∧ b ≠ g ∧ MapAt w b (celP E)
theorem StoreP.lt {S : Nat → Prop} {w : World} {g : Nat} {M : List Cel} (h : StoreP S w g M) : g < w.heap.size := by
  obtain ⟨hg, E, mb, h1, h2, h3, h4, h5⟩ := h
  exact lt_of_heap h2
theorem StoreP.keep {S : Nat → Prop} {w u : World} {g : Nat} {M : List Cel} (h : StoreP S w g M) (hk : Stays S w u) : StoreP S u g M := by
  obtain ⟨hg, E, mb, h1, h2, h3, h4, h5⟩ := h
  refine ⟨hg, E, mb, h1, (hk.2 g hg (lt_of_heap h2)).trans h2, fun e he => ?_, h4, fun b hb => ?_⟩
  · obtain ⟨k1, k2, k3⟩ := h3 e he
    exact ⟨k1, k2, k3.keep (hk.mono fun k h => h.1)⟩
  · obtain ⟨k1, k2, k3⟩ := h5 b hb
    exact ⟨k1, k2, k3.keep (hk.2 b k1 k3.lt)⟩
theorem StoreP.mono {S S' : Nat → Prop} {w : World} {g : Nat} {M : List Cel} (h : StoreP S w g M) (hs : ∀ k, k < w.heap.size → S k → S' k) : StoreP S' w g M := by
  obtain ⟨hg, E, mb, h1, h2, h3, h4, h5⟩ := h
  refine ⟨hs g (lt_of_heap h2) hg, E, mb, h1, h2, fun e he => ?_, h4, fun b hb => ?_⟩
  · obtain ⟨k1, k2, k3⟩ := h3 e he
    exact ⟨k1, k2, k3.mono (fun k hk h => ⟨hs k hk h.1, h.2⟩)⟩
  · obtain ⟨k1, k2, k3⟩ := h5 b hb
    exact ⟨hs b k3.lt k1, k2, k3⟩
theorem StoreP.below {S : Nat → Prop} {w u : World} {g : Nat} {M : List Cel} (h : StoreP S w g M) (hb : Below w.heap.size w u) : StoreP S u g M := h.keep (Stays.of hb)
theorem StoreP.ids {S : Nat → Prop} {w : World} {g : Nat} {M : List Cel} (h : StoreP S w g M) : ∀ x ∈ M, x.id.length = 20 ∧ kindO x.kind := by
  obtain ⟨hg, E, mb, h1, h2, h3, h4, h5⟩ := h
  intro x hx
  rw [← h1] at hx
  obtain ⟨e, he, rfl⟩ := List.mem_map.1 hx
  exact ⟨(h3 e he).1.1, (h3 e he).2.1⟩
/-- No id twice. -/
theorem StoreP.apart {S : Nat → Prop} {w : World} {g : Nat} {M : List Cel} (h : StoreP S w g M) : M.Pairwise (fun a b => a.id ≠ b.id) := by
  obtain ⟨hg, E, mb, h1, h2, h3, h4, h5⟩ := h
  cases mb with
  | none =>
    rw [h4 rfl] at h1
    rw [← h1]
    exact List.Pairwise.nil
  | some b =>
    have h6 := (h5 b rfl).2.2.apart
    unfold celP at h6
    rw [List.pairwise_map] at h6
    rw [← h1, List.pairwise_map]
    exact h6.imp (fun {a b} hne e => hne (by rw [e]))
theorem getM_some {M : List Cel} {i : List UInt8} {c : Cel} (h : getM M i = some c) : c ∈ M ∧ c.id = i := ⟨List.mem_of_find?_eq_some h, by simpa using List.find?_some h⟩
theorem getM_none {M : List Cel} {i : List UInt8} (h : getM M i = none) : ∀ c ∈ M, c.id ≠ i := fun c hc => by simpa using List.find?_eq_none.1 h c hc
theorem id_one : ∀ {M : List Cel}, M.Pairwise (fun a b => a.id ≠ b.id) → ∀ {x y : Cel}, x ∈ M → y ∈ M → x.id = y.id → x = y
  | [], _, _, _, hx, _, _ => by cases hx
  | a :: r, hp, x, y, hx, hy, h => by
    obtain ⟨h1, h2⟩ := List.pairwise_cons.1 hp
    rcases List.mem_cons.1 hx with ex | hx'
    · rcases List.mem_cons.1 hy with ey | hy'
      · rw [ex, ey]
      · exact absurd (ex ▸ h) (h1 y hy')
    · rcases List.mem_cons.1 hy with ey | hy'
      · exact absurd (ey ▸ h).symm (h1 x hx')
      · exact id_one h2 hx' hy' h
theorem getM_mem {M : List Cel} (ha : M.Pairwise (fun a b => a.id ≠ b.id)) {c : Cel} (hc : c ∈ M) : getM M c.id = some c := by
  cases h : getM M c.id with
  | none => exact absurd rfl (getM_none h c hc)
  | some d =>
    obtain ⟨h1, h2⟩ := getM_some h
    rw [id_one ha h1 hc h2]
end Go.Proofs.YtnohonjjfjppoaaGreatDoor

/-
  Layer 4: rows of bytes that a tape holds, a tape's own block, and what a call of a tape may turn.
-/
namespace Go.Proofs.YtnohonjjfjppoaaGreatDoor
open Go.RowKit
set_option linter.unusedVariables false
theorem byteCells_len (l : List UInt8) : (Lib.byteCells l).length = l.length := by simp [Lib.byteCells]
theorem byteCells_one (l : List UInt8) : ∀ u ∈ Lib.byteCells l, u.oneCell' = true := by
  intro u hu; simp [Lib.byteCells] at hu; obtain ⟨x, _, rfl⟩ := hu; rfl
/-- The block that a slice can write into. -/
def foot : Value → Option Nat
  | .slice (some a) _ (_ + 1) => some a.block
  | _ => none
theorem foot_zero (a : Option Addr) (n : Nat) : foot (.slice a n 0) = none := by cases a <;> rfl
theorem foot_succ (a : Addr) (n c : Nat) : foot (.slice (some a) n (c + 1)) = some a.block := rfl
/-- The bytes l: at the head of a block without marks; or none, and no room. -/
def Row (w : World) (v : Value) (l : List UInt8) : Prop :=
  (∃ a, v = .slice a 0 0 ∧ l = []) ∨
  ∃ g cap cur, v = .slice (some ⟨g, 0, none⟩) l.length (cap + 1) ∧ w.heap[g]? = some (.cells cur 5 (0, 0)) ∧ l.length ≤ cap + 1 ∧ cap + 1 ≤ maxLen ∧ cur.size = cap + 1 ∧ cur.toList.take l.length = Lib.byteCells l
theorem Row.nil (w : World) (a : Option Addr) : Row w (.slice a 0 0) [] := .inl ⟨a, rfl, rfl⟩
theorem Row.lt {w : World} {v : Value} {l : List UInt8} (h : Row w v l) (g : Nat) (hg : foot v = some g) : g < w.heap.size := by
  rcases h with ⟨a, rfl, _⟩ | ⟨g', cap, cur, rfl, hh, _⟩
  · rw [foot_zero] at hg; cases hg
  · cases hg; exact (Array.getElem?_eq_some_iff.1 hh).1
theorem Row.keep {w w' : World} {v : Value} {l : List UInt8} (h : Row w v l) (hk : ∀ g, foot v = some g → w'.heap[g]? = w.heap[g]?) : Row w' v l := by
  rcases h with h | ⟨g', cap, cur, rfl, hh, r⟩
  · exact .inl h
  · exact .inr ⟨g', cap, cur, rfl, (hk g' rfl).trans hh, r⟩
theorem Row.chg {S : Nat → Prop} {w w' : World} {v : Value} {l : List UInt8} (h : Row w v l) (hc : Chg S w w') (hn : ∀ g, foot v = some g → ¬ S g) : Row w' v l :=
  h.keep fun g hg => hc.block g (h.lt g hg) (hn g hg)
theorem Row.shape {w : World} {v : Value} {l : List UInt8} (h : Row w v l) : ∃ a c, v = .slice a l.length c ∧ l.length ≤ c ∧ c ≤ maxLen ∧ BAt w a l ∧ (a = none → l.length = 0 ∧ c = 0) := by
  rcases h with ⟨a, rfl, rfl⟩ | ⟨g, cap, cur, rfl, hh, h1, h2, h3, h4⟩
  · exact ⟨a, 0, rfl, Nat.le_refl _, Nat.zero_le _, BAt.nil _ _, fun _ => ⟨rfl, rfl⟩⟩
  · refine ⟨_, _, rfl, h1, h2, fun hp => ⟨g, 0, rfl, (Array.getElem?_eq_some_iff.1 hh).1, fun i hi => ?_⟩, fun h => by cases h⟩
    have e : (cur.toList.take l.length)[i]? = (Lib.byteCells l)[i]? := by rw [h4]
    rw [List.getElem?_take, if_pos hi, byteCells_at, List.getElem?_eq_getElem hi] at e
    rw [Nat.zero_add, cell_of_row w g i cur _ _ hh, ← Array.getElem?_toList, e]; rfl
theorem info_u8 : (Tryz.prog.info? 5).map (fun i => (i.zero, i.size, i.bytes)) = some (some (.int .u8 0), 1, 1) := by kernel_rfl
/-- What is appended: bytes behind an address, or none. -/
theorem src_of {w : World} {x : Option Addr} {n c : Nat} {m : List UInt8} (hx : BAt w x m) (hn : n = m.length) (hno : x = none → n = 0 ∧ c = 0) : Src Tryz.prog 1 50 (.slice x n c) n (Lib.byteCells m) w := by
  subst hn
  cases x with
  | none =>
    obtain ⟨h1, h2⟩ := hno rfl
    obtain rfl : m = [] := List.eq_nil_of_length_eq_zero h1
    exact Src.ofNil w Tryz.underlying50 c
  | some a =>
    refine Src.ofSlice w Tryz.underlying50 a m.length c (Lib.byteCells m) (by rw [byteCells_len, Nat.mul_one]) (fun j u hj => ?_) (byteCells_one m)
    have hlt : j < m.length := by
      rcases Nat.lt_or_ge j m.length with h' | h'
      · exact h'
      · rw [byteCells_at, List.getElem?_eq_none h'] at hj; cases hj
    obtain ⟨b, o, e, _, hc⟩ := hx (by omega)
    cases e
    rw [show (⟨b, o, none⟩ : Addr).add j = ⟨b, o + j, none⟩ by unfold Addr.add; split <;> simp_all, hc j hlt]
    rw [byteCells_at, List.getElem?_eq_getElem hlt] at hj
    simpa using hj
/-- What an append leaves: the row; what it may have written; its block is the old one or a new one. -/
def Appended (w : World) (v : Value) (l : List UInt8) (v' : Value) (w' : World) : Prop :=
  Row w' v' l ∧ w.grownBy w' (foot v) ∧ (foot v' = foot v ∨ foot v' = none ∨ foot v' = some w.heap.size)
theorem run_append_row {w : World} {v : Value} {l m : List UInt8} (h : Row w v l) {x : Option Addr} {n c : Nat} (hx : BAt w x m) (hn : n = m.length) (hno : x = none → n = 0 ∧ c = 0) (hb : l.length + m.length ≤ 1099511627776) (ty : TypeId) :
    ∃ v' w', (Builtin.append_ #[50, 50] ty #[v, .slice x n c]).run Tryz.prog w = .ok v' w' ∧ Appended w v (l ++ m) v' w' := by
  obtain ⟨i, hi, hz, hs, hby⟩ := info_parts info_u8
  have hsrc := src_of hx hn hno
  rw [← hs] at hsrc
  subst hn
  have hml : (Lib.byteCells m).length = m.length := byteCells_len m
  by_cases hm0 : m.length = 0
  · obtain rfl : m = [] := List.eq_nil_of_length_eq_zero hm0
    obtain ⟨a, c', rfl, hle, _, _, _⟩ := h.shape
    refine ⟨_, w, run_append_nothing w 50 50 ty 5 i Tryz.underlying50 hi a l.length c' hle _ (by simpa [Lib.byteCells] using hsrc), ?_, ⟨rfl, rfl, rfl, Nat.le_refl _, fun _ _ _ => rfl⟩, .inl rfl⟩
    rw [List.append_nil]; exact h
  · have grow : ∀ (base : Option Addr) (cap : Nat), cap < l.length + m.length → (Builtin.firstCells i.size l.length (.slice base l.length cap)).run Tryz.prog w.drew = .ok (Lib.byteCells l).toArray w.drew →
        ∃ v' w', (Builtin.append_ #[50, 50] ty #[.slice base l.length cap, .slice x m.length c]).run Tryz.prog w = .ok v' w' ∧ Row w' v' (l ++ m) ∧ w.grownBy w' (foot (.slice base l.length cap)) ∧ foot v' = some w.heap.size := by
      intro base cap hcap hold
      have hge := grownCap_ge w (l.length + m.length) cap 5
      have hcm : grownCap w (l.length + m.length) cap 5 ≤ maxLen := grownCap_le_maxLen w _ _ _ (by unfold maxLen; omega)
      have hr := run_append_grow_src w 50 50 ty 5 i (.int .u8 0) Tryz.underlying50 hi hz base l.length cap (Lib.byteCells l) hold (.slice x m.length c) m.length (Lib.byteCells m) hsrc hcap (by omega) (growslice_fits (by omega) (by rw [hby]; omega))
      refine ⟨_, _, hr, ?_, ⟨rfl, rfl, rfl, by simp, fun k hk _ => Below.heap_alloc w.drew _ k hk⟩, ?_⟩
      · obtain ⟨cap', hc'⟩ : ∃ cap', grownCap w (l.length + m.length) cap 5 = cap' + 1 := ⟨grownCap w (l.length + m.length) cap 5 - 1, by omega⟩
        rw [hc'] at hge hcm ⊢
        refine .inr ⟨w.heap.size, cap', _, by rw [List.length_append], heap_alloc_new w.drew _, by rw [List.length_append]; exact hge, hcm, ?_, ?_⟩
        · simp only [Array.size_append, List.size_toArray, size_zeroCells, List.length_append, byteCells_len, Value.cells]
          simp; omega
        · rw [List.length_append, ← Lib.byteCells_append]
          simp only [Array.toList_append]
          rw [← List.length_append, ← byteCells_len (l ++ m)]
          exact List.take_left
      · obtain ⟨cap', hc'⟩ : ∃ cap', grownCap w (l.length + m.length) cap 5 = cap' + 1 := ⟨grownCap w (l.length + m.length) cap 5 - 1, by omega⟩
        rw [hc', foot_succ]
    rcases h with ⟨a, rfl, rfl⟩ | ⟨g, cap, cur, rfl, hh, h1, h2, h3, h4⟩
    · obtain ⟨v', w', r1, r2, r3, r4⟩ := grow a 0 (by simp; omega) (by
        have e : (Lib.byteCells []).toArray = (#[] : Array Value) := rfl
        rw [e]
        cases a with
        | none => exact run_firstCells_none w.drew i.size 0 0 0
        | some ad => exact run_firstCells_some w.drew i.size 0 ad 0 0 [] (by simp) (fun j v hj => by simp at hj))
      exact ⟨v', w', r1, r2, r3, .inr (.inr r4)⟩
    · by_cases hroom : l.length + m.length ≤ cap + 1
      · have hfit : l.length * i.size + (Lib.byteCells m).length ≤ cur.size := by rw [hs, hml, h3]; omega
        have hcells : ∀ j, j < cap + 1 → (w.cell? ⟨g, j, none⟩).isSome = true := fun j hj => by
          rw [cell_of_row w g j cur _ _ hh, Array.getElem?_eq_getElem (by omega)]; rfl
        have hfz : ∀ j, w.frozen? ⟨g, j, none⟩ = false := fun j => by simp [World.frozen?, hh]
        have hr : (Builtin.append_ #[50, 50] ty #[.slice (some ⟨g, 0, none⟩) l.length (cap + 1), .slice x m.length c]).run Tryz.prog w = .ok (.slice (some ⟨g, 0, none⟩) (l.length + m.length) (cap + 1)) (w.setRow g (cur.toList.take (l.length * i.size) ++ Lib.byteCells m ++ cur.toList.drop (l.length * i.size + (Lib.byteCells m).length)).toArray) := by
          cases x with
          | none => exact absurd (hno rfl).1 hm0
          | some ad =>
            refine run_append_room w 50 ty 5 i Tryz.underlying50 hi g l.length (cap + 1) cur hh ad m.length c (Lib.byteCells m) (by rw [hs, hml, Nat.mul_one]) (fun j u hj => ?_) (byteCells_one m) hroom hfit
            have hlt : j < m.length := by
              rcases Nat.lt_or_ge j m.length with h' | h'
              · exact h'
              · rw [byteCells_at, List.getElem?_eq_none h'] at hj; cases hj
            obtain ⟨b, o, e, _, hc⟩ := hx (by omega)
            cases e
            rw [show (⟨b, o, none⟩ : Addr).add j = ⟨b, o + j, none⟩ by unfold Addr.add; split <;> simp_all, hc j hlt]
            rw [byteCells_at, List.getElem?_eq_getElem hlt] at hj
            simpa using hj
        refine ⟨_, _, hr, ?_, ⟨rfl, rfl, rfl, by simp, fun k _ hk => setRow_other w g k _ (fun e => hk (by rw [foot_succ, e]))⟩, .inl rfl⟩
        refine .inr ⟨g, cap, _, by rw [List.length_append], setRow_heap w g cur _ _ _ hh, by rw [List.length_append]; exact hroom, h2, ?_, ?_⟩
        · simp only [List.size_toArray, List.length_append, List.length_take, List.length_drop, Array.length_toList, hml, hs]
          omega
        · simp only [hs, Nat.mul_one]
          rw [h4, ← Lib.byteCells_append, ← byteCells_len (l ++ m)]
          exact List.take_left
      · obtain ⟨v', w', r1, r2, r3, r4⟩ := grow (some ⟨g, 0, none⟩) (cap + 1) (by omega) (by
          refine run_firstCells_some w.drew i.size l.length ⟨g, 0, none⟩ l.length (cap + 1) (Lib.byteCells l) (by rw [byteCells_len, hs, Nat.mul_one]) (fun j u hj => ?_)
          have hlt : j < l.length := by
            rcases Nat.lt_or_ge j l.length with h' | h'
            · exact h'
            · rw [byteCells_at, List.getElem?_eq_none h'] at hj; cases hj
          have e : (cur.toList.take l.length)[j]? = (Lib.byteCells l)[j]? := by rw [h4]
          rw [List.getElem?_take, if_pos hlt] at e
          show w.cell? _ = _
          rw [show (⟨g, 0, none⟩ : Addr).add j = ⟨g, j, none⟩ by unfold Addr.add; split <;> simp_all, cell_of_row w g j cur _ _ hh, ← Array.getElem?_toList, e, hj])
        exact ⟨v', w', r1, r2, r3, .inr (.inr r4)⟩
/-- The same, as a law for the walk. -/
theorem wpList_append_row {ops : Array Oper} {rest : List Oper} {o : Oper} {a : Act} {w : World} {Q : Exit → Act → World → Prop} (hgd : o.guard = none) (s y : Operand)
    (ho : o.op = .call { callee := .builtin .append, args := #[s, y], argTypes := #[50, 50] })
    (v : Value) (hs : a.eval s = v) (l m : List UInt8) (hrow : Row w v l) (x : Option Addr) (n c : Nat) (hy : a.eval y = .slice x n c) (hx : BAt w x m) (hn : n = m.length) (hno : x = none → n = 0 ∧ c = 0) (hb : l.length + m.length ≤ 1099511627776)
    (h : ∀ v' w', Appended w v (l ++ m) v' w' → wpList Tryz.prog ops Q rest (a.put o.dst v') w') : wpList Tryz.prog ops Q (o :: rest) a w := by
  obtain ⟨v', w', hr, hap⟩ := run_append_row hrow hx hn hno hb o.type
  refine wpList_plain hgd fun K hK => ?_
  unfold Oper.wp execOp
  simp only [ho, resolve, invoke, builtin, Sem.run_bind, Sem.run_pure, Result.andThen_ok, List.map_toArray, List.map_cons, List.map_nil, hs, hy, hr]
  exact hK _ _ (h v' w' hap)
end Go.Proofs.YtnohonjjfjppoaaGreatDoor

/-
  A copy of bytes with three bytes of room behind it, as Own leaves it (cut out of Own).
-/
namespace Go.Proofs.YtnohonjjfjppoaaGreatDoor
set_option maxRecDepth 20000
open Go.RowKit
set_option linter.unusedVariables false
/-- What Own leaves: the copy, and its room, in a block of its own. -/
def OwnAt (w : World) (g : Nat) (l : List UInt8) (f : Int) : Prop :=
  w.ownsRow g 5 1 (.slice (some ⟨g, 0, none⟩) (l.length + 3) (l.length + 3)) (l.length + 3) (Lib.byteCells l ++ List.replicate 3 (.int .u8 f))
theorem OwnAt.keep {w w' : World} {g : Nat} {l : List UInt8} {f : Int} (h : OwnAt w g l f) (hb : Below w.heap.size w w') : OwnAt w' g l f := own_keep h hb
theorem OwnAt.lt {w : World} {g : Nat} {l : List UInt8} {f : Int} (h : OwnAt w g l f) : g < w.heap.size := own_lt h
theorem OwnAt.bat {w : World} {g : Nat} {l : List UInt8} {f : Int} (h : OwnAt w g l f) : BAt w (some ⟨g, 0, none⟩) l := fun hp =>
  ⟨g, 0, rfl, own_lt h, fun i hi => by
    rw [Nat.zero_add, h.cellAt i (by omega), List.getElem?_append_left (by simpa [Lib.byteCells] using hi), byteCells_at]
    simp [hi]⟩
theorem OwnAt.room {w : World} {g : Nat} {l : List UInt8} {f : Int} (h : OwnAt w g l f) (i : Nat) (h0 : l.length ≤ i) (h1 : i < l.length + 3) : w.cell? ⟨g, i, none⟩ = some (.int .u8 f) := by
  have e : (Lib.byteCells l).length = l.length := by simp [Lib.byteCells]
  rw [h.cellAt i (by omega), List.getElem?_append_right (by omega), e, List.getElem?_replicate, if_pos (by omega)]
theorem BAt.cells {w : World} {a : Option Addr} {l : List UInt8} (h : BAt w a l) (ad : Addr) (had : a = some ad) (j : Nat) (u : Value) (hj : (Lib.byteCells l)[j]? = some u) : w.cell? (ad.add j) = some u := by
  have hlt : j < l.length := by
    rcases Nat.lt_or_ge j l.length with h' | h'
    · exact h'
    · rw [byteCells_at, List.getElem?_eq_none h'] at hj; cases hj
  obtain ⟨b, o, e, _, hc⟩ := h (by omega)
  rw [had] at e
  cases e
  rw [show (⟨b, o, none⟩ : Addr).add j = ⟨b, o + j, none⟩ by unfold Addr.add; split <;> simp_all, hc j hlt]
  rw [byteCells_at, List.getElem?_eq_getElem hlt] at hj
  simpa using hj
end Go.Proofs.YtnohonjjfjppoaaGreatDoor

/-
  'b[:k]' of a slice of bytes; CopyBytes of the helpers.
-/
namespace Go.Proofs.YtnohonjjfjppoaaGreatDoor
open Go.RowKit
set_option linter.unusedVariables false
theorem elem_bytes : Tryz.prog.underlying 50 = some (.slice (Tryz.prog.elem 50)) := by kernel_rfl
theorem slice_head (a : Option Addr) (n c k : Nat) (x : Int) (hx : x = k) (hk : k ≤ c) (u : World) :
    (Instr.sliceAt 50 (.slice a n c) none (some (.int .i64 x)) none).run Tryz.prog u = .ok (.slice a k c) u := by
  subst hx
  obtain ⟨i, hi, hz, hs, hby⟩ := info_parts info_u8
  have e : Tryz.prog.elem 50 = 5 := by kernel_rfl
  rw [run_sliceAt_slice (h := elem_bytes), run_slice_h (ht := elem_bytes) (h0 := by omega) (h2 := by omega)]
  rw [e]
  simp [sizeOf, typeInfo, hi, hs, Result.andThen, sliced]
  cases a with
  | none => simp
  | some a => simp [Addr.add]
/-- A copy of Own's is a row. -/
theorem OwnAt.row {w : World} {g : Nat} {l : List UInt8} {f : Int} (h : OwnAt w g l f) : Row w (.slice (some ⟨g, 0, none⟩) l.length (l.length + 3)) l := by
  rcases h.2 with ⟨h', _⟩ | ⟨g', cap', cur, h', hb, hg, hnc, hcm, hcs, htake⟩
  · simp at h'
  · simp only [Value.slice.injEq, Option.some.injEq, Addr.mk.injEq, and_true, true_and] at h'
    obtain ⟨rfl, rfl⟩ := h'
    refine .inr ⟨g, l.length + 2, cur, rfl, hg, by omega, hcm, by omega, ?_⟩
    have e := congrArg (List.take l.length) htake
    rw [List.take_take, Nat.min_eq_left (by omega)] at e
    rw [e, List.take_left' (byteCells_len l)]
end Go.Proofs.YtnohonjjfjppoaaGreatDoor
