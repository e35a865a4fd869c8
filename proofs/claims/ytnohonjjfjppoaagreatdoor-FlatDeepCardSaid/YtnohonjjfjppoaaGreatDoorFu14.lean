/-
  Texts that belong together, one behind the other.
-/
import Derived.Test.YtnohonjjfjppoaaGreatDoorFu04
import Derived.Great.BuildSlice
import Derived.Great.FillDense
import Derived.Laws.AppendOwn
import Derived.OwnWalk
import Derived.Test.YtnohonjjfjppoaaGreatDoorFu03
import Derived.Laws.OwnMore
import Derived.Laws.CopyOwn
import Derived.Deep.MidRow
import Derived.Test.YtnohonjjfjppoaaGreatDoorFu02
import Derived.Test.YtnohonjjfjppoaaGreatDoorFu13
/-
  Layer 9: rows of ids that a call owns.
-/
namespace Go.Proofs.YtnohonjjfjppoaaGreatDoor
set_option maxRecDepth 20000
open Go.RowKit
set_option linter.unusedVariables false
set_option linter.unusedSimpArgs false
/-- A row of ids that a call owns. -/
abbrev OwnD (B : Nat) (v : Value) (l : List (List UInt8)) (w : World) : Prop := w.ownsRow B 27 20 v l.length (l.flatMap cellsD)
theorem flatD_at : ∀ (l : List (List UInt8)) (hid : ∀ i ∈ l, i.length = 20) (k : Nat) (h : k < l.length) (j : Nat) (v : Value), (cellsD l[k])[j]? = some v → (l.flatMap cellsD)[k * 20 + j]? = some v
  | [], _, k, h, _, _, _ => absurd h (Nat.not_lt_zero _)
  | i :: l, hid, 0, h, j, v, hv => by
    have hj : j < (cellsD i).length := (List.getElem?_eq_some_iff.1 hv).1
    rw [List.flatMap_cons, Nat.zero_mul, Nat.zero_add, List.getElem?_append_left hj]
    exact hv
  | i :: l, hid, k + 1, h, j, v, hv => by
    have hl := cellsD_len i (hid i (by simp))
    rw [List.flatMap_cons, List.getElem?_append_right (by omega), hl, show (k + 1) * 20 + j - 20 = k * 20 + j by omega]
    exact flatD_at l (fun x hx => hid x (by simp [hx])) k (by simpa using h) j v hv
theorem flatD_len (l : List (List UInt8)) (hid : ∀ i ∈ l, i.length = 20) : (l.flatMap cellsD).length = l.length * 20 := by
  induction l with
  | nil => rfl
  | cons i l ih =>
    rw [List.flatMap_cons, List.length_append, cellsD_len i (hid i (by simp)), ih (fun x hx => hid x (by simp [hx])), List.length_cons]
    omega
theorem ownD_ids {B : Nat} {v : Value} {l : List (List UInt8)} {w : World} (h : OwnD B v l w) (hid : ∀ i ∈ l, i.length = 20) : ∃ a c, v = .slice a l.length c ∧ l.length ≤ c ∧ c ≤ maxLen ∧ IdsAt w a l ∧ (a = none → l.length = 0 ∧ c = 0) := by
  rcases h.2 with ⟨hv, h0⟩ | ⟨g, cap, cur, hv, hB, hg, hc, hm, _, _⟩
  · obtain rfl : l = [] := List.eq_nil_of_length_eq_zero h0
    exact ⟨none, 0, hv, Nat.le_refl _, Nat.zero_le _, IdsAt.nil w _, fun _ => ⟨rfl, rfl⟩⟩
  · have hcs := World.ownsRow.cells h (g := g) (by rw [hv]; rfl)
    refine ⟨_, cap, hv, hc, hm, fun _ => ⟨g, 0, rfl, (Array.getElem?_eq_some_iff.1 hg).1, fun k hk j u hu => ?_⟩, fun e => by cases e⟩
    have := hcs (k * 20 + j) u (flatD_at l hid k hk j u hu)
    rw [show (⟨g, 0, none⟩ : Addr).add (k * 20 + j) = ⟨g, 0 + k * 20 + j, none⟩ by unfold Addr.add; split <;> simp_all] at this
    exact this
theorem infoD : (Tryz.prog.info? 27).map (fun i => (i.zero, i.size)) = some (some (.agg (arrD idZ)), 20) := zIdD
theorem infoD_b : (Tryz.prog.info? 27).map (fun i => i.bytes) = some 20 := by kernel_rfl
theorem infoD_all : ∃ ie, Tryz.prog.info? 27 = some ie ∧ ie.zero = some (.agg (arrD idZ)) ∧ ie.size = 20 ∧ ie.bytes = 20 := by
  have h1 := infoD
  have h2 := infoD_b
  cases hq : Tryz.prog.info? 27 with
  | none => rw [hq] at h1; cases h1
  | some ie =>
    rw [hq] at h1 h2
    simp only [Option.map_some, Option.some.injEq, Prod.mk.injEq] at h1 h2
    exact ⟨ie, rfl, h1.1, h1.2, h2⟩
theorem fillD_one (A z : Array Value) (hA : A.size = 20) (hz : z.size = 20) : Instr.fill (fun i => some (i * 20, 20)) z [(0, .agg A)] = some A := by
  have h := Great.fill_whole (s := 20) (by decide) [.agg A] z (fun v hv => by simp at hv; subst hv; exact hA) (by simp [hz])
  simpa [Value.cells] using h
end Go.Proofs.YtnohonjjfjppoaaGreatDoor

/-
  Rows of ids: stores into them; the helper Own of the statements over ids.
-/
namespace Go.Proofs.YtnohonjjfjppoaaGreatDoor
set_option maxRecDepth 20000
open Go.RowKit
set_option linter.unusedVariables false
set_option linter.unusedSimpArgs false
theorem flatD_back : ∀ (l : List (List UInt8)) (hid : ∀ i ∈ l, i.length = 20) (j : Nat) (v : Value), (l.flatMap cellsD)[j]? = some v → ∃ (k : Nat) (h : k < l.length) (q : Nat), j = k * 20 + q ∧ (cellsD l[k])[q]? = some v
  | [], _, _, _, h => by simp at h
  | i :: l, hid, j, v, h => by
    have hl := cellsD_len i (hid i (by simp))
    rw [List.flatMap_cons] at h
    by_cases hj : j < 20
    · rw [List.getElem?_append_left (by omega)] at h
      exact ⟨0, by simp, j, by omega, h⟩
    · rw [List.getElem?_append_right (by omega), hl] at h
      obtain ⟨k, hk, q, e, hq⟩ := flatD_back l (fun x hx => hid x (by simp [hx])) (j - 20) v h
      exact ⟨k + 1, by simpa using hk, q, by omega, by simpa using hq⟩
theorem IdsAt.cells {w : World} {a : Option Addr} {l : List (List UInt8)} (h : IdsAt w a l) (hid : ∀ i ∈ l, i.length = 20) (ad : Addr) (had : a = some ad) (j : Nat) (u : Value) (hj : (l.flatMap cellsD)[j]? = some u) : w.cell? (ad.add j) = some u := by
  obtain ⟨k, hk, q, e, hq⟩ := flatD_back l hid j u hj
  obtain ⟨b, o, e2, _, hc⟩ := h (by omega)
  rw [had] at e2
  cases e2
  rw [show (⟨b, o, none⟩ : Addr).add j = ⟨b, o + j, none⟩ by unfold Addr.add; split <;> simp_all, e, ← Nat.add_assoc]
  exact hc k hk q u hq
end Go.Proofs.YtnohonjjfjppoaaGreatDoor

/-
  Layer 9: whole blocks and parts of blocks, read; is an id among some.
-/
namespace Go.Proofs.YtnohonjjfjppoaaGreatDoor
set_option maxRecDepth 20000
open Go.RowKit
set_option linter.unusedVariables false
set_option linter.unusedSimpArgs false
theorem row_arrD {w : World} {g : Nat} {A : Array Value} {t : TypeId} {fr : Nat × Nat} (h : w.heap[g]? = some (.cells A t fr)) : w.rangeAt g 0 A.toList := fun j v hv => by
  rw [Nat.zero_add, Lib.cell_of_heap h, ← hv]
  simp
/-- A load of many cells out of the middle of a block, under a guard that holds. -/
theorem wpList_load_midD {ops : Array Oper} {rest : List Oper} {op : Oper} {a : Act} {w : World} {Q : Exit → Act → World → Prop} (ty : TypeId) (x : Operand) (ho : op.op = .load ty x) (hw : Region.wanted op (yielded ops a.tmps) = true)
    (b o : Nat) (hx : a.eval x = .pointer (some ⟨b, o, none⟩)) (cs : List Value) (d : TypeDesc) (hc : w.rangeAt b o cs)
    (hu : Tryz.prog.underlying ty = some d) (hd : d.isRow = true) (hi : (Tryz.prog.info? ty).map (·.size) = some cs.length)
    (h : wpList Tryz.prog ops Q rest (a.put op.dst (.agg cs.toArray)) w) : wpList Tryz.prog ops Q (op :: rest) a w :=
  Go.BigFrame.wpList_want hw fun _ hK => wp_load_mid ty x ho b o hx cs d hc hu hd hi (hK _ _ h)
end Go.Proofs.YtnohonjjfjppoaaGreatDoor

/-
  Layer 10, the document's answers: a store's cells; a store in its block.
-/
namespace Go.Proofs.YtnohonjjfjppoaaGreatDoor
set_option maxRecDepth 20000
open Go.RowKit
set_option linter.unusedVariables false
set_option linter.unusedSimpArgs false
/-- An object with its id, and where its bytes lie. -/
structure Ent where
  c : Cel
  v : Value
def cellsE (e : Ent) : List Value := cellsD e.c.id ++ [.int .i64 e.c.kind, e.v]
def okE (e : Ent) : Prop := e.c.id.length = 20 ∧ ∃ a n c, e.v = .slice a n c
def rowE : RowT Ent := ⟨cellsE, 22, 56, 111, 33, okE⟩
/-- A store's cells: where they lie, in blocks of S; each one's bytes in blocks of S that are not g. -/
structure CelsAt (S : Nat → Prop) (w : World) (g : Nat) (a : Option Addr) (E : List Ent) : Prop where
  row : RowAt rowE w a E
  ok : ∀ e ∈ E, okE e
  inS : ∀ ad, 0 < E.length → a = some ad → S ad.block ∧ ad.block ≠ g
  body : ∀ e ∈ E, RedS (fun k => S k ∧ k ≠ g) w e.v e.c.body
/-- A store in its block. -/
def StoreAt (S : Nat → Prop) (w : World) (g : Nat) (L : List Cel) : Prop :=
  S g ∧ ∃ (E : List Ent) (a : Option Addr) (c : Nat), E.map Ent.c = L ∧ w.heap[g]? = some (.cells #[.slice a L.length c] 35 (0, 0)) ∧ CelsAt S w g a E ∧ (a = none → L.length = 0 ∧ c = 0) ∧ L.length ≤ c ∧ c ≤ maxLen
theorem CelsAt.keep {S : Nat → Prop} {w u : World} {g : Nat} {a : Option Addr} {E : List Ent} (h : CelsAt S w g a E) (hk : Stays (fun k => S k ∧ k ≠ g) w u) : CelsAt S u g a E where
  row := fun hp => by
    obtain ⟨b, o, h1, h2, h3⟩ := h.row hp
    have hb := h.inS _ hp h1
    refine ⟨b, o, h1, Nat.lt_of_lt_of_le h2 hk.1, fun k hk2 j v hv => ?_⟩
    rw [← h3 k hk2 j v hv]
    exact World.cell?_of_block (w := w) (a := ⟨b, o + k * rowE.size + j, none⟩) (hk.2 b hb h2)
  ok := h.ok
  inS := h.inS
  body := fun e he => (h.body e he).keep hk
theorem CelsAt.mono {S S' : Nat → Prop} {w : World} {g : Nat} {a : Option Addr} {E : List Ent} (h : CelsAt S w g a E) (hs : ∀ k, k < w.heap.size → S k → S' k) : CelsAt S' w g a E where
  row := h.row
  ok := h.ok
  inS := fun ad hp ha => by
    obtain ⟨b, o, h1, h2, h3⟩ := h.row hp
    obtain ⟨k1, k2⟩ := h.inS ad hp ha
    refine ⟨hs _ ?_ k1, k2⟩
    rw [h1] at ha
    cases ha
    exact h2
  body := fun e he => (h.body e he).mono (fun k hk h2 => ⟨hs k hk h2.1, h2.2⟩)
theorem StoreAt.keep {S : Nat → Prop} {w u : World} {g : Nat} {L : List Cel} (h : StoreAt S w g L) (hk : Stays S w u) : StoreAt S u g L := by
  obtain ⟨hg, E, a, c, h1, h2, h3, h4⟩ := h
  exact ⟨hg, E, a, c, h1, (hk.2 g hg (lt_of_heap h2)).trans h2, h3.keep (hk.mono fun k h => h.1), h4⟩
theorem StoreAt.mono {S S' : Nat → Prop} {w : World} {g : Nat} {L : List Cel} (h : StoreAt S w g L) (hs : ∀ k, k < w.heap.size → S k → S' k) : StoreAt S' w g L := by
  obtain ⟨hg, E, a, c, h1, h2, h3, h4⟩ := h
  exact ⟨hs g (lt_of_heap h2) hg, E, a, c, h1, h2, h3.mono hs, h4⟩
theorem StoreAt.below {S : Nat → Prop} {w u : World} {g : Nat} {L : List Cel} (h : StoreAt S w g L) (hb : Below w.heap.size w u) : StoreAt S u g L := h.keep (Stays.of hb)
theorem StoreAt.lt {S : Nat → Prop} {w : World} {g : Nat} {L : List Cel} (h : StoreAt S w g L) : g < w.heap.size := by
  obtain ⟨hg, E, a, c, h1, h2, h3, h4⟩ := h
  exact lt_of_heap h2
end Go.Proofs.YtnohonjjfjppoaaGreatDoor
