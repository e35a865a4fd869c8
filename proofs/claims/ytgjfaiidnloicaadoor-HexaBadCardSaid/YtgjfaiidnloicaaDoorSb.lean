/-
  '[]byte(s)' of a string, and a store into it.
-/
import Derived.Test.YtgjfaiidnloicaaDoorOwn
import Derived.Laws.IdiomStrings
import Derived.Laws.Tables
import Derived.Laws.Rows
namespace Go.Proofs.YtgjfaiidnloicaaDoor
open Go.RowKit
set_option linter.unusedVariables false

/-- A row of bytes of the call's own, with the bytes l at its head, none of them frozen. -/
def MAt (w : World) (g : Nat) (l : List UInt8) : Prop :=
  ∃ cur fr, w.heap[g]? = some (.cells cur 5 (fr, fr + 1)) ∧ l.length ≤ fr ∧ l.length ≤ cur.size ∧ cur.toList.take l.length = Lib.byteCells l
theorem MAt.lt {w : World} {g : Nat} {l : List UInt8} (h : MAt w g l) : g < w.heap.size := by
  obtain ⟨cur, fr, hg, _⟩ := h
  rcases Nat.lt_or_ge g w.heap.size with h' | h'
  · exact h'
  · simp [Array.getElem?_eq_none h'] at hg
theorem MAt.keep {w w' : World} {g : Nat} {l : List UInt8} (h : MAt w g l) {B : Nat} (hb : Below B w w') (hB : g < B) : MAt w' g l := by
  obtain ⟨cur, fr, hg, h1, h2, h3⟩ := h
  exact ⟨cur, fr, (hb.block g hB).trans hg, h1, h2, h3⟩
theorem MAt.bat {w : World} {g : Nat} {l : List UInt8} (h : MAt w g l) : BAt w (some ⟨g, 0, none⟩) l := fun _ => by
  have hlt := h.lt
  obtain ⟨cur, fr, hg, h1, h2, h3⟩ := h
  refine ⟨g, 0, rfl, hlt, fun i hi => ?_⟩
  have e : (cur.toList.take l.length)[i]? = (Lib.byteCells l)[i]? := by rw [h3]
  rw [List.getElem?_take, if_pos hi, byteCells_at, List.getElem?_eq_getElem hi] at e
  rw [Nat.zero_add, Lib.cell_of_heap hg, ← Array.getElem?_toList, e]; rfl
theorem MAt.cell {w : World} {g : Nat} {l : List UInt8} (h : MAt w g l) (k : Nat) (hk : k < l.length) : w.cell? ⟨g, k, none⟩ = some (.int .u8 (l[k]).toNat) := by
  obtain ⟨b, o, e, _, hc⟩ := h.bat (by omega)
  cases e
  have := hc k hk
  rwa [Nat.zero_add] at this
theorem MAt.free {w : World} {g : Nat} {l : List UInt8} (h : MAt w g l) (k : Nat) (hk : k < l.length) : w.frozen? ⟨g, k, none⟩ = false := by
  obtain ⟨cur, fr, hg, h1, h2, h3⟩ := h
  simp [World.frozen?, hg]
  omega
theorem MAt.set {w : World} {g : Nat} {l : List UInt8} (h : MAt w g l) (k : Nat) (hk : k < l.length) (c : UInt8) (x : Int) (hx : x = c.toNat) : MAt (w.setCell ⟨g, k, none⟩ (.int .u8 x)) g (l.set k c) := by
  obtain ⟨cur, fr, hg, h1, h2, h3⟩ := h
  refine ⟨cur.setIfInBounds k (.int .u8 x), fr, ?_, by simpa using h1, by simpa using h2, ?_⟩
  · rw [setCell_eq_setRow w g k cur _ _ _ hg]; exact setRow_heap w g cur _ _ _ hg
  · rw [List.length_set, Array.toList_setIfInBounds, List.take_set, h3, hx]
    simp [Lib.byteCells, List.map_set]
theorem MAt.other {w : World} {g : Nat} {l : List UInt8} (h : MAt w g l) (a : Addr) (ha : g ≠ a.block) (v : Value) : MAt (w.setCell a v) g l := by
  obtain ⟨cur, fr, hg, r⟩ := h
  exact ⟨cur, fr, (Below.heap_setCell w a v g ha).trans hg, r⟩
theorem MAt.conv {w : World} {g : Nat} {l : List UInt8} (h : MAt w g l) (n c : Nat) (hn : n = l.length) : (convert 22 9 (.slice (some ⟨g, 0, none⟩) n c)).run Tryd.prog w = .ok (.string ⟨l.toArray⟩) w := by
  subst hn
  exact h.bat.conv c 22 5 Tryd.underlying22 Tryd.underlying5 9 Tryd.underlying9
theorem str_bytes (w : World) (l : List UInt8) : ∃ cap w', (convert 9 22 (.string ⟨l.toArray⟩)).run Tryd.prog w = .ok (.slice (some ⟨w.heap.size, 0, none⟩) l.length cap) w' ∧ Below w.heap.size w w' ∧ MAt w' w.heap.size l := by
  have h := run_bytes_of_string (P := Tryd.prog) w 9 22 5 ⟨l.toArray⟩ Tryd.underlying9 Tryd.underlying22 Tryd.underlying5
  rw [size_toArray] at h
  refine ⟨_, _, h, ((Below.refl _ w).drew).alloc (Nat.le_refl _) _, _, _, heap_alloc_new w.drew _, ?_, ?_, ?_⟩
  · simp [bytesRow]
  · simp [bytesRow]
  · simp [bytesRow, Lib.byteCells]
end Go.Proofs.YtgjfaiidnloicaaDoor
