/-
  A strings.Builder that a call made: what it holds, and its calls.
-/
import Derived.Test.YtagfnnpklefhhaaDoorMm
import Derived.Test.YtagfnnpklefhhaaDoorBs
import Derived.Test.YtagfnnpklefhhaaDoorShelf
namespace Go.Proofs.YtagfnnpklefhhaaDoor
open Go.RowKit
set_option linter.unusedVariables false
set_option linter.unusedSimpArgs false

abbrev Bu (B b : Nat) (l : List UInt8) (w : World) : Prop := Lib.IsBuilderF 70 5 B b (Lib.byteCells l) w
theorem Bu.lt {B b : Nat} {l : List UInt8} {w : World} (h : Bu B b l w) : b < w.heap.size := h.elim (fun x => x.lt) (fun x => x.lt)
theorem Bu.below {B b : Nat} {l : List UInt8} {w w' : World} (h : Bu B b l w) (hb : Below w.heap.size w w') : Bu B b l w' := by
  have key : ∀ p, Lib.BuilderAtF 70 5 B b p (Lib.byteCells l) w → Lib.BuilderAtF 70 5 B b p (Lib.byteCells l) w' := by
    intro p h
    have hlt := h.lt
    obtain ⟨hB, v, hv, hown, hne⟩ := h
    exact ⟨hB, v, (hb.block b hlt).trans hv, hown.kept (row := none) ⟨hb.os, hb.tape, hb.output, hb.size, fun k hk _ => hb.block k hk⟩ (Classical.em _), hne⟩
  exact h.elim (fun x => .inl (key _ x)) (fun x => .inr (key _ x))
theorem Bu.new (w : World) : Bu w.heap.size w.heap.size [] (w.alloc (.cells #[.pointer none, .slice none 0 0] 70)) :=
  Lib.IsBuilderF.of (Or.inl ⟨Nat.le_refl _, .slice none 0 0, heap_alloc_new _ _, World.ownsRow_nil _ _ _ _, by simp [Value.ownBlock]⟩)
/-- A byte more. -/
theorem Bu.byte {B b : Nat} {l : List UInt8} {w : World} (h : Bu B b l w) (hB : B ≤ w.heap.size) (hlen : l.length + 1 ≤ 140737488355328) (c : UInt8) (z : Int) (hz : z = (c.toNat : Int)) :
    Calls Tryd.prog 67 #[.pointer (some ⟨b, 0, none⟩), .int .u8 z] w fun e w' => e = .returned .nilIface ∧ Bu B b (l ++ [c]) w' ∧ Below B w w' ∧ Lib.OthersKept 5 (some b) w w' := by
  subst hz
  refine (Tryd.Builder_WriteByte_k B b _ _ _ h (by rw [Lib.byteCells_length]; exact hlen) hB).mono ?_
  rintro e w2 ⟨rfl, h2, b2, o2⟩
  exact ⟨rfl, by unfold Bu; rw [Lib.byteCells_append]; exact Or.inr h2, b2, o2⟩
theorem Bu.str {B b : Nat} {l : List UInt8} {w : World} (h : Bu B b l w) (hB : B ≤ w.heap.size) (s : List UInt8) (hlen : l.length + s.length ≤ 140737488355328) :
    Calls Tryd.prog 65 #[.pointer (some ⟨b, 0, none⟩), .string ⟨s.toArray⟩] w fun e w' => e = .returned (.tuple #[.int .i64 s.length, .nilIface]) ∧ Bu B b (l ++ s) w' ∧ Below B w w' ∧ Lib.OthersKept 5 (some b) w w' := by
  refine (Tryd.Builder_WriteString_k B b _ _ _ h (by rw [Lib.byteCells_length, size_toArray]; exact hlen) hB).mono ?_
  rintro e w2 ⟨rfl, h2, b2, o2⟩
  rw [Lib.strCells_eq] at h2
  exact ⟨by rw [size_toArray], by unfold Bu; rw [Lib.byteCells_append]; exact Or.inr h2, b2, o2⟩
theorem Bu.text {B b : Nat} {l : List UInt8} {w : World} (h : Bu B b l w) (hB : B ≤ w.heap.size) :
    Calls Tryd.prog 50 #[.pointer (some ⟨b, 0, none⟩)] w fun e w' => e = .returned (.string ⟨l.toArray⟩) ∧ Below B w w' := by
  refine (Tryd.Builder_String_any_k B b l _ h hB).mono ?_
  rintro e w2 ⟨rfl, _, b2, _⟩
  exact ⟨rfl, b2⟩
end Go.Proofs.YtagfnnpklefhhaaDoor
