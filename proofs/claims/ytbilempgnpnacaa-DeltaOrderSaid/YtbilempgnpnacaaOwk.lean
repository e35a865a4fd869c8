/-
  A copy of bytes with three bytes of room behind it, as Own leaves it (cut out of Own).
-/
import Derived.Test.YtbilempgnpnacaaOb
import Derived.IntWalk
import Derived.WalkSmall
import Derived.OwnWalk
import Derived.Laws.OwnMore
namespace Go.Proofs.Ytbilempgnpnacaa
set_option maxRecDepth 20000
open Go.RowKit
set_option linter.unusedVariables false

/-- What Own leaves: the copy, and its room, in a block of its own. -/
def OwnAt (w : World) (g : Nat) (l : List UInt8) (f : Int) : Prop :=
  w.ownsRow g 5 1 (.slice (some ⟨g, 0, none⟩) (l.length + 3) (l.length + 3)) (l.length + 3) (Lib.byteCells l ++ List.replicate 3 (.int .u8 f))
theorem OwnAt.keep {w w' : World} {g : Nat} {l : List UInt8} {f : Int} (h : OwnAt w g l f) (hb : Below w.heap.size w w') : OwnAt w' g l f := own_keep h hb
theorem OwnAt.lt {w : World} {g : Nat} {l : List UInt8} {f : Int} (h : OwnAt w g l f) : g < w.heap.size := own_lt h
theorem OwnAt.bat {w : World} {g : Nat} {l : List UInt8} {f : Int} (h : OwnAt w g l f) : BAt w (some ⟨g, 0, none⟩) l := fun hp =>
  ⟨g, 0, rfl, own_lt h, fun i hi => by
    rw [Nat.zero_add, h.cellAt i (by omega), List.getElem?_append_left (by simpa [Lib.byteCells] using hi), byteCells_at]
    simp [hi]⟩
theorem OwnAt.room {w : World} {g : Nat} {l : List UInt8} {f : Int} (h : OwnAt w g l f) (i : Nat) (h0 : l.length ≤ i) (h1 : i < l.length + 3) : w.cell? ⟨g, i, none⟩ = some (.int .u8 f) := by
  have e : (Lib.byteCells l).length = l.length := by simp [Lib.byteCells]
  rw [h.cellAt i (by omega), List.getElem?_append_right (by omega), e, List.getElem?_replicate, if_pos (by omega)]

theorem BAt.cells {w : World} {a : Option Addr} {l : List UInt8} (h : BAt w a l) (ad : Addr) (had : a = some ad) (j : Nat) (u : Value) (hj : (Lib.byteCells l)[j]? = some u) : w.cell? (ad.add j) = some u := by
  have hlt : j < l.length := by
    rcases Nat.lt_or_ge j l.length with h' | h'
    · exact h'
    · rw [byteCells_at, List.getElem?_eq_none h'] at hj; cases hj
  obtain ⟨b, o, e, _, hc⟩ := h (by omega)
  rw [had] at e
  cases e
  rw [show (⟨b, o, none⟩ : Addr).add j = ⟨b, o + j, none⟩ by unfold Addr.add; split <;> simp_all, hc j hlt]
  rw [byteCells_at, List.getElem?_eq_getElem hlt] at hj
  simpa using hj

end Go.Proofs.Ytbilempgnpnacaa
