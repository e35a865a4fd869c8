/-
  Frame: an id that came in by value.
-/
import Derived.Test.YtajmgjhknmkfpaaGka
namespace Go.Proofs.Ytajmgjhknmkfpaa
open Go.ChangeShapes Go.WideShapes Go.ChangeAt Go.RowKit Go.Lib
set_option linter.unusedVariables false

set_option maxRecDepth 100000 in
/-- An id that came in by value. -/
theorem open_idX {H : Type} {enc : TypeId × Value → H} {W : World} {b0 base : Nat} {v : Value} {d : DataW H} {p : List MemPlace} (hv : Value.okWide Try.prog W .any b0 32 v) (h : DataW.Trod enc Try.prog W base (fun _ => true) true 32 v d p) :
    ∃ l : List UInt8, l.length = 20 ∧ v = .agg (arrD l) := by
  have hu : Try.prog.underlying 32 = some (.array 20 5) := Try.underlying32
  obtain ⟨cs, rfl, hsz⟩ : ∃ cs, v = .agg cs ∧ cs.size = 20 := by
    simp only [Value.okWide, hu] at hv
    obtain ⟨cs, h1, h2, _⟩ := hv
    exact ⟨cs, h1, h2.trans (by kernel_rfl)⟩
  obtain ⟨fuel, hf⟩ := h
  have hcs : (Value.agg cs).cells.toList = cs.toList := rfl
  rw [hcs] at hf
  obtain ⟨i, hi, hl⟩ := id_of_cells (by simpa using hsz) hf
  exact ⟨i, hl, by unfold arrD; rw [← hi]⟩
end Go.Proofs.Ytajmgjhknmkfpaa
