/-
  Texts that belong together, one behind the other.
-/
import Derived.Test.YtgbmbemmkadagaaFu43
/-
  Frame: an id that came in by value.
-/
namespace Go.Proofs.Ytgbmbemmkadagaa
open Go.ChangeShapes Go.WideShapes Go.ChangeAt Go.RowKit Go.Lib
set_option linter.unusedVariables false

set_option maxRecDepth 100000 in
/-- An id that came in by value. -/
theorem open_idX {H : Type} {enc : TypeId × Value → H} {W : World} {b0 base : Nat} {v : Value} {d : DataW H} {p : List MemPlace} (hv : Value.okWide Try.prog W .any b0 24 v) (h : DataW.Trod enc Try.prog W base (fun _ => true) true 24 v d p) :
    ∃ l : List UInt8, l.length = 20 ∧ v = .agg (arrD l) := by
  have hu : Try.prog.underlying 24 = some (.array 20 5) := Try.underlying24
  obtain ⟨cs, rfl, hsz⟩ : ∃ cs, v = .agg cs ∧ cs.size = 20 := by
    simp only [Value.okWide, hu] at hv
    obtain ⟨cs, h1, h2, _⟩ := hv
    exact ⟨cs, h1, h2.trans (by kernel_rfl)⟩
  obtain ⟨fuel, hf⟩ := h
  have hcs : (Value.agg cs).cells.toList = cs.toList := rfl
  rw [hcs] at hf
  obtain ⟨i, hi, hl⟩ := id_of_cells (by simpa using hsz) hf
  exact ⟨i, hl, by unfold arrD; rw [← hi]⟩
end Go.Proofs.Ytgbmbemmkadagaa
