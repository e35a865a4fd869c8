/-
  strconv's two errors, as the row lists them.
-/
import Derived.Test.YtkhfgddjnnibdaaDoorFq
import Derived.Test.YtkhfgddjnnibdaaDoorQk
import Derived.Stop.LaidErr
namespace Go.Proofs.YtkhfgddjnnibdaaDoor
open Go.ChangeShapes Go.WideShapes Go.ChangeAt Go.RowKit Go.Lib
set_option linter.unusedVariables false

theorem sub_one {P : Program} {W : World} {l : List (String × DataW Unit)} {n : String} {d : DataW Unit} (h : laidMet P l W) (hl : (l.filter fun x => x.1 == n) = [(n, d)]) : laidMet P [(n, d)] W := by
  have := h.filter (fun x => x.1 == n)
  rw [hl] at this
  exact this
theorem star_err : "*" ++ "errors.errorString" = "*errors.errorString" := by decide
theorem row_err (u : TypeId) (h : Tryd.prog.typeName? 3 u = some "*errors.errorString") : u = 109 :=
  typeName_ptr_named (nm := "errors.errorString") (by rw [star_err]; kernel_rfl) (by kernel_rfl) (by decide) u (by rw [star_err]; exact h)
theorem err_cell {W : World} {n : String} {text : List UInt8} {g : Nat} (h : laidMet Tryd.prog [(n, .iface "*errors.errorString" (.ptr (.agg [.lit (.string text)])))] W)
    (hg : Tryd.prog.globalNamed n = some g) (ht : (Tryd.prog.globals[g]?).map (·.type) = some 45) : ∃ ev, W.cell? ⟨g, 0, none⟩ = some ev ∧ (ev = .nilIface ∨ ∃ te pe, ev = .iface te pe) := by
  have key : ∃ u, Tryd.prog.underlying 45 = some (.interface u) := ⟨_, Tryd.underlying45⟩
  obtain ⟨u, hu⟩ := key
  obtain ⟨a, s, hv, _⟩ := laid_sentinel h hg ht hu (tp := 109) row_err Tryd.underlying109 Tryd.underlying111 rfl rfl Tryd.underlying9 (by kernel_rfl) (by kernel_rfl)
  exact ⟨_, World.var?_cell hg hv 0, .inr ⟨_, _, rfl⟩⟩
theorem err_of {W : World} {l : List (String × DataW Unit)} (h : laidMetH Tryd.prog l W)
    (h1 : ((l.filter fun a => a.2.handleName?.isNone).filter fun x => x.1 == "strconv.ErrSyntax") = [("strconv.ErrSyntax", Rows.laid_strconv_ErrSyntax)])
    (h2 : ((l.filter fun a => a.2.handleName?.isNone).filter fun x => x.1 == "strconv.ErrRange") = [("strconv.ErrRange", Rows.laid_strconv_ErrRange)]) : ErrTab W := by
  have h0 := (laidMetH_iff.1 h).1
  exact ⟨err_cell (sub_one h0 h1) (by kernel_rfl) (by kernel_rfl), err_cell (sub_one h0 h2) (by kernel_rfl) (by kernel_rfl)⟩
end Go.Proofs.YtkhfgddjnnibdaaDoor
