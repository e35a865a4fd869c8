/-
  What the frames of layer 11 share: the tables, from what the row lists and from the world's shape.
-/
import Derived.Test.YtbnhchffdccjnaaDoorRows
import Derived.Test.YtbnhchffdccjnaaDoorVg
import Derived.Test.YtbnhchffdccjnaaDoorUt
import Derived.Test.YtbnhchffdccjnaaDoorFn
import Derived.ProofKit
import Derived.OpenShut
import Derived.ShutString
import Derived.Below
import Derived.Lay
import Derived.LaidSub
import Derived.SevenTiedAt
import Derived.Deep.DeepHandedRow
import Derived.Lib.LaidTab
namespace Go.Proofs.YtbnhchffdccjnaaDoor
open Go.ChangeShapes Go.WideShapes Go.ChangeAt Go.RowKit Go.Lib
open Go.ChangeMaps (open_string shut_string)
set_option linter.unusedVariables false

theorem own : ownKnob Tryd.prog.godebug = none := by kernel_rfl
theorem acc_data : Rows.laid_unicode_utf8_acceptRanges (H := Unit) = acceptData := by kernel_rfl
theorem first_data : Rows.laid_unicode_utf8_first = firstData := Pinned.utf8First_eq
theorem rtab_of {W : World} {l : List (String × DataW Unit)} (h : laidMetH Tryd.prog l W) (hS : W.ShapedOpen Tryd.prog)
    (h1 : ("unicode/utf8.first", Rows.laid_unicode_utf8_first) ∈ l.filter fun a => a.2.handleName?.isNone)
    (h2 : ("unicode/utf8.acceptRanges", Rows.laid_unicode_utf8_acceptRanges) ∈ l.filter fun a => a.2.handleName?.isNone) : RTab W := by
  have h0 := (laidMetH_iff.1 h).1
  have r1 := Lib.laidMet.reads h0 h1
  have r2 := Lib.laidMet.reads h0 h2
  rw [first_data] at r1
  rw [acc_data] at r2
  exact ⟨tabs_of W r1 r2, Tryd.laysM146.s1_3 W hS⟩
theorem len_of_str {l : List UInt8} (h : (⟨l.toArray⟩ : ByteArray).size ≤ maxLen) : l.length ≤ maxLen := by rwa [size_toArray] at h
theorem bd_i64 {n : Int} (h : (Lit.int .i64 n).wf = true) : -9223372036854775808 ≤ n ∧ n ≤ 9223372036854775807 := by
  have e1 : IntKind.i64.min = -9223372036854775808 := rfl
  have e2 : IntKind.i64.max = 9223372036854775807 := rfl
  simpa [Lit.wf, e1, e2] using h
end Go.Proofs.YtbnhchffdccjnaaDoor
