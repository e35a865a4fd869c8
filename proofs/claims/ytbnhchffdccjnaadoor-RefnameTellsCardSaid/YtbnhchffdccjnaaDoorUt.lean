/-
  unicode/utf8's tables, as the row lists them.
-/
import Derived.Lib.LaidU8T
import Derived.PinnedBridge
import Derived.Test.YtbnhchffdccjnaaDoorMm
namespace Go.Proofs
open Go.Shelf Go.RowKit Go.Lib
def Tryd.utRen : Go.Shelf.Ren := ⟨fun n => n, fun | 5 => 5 | 119 => 35 | 138 => 37 | 139 => 38 | n => n, fun | 3 => 0 | 4 => 1 | n => n⟩
theorem Tryd.utTypes : U8Types Tryd.prog Tryd.utRen := {
  t5 := by kernel_rfl
  t119 := by kernel_rfl
  t138 := by kernel_rfl
  t139 := by kernel_rfl }
theorem Tryd.utExtra : U8Extra Tryd.prog Tryd.utRen := {
  n3 := by kernel_rfl
  n4 := by kernel_rfl
  y3 := by kernel_rfl
  y4 := by kernel_rfl
  c5 := by kernel_rfl
  c119 := by kernel_rfl
  c138 := by kernel_rfl }
namespace YtbnhchffdccjnaaDoor
theorem tabs_of (w : World) (h3 : VarReads Tryd.prog w "unicode/utf8.first" firstData) (h4 : VarReads Tryd.prog w "unicode/utf8.acceptRanges" acceptData) : Lib.Utf8Tabs 0 1 w :=
  utf8Tabs_of_readsT Tryd.utTypes Tryd.utExtra h3 h4
end YtbnhchffdccjnaaDoor
end Go.Proofs
