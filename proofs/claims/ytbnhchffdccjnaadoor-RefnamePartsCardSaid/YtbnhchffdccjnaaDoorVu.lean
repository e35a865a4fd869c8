/-
  The contract of utf8.ValidString at this program, the library's own, laid by hand; the tables of unicode/utf8, from what the row lists.
-/
import Derived.Shelf.Unicode.ValidAny
import Derived.Lib.LaidU8T
import Derived.PinnedBridge
import Derived.Test.YtbnhchffdccjnaaDoorMm
import Derived.Test.YtbnhchffdccjnaaDoorUt
namespace Go.Proofs
open Go.Shelf Go.RowKit Go.Lib
def Tryd.vsRen : Go.Shelf.Ren := ⟨fun | 196 => 12 | 259 => 22 | n => n, fun | 0 => 0 | 3 => 3 | 4 => 4 | 5 => 5 | 9 => 9 | 12 => 12 | 46 => 26 | 53 => 42 | 119 => 35 | 138 => 37 | 139 => 38 | n => n, fun | 3 => 0 | 4 => 1 | n => n⟩
theorem Tryd.vs196 : Go.Proofs.Lays.n196 Tryd.prog Tryd.vsRen := {
  mixed := by kernel_rfl
  f196 := Tryd.func12.trans (congrArg some (by kernel_rfl))
  f259 := Tryd.func22.trans (congrArg some (by kernel_rfl))
  t0 := Tryd.underlying0
  a0 := Tryd.isAgg0
  z0 := Tryd.sizeOf0
  v0 := Tryd.zeroValue0
  t3 := Tryd.underlying3
  a3 := Tryd.isAgg3
  z3 := Tryd.sizeOf3
  v3 := Tryd.zeroValue3
  t4 := Tryd.underlying4
  a4 := Tryd.isAgg4
  z4 := Tryd.sizeOf4
  v4 := Tryd.zeroValue4
  t5 := Tryd.underlying5
  a5 := Tryd.isAgg5
  z5 := Tryd.sizeOf5
  v5 := Tryd.zeroValue5
  t9 := Tryd.underlying9
  a9 := Tryd.isAgg9
  z9 := Tryd.sizeOf9
  v9 := Tryd.zeroValue9
  t12 := Tryd.underlying12
  a12 := Tryd.isAgg12
  z12 := Tryd.sizeOf12
  v12 := Tryd.zeroValue12
  t46 := Tryd.underlying26
  a46 := Tryd.isAgg26
  z46 := Tryd.sizeOf26
  v46 := Tryd.zeroValue26
  t53 := Tryd.underlying42
  a53 := Tryd.isAgg42
  z53 := Tryd.sizeOf42
  v53 := Tryd.zeroValue42
  t119 := Tryd.underlying35
  a119 := Tryd.isAgg35
  z119 := Tryd.sizeOf35
  t138 := Tryd.underlying37
  a138 := Tryd.isAgg37
  z138 := Tryd.sizeOf37
  v138 := Tryd.zeroValue37
  t139 := Tryd.underlying38
  a139 := Tryd.isAgg38
  z139 := Tryd.sizeOf38
  v139 := Tryd.zeroValue38
  g3 := by kernel_rfl
  g4 := by kernel_rfl }
theorem Tryd.vsExtra : U8Extra Tryd.prog Tryd.vsRen := {
  n3 := by kernel_rfl
  n4 := by kernel_rfl
  y3 := by kernel_rfl
  y4 := by kernel_rfl
  c5 := by kernel_rfl
  c119 := by kernel_rfl
  c138 := by kernel_rfl }
namespace YtbnhchffdccjnaaDoor
theorem valid_is (l : List UInt8) (w : World) (hn : l.length ≤ 1000000) (hT : Lib.Utf8Tabs 0 1 w) :
    Calls Tryd.prog 12 #[.string ⟨l.toArray⟩] w fun e w' => e = .returned (.bool (Lib.validD l)) ∧ Below w.heap.size w w' :=
  Any.utf8_ValidString Tryd.vs196 ⟨l.toArray⟩ w (by rw [size_toArray]; omega) hT
end YtbnhchffdccjnaaDoor
end Go.Proofs
