/-
  The contract of utf8.ValidString at this program, the library's own, laid by hand; the tables of unicode/utf8 and of the simple folds, from what the row lists.
-/
import Derived.Shelf.Unicode.ValidAny
import Derived.Lib.LaidU8T
import Derived.PinnedBridge
import Derived.Test.YtboiclejhnbonaaDoorQe
namespace Go.Proofs
open Go.Shelf Go.RowKit Go.Lib
def Tryd.vsRen : Go.Shelf.Ren := ⟨fun | 196 => 17 | 259 => 33 | n => n, fun | 0 => 0 | 3 => 3 | 4 => 4 | 5 => 5 | 9 => 9 | 12 => 12 | 46 => 32 | 53 => 65 | 119 => 53 | 138 => 55 | 139 => 56 | n => n, fun | 3 => 0 | 4 => 1 | n => n⟩
theorem Tryd.vs196 : Go.Proofs.Lays.n196 Tryd.prog Tryd.vsRen := {
  mixed := by kernel_rfl
  f196 := Tryd.func17.trans (congrArg some (by kernel_rfl))
  f259 := Tryd.func33.trans (congrArg some (by kernel_rfl))
  t0 := Tryd.underlying0
  a0 := Tryd.isAgg0
  z0 := Tryd.sizeOf0
  v0 := Tryd.zeroValue0
  t3 := Tryd.underlying3
  a3 := Tryd.isAgg3
  z3 := Tryd.sizeOf3
  v3 := Tryd.zeroValue3
  t4 := Tryd.underlying4
  a4 := Tryd.isAgg4
  z4 := Tryd.sizeOf4
  v4 := Tryd.zeroValue4
  t5 := Tryd.underlying5
  a5 := Tryd.isAgg5
  z5 := Tryd.sizeOf5
  v5 := Tryd.zeroValue5
  t9 := Tryd.underlying9
  a9 := Tryd.isAgg9
  z9 := Tryd.sizeOf9
  v9 := Tryd.zeroValue9
  t12 := Tryd.underlying12
  a12 := Tryd.isAgg12
  z12 := Tryd.sizeOf12
  v12 := Tryd.zeroValue12
  t46 := Tryd.underlying32
  a46 := Tryd.isAgg32
  z46 := Tryd.sizeOf32
  v46 := Tryd.zeroValue32
  t53 := Tryd.underlying65
  a53 := Tryd.isAgg65
  z53 := Tryd.sizeOf65
  v53 := Tryd.zeroValue65
  t119 := Tryd.underlying53
  a119 := Tryd.isAgg53
  z119 := Tryd.sizeOf53
  t138 := Tryd.underlying55
  a138 := Tryd.isAgg55
  z138 := Tryd.sizeOf55
  v138 := Tryd.zeroValue55
  t139 := Tryd.underlying56
  a139 := Tryd.isAgg56
  z139 := Tryd.sizeOf56
  v139 := Tryd.zeroValue56
  g3 := by kernel_rfl
  g4 := by kernel_rfl }
theorem Tryd.vsExtra : U8Extra Tryd.prog Tryd.vsRen := {
  n3 := by kernel_rfl
  n4 := by kernel_rfl
  y3 := by kernel_rfl
  y4 := by kernel_rfl
  c5 := by kernel_rfl
  c119 := by kernel_rfl
  c138 := by kernel_rfl }
namespace YtboiclejhnbonaaDoor
theorem valid_is (l : List UInt8) (w : World) (hn : l.length ≤ 1000000) (hT : Lib.Utf8Tabs 0 1 w) :
    Calls Tryd.prog 17 #[.string ⟨l.toArray⟩] w fun e w' => e = .returned (.bool (Lib.validD l)) ∧ Below w.heap.size w w' :=
  Any.utf8_ValidString Tryd.vs196 ⟨l.toArray⟩ w (by rw [size_toArray]; omega) hT
/-- The first two tables. -/
theorem tabs_of (w : World) (h3 : VarReads Tryd.prog w "unicode/utf8.first" firstData) (h4 : VarReads Tryd.prog w "unicode/utf8.acceptRanges" acceptData) : Lib.Utf8Tabs 0 1 w :=
  utf8Tabs_of_readsT (U8Types.of196 Tryd.vs196) Tryd.vsExtra h3 h4
/-- The table of simple folds, where ".git" reads it. -/
theorem fold_of (w : World) (zs : List Int) (h : VarReads Tryd.prog w "unicode.asciiFold" (tabData .u16 zs)) (h46 : zs[46]? = some 46) (h71 : zs[71]? = some 103) (h73 : zs[73]? = some 105) (h84 : zs[84]? = some 116) (h103 : zs[103]? = some 71) (h105 : zs[105]? = some 73) (h116 : zs[116]? = some 84) : FoldTab w := by
  obtain ⟨g, t, cs, fuel, p, hg, hty, hvar, hd⟩ := h
  obtain rfl := Option.some.inj ((show Tryd.prog.globalNamed "unicode.asciiFold" = some 3 by kernel_rfl).symm.trans hg)
  obtain rfl := Option.some.inj ((show (Tryd.prog.globals[3]?).map (·.type) = some 83 by kernel_rfl).symm.trans hty)
  have hcs := cells_of_tab Tryd.underlying83 Tryd.underlying82 (by kernel_rfl) (by kernel_rfl) hd
  have key : ∀ (k : Nat) (v : Int), zs[k]? = some v → w.cell? ⟨3, k, none⟩ = some (.int .u16 v) := by
    intro k v hk
    rw [World.var?_cell hg hvar k, ← Array.getElem?_toList, hcs]
    simp [hk]
  intro k v hk
  rcases hk with ⟨rfl, rfl⟩ | ⟨rfl, rfl⟩ | ⟨rfl, rfl⟩ | ⟨rfl, rfl⟩ | ⟨rfl, rfl⟩ | ⟨rfl, rfl⟩ | ⟨rfl, rfl⟩
  · exact key _ _ h46
  · exact key _ _ h71
  · exact key _ _ h73
  · exact key _ _ h84
  · exact key _ _ h103
  · exact key _ _ h105
  · exact key _ _ h116
end YtboiclejhnbonaaDoor
end Go.Proofs
