/-
  Texts that belong together, one behind the other.
-/
import Derived.Test.YtdgcjjledbnofaaDoorFu07
import Derived.Lib.Hide
import Derived.OwnWalk
import Derived.Lib.LaidU8T
import Derived.PinnedBridge
import Derived.Test.YtdgcjjledbnofaaDoorFu01
import Derived.Shelf.Unicode.ValidAny
/-
  Layer 16, the program: a mode's flag, a flag's mode.
-/
namespace Go.Proofs.YtdgcjjledbnofaaDoor
set_option maxRecDepth 20000
open Go.RowKit
set_option linter.unusedVariables false
set_option linter.unusedSimpArgs false

theorem flag_is (m : Int) (w : World) : Calls Tryd.prog 20 #[.int .i64 m] w fun e w' => e = .returned (.string ⟨(flagM m).toArray⟩) ∧ w = w' := by
  unfold flagM
  by_cases h2 : m = 2
  · rw [if_pos h2]; subst h2
    go_enter Tryd.func20, Tryd.ntmps20
    go_wp2
    go_ret
    exact ⟨rfl, rfl⟩
  · rw [if_neg h2]
    by_cases h3 : m = 3
    · rw [if_pos h3]; subst h3
      go_enter Tryd.func20, Tryd.ntmps20
      go_wp2
      go_ret
      exact ⟨rfl, rfl⟩
    · rw [if_neg h3]
      go_enter Tryd.func20, Tryd.ntmps20
      go_wp2
      go_ret
      exact ⟨rfl, rfl⟩
theorem rflag_is (m : Int) (w : World) : Calls Tryd.prog 23 #[.int .i64 m] w fun e w' => e = .returned (.string ⟨(flagM m).toArray⟩) ∧ w = w' := by
  unfold flagM
  by_cases h2 : m = 2
  · rw [if_pos h2]; subst h2
    go_enter Tryd.func23, Tryd.ntmps23
    go_wp2
    go_ret
    exact ⟨rfl, rfl⟩
  · rw [if_neg h2]
    by_cases h3 : m = 3
    · rw [if_pos h3]; subst h3
      go_enter Tryd.func23, Tryd.ntmps23
      go_wp2
      go_ret
      exact ⟨rfl, rfl⟩
    · rw [if_neg h3]
      go_enter Tryd.func23, Tryd.ntmps23
      go_wp2
      go_ret
      exact ⟨rfl, rfl⟩
theorem neB (a b : List UInt8) (h : a ≠ b) : ((⟨a.toArray⟩ : ByteArray).toList == (⟨b.toArray⟩ : ByteArray).toList) = false := by
  rw [toList_mk, toList_mk, beq_eq_false_iff_ne]
  exact h
/-- What modeOf answers. -/
def modeV (o : Option Int) : Value := match o with
  | some m => .tuple #[.int .i64 m, .bool true]
  | none => .tuple #[.int .i64 0, .bool false]
theorem modeOf_is (s : List UInt8) (w : World) : Calls Tryd.prog 39 #[.string ⟨s.toArray⟩] w fun e w' => e = .returned (modeV (modeM s)) ∧ w = w' := by
  have C1 := Lib.hid (fun u => flag_is 1 u)
  have C2 := Lib.hid (fun u => flag_is 2 u)
  have C3 := Lib.hid (fun u => flag_is 3 u)
  rw [show (⟨(flagM 1).toArray⟩ : ByteArray) = ⟨#[]⟩ from rfl] at C1
  rw [show (⟨(flagM 2).toArray⟩ : ByteArray) = ⟨#[120]⟩ from rfl] at C2
  rw [show (⟨(flagM 3).toArray⟩ : ByteArray) = ⟨#[108]⟩ from rfl] at C3
  obtain ⟨R, hR⟩ : ∃ R, modeM s = R := ⟨_, rfl⟩
  by_cases h1 : s = []
  · subst h1
    clear C2 C3 hR
    go_enter Tryd.func39, Tryd.ntmps39
    go_wp2_with fail
    refine wp_loop_rounds 1 ?_
    rw [rounds_succ]
    go_wp2_with fail
    refine (C1.out _).mono ?_
    rintro e u ⟨rfl, rfl⟩
    go_wp2
    go_ret2
    exact ⟨rfl, rfl⟩
  by_cases h2 : s = [120]
  · subst h2
    clear C3 hR
    go_enter Tryd.func39, Tryd.ntmps39
    go_wp2_with fail
    refine wp_loop_rounds 2 ?_
    rw [rounds_succ]
    go_wp2_with fail
    refine (C1.out _).mono ?_
    rintro e u ⟨rfl, rfl⟩
    go_wp2_with fail
    rw [rounds_succ]
    go_wp2_with fail
    refine (C2.out _).mono ?_
    rintro e u ⟨rfl, rfl⟩
    go_wp2
    go_ret2
    exact ⟨rfl, rfl⟩
  by_cases h3 : s = [108]
  · subst h3
    clear hR
    go_enter Tryd.func39, Tryd.ntmps39
    go_wp2_with fail
    refine wp_loop_rounds 3 ?_
    rw [rounds_succ]
    go_wp2_with fail
    refine (C1.out _).mono ?_
    rintro e u ⟨rfl, rfl⟩
    go_wp2_with fail
    rw [rounds_succ]
    go_wp2_with fail
    refine (C2.out _).mono ?_
    rintro e u ⟨rfl, rfl⟩
    go_wp2_with fail
    rw [rounds_succ]
    go_wp2_with fail
    refine (C3.out _).mono ?_
    rintro e u ⟨rfl, rfl⟩
    go_wp2
    go_ret2
    exact ⟨rfl, rfl⟩
  have e0 : modeM s = none := by unfold modeM; rw [if_neg h1, if_neg h2, if_neg h3]
  rw [e0]
  have q1 : (⟨s.toArray⟩ : ByteArray).toList.isEmpty = false := by rw [toList_mk]; cases s with | nil => exact absurd rfl h1 | cons _ _ => rfl
  have q2 : (([120] : List UInt8) == (⟨s.toArray⟩ : ByteArray).toList) = false := by rw [toList_mk, beq_eq_false_iff_ne]; exact fun e => h2 e.symm
  have q3 : (([108] : List UInt8) == (⟨s.toArray⟩ : ByteArray).toList) = false := by rw [toList_mk, beq_eq_false_iff_ne]; exact fun e => h3 e.symm
  clear hR e0 h1 h2 h3
  generalize (⟨s.toArray⟩ : ByteArray) = t at q1 q2 q3 ⊢
  go_enter Tryd.func39, Tryd.ntmps39
  go_wp2_with fail
  refine wp_loop_rounds 4 ?_
  rw [rounds_succ]
  go_wp2_with fail
  refine (C1.out _).mono ?_
  rintro e u ⟨rfl, rfl⟩
  go_wp2_with fail
  rw [rounds_succ]
  go_wp2_with fail
  refine (C2.out _).mono ?_
  rintro e u ⟨rfl, rfl⟩
  go_wp2_with fail
  rw [rounds_succ]
  go_wp2_with fail
  refine (C3.out _).mono ?_
  rintro e u ⟨rfl, rfl⟩
  go_wp2_with fail
  rw [rounds_succ]
  go_wp2
  go_ret2
  exact ⟨rfl, rfl⟩
end Go.Proofs.YtdgcjjledbnofaaDoor

/-
  unicode/utf8's tables, as the row lists them.
-/
namespace Go.Proofs
open Go.Shelf Go.RowKit Go.Lib
def Tryd.utRen : Go.Shelf.Ren := ⟨fun n => n, fun | 5 => 5 | 119 => 85 | 138 => 87 | 139 => 88 | n => n, fun | 3 => 0 | 4 => 1 | n => n⟩
theorem Tryd.utTypes : U8Types Tryd.prog Tryd.utRen := {
  t5 := by kernel_rfl
  t119 := by kernel_rfl
  t138 := by kernel_rfl
  t139 := by kernel_rfl }
theorem Tryd.utExtra : U8Extra Tryd.prog Tryd.utRen := {
  n3 := by kernel_rfl
  n4 := by kernel_rfl
  y3 := by kernel_rfl
  y4 := by kernel_rfl
  c5 := by kernel_rfl
  c119 := by kernel_rfl
  c138 := by kernel_rfl }
namespace YtdgcjjledbnofaaDoor
theorem tabs_of (w : World) (h3 : VarReads Tryd.prog w "unicode/utf8.first" firstData) (h4 : VarReads Tryd.prog w "unicode/utf8.acceptRanges" acceptData) : Lib.Utf8Tabs 0 1 w :=
  utf8Tabs_of_readsT Tryd.utTypes Tryd.utExtra h3 h4
end YtdgcjjledbnofaaDoor
end Go.Proofs

/-
  The contract of utf8.ValidString at this program, the library's own, laid by hand; the tables of unicode/utf8, from what the row lists.
-/
namespace Go.Proofs
open Go.Shelf Go.RowKit Go.Lib
def Tryd.vsRen : Go.Shelf.Ren := ⟨fun | 196 => 48 | 259 => 57 | n => n, fun | 0 => 0 | 3 => 3 | 4 => 4 | 5 => 5 | 9 => 9 | 12 => 12 | 46 => 41 | 53 => 95 | 119 => 85 | 138 => 87 | 139 => 88 | n => n, fun | 3 => 0 | 4 => 1 | n => n⟩
theorem Tryd.vs196 : Go.Proofs.Lays.n196 Tryd.prog Tryd.vsRen := {
  mixed := by kernel_rfl
  f196 := Tryd.func48.trans (congrArg some (by kernel_rfl))
  f259 := Tryd.func57.trans (congrArg some (by kernel_rfl))
  t0 := Tryd.underlying0
  a0 := Tryd.isAgg0
  z0 := Tryd.sizeOf0
  v0 := Tryd.zeroValue0
  t3 := Tryd.underlying3
  a3 := Tryd.isAgg3
  z3 := Tryd.sizeOf3
  v3 := Tryd.zeroValue3
  t4 := Tryd.underlying4
  a4 := Tryd.isAgg4
  z4 := Tryd.sizeOf4
  v4 := Tryd.zeroValue4
  t5 := Tryd.underlying5
  a5 := Tryd.isAgg5
  z5 := Tryd.sizeOf5
  v5 := Tryd.zeroValue5
  t9 := Tryd.underlying9
  a9 := Tryd.isAgg9
  z9 := Tryd.sizeOf9
  v9 := Tryd.zeroValue9
  t12 := Tryd.underlying12
  a12 := Tryd.isAgg12
  z12 := Tryd.sizeOf12
  v12 := Tryd.zeroValue12
  t46 := Tryd.underlying41
  a46 := Tryd.isAgg41
  z46 := Tryd.sizeOf41
  v46 := Tryd.zeroValue41
  t53 := Tryd.underlying95
  a53 := Tryd.isAgg95
  z53 := Tryd.sizeOf95
  v53 := Tryd.zeroValue95
  t119 := Tryd.underlying85
  a119 := Tryd.isAgg85
  z119 := Tryd.sizeOf85
  t138 := Tryd.underlying87
  a138 := Tryd.isAgg87
  z138 := Tryd.sizeOf87
  v138 := Tryd.zeroValue87
  t139 := Tryd.underlying88
  a139 := Tryd.isAgg88
  z139 := Tryd.sizeOf88
  v139 := Tryd.zeroValue88
  g3 := by kernel_rfl
  g4 := by kernel_rfl }
theorem Tryd.vsExtra : U8Extra Tryd.prog Tryd.vsRen := {
  n3 := by kernel_rfl
  n4 := by kernel_rfl
  y3 := by kernel_rfl
  y4 := by kernel_rfl
  c5 := by kernel_rfl
  c119 := by kernel_rfl
  c138 := by kernel_rfl }
namespace YtdgcjjledbnofaaDoor
theorem valid_is (l : List UInt8) (w : World) (hn : l.length ≤ 1000000) (hT : Lib.Utf8Tabs 0 1 w) :
    Calls Tryd.prog 48 #[.string ⟨l.toArray⟩] w fun e w' => e = .returned (.bool (Lib.validD l)) ∧ Below w.heap.size w w' :=
  Any.utf8_ValidString Tryd.vs196 ⟨l.toArray⟩ w (by rw [size_toArray]; omega) hT
end YtdgcjjledbnofaaDoor
end Go.Proofs
