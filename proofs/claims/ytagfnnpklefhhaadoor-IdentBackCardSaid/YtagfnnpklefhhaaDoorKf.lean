/-
  Layer 6: what a program that does nothing does not answer.
-/
import Derived.Test.YtagfnnpklefhhaaDoorJi
import Derived.Test.YtagfnnpklefhhaaDoorKd
import Derived.Test.YtagfnnpklefhhaaDoorKa
namespace Go.Proofs.YtagfnnpklefhhaaDoor
open Go.RowKit
set_option linter.unusedVariables false
set_option linter.unusedSimpArgs false

theorem print_ab : printI Lib.itoa ⟨[65], [97, 64, 98], 5, -90⟩ = [65, 32, 60, 97, 64, 98, 62, 32, 53, 32, 45, 48, 49, 51, 48] := by decide +kernel
theorem clean_a : cleanT [32, 97, 60] = [97] := by decide +kernel
set_option maxHeartbeats 4000000 in
set_option maxRecDepth 100000 in
theorem awake_ident (w : World) (tab : T6 w) : Calls Tryd.prog 8 #[] w fun e w' => e = .returned (.bool true) ∧ Below w.heap.size w w' := by
  have c1 := Print_is ⟨[65], [97, 64, 98], 5, -90⟩ (by simp) (by simp) w tab
  have c2 := fun w t => Clean_is [32, 97, 60] w (by simp) t
  rw [print_ab] at c1
  rw [clean_a] at c2
  unfold idtV at c1
  simp only at c1
  have T := Lib.hid tab
  clear tab
  go_enter Tryd.func8, Tryd.ntmps8
  go_wp2_with fail
  refine c1.mono ?_
  rintro e w1 ⟨rfl, b1⟩
  go_wp2_with fail
  refine (c2 _ (T.out.keep b1).utf).mono ?_
  rintro e w2 ⟨rfl, b2⟩
  go_wp2
  go_ret
  exact ⟨rfl, b1.trans (b2.mono b1.size)⟩
end Go.Proofs.YtagfnnpklefhhaaDoor
