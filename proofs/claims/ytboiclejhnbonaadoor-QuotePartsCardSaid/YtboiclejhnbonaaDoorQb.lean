/-
  Layer 3: what a program that does nothing does not answer.
-/
import Derived.Test.YtboiclejhnbonaaDoorQa
namespace Go.Proofs.YtboiclejhnbonaaDoor
open Go.RowKit
set_option linter.unusedVariables false
set_option linter.unusedSimpArgs false

theorem path_ab : pathL [97, 47, 98] = true := by decide +kernel
theorem path_aab : pathL [97, 47, 47, 98] = false := by decide +kernel
theorem quote_ab : quoteL [97, 32, 98] = [34, 97, 32, 98, 34] := by decide +kernel

set_option maxHeartbeats 8000000 in
set_option maxRecDepth 100000 in
theorem awake_quote (w : World) (tab : Tab w) : Calls Tryd.prog 8 #[] w fun e w' => e = .returned (.bool true) ∧ Below w.heap.size w w' := by
  have T := Lib.hid tab
  have c1 := fun w (t : Tab w) => Path_is [97, 47, 98] w (by decide) t
  have c2 := fun w (t : Tab w) => Path_is [97, 47, 47, 98] w (by decide) t
  have c3 := fun w (t : Tab w) => Quote_is [97, 32, 98] w (by decide) t.utf
  rw [path_ab] at c1
  rw [path_aab] at c2
  rw [quote_ab] at c3
  clear tab
  go_enter Tryd.func8, Tryd.ntmps8
  go_wp2_with fail
  refine (c1 _ T.out).mono ?_
  rintro e w1 ⟨rfl, b1⟩
  go_wp2_with fail
  refine (c2 _ (T.out.below b1)).mono ?_
  rintro e w2 ⟨rfl, b2⟩
  have b12 := b1.trans (b2.mono b1.size)
  go_wp2_with fail
  refine (c3 _ (T.out.below b12)).mono ?_
  rintro e w3 ⟨rfl, b3⟩
  have b13 := b12.trans (b3.mono b12.size)
  go_wp2
  go_ret
  exact ⟨rfl, b13⟩
end Go.Proofs.YtboiclejhnbonaaDoor
