/-
  The walk of QuotePaths, over the contracts.
-/
import Derived.Test.YtkhfgddjnnibdaaDoorQb
import Derived.Test.YtkhfgddjnnibdaaDoorQo
namespace Go.Proofs.YtkhfgddjnnibdaaDoor.quotePaths
open Go.RowKit
set_option linter.unusedVariables false

set_option maxHeartbeats 8000000 in
set_option maxRecDepth 100000 in
theorem walk (w : World) (l : List UInt8) (hl : l.length ≤ maxLen) (tab : Tab w) :
    Calls Tryd.prog 3 #[.string ⟨l.toArray⟩] w fun e w' => e = .returned (.bool true) ∧ Below w.heap.size w w' := by
  unfold maxLen at hl
  have T := Lib.hid tab
  clear tab
  have hsz := size_toArray l
  by_cases h1 : 1000 < l.length
  · generalize (⟨l.toArray⟩ : ByteArray) = s at hsz ⊢
    go_enter Tryd.func3, Tryd.ntmps3
    go_wp2_with fail
    refine (awake_quote _ T.out).mono ?_
    rintro e w1 ⟨rfl, b1⟩
    go_wp2
    go_ret
    exact ⟨rfl, b1⟩
  · have c1 := fun w (t : Tab w) => Path_is l w (by omega) t
    have c2 := fun w (t : Tab w) => rPath_is l w (by omega) (fun w' hb => valid_is l w' (by omega) (Utf8Tabs_below t.utf hb))
    have c3 := fun w => Plain_is l w
    have c4 := fun w => rPlain_is l w (by omega)
    generalize pathL l = p at c1 c2
    generalize plainL l = q at c3 c4
    generalize (⟨l.toArray⟩ : ByteArray) = s at hsz c1 c2 c3 c4 ⊢
    have hp : (p == p) = true := by simp
    have hq : (q == q) = true := by simp
    go_enter Tryd.func3, Tryd.ntmps3
    go_wp2_with fail
    refine (awake_quote _ T.out).mono ?_
    rintro e w1 ⟨rfl, b1⟩
    go_wp2_with fail
    refine (c1 _ (T.out.below b1)).mono ?_
    rintro e w2 ⟨rfl, b2⟩
    have b12 := b1.trans (b2.mono b1.size)
    go_wp2_with fail
    refine (c2 _ (T.out.below b12)).mono ?_
    rintro e w3 ⟨rfl, b3⟩
    have b13 := b12.trans (b3.mono b12.size)
    go_wp2_with fail
    refine (c3 _).mono ?_
    rintro e w4 ⟨rfl, b4⟩
    have b14 := b13.trans (b4.mono b13.size)
    go_wp2_with fail
    refine (c4 _).mono ?_
    rintro e w5 ⟨rfl, rfl⟩
    go_wp2
    go_ret
    exact ⟨rfl, b14⟩
end Go.Proofs.YtkhfgddjnnibdaaDoor.quotePaths
