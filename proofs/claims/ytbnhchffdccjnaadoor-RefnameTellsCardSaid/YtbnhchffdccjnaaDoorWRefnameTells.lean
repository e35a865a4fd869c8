/-
  The walk of RefnameTells, over the contracts.
-/
import Derived.Test.YtbnhchffdccjnaaDoorVh
namespace Go.Proofs.YtbnhchffdccjnaaDoor.refnameTells
open Go.RowKit
set_option linter.unusedVariables false
set_option linter.unusedSimpArgs false

set_option maxHeartbeats 4000000 in
theorem walk (w : World) (l : List UInt8) (hl : l.length ≤ maxLen) (tab : RTab w) :
    Calls Tryd.prog 3 #[.string ⟨l.toArray⟩] w fun e w' => e = .returned (.bool true) ∧ Below w.heap.size w w' := by
  have T := Lib.hid tab
  have cA := fun w t => awake11 w t
  have hsz := size_toArray l
  unfold maxLen at hl
  clear tab
  by_cases h : 500 < l.length
  · generalize (⟨l.toArray⟩ : ByteArray) = S at *
    go_enter Tryd.func3, Tryd.ntmps3
    go_wp2_with fail
    refine (cA _ T.out).mono ?_
    rintro e w1 ⟨rfl, b1⟩
    go_wp2
    go_ret
    exact ⟨rfl, b1⟩
  have c1 := fun w t => Right_is l w (by omega) t
  have c2 := fun w t => rRight11 l (by omega) w t
  have c3 := fun w t => Branch_is l w (by omega) t
  have c4 := fun w t => rBranch11 l (by omega) w t
  obtain ⟨p, hp⟩ : ∃ p, refL l = p := ⟨_, rfl⟩
  obtain ⟨q, hq⟩ : ∃ q, branchL l = q := ⟨_, rfl⟩
  rw [hp] at c1 c2
  rw [hq] at c3 c4
  generalize (⟨l.toArray⟩ : ByteArray) = S at *
  clear hp hq
  have hpp : (p == p) = true := by simp
  have hqq : (q == q) = true := by simp
  go_enter Tryd.func3, Tryd.ntmps3
  go_wp2_with fail
  refine (cA _ T.out).mono ?_
  rintro e w1 ⟨rfl, b1⟩
  have T1 := Lib.hid (T.out.below b1)
  go_wp2_with fail
  refine (c1 _ T1.out).mono ?_
  rintro e w2 ⟨rfl, b2⟩
  have T2 := Lib.hid (T1.out.below b2)
  go_wp2_with fail
  refine (c2 _ T2.out.utf).mono ?_
  rintro e w3 ⟨rfl, b3⟩
  have T3 := Lib.hid (T2.out.below b3)
  go_wp2_with fail
  refine (c3 _ T3.out).mono ?_
  rintro e w4 ⟨rfl, b4⟩
  have T4 := Lib.hid (T3.out.below b4)
  go_wp2_with fail
  refine (c4 _ T4.out.utf).mono ?_
  rintro e w5 ⟨rfl, b5⟩
  go_wp2
  go_ret
  have b45 := b4.trans (b5.mono b4.size)
  have b35 := b3.trans (b45.mono b3.size)
  have b25 := b2.trans (b35.mono b2.size)
  exact ⟨rfl, b1.trans (b25.mono b1.size)⟩
end Go.Proofs.YtbnhchffdccjnaaDoor.refnameTells
