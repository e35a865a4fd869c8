/-
  The law IdentCleans: its walk.
-/
import Derived.Test.YtagfnnpklefhhaaDoorKf
namespace Go.Proofs.YtagfnnpklefhhaaDoor.identCleans
open Go.RowKit
set_option linter.unusedVariables false
set_option linter.unusedSimpArgs false

/-- A name alone. -/
theorem word_nil : wordL [] = true := rfl
theorem right_name (l : List UInt8) : rightI ⟨l, [], 0, 0⟩ = wordL l := by
  unfold rightI
  rw [word_nil]
  simp

set_option maxHeartbeats 8000000 in
set_option maxRecDepth 100000 in
theorem walk_small (w : World) (l : List UInt8) (hl : l.length ≤ 1500) (tab : T6 w) :
    Calls Tryd.prog 5 #[.string ⟨l.toArray⟩] w fun e w' => e = .returned (.bool true) ∧ Below w.heap.size w w' := by
  have TAB := Lib.hid tab
  have c1 := fun w t => Clean_is l w (by omega) t
  have c2 := fun w t => rRight_is ⟨l, [], 0, 0⟩ (show l.length ≤ 1000000 by omega) (by simp) w t
  have c3 := fun w t => awake_ident w t
  have c4 := fun w t => rClean_is l w (by omega) t
  have c5 := fun w t => Clean_is (cleanT l) w (by have := clean_len l; omega) t
  have c6 := fun w t => Right_is ⟨cleanT l, [], 0, 0⟩ (show (cleanT l).length ≤ 1000000 by have := clean_len l; omega) (by simp) w t
  rw [cleanT_again] at c5
  rw [right_name] at c2 c6
  rw [clean_isword] at c6
  unfold idtV at c2 c6
  simp only at c2 c6
  have hsz := size_toArray l
  have gl : ¬ ((l.length : Nat) : Int) > 1500 := by omega
  cases hw : wordL l with
  | true =>
    have hcl := (clean_iff l).2 hw
    rw [hcl] at c1 c4 c5 c6
    rw [hw] at c2
    clear hw hcl tab
    generalize (⟨l.toArray⟩ : ByteArray) = s at *
    go_enter Tryd.func5, Tryd.ntmps5
    go_wp2_with fail
    refine (c1 _ TAB.out.utf).mono ?_
    rintro e w1 ⟨rfl, b1⟩
    have B1 := Lib.hid b1
    have T1 := Lib.hid (TAB.out.keep b1)
    clear b1
    go_wp2_with fail
    refine (c2 _ T1.out).mono ?_
    rintro e w2 ⟨rfl, b2⟩
    have B2 := Lib.hid (B1.out.trans (b2.mono B1.out.size))
    have T2 := Lib.hid (T1.out.keep b2)
    clear b2
    go_wp2_with fail
    refine (c3 _ T2.out).mono ?_
    rintro e w3 ⟨rfl, b3⟩
    have B3 := Lib.hid (B2.out.trans (b3.mono B2.out.size))
    have T3 := Lib.hid (T2.out.keep b3)
    clear b3
    go_wp2_with fail
    refine (c4 _ T3.out.utf).mono ?_
    rintro e w4 ⟨rfl, b4⟩
    have B4 := Lib.hid (B3.out.trans (b4.mono B3.out.size))
    have T4 := Lib.hid (T3.out.keep b4)
    clear b4
    go_wp2_with fail
    refine (c5 _ T4.out.utf).mono ?_
    rintro e w5 ⟨rfl, b5⟩
    have B5 := Lib.hid (B4.out.trans (b5.mono B4.out.size))
    have T5 := Lib.hid (T4.out.keep b5)
    clear b5
    go_wp2_with fail
    refine (c6 _ T5.out).mono ?_
    rintro e w6 ⟨rfl, b6⟩
    have B6 := Lib.hid (B5.out.trans (b6.mono B5.out.size))
    clear b6
    go_wp2
    go_ret
    exact ⟨rfl, B6.out⟩
  | false =>
    rw [hw] at c2
    clear hw tab
    generalize cleanT l = m at *
    generalize (⟨l.toArray⟩ : ByteArray) = s at *
    generalize (⟨m.toArray⟩ : ByteArray) = sm at *
    go_enter Tryd.func5, Tryd.ntmps5
    go_wp2_with fail
    refine (c1 _ TAB.out.utf).mono ?_
    rintro e w1 ⟨rfl, b1⟩
    have B1 := Lib.hid b1
    have T1 := Lib.hid (TAB.out.keep b1)
    clear b1
    go_wp2_with fail
    refine (c2 _ T1.out).mono ?_
    rintro e w2 ⟨rfl, b2⟩
    have B2 := Lib.hid (B1.out.trans (b2.mono B1.out.size))
    have T2 := Lib.hid (T1.out.keep b2)
    clear b2
    go_wp2_with fail
    refine (c3 _ T2.out).mono ?_
    rintro e w3 ⟨rfl, b3⟩
    have B3 := Lib.hid (B2.out.trans (b3.mono B2.out.size))
    have T3 := Lib.hid (T2.out.keep b3)
    clear b3
    go_wp2_with fail
    refine (c4 _ T3.out.utf).mono ?_
    rintro e w4 ⟨rfl, b4⟩
    have B4 := Lib.hid (B3.out.trans (b4.mono B3.out.size))
    have T4 := Lib.hid (T3.out.keep b4)
    clear b4
    go_wp2_with fail
    refine (c5 _ T4.out.utf).mono ?_
    rintro e w5 ⟨rfl, b5⟩
    have B5 := Lib.hid (B4.out.trans (b5.mono B4.out.size))
    have T5 := Lib.hid (T4.out.keep b5)
    clear b5
    go_wp2_with fail
    refine (c6 _ T5.out).mono ?_
    rintro e w6 ⟨rfl, b6⟩
    have B6 := Lib.hid (B5.out.trans (b6.mono B5.out.size))
    clear b6
    go_wp2
    go_ret
    exact ⟨rfl, B6.out⟩
set_option maxHeartbeats 4000000 in
theorem walk (w : World) (l : List UInt8) (hl : l.length ≤ maxLen) (tab : T6 w) :
    Calls Tryd.prog 5 #[.string ⟨l.toArray⟩] w fun e w' => e = .returned (.bool true) ∧ Below w.heap.size w w' := by
  by_cases h : l.length ≤ 1500
  · exact walk_small w l h tab
  · have hsz := size_toArray l
    have c3 := awake_ident w tab
    have gl : ((l.length : Nat) : Int) > 1500 := by omega
    clear hl
    generalize (⟨l.toArray⟩ : ByteArray) = s at *
    go_enter Tryd.func5, Tryd.ntmps5
    go_wp2_with fail
    refine c3.mono ?_
    rintro e w1 ⟨rfl, b1⟩
    go_wp2
    go_ret
    exact ⟨rfl, b1⟩
end Go.Proofs.YtagfnnpklefhhaaDoor.identCleans
