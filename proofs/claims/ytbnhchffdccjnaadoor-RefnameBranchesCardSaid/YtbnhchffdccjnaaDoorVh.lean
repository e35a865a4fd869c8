/-
  Layer 11, the program: Branch, and what a program that does nothing does not answer.
-/
import Derived.Test.YtbnhchffdccjnaaDoorVg
namespace Go.Proofs.YtbnhchffdccjnaaDoor
open Go.RowKit
set_option linter.unusedVariables false
set_option linter.unusedSimpArgs false
set_option maxRecDepth 20000

set_option maxHeartbeats 4000000 in
theorem Branch_is (l : List UInt8) (w : World) (hl : l.length ≤ 900000) (tab : RTab w) :
    Calls Tryd.prog 10 #[.string ⟨l.toArray⟩] w fun e w' => e = .returned (.bool (branchL l)) ∧ Below w.heap.size w w' := by
  have hs := fun u => add_lists (P := Tryd.prog) u headsL l (by rw [show headsL.length = 11 from rfl]; omega)
  rw [show (⟨headsL.toArray⟩ : ByteArray) = ⟨#[114, 101, 102, 115, 47, 104, 101, 97, 100, 115, 47]⟩ from rfl] at hs
  have cR := fun w t => Right_is (headsL ++ l) w (by rw [List.length_append, show headsL.length = 11 from rfl]; omega) t
  have cB := fun w => Tryd.strings_HasPrefix ⟨l.toArray⟩ ⟨#[45]⟩ w
  have e1 : Lib.hasPrefix (⟨l.toArray⟩ : ByteArray).data.toList (⟨#[45]⟩ : ByteArray).data.toList = ([45].isPrefixOf l : Bool) := rfl
  rw [e1] at cB
  obtain ⟨P, hP⟩ : ∃ P, branchL l = P := ⟨_, rfl⟩
  have HP := Lib.hid hP
  unfold branchL at hP
  rw [show branchL l = P from HP.out]
  obtain ⟨a, ha⟩ : ∃ a, refL (headsL ++ l) = a := ⟨_, rfl⟩
  obtain ⟨b, hb2⟩ : ∃ b, ([45].isPrefixOf l : Bool) = b := ⟨_, rfl⟩
  rw [ha] at cR hP
  rw [hb2] at cB hP
  have R := Lib.hid hP
  have TT := Lib.hid tab
  obtain ⟨S, hS⟩ : ∃ S : ByteArray, S = ⟨l.toArray⟩ := ⟨_, rfl⟩
  rw [← hS] at hs cB ⊢
  obtain ⟨S2, hS2⟩ : ∃ S2 : ByteArray, S2 = ⟨(headsL ++ l).toArray⟩ := ⟨_, rfl⟩
  rw [← hS2] at hs cR
  clear hS hS2 hP ha hb2 tab e1
  cases b with
  | true =>
    go_enter Tryd.func10, Tryd.ntmps10
    go_wp2_with fail
    refine (cB _).mono ?_
    rintro e w2 ⟨rfl, rfl⟩
    go_wp2
    go_ret
    exact ⟨ret_bool (by rw [← R.out]; simp), Below.refl _ _⟩
  | false =>
    go_enter Tryd.func10, Tryd.ntmps10
    go_wp2_with fail
    refine (cB _).mono ?_
    rintro e w2 ⟨rfl, rfl⟩
    go_wp2_with fail
    refine (cR _ TT.out).mono ?_
    rintro e w1 ⟨rfl, b1⟩
    go_wp2
    go_ret
    exact ⟨ret_bool (by rw [← R.out]; simp), b1⟩

theorem ref_a : refL [114, 101, 102, 115, 47, 104, 101, 97, 100, 115, 47, 97] = true := by decide +kernel
theorem ref_one : refL [97] = false := by decide +kernel
theorem branch_a : branchL [97] = true := by decide +kernel
set_option maxHeartbeats 4000000 in
theorem awake11 (w : World) (tab : RTab w) :
    Calls Tryd.prog 7 #[] w fun e w' => e = .returned (.bool true) ∧ Below w.heap.size w w' := by
  have TT := Lib.hid tab
  have c1 := fun w t => Right_is [114, 101, 102, 115, 47, 104, 101, 97, 100, 115, 47, 97] w (by decide) t
  have c2 := fun w t => Right_is [97] w (by decide) t
  have c3 := fun w t => Branch_is [97] w (by decide) t
  rw [ref_a] at c1
  rw [ref_one] at c2
  rw [branch_a] at c3
  clear tab
  go_enter Tryd.func7, Tryd.ntmps7
  go_wp2_with fail
  refine (c1 _ TT.out).mono ?_
  rintro e w1 ⟨rfl, b1⟩
  have T1 := Lib.hid (TT.out.below b1)
  go_wp2_with fail
  refine (c2 _ T1.out).mono ?_
  rintro e w2 ⟨rfl, b2⟩
  have T2 := Lib.hid (T1.out.below b2)
  go_wp2_with fail
  refine (c3 _ T2.out).mono ?_
  rintro e w3 ⟨rfl, b3⟩
  go_wp2
  go_ret
  exact ⟨rfl, b1.trans ((b2.trans (b3.mono b2.size)).mono b1.size)⟩
end Go.Proofs.YtbnhchffdccjnaaDoor
