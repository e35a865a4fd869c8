/-
  The walk of RefnameLong, over the contracts.
-/
import Derived.Test.YtbnhchffdccjnaaDoorVh
import Derived.Test.YtbnhchffdccjnaaDoorVj
namespace Go.Proofs.YtbnhchffdccjnaaDoor.refnameLong
open Go.RowKit
set_option linter.unusedVariables false
set_option linter.unusedSimpArgs false
set_option maxRecDepth 20000

theorem grow (k : Nat) : (headsL ++ List.replicate k 120) ++ [120] = headsL ++ List.replicate (k + 1) 120 := by
  rw [List.append_assoc, List.replicate_succ']
theorem len_of (k : Nat) : (headsL ++ List.replicate k 120 : List UInt8).length = 11 + k := by
  rw [List.length_append, List.length_replicate]; rfl
theorem cut_of (k n : Nat) (h : 11 + k = n) : (⟨(headsL ++ List.replicate k 120).toArray⟩ : ByteArray).extract 11 n = ⟨(List.replicate k 120).toArray⟩ := by
  subst h
  have := ext_drop (headsL ++ List.replicate k 120) 11
  rw [len_of] at this
  rw [this]
  rfl
set_option maxHeartbeats 8000000 in
theorem walk (w : World) (x : Bool) (tab : RTab w) :
    Calls Tryd.prog 5 #[.bool x] w fun e w' => e = .returned (.bool true) ∧ Below w.heap.size w w' := by
  have T := Lib.hid tab
  have cA := fun w t => awake11 w t
  clear tab
  cases x with
  | false =>
    have c1 := fun w t => Right_is (headsL ++ List.replicate 189 120) w (by rw [len_of]; omega) t
    have c2 := fun w t => Branch_is (List.replicate 189 120) w (by rw [List.length_replicate]; omega) t
    rw [show refL (headsL ++ List.replicate 189 120) = true from (x_ref 189 (by omega)).trans (by decide)] at c1
    rw [show branchL (List.replicate 189 120) = true from (x_branch 189 (by omega)).trans (by decide)] at c2
    have cut := cut_of 189 200 rfl
    have z := size_toArray (headsL ++ List.replicate 189 120)
    rw [len_of] at z
    have C1 := Lib.hid c1
    have C2 := Lib.hid c2
    have CUT := Lib.hid cut
    have Z := Lib.hid z
    clear c1 c2 cut z
    go_enter Tryd.func5, Tryd.ntmps5
    go_wp2_with fail
    go_loopw [3] (fun sv wr => wr = w ∧ ∃ k : Nat, k ≤ 189 ∧ sv = .string ⟨(headsL ++ List.replicate k 120).toArray⟩) (fun sv _ => match sv with | .string b => 201 - b.size | _ => 0)
    case atStart => exact ⟨rfl, 0, Nat.zero_le _, rfl⟩
    case round =>
      obtain ⟨rfl, k, hk, rfl⟩ := hrel
      by_cases hlt : k < 189
      · have z := size_toArray (headsL ++ List.replicate k 120)
        rw [len_of] at z
        have z2 := size_toArray (headsL ++ List.replicate (k + 1) 120)
        rw [len_of] at z2
        have hs := fun u => add_lists (P := Tryd.prog) u (headsL ++ List.replicate k 120) [120] (by rw [len_of]; show 11 + k + 1 ≤ _; omega)
        rw [grow, show (⟨([120] : List UInt8).toArray⟩ : ByteArray) = ⟨#[120]⟩ from rfl] at hs
        have Z1 := Lib.hid z
        have Z2 := Lib.hid z2
        obtain ⟨S, hS⟩ : ∃ S : ByteArray, S = ⟨(headsL ++ List.replicate k 120).toArray⟩ := ⟨_, rfl⟩
        obtain ⟨S2, hS2⟩ : ∃ S : ByteArray, S = ⟨(headsL ++ List.replicate (k + 1) 120).toArray⟩ := ⟨_, rfl⟩
        rw [← hS] at hs z Z1 ⊢
        rw [← hS2] at hs Z2
        have HS2 := Lib.hid hS2
        clear hS hS2 z2
        go_wp2
        go_roundw
        case rel => exact ⟨trivial, k + 1, by omega, congrArg Value.string HS2.out⟩
        case measure =>
          have := Z1.out
          have := Z2.out
          simp only []
          omega
      · obtain rfl : k = 189 := by omega
        have z := Z.out
        have cut := CUT.out
        obtain ⟨S, hS⟩ : ∃ S : ByteArray, S = ⟨(headsL ++ List.replicate 189 120).toArray⟩ := ⟨_, rfl⟩
        rw [← hS] at z cut C1 ⊢
        obtain ⟨S2, hS2⟩ : ∃ S : ByteArray, S = ⟨(List.replicate 189 120).toArray⟩ := ⟨_, rfl⟩
        rw [← hS2] at cut C2
        clear hS hS2 Z CUT
        go_wp2_with fail
        refine (cA _ T.out).mono ?_
        rintro e w1 ⟨rfl, b1⟩
        have T1 := Lib.hid (T.out.below b1)
        go_wp2_with fail
        refine (C1.out _ T1.out).mono ?_
        rintro e w2 ⟨rfl, b2⟩
        have T2 := Lib.hid (T1.out.below b2)
        go_wp2_with fail
        refine (C2.out _ T2.out).mono ?_
        rintro e w3 ⟨rfl, b3⟩
        go_wp2
        go_ret
        exact ⟨rfl, b1.trans ((b2.trans (b3.mono b2.size)).mono b1.size)⟩
  | true =>
    have c1 := fun w t => Right_is (headsL ++ List.replicate 190 120) w (by rw [len_of]; omega) t
    have c2 := fun w t => Branch_is (List.replicate 190 120) w (by rw [List.length_replicate]; omega) t
    rw [show refL (headsL ++ List.replicate 190 120) = false from (x_ref 190 (by omega)).trans (by decide)] at c1
    rw [show branchL (List.replicate 190 120) = false from (x_branch 190 (by omega)).trans (by decide)] at c2
    have cut := cut_of 190 201 rfl
    have z := size_toArray (headsL ++ List.replicate 190 120)
    rw [len_of] at z
    have C1 := Lib.hid c1
    have C2 := Lib.hid c2
    have CUT := Lib.hid cut
    have Z := Lib.hid z
    clear c1 c2 cut z
    go_enter Tryd.func5, Tryd.ntmps5
    go_wp2_with fail
    go_loopw [3] (fun sv wr => wr = w ∧ ∃ k : Nat, k ≤ 190 ∧ sv = .string ⟨(headsL ++ List.replicate k 120).toArray⟩) (fun sv _ => match sv with | .string b => 202 - b.size | _ => 0)
    case atStart => exact ⟨rfl, 0, Nat.zero_le _, rfl⟩
    case round =>
      obtain ⟨rfl, k, hk, rfl⟩ := hrel
      by_cases hlt : k < 190
      · have z := size_toArray (headsL ++ List.replicate k 120)
        rw [len_of] at z
        have z2 := size_toArray (headsL ++ List.replicate (k + 1) 120)
        rw [len_of] at z2
        have hs := fun u => add_lists (P := Tryd.prog) u (headsL ++ List.replicate k 120) [120] (by rw [len_of]; show 11 + k + 1 ≤ _; omega)
        rw [grow, show (⟨([120] : List UInt8).toArray⟩ : ByteArray) = ⟨#[120]⟩ from rfl] at hs
        have Z1 := Lib.hid z
        have Z2 := Lib.hid z2
        obtain ⟨S, hS⟩ : ∃ S : ByteArray, S = ⟨(headsL ++ List.replicate k 120).toArray⟩ := ⟨_, rfl⟩
        obtain ⟨S2, hS2⟩ : ∃ S : ByteArray, S = ⟨(headsL ++ List.replicate (k + 1) 120).toArray⟩ := ⟨_, rfl⟩
        rw [← hS] at hs z Z1 ⊢
        rw [← hS2] at hs Z2
        have HS2 := Lib.hid hS2
        clear hS hS2 z2
        go_wp2
        go_roundw
        case rel => exact ⟨trivial, k + 1, by omega, congrArg Value.string HS2.out⟩
        case measure =>
          have := Z1.out
          have := Z2.out
          simp only []
          omega
      · obtain rfl : k = 190 := by omega
        have z := Z.out
        have cut := CUT.out
        obtain ⟨S, hS⟩ : ∃ S : ByteArray, S = ⟨(headsL ++ List.replicate 190 120).toArray⟩ := ⟨_, rfl⟩
        rw [← hS] at z cut C1 ⊢
        obtain ⟨S2, hS2⟩ : ∃ S : ByteArray, S = ⟨(List.replicate 190 120).toArray⟩ := ⟨_, rfl⟩
        rw [← hS2] at cut C2
        clear hS hS2 Z CUT
        go_wp2_with fail
        refine (cA _ T.out).mono ?_
        rintro e w1 ⟨rfl, b1⟩
        have T1 := Lib.hid (T.out.below b1)
        go_wp2_with fail
        refine (C1.out _ T1.out).mono ?_
        rintro e w2 ⟨rfl, b2⟩
        have T2 := Lib.hid (T1.out.below b2)
        go_wp2_with fail
        refine (C2.out _ T2.out).mono ?_
        rintro e w3 ⟨rfl, b3⟩
        go_wp2
        go_ret
        exact ⟨rfl, b1.trans ((b2.trans (b3.mono b2.size)).mono b1.size)⟩
end Go.Proofs.YtbnhchffdccjnaaDoor.refnameLong
