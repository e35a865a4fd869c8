/-
  Layer 11, the document's answers: Ends; a part of a ref's name; which bytes are signs.
-/
import Derived.Test.YtbnhchffdccjnaaDoorVb
import Derived.Test.YtbnhchffdccjnaaDoorYd
import Derived.Test.YtbnhchffdccjnaaDoorNd
namespace Go.Proofs.YtbnhchffdccjnaaDoor
open Go.RowKit
set_option linter.unusedVariables false
set_option linter.unusedSimpArgs false
set_option maxRecDepth 20000

theorem suffix_take (s t : List UInt8) (h : t.length ≤ s.length) : (s.drop (s.length - t.length) == t) = (t.isSuffixOf s : Bool) := by
  rw [Bool.eq_iff_iff, List.isSuffixOf_iff_suffix, beq_iff_eq]
  constructor
  · intro e
    exact ⟨s.take (s.length - t.length), by conv => lhs; rw [← e]
                                            rw [List.length_drop, show s.length - (s.length - (s.length - t.length)) = s.length - t.length by omega, List.take_append_drop]⟩
  · rintro ⟨u, rfl⟩
    rw [List.length_append, Nat.add_sub_cancel, List.drop_left']
    rfl
set_option maxHeartbeats 1000000 in
theorem Ends_is (s t : List UInt8) (hs : s.length ≤ 1000000) (ht : t.length ≤ 1000000) (w : World) :
    Calls Tryd.prog 27 #[.string ⟨s.toArray⟩, .string ⟨t.toArray⟩] w fun e w' => e = .returned (.bool (t.isSuffixOf s)) ∧ w = w' := by
  have z1 := size_toArray s
  have z2 := size_toArray t
  by_cases h : t.length ≤ s.length
  · have ex : (⟨s.toArray⟩ : ByteArray).extract (s.length - t.length) s.length = ⟨(s.drop (s.length - t.length)).toArray⟩ := by
      rw [cutt_list, List.take_of_length_le (by rw [List.length_drop]; omega)]
    obtain ⟨r, hr⟩ : ∃ r, (t.isSuffixOf s : Bool) = r := ⟨_, rfl⟩
    have hr2 := suffix_take s t h
    rw [hr] at hr2 ⊢
    have q : IntKind.i64.wrap ((s.length : Int) - t.length) = ((s.length - t.length : Nat) : Int) := by rw [IntWalk.i64_in _ (by omega)]; omega
    obtain ⟨k, hk⟩ : ∃ k, s.length - t.length = k := ⟨_, rfl⟩
    have hk2 : k ≤ s.length := by omega
    rw [hk] at ex q hr2
    obtain ⟨x, hx⟩ : ∃ x, s.drop k = x := ⟨_, rfl⟩
    rw [hx] at ex hr2
    generalize (⟨s.toArray⟩ : ByteArray) = S at *
    clear hx hk
    go_enter Tryd.func27, Tryd.ntmps27
    go_wp2
    go_ret
    exact ⟨rfl, rfl⟩
  · have hr : (t.isSuffixOf s : Bool) = false := by
      rw [← Bool.not_eq_true, List.isSuffixOf_iff_suffix]
      intro e
      have := e.length_le
      omega
    rw [hr]
    clear hr
    generalize (⟨s.toArray⟩ : ByteArray) = S at *
    generalize (⟨t.toArray⟩ : ByteArray) = T at *
    go_enter Tryd.func27, Tryd.ntmps27
    go_wp2
    go_ret
    exact ⟨rfl, rfl⟩

set_option maxHeartbeats 1000000 in
theorem rpart_is (l : List UInt8) (hl : l.length ≤ 1000000) (w : World) :
    Calls Tryd.prog 19 #[.string ⟨l.toArray⟩] w fun e w' => e = .returned (.bool (partR l)) ∧ w = w' := by
  cases l with
  | nil =>
    go_enter Tryd.func19, Tryd.ntmps19
    go_wp2
    go_ret
    exact ⟨rfl, rfl⟩
  | cons c r =>
    have hem := empty_list (c :: r)
    have e0 : (⟨(c :: r).toArray⟩ : ByteArray).toList.isEmpty = false := by rw [hem]; simp
    have z := size_toArray (c :: r)
    have cE := fun w => Ends_is (c :: r) lockL hl (by decide) w
    have g0 : ∀ h, (⟨(c :: r).toArray⟩ : ByteArray)[0]'h = c := fun _ => rfl
    have hp : partR (c :: r) = (!(c == 46) && !(lockL.isSuffixOf (c :: r))) := by
      unfold partR
      have : ([46].isPrefixOf (c :: r) : Bool) = (c == 46) := by
        rw [Bool.eq_iff_iff]
        simp [List.isPrefixOf]
        exact ⟨fun h => h.symm, fun h => h.symm⟩
      rw [this]
      rfl
    obtain ⟨P, hP⟩ : ∃ P, partR (c :: r) = P := ⟨_, rfl⟩
    rw [hP] at hp ⊢
    obtain ⟨q, hq⟩ : ∃ q, (lockL.isSuffixOf (c :: r) : Bool) = q := ⟨_, rfl⟩
    rw [hq] at cE hp
    rw [show (⟨lockL.toArray⟩ : ByteArray) = ⟨#[46, 108, 111, 99, 107]⟩ from rfl] at cE
    have z1 : 0 < (⟨(c :: r).toArray⟩ : ByteArray).size := by rw [z]; simp
    generalize (⟨(c :: r).toArray⟩ : ByteArray) = S at *
    have HP := Lib.hid hp
    clear hem z hq hP hp hl
    by_cases h : c = 46
    · subst h
      go_enter Tryd.func19, Tryd.ntmps19
      go_wp2
      go_ret
      exact ⟨ret_bool HP.out.symm, rfl⟩
    · have hc : ((c.toNat : Int) != 46) = true := by
        have : c.toNat ≠ 46 := fun e => h (UInt8.toNat_inj.1 e)
        simp
        omega
      have hb : (c == 46) = false := beq_false_of_ne h
      have HB := Lib.hid hb
      clear hb h
      go_enter Tryd.func19, Tryd.ntmps19
      go_wp2_with fail
      refine (cE _).mono ?_
      rintro e w1 ⟨rfl, rfl⟩
      go_wp2
      go_ret
      exact ⟨ret_bool (by rw [HP.out, HB.out]; rfl), rfl⟩
def signsL : List UInt8 := [126, 94, 58, 63, 42, 91, 92]
theorem findB_mem (s : List UInt8) (c : UInt8) : decide (0 ≤ findB s c 0) = s.contains c := by
  rw [Bool.eq_iff_iff, decide_eq_true_eq, List.contains_iff_mem]
  unfold findB
  rw [List.drop_zero]
  constructor
  · intro h
    split at h
    · rename_i h1
      have := List.findIdx_getElem (p := (· == c)) (w := h1)
      rw [← eq_of_beq this]
      exact List.getElem_mem _
    · omega
  · intro h
    rw [if_pos (List.findIdx_lt_length_of_exists ⟨c, h, by simp⟩)]
    omega
theorem okR_form (c : UInt8) : okR c = (decide (32 < c.toNat) && !(c.toNat == 127) && !(signsL.contains c)) := rfl
theorem okR_low (c : UInt8) (h : c.toNat ≤ 32) : okR c = false := by rw [okR_form, decide_eq_false (by omega)]; rfl
theorem okR_del (c : UInt8) (h : c.toNat = 127) : okR c = false := by rw [okR_form, h]; rfl
theorem okR_mid (c : UInt8) (h : 32 < c.toNat) (h2 : c.toNat ≠ 127) : okR c = !signsL.contains c := by
  rw [okR_form, decide_eq_true h, show (c.toNat == 127) = false from beq_false_of_ne h2]; rfl
end Go.Proofs.YtbnhchffdccjnaaDoor
