/-
  Texts that belong together, one behind the other.
-/
import Derived.Test.YtdgcjjledbnofaaDoorFu05
import Derived.Test.YtdgcjjledbnofaaDoorFu07
import Derived.Deep.QuietTactic
import Derived.BigQuiet
/-
  Layer 3: names and paths of the reference.
-/
namespace Go.Proofs.YtdgcjjledbnofaaDoor
open Go.RowKit
set_option linter.unusedVariables false
set_option linter.unusedSimpArgs false

set_option maxHeartbeats 4000000 in
theorem rlow_is (c : UInt8) (w : World) : Calls Tryd.prog 58 #[.int .u8 c.toNat] w fun e w' => e = .returned (.int .u8 (lowB c).toNat) ∧ w' = w := by
  have hc := c.toNat_lt
  by_cases h1 : 65 ≤ c.toNat
  · by_cases h2 : c.toNat ≤ 90
    · have e : (lowB c).toNat = c.toNat + 32 := by
        unfold lowB
        rw [if_pos ⟨h1, h2⟩, UInt8.toNat_ofNat']
        omega
      have E := Lib.hid e
      clear e
      go_enter Tryd.func58, Tryd.ntmps58
      go_wp2
      go_ret
      exact ⟨ret_int (by rw [E.out]; omega), rfl⟩
    · have e : lowB c = c := by unfold lowB; rw [if_neg (by omega)]
      rw [e]
      go_enter Tryd.func58, Tryd.ntmps58
      go_wp2
      go_ret
      exact ⟨rfl, rfl⟩
  · have e : lowB c = c := by unfold lowB; rw [if_neg (by omega)]
    rw [e]
    go_enter Tryd.func58, Tryd.ntmps58
    go_wp2
    go_ret
    exact ⟨rfl, rfl⟩

def gitL : List UInt8 := [46, 103, 105, 116]
theorem git_at (l : List UInt8) (h4 : l.length = 4) (h : ∀ i, i < 4 → (lowB (l.getD i 0)).toNat = (gitL.getD i 0).toNat) : l.map lowB = gitL := by
  match l, h4 with
  | [a, b, c, d], _ =>
    have e0 := UInt8.toNat_inj.1 (h 0 (by omega))
    have e1 := UInt8.toNat_inj.1 (h 1 (by omega))
    have e2 := UInt8.toNat_inj.1 (h 2 (by omega))
    have e3 := UInt8.toNat_inj.1 (h 3 (by omega))
    simp only [List.getD_cons_zero, List.getD_cons_succ, gitL] at e0 e1 e2 e3
    simp only [List.map_cons, List.map_nil, gitL, e0, e1, e2, e3]
theorem git_not (l : List UInt8) (i : Nat) (hi : i < l.length) (h : (lowB (l.getD i 0)).toNat ≠ (gitL.getD i 0).toNat) : l.map lowB ≠ gitL := by
  intro e
  apply h
  rw [← e]
  congr 1
  rw [List.getD_eq_getElem?_getD, List.getD_eq_getElem?_getD, List.getElem?_map, List.getElem?_eq_getElem hi]
  rfl
theorem name_of (l : List UInt8) (h0 : l ≠ []) (h1 : l ≠ [46]) (h2 : l ≠ [46, 46]) : nameL l = !(decide (l.map lowB = gitL)) := by
  have e : (l.map lowB == [46, 103, 105, 116]) = decide (l.map lowB = gitL) := by
    unfold gitL
    rw [Bool.eq_iff_iff]; simp
  unfold nameL
  rw [e]
  simp [h0, h1, h2]

set_option maxHeartbeats 8000000 in
set_option maxRecDepth 100000 in
theorem rname_is (l : List UInt8) (w : World) (hn : l.length ≤ 1000000) :
    Calls Tryd.prog 49 #[.string ⟨l.toArray⟩] w fun e w' => e = .returned (.bool (nameL l)) ∧ Below w.heap.size w w' := by
  have hem := empty_list l
  have hq1 : ((⟨l.toArray⟩ : ByteArray).toList == [46]) = decide (l = [46]) := by rw [list_text]; rw [Bool.eq_iff_iff]; simp
  have hq2 : ((⟨l.toArray⟩ : ByteArray).toList == [46, 46]) = decide (l = [46, 46]) := by rw [list_text]; rw [Bool.eq_iff_iff]; simp
  have hsz := size_toArray l
  have hget : ∀ i, i < l.length → ∀ h2 : i < (⟨l.toArray⟩ : ByteArray).size, (⟨l.toArray⟩ : ByteArray)[i]'h2 = l.getD i 0 := fun i h h2 => getD_str l i h h2
  obtain ⟨s, hs⟩ : ∃ s : ByteArray, s = ⟨l.toArray⟩ := ⟨_, rfl⟩
  rw [← hs] at hem hq1 hq2 hsz hget ⊢
  have HGET := Lib.hid hget
  clear hs hget
  by_cases h0 : l.length = 0
  · have e0 : s.toList.isEmpty = true := by rw [hem]; simp [h0]
    have : l = [] := List.eq_nil_of_length_eq_zero h0
    have NN : Hid (nameL l = false) := Lib.hid (by rw [this]; rfl)
    clear hem hq1 hq2 hsz h0 this
    go_enter Tryd.func49, Tryd.ntmps49
    go_wp2
    go_ret
    exact ⟨ret_bool NN.out.symm, Below.refl _ _⟩
  have e0 : s.toList.isEmpty = false := by rw [hem]; simp [h0]
  have n0 : l ≠ [] := fun h => h0 (by rw [h]; rfl)
  by_cases h1 : l = [46]
  · rw [decide_eq_true h1] at hq1
    have NN : Hid (nameL l = false) := Lib.hid (by rw [h1]; rfl)
    clear hem hq2 hsz h0 n0 h1
    go_enter Tryd.func49, Tryd.ntmps49
    go_wp2
    go_ret
    exact ⟨ret_bool NN.out.symm, Below.refl _ _⟩
  rw [decide_eq_false h1] at hq1
  by_cases h2 : l = [46, 46]
  · rw [decide_eq_true h2] at hq2
    have NN : Hid (nameL l = false) := Lib.hid (by rw [h2]; rfl)
    clear hem hsz h0 n0 h1 h2
    go_enter Tryd.func49, Tryd.ntmps49
    go_wp2
    go_ret
    exact ⟨ret_bool NN.out.symm, Below.refl _ _⟩
  rw [decide_eq_false h2] at hq2
  have NM := Lib.hid (name_of l n0 h1 h2)
  clear hem n0 h1 h2
  by_cases h4 : l.length = 4
  · have GI : Hid (∀ i, i < 4 → ∀ h, (⟨#[46, 103, 105, 116]⟩ : ByteArray)[i]'h = gitL.getD i 0) := Lib.hid (fun i hi h => by
      have : i = 0 ∨ i = 1 ∨ i = 2 ∨ i = 3 := by omega
      rcases this with rfl | rfl | rfl | rfl <;> rfl)
    have hs4 : s.size = 4 := hsz.trans h4
    have H4 := Lib.hid h4
    clear hsz h4 h0
    go_enter Tryd.func49, Tryd.ntmps49
    go_wp2_with fail
    go_loopw [3] (fun vi wr => ∃ i : Nat, i ≤ 4 ∧ vi = .int .i64 i ∧ Below w.heap.size w wr ∧ Hid (∀ j, j < i → (lowB (l.getD j 0)).toNat = (gitL.getD j 0).toNat)) (fun vi _ => 4 - (intOf vi).toNat)
    case atStart => exact ⟨0, Nat.zero_le _, rfl, Below.refl _ _, Lib.hid fun j h => absurd h (Nat.not_lt_zero _)⟩
    case round =>
      obtain ⟨i, hi, rfl, hbr, HALL⟩ := hrel
      by_cases hlt : i < 4
      · have hx := HGET.out i (by have := H4.out; omega) (by omega)
        have hy := GI.out i hlt
        obtain ⟨x, hxe⟩ : ∃ x : UInt8, x = l.getD i 0 := ⟨_, rfl⟩
        obtain ⟨y, hye⟩ : ∃ y : UInt8, y = gitL.getD i 0 := ⟨_, rfl⟩
        rw [← hxe] at hx
        rw [← hye] at hy
        have cL := rlow_is x
        have XE := Lib.hid hxe
        have YE := Lib.hid hye
        obtain ⟨z, hz⟩ : ∃ z : Nat, z = (lowB x).toNat := ⟨_, rfl⟩
        rw [← hz] at cL
        have ZE := Lib.hid hz
        clear hxe hye hz
        by_cases hne : z = y.toNat
        · have f1 : ((z : Int) != (y.toNat : Int)) = false := by simp [hne]
          have NE := Lib.hid hne
          clear hne
          go_wp2_with fail
          go_quiet ((go_at_call 58; exact Calls.quiet_of_same (cL _)))
          go_wp2
          go_roundw
          case rel => exact ⟨i + 1, by omega, by go_num, _root_.Go.below_drewN hbr _, Lib.hid fun j hj => by
            by_cases h : j < i
            · exact HALL.out j h
            · obtain rfl : j = i := by omega
              rw [← XE.out, ← ZE.out, ← YE.out]
              exact NE.out⟩
          case measure => simp [intOf]; omega
        · have f1 : ((z : Int) != (y.toNat : Int)) = true := by simp; omega
          have NN : Hid (nameL l = true) := Lib.hid (by
            rw [NM.out, decide_eq_false (git_not l i (by have := H4.out; omega) (by rw [← XE.out, ← ZE.out, ← YE.out]; exact hne))]
            rfl)
          clear hne
          go_wp2_with fail
          go_quiet ((go_at_call 58; exact Calls.quiet_of_same (cL _)))
          go_wp2
          go_ret
          exact ⟨ret_bool NN.out.symm, _root_.Go.below_drewN hbr _⟩
      · obtain rfl : i = 4 := by omega
        have NN : Hid (nameL l = false) := Lib.hid (by
          rw [NM.out, decide_eq_true (git_at l H4.out HALL.out)]
          rfl)
        go_wp2
        go_ret
        exact ⟨ret_bool NN.out.symm, hbr⟩
  · have NN : Hid (nameL l = true) := Lib.hid (by
      rw [NM.out, decide_eq_false (fun h => h4 (by have := congrArg List.length h; simpa [gitL] using this))]
      rfl)
    have f4 : ((l.length : Int) != 4) = true := by simp; omega
    clear h0 h4
    go_enter Tryd.func49, Tryd.ntmps49
    go_wp2
    go_ret
    exact ⟨ret_bool NN.out.symm, Below.refl _ _⟩
end Go.Proofs.YtdgcjjledbnofaaDoor
