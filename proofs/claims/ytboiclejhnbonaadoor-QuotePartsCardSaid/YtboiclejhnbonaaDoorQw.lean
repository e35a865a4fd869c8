/-
  Layer 3: the small functions of the reference: Plain, clean, low, name.
-/
import Derived.Test.YtboiclejhnbonaaDoorQt
namespace Go.Proofs.YtboiclejhnbonaaDoor
open Go.RowKit
set_option linter.unusedVariables false
set_option linter.unusedSimpArgs false

theorem getD_str (l : List UInt8) (i : Nat) (h : i < l.length) (h2 : i < (⟨l.toArray⟩ : ByteArray).size) : (⟨l.toArray⟩ : ByteArray)[i]'h2 = l.getD i 0 := by
  simp [List.getD_eq_getElem?_getD, h, ByteArray.getElem_eq_getElem_data]
theorem bne32 (n : Nat) : (((n : Int) != 32) = !(n == 32)) := by
  have : ((n : Int) == 32) = (n == 32) := by
    rw [Bool.eq_iff_iff]; simp; omega
  rw [bne, this]

set_option maxHeartbeats 4000000 in
theorem rPlain_is (l : List UInt8) (w : World) (hn : l.length ≤ 1099511627776) :
    Calls Tryd.prog 12 #[.string ⟨l.toArray⟩] w fun e w' => e = .returned (.bool (plainL l)) ∧ w' = w := by
  have hsz := size_toArray l
  have hne := empty_list l
  obtain ⟨s, hs⟩ : ∃ s : ByteArray, s = ⟨l.toArray⟩ := ⟨_, rfl⟩
  have hget : ∀ i, i < l.length → ∀ h2 : i < s.size, s[i]'h2 = l.getD i 0 := by subst hs; exact fun i h h2 => getD_str l i h h2
  rw [← hs] at hsz hne ⊢
  have HGET := Lib.hid hget
  clear hs hget
  go_enter Tryd.func12, Tryd.ntmps12
  go_wp2_with fail
  go_loopw [3] (fun vi wr => ∃ i : Nat, i ≤ l.length ∧ vi = .int .i64 i ∧ wr = w ∧ Hid (∀ j, j < i → plainB (l.getD j 0) = true)) (fun vi _ => l.length - (intOf vi).toNat)
  case atStart => exact ⟨0, Nat.zero_le _, rfl, rfl, Lib.hid fun j h => absurd h (Nat.not_lt_zero _)⟩
  case round =>
    obtain ⟨i, hi, rfl, rfl, HALL⟩ := hrel
    by_cases hlt : i < l.length
    · have hx := HGET.out i hlt (by omega)
      obtain ⟨x, hxe⟩ : ∃ x : UInt8, x = l.getD i 0 := ⟨_, rfl⟩
      rw [← hxe] at hx
      have XE := Lib.hid hxe; clear hxe
      by_cases c1 : x.toNat < 32
      · go_wp2
        go_ret
        exact ⟨ret_bool (plain_bad l i hlt (plainB_no _ (by rw [← XE.out]; omega))).symm, rfl⟩
      · by_cases c2 : x.toNat = 127
        · have f2 : ((x.toNat : Int) == 127) = true := by simp [c2]
          have C2 := Lib.hid c2; clear c2
          go_wp2
          go_ret
          exact ⟨ret_bool (plain_bad l i hlt (plainB_no _ (by rw [← XE.out]; have := C2.out; omega))).symm, rfl⟩
        · have f2 : ((x.toNat : Int) == 127) = false := by simp; omega
          by_cases c3 : x.toNat = 34
          · have f3 : ((x.toNat : Int) == 34) = true := by simp [c3]
            have C3 := Lib.hid c3; clear c3
            go_wp2
            go_ret
            exact ⟨ret_bool (plain_bad l i hlt (plainB_no _ (by rw [← XE.out]; have := C3.out; omega))).symm, rfl⟩
          · have f3 : ((x.toNat : Int) == 34) = false := by simp; omega
            by_cases c4 : x.toNat = 92
            · have f4 : ((x.toNat : Int) == 92) = true := by simp [c4]
              have C4 := Lib.hid c4; clear c4
              go_wp2
              go_ret
              exact ⟨ret_bool (plain_bad l i hlt (plainB_no _ (by rw [← XE.out]; have := C4.out; omega))).symm, rfl⟩
            · have f4 : ((x.toNat : Int) == 92) = false := by simp; omega
              go_wp2
              go_roundw
              case rel => exact ⟨i + 1, by omega, by go_num, trivial, Lib.hid fun j hj => by
                by_cases h : j < i
                · exact HALL.out j h
                · obtain rfl : j = i := by omega
                  rw [← XE.out]
                  exact plainB_yes _ c1 c2 c3 c4⟩
              case measure => simp [intOf]; omega
    · obtain rfl : i = l.length := by omega
      by_cases h0 : l.length = 0
      · have e0 : s.toList.isEmpty = true := by rw [hne]; simp [h0]
        have H0 := Lib.hid h0
        clear h0 hne
        go_wp2
        go_ret
        refine ⟨ret_bool ?_, rfl⟩
        have : l = [] := List.eq_nil_of_length_eq_zero H0.out
        rw [this]
        rfl
      · have e0 : s.toList.isEmpty = false := by rw [hne]; simp [h0]
        have hx := HGET.out 0 (by omega) (by omega)
        obtain ⟨x, hxe⟩ : ∃ x : UInt8, x = l.getD 0 0 := ⟨_, rfl⟩
        rw [← hxe] at hx
        have XE := Lib.hid hxe; clear hxe
        clear hne
        go_wp2
        go_ret
        refine ⟨ret_bool ?_, rfl⟩
        rw [plain_good l HALL.out, ← XE.out]
        have : 0 < l.length := by omega
        simp only [this, decide_true, Bool.true_and]
        exact bne32 _

set_option maxHeartbeats 4000000 in
theorem rclean_is (l : List UInt8) (w : World) (hn : l.length ≤ 1099511627776) :
    Calls Tryd.prog 31 #[.string ⟨l.toArray⟩] w fun e w' => e = .returned (.bool (cleanL l)) ∧ w' = w := by
  have hsz := size_toArray l
  obtain ⟨s, hs⟩ : ∃ s : ByteArray, s = ⟨l.toArray⟩ := ⟨_, rfl⟩
  have hget : ∀ i, i < l.length → ∀ h2 : i < s.size, s[i]'h2 = l.getD i 0 := by subst hs; exact fun i h h2 => getD_str l i h h2
  rw [← hs] at hsz ⊢
  have HGET := Lib.hid hget
  clear hs hget
  go_enter Tryd.func31, Tryd.ntmps31
  go_wp2_with fail
  go_loopw [3] (fun vi wr => ∃ i : Nat, i ≤ l.length ∧ vi = .int .i64 i ∧ wr = w ∧ Hid (∀ j, j < i → cleanB (l.getD j 0) = true)) (fun vi _ => l.length - (intOf vi).toNat)
  case atStart => exact ⟨0, Nat.zero_le _, rfl, rfl, Lib.hid fun j h => absurd h (Nat.not_lt_zero _)⟩
  case round =>
    obtain ⟨i, hi, rfl, rfl, HALL⟩ := hrel
    by_cases hlt : i < l.length
    · have hx := HGET.out i hlt (by omega)
      obtain ⟨x, hxe⟩ : ∃ x : UInt8, x = l.getD i 0 := ⟨_, rfl⟩
      rw [← hxe] at hx
      have XE := Lib.hid hxe; clear hxe
      by_cases c2 : x.toNat = 32
      · have f2 : ((x.toNat : Int) == 32) = true := by simp [c2]
        have C2 := Lib.hid c2; clear c2
        go_wp2
        go_ret
        exact ⟨ret_bool (clean_bad l i hlt (cleanB_no _ (by rw [← XE.out]; have := C2.out; omega))).symm, rfl⟩
      · have f2 : ((x.toNat : Int) == 32) = false := by simp; omega
        by_cases c1 : 127 < x.toNat
        · go_wp2
          go_ret
          exact ⟨ret_bool (clean_bad l i hlt (cleanB_no _ (by rw [← XE.out]; omega))).symm, rfl⟩
        · go_wp2
          go_roundw
          case rel => exact ⟨i + 1, by omega, by go_num, trivial, Lib.hid fun j hj => by
            by_cases h : j < i
            · exact HALL.out j h
            · obtain rfl : j = i := by omega
              rw [← XE.out]
              exact cleanB_yes _ c2 (by omega)⟩
          case measure => simp [intOf]; omega
    · obtain rfl : i = l.length := by omega
      go_wp2
      go_ret
      exact ⟨ret_bool (clean_good l HALL.out).symm, rfl⟩
end Go.Proofs.YtboiclejhnbonaaDoor
