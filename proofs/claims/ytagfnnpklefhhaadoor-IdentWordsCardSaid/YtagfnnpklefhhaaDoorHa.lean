/-
  Layer 1: what the digit functions of hexa and of its reference return, case by case.
-/
import Derived.Test.YtagfnnpklefhhaaDoorMm
namespace Go.Proofs.YtagfnnpklefhhaaDoor
open Go.RowKit
set_option linter.unusedVariables false

set_option maxHeartbeats 400000 in
theorem digit_dec (r base : Int) (h0 : 48 ≤ r) (h1 : r ≤ 57) (hb : 10 ≤ base) (hb2 : base ≤ 16) (w : World) :
    Calls Tryd.prog 73 #[.int .i32 r, .int .i64 base] w fun e w' => e = .returned (.tuple #[.int .i64 (r - 48), .bool true]) ∧ w = w' := by
  go_enter Tryd.func73, Tryd.ntmps73
  go_wp2
  go_ret2
  exact ⟨rfl, rfl⟩
set_option maxHeartbeats 400000 in
theorem digit_hex (r : Int) (h0 : 97 ≤ r) (h1 : r ≤ 102) (w : World) :
    Calls Tryd.prog 73 #[.int .i32 r, .int .i64 16] w fun e w' => e = .returned (.tuple #[.int .i64 (r - 87), .bool true]) ∧ w = w' := by
  go_enter Tryd.func73, Tryd.ntmps73
  go_wp2
  go_ret2
  exact ⟨tup_int (by omega), rfl⟩
set_option maxHeartbeats 400000 in
theorem digit_low (r base : Int) (h1 : r < 48) (hb : 10 ≤ base) (hb2 : base ≤ 16) (w : World) :
    Calls Tryd.prog 73 #[.int .i32 r, .int .i64 base] w fun e w' => e = .returned (.tuple #[.int .i64 0, .bool false]) ∧ w = w' := by
  go_enter Tryd.func73, Tryd.ntmps73
  go_wp2
  go_ret2
  exact ⟨rfl, rfl⟩
set_option maxHeartbeats 400000 in
theorem digit_mid (r base : Int) (h0 : 57 < r) (h1 : r < 97) (hb : 10 ≤ base) (hb2 : base ≤ 16) (w : World) :
    Calls Tryd.prog 73 #[.int .i32 r, .int .i64 base] w fun e w' => e = .returned (.tuple #[.int .i64 0, .bool false]) ∧ w = w' := by
  go_enter Tryd.func73, Tryd.ntmps73
  go_wp2
  go_ret2
  exact ⟨rfl, rfl⟩
set_option maxHeartbeats 400000 in
theorem digit_high (r base : Int) (h0 : 102 < r) (hb : 10 ≤ base) (hb2 : base ≤ 16) (w : World) :
    Calls Tryd.prog 73 #[.int .i32 r, .int .i64 base] w fun e w' => e = .returned (.tuple #[.int .i64 0, .bool false]) ∧ w = w' := by
  go_enter Tryd.func73, Tryd.ntmps73
  go_wp2
  go_ret2
  exact ⟨rfl, rfl⟩
set_option maxHeartbeats 400000 in
theorem digit_af10 (r : Int) (h0 : 97 ≤ r) (h1 : r ≤ 102) (w : World) :
    Calls Tryd.prog 73 #[.int .i32 r, .int .i64 10] w fun e w' => e = .returned (.tuple #[.int .i64 0, .bool false]) ∧ w = w' := by
  go_enter Tryd.func73, Tryd.ntmps73
  go_wp2
  go_ret2
  exact ⟨rfl, rfl⟩
/-- What a rune stands for in base 16: below zero where it is no digit. -/
def dig16 (r : Int) : Int := if 48 ≤ r ∧ r ≤ 57 then r - 48 else if 97 ≤ r ∧ r ≤ 102 then r - 87 else -1
theorem dig16_yes {r : Int} (h : 0 ≤ dig16 r) : (48 ≤ r ∧ r ≤ 57) ∧ dig16 r = r - 48 ∨ (97 ≤ r ∧ r ≤ 102) ∧ dig16 r = r - 87 := by
  unfold dig16 at *; split at h
  · simp_all
  · split at h
    · simp_all
    · omega
theorem dig16_lt (r : Int) : dig16 r < 16 := by unfold dig16; split <;> (try split) <;> omega
theorem dig16_ge (r : Int) : -1 ≤ dig16 r := by unfold dig16; split <;> (try split) <;> omega
theorem digit16_yes (r : Int) (h : 0 ≤ dig16 r) (w : World) :
    Calls Tryd.prog 73 #[.int .i32 r, .int .i64 16] w fun e w' => e = .returned (.tuple #[.int .i64 (dig16 r), .bool true]) ∧ w = w' := by
  rcases dig16_yes h with ⟨⟨a, b⟩, e⟩ | ⟨⟨a, b⟩, e⟩ <;> rw [e]
  · exact digit_dec r 16 a b (by omega) (by omega) w
  · exact digit_hex r a b w
theorem digit16_no (r : Int) (h : dig16 r < 0) (w : World) :
    Calls Tryd.prog 73 #[.int .i32 r, .int .i64 16] w fun e w' => e = .returned (.tuple #[.int .i64 0, .bool false]) ∧ w = w' := by
  unfold dig16 at h
  split at h
  · omega
  · split at h
    · omega
    · by_cases h1 : r < 48
      · exact digit_low r 16 h1 (by omega) (by omega) w
      · by_cases h2 : 102 < r
        · exact digit_high r 16 h2 (by omega) (by omega) w
        · exact digit_mid r 16 (by omega) (by omega) (by omega) (by omega) w
theorem digit10_no (r : Int) (h : ¬ (48 ≤ r ∧ r ≤ 57)) (w : World) :
    Calls Tryd.prog 73 #[.int .i32 r, .int .i64 10] w fun e w' => e = .returned (.tuple #[.int .i64 0, .bool false]) ∧ w = w' := by
  by_cases h1 : r < 48
  · exact digit_low r 10 h1 (by omega) (by omega) w
  · by_cases h2 : 102 < r
    · exact digit_high r 10 h2 (by omega) (by omega) w
    · by_cases h3 : 97 ≤ r
      · exact digit_af10 r h3 (by omega) w
      · exact digit_mid r 10 (by omega) (by omega) (by omega) (by omega) w

end Go.Proofs.YtagfnnpklefhhaaDoor
