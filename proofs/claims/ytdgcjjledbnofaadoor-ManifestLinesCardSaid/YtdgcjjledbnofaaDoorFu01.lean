/-
  Texts that belong together, one behind the other.
-/
import Derived.Test.YtdgcjjledbnofaaDoorProg
import Derived.WalkKit
import Derived.WalkSpells
import Derived.WalkLawsBesides
import Derived.Laws.BytesArg
import Derived.Lib.UnsafeStr
import Derived.Lib.Hide
import Derived.Lib.OthersKept
import Derived.WalkSmall
import Derived.IntWalk
/-
  Small words for walks over byte slices: what lies in a slice of bytes, and 'string(b)' of it.
-/
namespace Go.Proofs.YtdgcjjledbnofaaDoor
open Go.RowKit
set_option linter.unusedVariables false

theorem tup_int {k : IntKind} {a b : Int} {v : Value} (h : a = b) : Ending.returned (.tuple #[.int k a, v]) = .returned (.tuple #[.int k b, v]) := by rw [h]
theorem ret_int {k : IntKind} {a b : Int} (h : a = b) : Ending.returned (.int k a) = .returned (.int k b) := by rw [h]
theorem ret_str {a b : List UInt8} (h : a = b) : Ending.returned (.string ⟨a.toArray⟩) = .returned (.string ⟨b.toArray⟩) := by rw [h]
theorem ret_bool {a b : Bool} (h : a = b) : Ending.returned (.bool a) = .returned (.bool b) := by rw [h]

/-- What lies at the head of a slice of bytes: of an empty one nothing is said. -/
def BAt (w : World) (a : Option Addr) (l : List UInt8) : Prop :=
  0 < l.length → ∃ b o, a = some ⟨b, o, none⟩ ∧ b < w.heap.size ∧ ∀ i (h : i < l.length), w.cell? ⟨b, o + i, none⟩ = some (.int .u8 (l[i]).toNat)
theorem BAt.nil (w : World) (a : Option Addr) : BAt w a [] := fun h => absurd h (Nat.lt_irrefl 0)
theorem BAt.below {w w' : World} {a : Option Addr} {l : List UInt8} (h : BAt w a l) {B : Nat} (hb : Below B w w') (hB : w.heap.size ≤ B) : BAt w' a l := fun hp => by
  obtain ⟨b, o, rfl, hlt, hc⟩ := h hp
  exact ⟨b, o, rfl, Nat.lt_of_lt_of_le hlt hb.size, fun i hi => (hb.cell (p := ⟨b, o + i, none⟩) (by show b < B; omega)).trans (hc i hi)⟩
theorem BAt.keep {w w' : World} {a : Option Addr} {l : List UInt8} (h : BAt w a l) (hb : Below w.heap.size w w') : BAt w' a l := h.below hb (Nat.le_refl _)
theorem size_toArray (l : List UInt8) : (⟨l.toArray⟩ : ByteArray).size = l.length := by simp [ByteArray.size]

theorem bytes_append (a b : List UInt8) : (⟨a.toArray⟩ ++ ⟨b.toArray⟩ : ByteArray) = ⟨(a ++ b).toArray⟩ := by
  apply ByteArray.ext
  simp

theorem add_lists {P : Program} (w : World) (a b : List UInt8) (h : a.length + b.length ≤ 9223372036854775807) :
    (Op.stringOp .add ⟨a.toArray⟩ ⟨b.toArray⟩).run P w = .ok (.string ⟨(a ++ b).toArray⟩) w := by
  rw [← bytes_append]
  exact run_string_add_sum w _ _ (by rw [size_toArray, size_toArray]; exact h)

theorem strOfNums_toNat (l : List UInt8) : strOfNums (l.map fun c => (c.toNat : Int)) = ⟨l.toArray⟩ := by
  unfold strOfNums
  congr 2
  rw [List.map_map]
  conv => rhs; rw [← List.map_id l]
  apply List.map_congr_left
  intro c _
  simp
/-- 'string(b)'. -/
theorem BAt.conv {P : Program} {w : World} {a : Option Addr} {l : List UInt8} (h : BAt w a l) (c : Nat) (src e : TypeId) (hs : P.underlying src = some (.slice e)) (he : P.underlying e = some (.int .u8)) :
    ∀ dst, P.underlying dst = some .string → (convert src dst (.slice a l.length c)).run P w = .ok (.string ⟨l.toArray⟩) w := by
  intro dst hd
  by_cases hp : 0 < l.length
  · obtain ⟨b, o, rfl, _, hc⟩ := h hp
    rw [← strOfNums_toNat]
    exact run_convert_bytes_arg w src e hs he b o l.length c (l.map fun c => (c.toNat : Int)) (by simp) (fun i hi => by rw [hc i hi]; simp [List.getD, hi]) dst hd
  · obtain rfl : l = [] := List.eq_nil_of_length_eq_zero (by omega)
    rw [run_convert_bytes_string w src dst e _ _ c hs he hd]
    cases a <;> simp [Conv.bytesToString, loadCells]
    all_goals rfl
end Go.Proofs.YtdgcjjledbnofaaDoor

/-
  Layer 1: what the digit functions of hexa and of its reference return, case by case.
-/
namespace Go.Proofs.YtdgcjjledbnofaaDoor
set_option maxRecDepth 20000
open Go.RowKit
set_option linter.unusedVariables false

set_option maxHeartbeats 400000 in
theorem digit_dec (r base : Int) (h0 : 48 ≤ r) (h1 : r ≤ 57) (hb : 10 ≤ base) (hb2 : base ≤ 16) (w : World) :
    Calls Tryd.prog 59 #[.int .i32 r, .int .i64 base] w fun e w' => e = .returned (.tuple #[.int .i64 (r - 48), .bool true]) ∧ w = w' := by
  go_enter Tryd.func59, Tryd.ntmps59
  go_wp2
  go_ret2
  exact ⟨rfl, rfl⟩
set_option maxHeartbeats 400000 in
theorem digit_hex (r : Int) (h0 : 97 ≤ r) (h1 : r ≤ 102) (w : World) :
    Calls Tryd.prog 59 #[.int .i32 r, .int .i64 16] w fun e w' => e = .returned (.tuple #[.int .i64 (r - 87), .bool true]) ∧ w = w' := by
  go_enter Tryd.func59, Tryd.ntmps59
  go_wp2
  go_ret2
  exact ⟨tup_int (by omega), rfl⟩
set_option maxHeartbeats 400000 in
theorem digit_low (r base : Int) (h1 : r < 48) (hb : 10 ≤ base) (hb2 : base ≤ 16) (w : World) :
    Calls Tryd.prog 59 #[.int .i32 r, .int .i64 base] w fun e w' => e = .returned (.tuple #[.int .i64 0, .bool false]) ∧ w = w' := by
  go_enter Tryd.func59, Tryd.ntmps59
  go_wp2
  go_ret2
  exact ⟨rfl, rfl⟩
set_option maxHeartbeats 400000 in
theorem digit_mid (r base : Int) (h0 : 57 < r) (h1 : r < 97) (hb : 10 ≤ base) (hb2 : base ≤ 16) (w : World) :
    Calls Tryd.prog 59 #[.int .i32 r, .int .i64 base] w fun e w' => e = .returned (.tuple #[.int .i64 0, .bool false]) ∧ w = w' := by
  go_enter Tryd.func59, Tryd.ntmps59
  go_wp2
  go_ret2
  exact ⟨rfl, rfl⟩
set_option maxHeartbeats 400000 in
theorem digit_high (r base : Int) (h0 : 102 < r) (hb : 10 ≤ base) (hb2 : base ≤ 16) (w : World) :
    Calls Tryd.prog 59 #[.int .i32 r, .int .i64 base] w fun e w' => e = .returned (.tuple #[.int .i64 0, .bool false]) ∧ w = w' := by
  go_enter Tryd.func59, Tryd.ntmps59
  go_wp2
  go_ret2
  exact ⟨rfl, rfl⟩
set_option maxHeartbeats 400000 in
theorem digit_af10 (r : Int) (h0 : 97 ≤ r) (h1 : r ≤ 102) (w : World) :
    Calls Tryd.prog 59 #[.int .i32 r, .int .i64 10] w fun e w' => e = .returned (.tuple #[.int .i64 0, .bool false]) ∧ w = w' := by
  go_enter Tryd.func59, Tryd.ntmps59
  go_wp2
  go_ret2
  exact ⟨rfl, rfl⟩
/-- What a rune stands for in base 16: below zero where it is no digit. -/
def dig16 (r : Int) : Int := if 48 ≤ r ∧ r ≤ 57 then r - 48 else if 97 ≤ r ∧ r ≤ 102 then r - 87 else -1
theorem dig16_yes {r : Int} (h : 0 ≤ dig16 r) : (48 ≤ r ∧ r ≤ 57) ∧ dig16 r = r - 48 ∨ (97 ≤ r ∧ r ≤ 102) ∧ dig16 r = r - 87 := by
  unfold dig16 at *; split at h
  · simp_all
  · split at h
    · simp_all
    · omega
theorem dig16_lt (r : Int) : dig16 r < 16 := by unfold dig16; split <;> (try split) <;> omega
theorem dig16_ge (r : Int) : -1 ≤ dig16 r := by unfold dig16; split <;> (try split) <;> omega
theorem digit16_yes (r : Int) (h : 0 ≤ dig16 r) (w : World) :
    Calls Tryd.prog 59 #[.int .i32 r, .int .i64 16] w fun e w' => e = .returned (.tuple #[.int .i64 (dig16 r), .bool true]) ∧ w = w' := by
  rcases dig16_yes h with ⟨⟨a, b⟩, e⟩ | ⟨⟨a, b⟩, e⟩ <;> rw [e]
  · exact digit_dec r 16 a b (by omega) (by omega) w
  · exact digit_hex r a b w
theorem digit16_no (r : Int) (h : dig16 r < 0) (w : World) :
    Calls Tryd.prog 59 #[.int .i32 r, .int .i64 16] w fun e w' => e = .returned (.tuple #[.int .i64 0, .bool false]) ∧ w = w' := by
  unfold dig16 at h
  split at h
  · omega
  · split at h
    · omega
    · by_cases h1 : r < 48
      · exact digit_low r 16 h1 (by omega) (by omega) w
      · by_cases h2 : 102 < r
        · exact digit_high r 16 h2 (by omega) (by omega) w
        · exact digit_mid r 16 (by omega) (by omega) (by omega) (by omega) w
theorem digit10_no (r : Int) (h : ¬ (48 ≤ r ∧ r ≤ 57)) (w : World) :
    Calls Tryd.prog 59 #[.int .i32 r, .int .i64 10] w fun e w' => e = .returned (.tuple #[.int .i64 0, .bool false]) ∧ w = w' := by
  by_cases h1 : r < 48
  · exact digit_low r 10 h1 (by omega) (by omega) w
  · by_cases h2 : 102 < r
    · exact digit_high r 10 h2 (by omega) (by omega) w
    · by_cases h3 : 97 ≤ r
      · exact digit_af10 r h3 (by omega) w
      · exact digit_mid r 10 (by omega) (by omega) (by omega) (by omega) w

end Go.Proofs.YtdgcjjledbnofaaDoor

/-
  Cut of Hj: digits, plain.
-/
namespace Go.Proofs.YtdgcjjledbnofaaDoor
open Go.RowKit
set_option linter.unusedVariables false

def isD (c : UInt8) : Prop := 48 ≤ c.toNat ∧ c.toNat ≤ 57
instance (c : UInt8) : Decidable (isD c) := by unfold isD; infer_instance
/-- The number that some digits are. -/
def decL (l : List UInt8) : Nat := l.foldl (fun a c => 10 * a + (c.toNat - 48)) 0
theorem decL_snoc (l : List UInt8) (c : UInt8) : decL (l ++ [c]) = 10 * decL l + (c.toNat - 48) := by simp [decL]
theorem decL_take (l : List UInt8) (k : Nat) (h : k < l.length) : decL (l.take (k + 1)) = 10 * decL (l.take k) + ((l.getD k 0).toNat - 48) := by
  rw [List.take_succ_eq_append_getElem h, decL_snoc, List.getD_eq_getElem?_getD, List.getElem?_eq_getElem h]; rfl
theorem decL_mono (l : List UInt8) (k : Nat) : decL (l.take k) ≤ decL l := by
  have key : ∀ (l : List UInt8) (a : Nat), a ≤ l.foldl (fun a c => 10 * a + (c.toNat - 48)) a := by
    intro l
    induction l with
    | nil => intro a; exact Nat.le_refl _
    | cons c r ih => intro a; have := ih (10 * a + (c.toNat - 48)); simp only [List.foldl_cons]; omega
  conv => rhs; rw [← List.take_append_drop k l]
  unfold decL
  rw [List.foldl_append]
  exact key _ _

theorem getD_at (s : ByteArray) (k : Nat) (h : k < s.size) : s.data.toList.getD k 0 = s[k]'h := by
  have : k < s.data.toList.length := by simpa using h
  rw [List.getD_eq_getElem?_getD, List.getElem?_eq_getElem this]; rfl
theorem size_list (s : ByteArray) : s.data.toList.length = s.size := by simp

theorem tdiv10 (a : Int) (h : a ≤ 0) : a ≤ 10 * a.tdiv 10 ∧ 10 * a.tdiv 10 < a + 10 := by
  have e : a.tdiv 10 = -((-a) / 10) := by
    have h1 : ((-a).tdiv 10) = (-a) / 10 := Int.tdiv_eq_ediv_of_nonneg (by omega)
    rw [← h1, Int.neg_tdiv, Int.neg_neg]
  rw [e]; omega

end Go.Proofs.YtdgcjjledbnofaaDoor
