/-
  Small words for walks over byte slices: what lies in a slice of bytes, and 'string(b)' of it.
-/
import Derived.Test.YtbilempgnpnacaaProg
import Derived.WalkKit
import Derived.WalkSpells
import Derived.WalkLawsBesides
import Derived.Laws.BytesArg
import Derived.Lib.UnsafeStr
import Derived.Lib.Hide
namespace Go.Proofs.Ytbilempgnpnacaa
open Go.RowKit
set_option linter.unusedVariables false

theorem tup_int {k : IntKind} {a b : Int} {v : Value} (h : a = b) : Ending.returned (.tuple #[.int k a, v]) = .returned (.tuple #[.int k b, v]) := by rw [h]
theorem ret_int {k : IntKind} {a b : Int} (h : a = b) : Ending.returned (.int k a) = .returned (.int k b) := by rw [h]
theorem ret_str {a b : List UInt8} (h : a = b) : Ending.returned (.string ⟨a.toArray⟩) = .returned (.string ⟨b.toArray⟩) := by rw [h]
theorem ret_bool {a b : Bool} (h : a = b) : Ending.returned (.bool a) = .returned (.bool b) := by rw [h]

/-- What lies at the head of a slice of bytes: of an empty one nothing is said. -/
def BAt (w : World) (a : Option Addr) (l : List UInt8) : Prop :=
  0 < l.length → ∃ b o, a = some ⟨b, o, none⟩ ∧ b < w.heap.size ∧ ∀ i (h : i < l.length), w.cell? ⟨b, o + i, none⟩ = some (.int .u8 (l[i]).toNat)
theorem BAt.nil (w : World) (a : Option Addr) : BAt w a [] := fun h => absurd h (Nat.lt_irrefl 0)
theorem BAt.below {w w' : World} {a : Option Addr} {l : List UInt8} (h : BAt w a l) {B : Nat} (hb : Below B w w') (hB : w.heap.size ≤ B) : BAt w' a l := fun hp => by
  obtain ⟨b, o, rfl, hlt, hc⟩ := h hp
  exact ⟨b, o, rfl, Nat.lt_of_lt_of_le hlt hb.size, fun i hi => (hb.cell (p := ⟨b, o + i, none⟩) (by show b < B; omega)).trans (hc i hi)⟩
theorem BAt.keep {w w' : World} {a : Option Addr} {l : List UInt8} (h : BAt w a l) (hb : Below w.heap.size w w') : BAt w' a l := h.below hb (Nat.le_refl _)
theorem size_toArray (l : List UInt8) : (⟨l.toArray⟩ : ByteArray).size = l.length := by simp [ByteArray.size]

theorem bytes_append (a b : List UInt8) : (⟨a.toArray⟩ ++ ⟨b.toArray⟩ : ByteArray) = ⟨(a ++ b).toArray⟩ := by
  apply ByteArray.ext
  simp

theorem add_lists {P : Program} (w : World) (a b : List UInt8) (h : a.length + b.length ≤ 9223372036854775807) :
    (Op.stringOp .add ⟨a.toArray⟩ ⟨b.toArray⟩).run P w = .ok (.string ⟨(a ++ b).toArray⟩) w := by
  rw [← bytes_append]
  exact run_string_add_sum w _ _ (by rw [size_toArray, size_toArray]; exact h)

theorem strOfNums_toNat (l : List UInt8) : strOfNums (l.map fun c => (c.toNat : Int)) = ⟨l.toArray⟩ := by
  unfold strOfNums
  congr 2
  rw [List.map_map]
  conv => rhs; rw [← List.map_id l]
  apply List.map_congr_left
  intro c _
  simp
/-- 'string(b)'. -/
theorem BAt.conv {P : Program} {w : World} {a : Option Addr} {l : List UInt8} (h : BAt w a l) (c : Nat) (src e : TypeId) (hs : P.underlying src = some (.slice e)) (he : P.underlying e = some (.int .u8)) :
    ∀ dst, P.underlying dst = some .string → (convert src dst (.slice a l.length c)).run P w = .ok (.string ⟨l.toArray⟩) w := by
  intro dst hd
  by_cases hp : 0 < l.length
  · obtain ⟨b, o, rfl, _, hc⟩ := h hp
    rw [← strOfNums_toNat]
    exact run_convert_bytes_arg w src e hs he b o l.length c (l.map fun c => (c.toNat : Int)) (by simp) (fun i hi => by rw [hc i hi]; simp [List.getD, hi]) dst hd
  · obtain rfl : l = [] := List.eq_nil_of_length_eq_zero (by omega)
    rw [run_convert_bytes_string w src dst e _ _ c hs he hd]
    cases a <;> simp [Conv.bytesToString, loadCells]
    all_goals rfl
end Go.Proofs.Ytbilempgnpnacaa
