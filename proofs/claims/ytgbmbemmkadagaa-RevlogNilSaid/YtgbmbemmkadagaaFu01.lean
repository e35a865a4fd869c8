/-
  Texts that belong together, one behind the other.
-/
import Derived.Test.YtgbmbemmkadagaaProg
import Derived.WalkKit
import Derived.WalkSpells
import Derived.WalkLawsBesides
import Derived.Laws.BytesArg
import Derived.Lib.UnsafeStr
import Derived.Lib.Hide
/-
  Small words for walks over byte slices: what lies in a slice of bytes, and 'string(b)' of it.
-/
namespace Go.Proofs.Ytgbmbemmkadagaa
open Go.RowKit
set_option linter.unusedVariables false

theorem tup_int {k : IntKind} {a b : Int} {v : Value} (h : a = b) : Ending.returned (.tuple #[.int k a, v]) = .returned (.tuple #[.int k b, v]) := by rw [h]
theorem ret_int {k : IntKind} {a b : Int} (h : a = b) : Ending.returned (.int k a) = .returned (.int k b) := by rw [h]
theorem ret_str {a b : List UInt8} (h : a = b) : Ending.returned (.string ⟨a.toArray⟩) = .returned (.string ⟨b.toArray⟩) := by rw [h]
theorem ret_bool {a b : Bool} (h : a = b) : Ending.returned (.bool a) = .returned (.bool b) := by rw [h]

/-- What lies at the head of a slice of bytes: of an empty one nothing is said. -/
def BAt (w : World) (a : Option Addr) (l : List UInt8) : Prop :=
  0 < l.length → ∃ b o, a = some ⟨b, o, none⟩ ∧ b < w.heap.size ∧ ∀ i (h : i < l.length), w.cell? ⟨b, o + i, none⟩ = some (.int .u8 (l[i]).toNat)
theorem BAt.nil (w : World) (a : Option Addr) : BAt w a [] := fun h => absurd h (Nat.lt_irrefl 0)
theorem BAt.below {w w' : World} {a : Option Addr} {l : List UInt8} (h : BAt w a l) {B : Nat} (hb : Below B w w') (hB : w.heap.size ≤ B) : BAt w' a l := fun hp => by
  obtain ⟨b, o, rfl, hlt, hc⟩ := h hp
  exact ⟨b, o, rfl, Nat.lt_of_lt_of_le hlt hb.size, fun i hi => (hb.cell (p := ⟨b, o + i, none⟩) (by show b < B; omega)).trans (hc i hi)⟩
theorem BAt.keep {w w' : World} {a : Option Addr} {l : List UInt8} (h : BAt w a l) (hb : Below w.heap.size w w') : BAt w' a l := h.below hb (Nat.le_refl _)
theorem size_toArray (l : List UInt8) : (⟨l.toArray⟩ : ByteArray).size = l.length := by simp [ByteArray.size]

theorem bytes_append (a b : List UInt8) : (⟨a.toArray⟩ ++ ⟨b.toArray⟩ : ByteArray) = ⟨(a ++ b).toArray⟩ := by
  apply ByteArray.ext
  simp

theorem add_lists {P : Program} (w : World) (a b : List UInt8) (h : a.length + b.length ≤ 9223372036854775807) :
    (Op.stringOp .add ⟨a.toArray⟩ ⟨b.toArray⟩).run P w = .ok (.string ⟨(a ++ b).toArray⟩) w := by
  rw [← bytes_append]
  exact run_string_add_sum w _ _ (by rw [size_toArray, size_toArray]; exact h)

theorem strOfNums_toNat (l : List UInt8) : strOfNums (l.map fun c => (c.toNat : Int)) = ⟨l.toArray⟩ := by
  unfold strOfNums
  congr 2
  rw [List.map_map]
  conv => rhs; rw [← List.map_id l]
  apply List.map_congr_left
  intro c _
  simp
/-- 'string(b)'. -/
theorem BAt.conv {P : Program} {w : World} {a : Option Addr} {l : List UInt8} (h : BAt w a l) (c : Nat) (src e : TypeId) (hs : P.underlying src = some (.slice e)) (he : P.underlying e = some (.int .u8)) :
    ∀ dst, P.underlying dst = some .string → (convert src dst (.slice a l.length c)).run P w = .ok (.string ⟨l.toArray⟩) w := by
  intro dst hd
  by_cases hp : 0 < l.length
  · obtain ⟨b, o, rfl, _, hc⟩ := h hp
    rw [← strOfNums_toNat]
    exact run_convert_bytes_arg w src e hs he b o l.length c (l.map fun c => (c.toNat : Int)) (by simp) (fun i hi => by rw [hc i hi]; simp [List.getD, hi]) dst hd
  · obtain rfl : l = [] := List.eq_nil_of_length_eq_zero (by omega)
    rw [run_convert_bytes_string w src dst e _ _ c hs he hd]
    cases a <;> simp [Conv.bytesToString, loadCells]
    all_goals rfl
end Go.Proofs.Ytgbmbemmkadagaa

/-
  Layer 14, plain: what two texts begin and end with alike; the edit between them; edits applied.
-/
namespace Go.Proofs.Ytgbmbemmkadagaa
open Go
set_option linter.unusedVariables false
set_option linter.unusedSimpArgs false

/-- How many bytes two texts begin with alike. -/
def comL : List UInt8 → List UInt8 → Nat
  | x :: a, y :: b => if x = y then comL a b + 1 else 0
  | _, _ => 0
theorem comL_le : ∀ a b : List UInt8, comL a b ≤ a.length ∧ comL a b ≤ b.length
  | [], _ => by simp [comL]
  | _ :: _, [] => by simp [comL]
  | x :: a, y :: b => by
    have := comL_le a b
    unfold comL
    split <;> simp <;> omega
theorem comL_take : ∀ a b : List UInt8, a.take (comL a b) = b.take (comL a b)
  | [], _ => by simp [comL]
  | _ :: _, [] => by simp [comL]
  | x :: a, y :: b => by
    unfold comL
    split
    · rename_i h
      subst h
      simp [comL_take a b]
    · simp
/-- So many it is. -/
theorem comL_is : ∀ (a b : List UInt8) (k : Nat), k ≤ a.length → k ≤ b.length → (∀ j, j < k → a.getD j 0 = b.getD j 0) → (k < a.length → k < b.length → a.getD k 0 ≠ b.getD k 0) → comL a b = k
  | [], _, k, h, _, _, _ => by have : k = 0 := by simpa using h
                               subst this; simp [comL]
  | _ :: _, [], k, _, h, _, _ => by have : k = 0 := by simpa using h
                                    subst this; simp [comL]
  | x :: a, y :: b, 0, _, _, _, h => by
    have : x ≠ y := by simpa using h (by simp) (by simp)
    simp [comL, this]
  | x :: a, y :: b, k + 1, h1, h2, h3, h4 => by
    have e : x = y := by simpa using h3 0 (by omega)
    subst e
    have := comL_is a b k (by simpa using h1) (by simpa using h2) (fun j hj => by simpa using h3 (j + 1) (by omega)) (fun p q => by simpa using h4 (by simpa using p) (by simpa using q))
    simp [comL, this]
theorem comL_all {a b : List UInt8} : a = b ↔ comL a b = a.length ∧ comL a b = b.length := by
  constructor
  · intro h
    subst h
    have : comL a a = a.length := comL_is a a a.length (Nat.le_refl _) (Nat.le_refl _) (fun _ _ => rfl) (fun h => absurd h (Nat.lt_irrefl _))
    exact ⟨this, this⟩
  · rintro ⟨h1, h2⟩
    have := comL_take a b
    rwa [List.take_of_length_le (by omega), List.take_of_length_le (by omega)] at this
/-- The first that differ. -/
theorem comL_stop : ∀ a b : List UInt8, comL a b < a.length → comL a b < b.length → a.getD (comL a b) 0 ≠ b.getD (comL a b) 0
  | [], _ => by simp
  | _ :: _, [] => by simp
  | x :: a, y :: b => by
    intro h1 h2
    by_cases e : x = y
    · subst e
      simp only [comL, if_true, List.length_cons] at h1 h2 ⊢
      have := comL_stop a b (by omega) (by omega)
      simpa using this
    · simp [comL, e]
/-- How many bytes two texts end with alike. -/
def endL (a b : List UInt8) : Nat := comL a.reverse b.reverse
theorem endL_le (a b : List UInt8) : endL a b ≤ a.length ∧ endL a b ≤ b.length := by
  have := comL_le a.reverse b.reverse
  simpa [endL] using this
theorem rev_at (a : List UInt8) (j : Nat) (h : j < a.length) : a.reverse.getD j 0 = a.getD (a.length - 1 - j) 0 := by
  simp [List.getD_eq_getElem?_getD, List.getElem?_reverse h]
theorem endL_drop (a b : List UInt8) : a.drop (a.length - endL a b) = b.drop (b.length - endL a b) := by
  have h := congrArg List.reverse (comL_take a.reverse b.reverse)
  rw [List.reverse_take, List.reverse_take] at h
  simpa [endL] using h
/-- So many it is, behind the first f. -/
theorem endL_is (a b : List UInt8) (f k : Nat) (hfa : f ≤ a.length) (hfb : f ≤ b.length) (h1 : k ≤ a.length - f) (h2 : k ≤ b.length - f) (h3 : ∀ j, j < k → a.getD (a.length - 1 - j) 0 = b.getD (b.length - 1 - j) 0)
    (h4 : k < a.length - f → k < b.length - f → a.getD (a.length - 1 - k) 0 ≠ b.getD (b.length - 1 - k) 0) : endL (a.drop f) (b.drop f) = k := by
  have q : ∀ (c : List UInt8) (j : Nat), f ≤ c.length → j < c.length - f → (c.drop f).reverse.getD j 0 = c.getD (c.length - 1 - j) 0 := fun c j hc hj => by
    rw [rev_at _ _ (by rw [List.length_drop]; omega), List.length_drop, List.getD_eq_getElem?_getD, List.getD_eq_getElem?_getD, List.getElem?_drop]
    congr 2
    omega
  refine comL_is _ _ k (by simpa using h1) (by simpa using h2) (fun j hj => ?_) (fun p r => ?_)
  · rw [q a j hfa (by omega), q b j hfb (by omega)]; exact h3 j hj
  · have p' : k < a.length - f := by simpa using p
    have r' : k < b.length - f := by simpa using r
    rw [q a k hfa p', q b k hfb r']; exact h4 p' r'
/-- What the edit takes and puts: its ends, its bytes. -/
def fromL (a b : List UInt8) : Nat := comL a b
def tailL (a b : List UInt8) : Nat := endL (a.drop (comL a b)) (b.drop (comL a b))
def putL (a b : List UInt8) : List UInt8 := (b.take (b.length - tailL a b)).drop (fromL a b)
theorem tail_le (a b : List UInt8) : fromL a b + tailL a b ≤ a.length ∧ fromL a b + tailL a b ≤ b.length := by
  have h := endL_le (a.drop (comL a b)) (b.drop (comL a b))
  have g := comL_le a b
  unfold fromL tailL
  simp at h
  omega
theorem putL_len (a b : List UInt8) : (putL a b).length = b.length - tailL a b - fromL a b := by
  have := tail_le a b
  unfold putL
  rw [List.length_drop, List.length_take]
  omega
/-- Applied it is the other text. -/
theorem make_apply (a b : List UInt8) : a.take (fromL a b) ++ (putL a b ++ a.drop (a.length - tailL a b)) = b := by
  have h1 := comL_take a b
  have h2 := endL_drop (a.drop (comL a b)) (b.drop (comL a b))
  have hl := tail_le a b
  have e : a.drop (a.length - tailL a b) = b.drop (b.length - tailL a b) := by
    have p : ∀ c : List UInt8, fromL a b + tailL a b ≤ c.length → (c.drop (comL a b)).drop ((c.drop (comL a b)).length - tailL a b) = c.drop (c.length - tailL a b) := fun c hc => by
      rw [List.drop_drop, List.length_drop]
      congr 1
      unfold fromL at hc
      omega
    rw [← p a hl.1, ← p b hl.2]
    exact h2
  rw [e, show a.take (fromL a b) = b.take (fromL a b) from h1]
  unfold putL
  have f1 : (b.take (b.length - tailL a b)).take (fromL a b) = b.take (fromL a b) := by rw [List.take_take, Nat.min_eq_left (by omega)]
  rw [← List.append_assoc, ← f1, List.take_append_drop, List.take_append_drop]
/-- Both differ at both ends of what is taken away and put, unless one of them is empty. -/
theorem make_least (a b : List UInt8) (h1 : fromL a b < a.length - tailL a b) (h2 : 0 < (putL a b).length) :
    a.getD (fromL a b) 0 ≠ (putL a b).getD 0 0 ∧ a.getD (a.length - tailL a b - 1) 0 ≠ (putL a b).getD ((putL a b).length - 1) 0 := by
  have hl := tail_le a b
  have hp := putL_len a b
  have g : ∀ j, j < (putL a b).length → (putL a b).getD j 0 = b.getD (fromL a b + j) 0 := fun j hj => by
    unfold putL
    rw [List.getD_eq_getElem?_getD, List.getD_eq_getElem?_getD, List.getElem?_drop, List.getElem?_take, if_pos (by omega)]
  constructor
  · rw [g 0 h2]
    exact comL_stop a b (by show fromL a b < _; omega) (by show fromL a b < _; omega)
  · rw [g _ (by omega)]
    have q : ∀ (c : List UInt8), fromL a b + tailL a b < c.length → (c.drop (comL a b)).reverse.getD (tailL a b) 0 = c.getD (c.length - tailL a b - 1) 0 := fun c hc => by
      unfold fromL at hc
      rw [rev_at _ _ (by rw [List.length_drop]; omega), List.length_drop, List.getD_eq_getElem?_getD, List.getD_eq_getElem?_getD, List.getElem?_drop]
      congr 2
      omega
    have hs := comL_stop (a.drop (comL a b)).reverse (b.drop (comL a b)).reverse (by show tailL a b < _; simp; unfold fromL at *; omega) (by show tailL a b < _; simp; unfold fromL at *; omega)
    rw [show comL (a.drop (comL a b)).reverse (b.drop (comL a b)).reverse = tailL a b from rfl, q a (by omega), q b (by omega)] at hs
    rw [show fromL a b + ((putL a b).length - 1) = b.length - tailL a b - 1 by omega]
    exact hs
theorem make_some {a b : List UInt8} (h : a ≠ b) : 0 < (a.length - tailL a b - fromL a b) + (putL a b).length := by
  have hl := tail_le a b
  have hp := putL_len a b
  refine Nat.pos_of_ne_zero fun h0 => h ?_
  have e1 : fromL a b = a.length - tailL a b := by omega
  have e2 : putL a b = [] := List.eq_nil_of_length_eq_zero (by omega)
  have := make_apply a b
  rw [e2, List.nil_append, ← e1, List.take_append_drop] at this
  exact this
end Go.Proofs.Ytgbmbemmkadagaa
