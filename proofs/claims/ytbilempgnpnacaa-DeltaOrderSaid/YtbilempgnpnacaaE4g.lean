/-
  Layer 14, plain: edits applied.
-/
import Derived.Test.YtbilempgnpnacaaE4a
namespace Go.Proofs.Ytbilempgnpnacaa
open Go
set_option linter.unusedVariables false
set_option linter.unusedSimpArgs false

/-- An edit: its ends, its bytes. -/
abbrev Edx := Int × Int × List UInt8
def stepE (p n : Int) (e : Edx) : Bool := decide (p ≤ e.1) && decide (e.1 ≤ e.2.1) && decide (e.2.1 ≤ n)
/-- Are they valid for so many bytes? -/
def okE : List Edx → Int → Int → Bool
  | [], _, _ => true
  | e :: l, p, n => stepE p n e && okE l e.2.1 n
def lastE : List Edx → Int → Int
  | [], p => p
  | e :: l, _ => lastE l e.2.1
/-- The pieces ahead of the last. -/
def preE (a : List UInt8) : List Edx → Int → List (List UInt8)
  | [], _ => []
  | e :: l, p => (a.take e.1.toNat).drop p.toNat :: e.2.2 :: preE a l e.2.1
def appE (a : List UInt8) (l : List Edx) : List UInt8 := (preE a l 0).flatten ++ a.drop (lastE l 0).toNat
theorem okE_app : ∀ (l m : List Edx) (p n : Int), okE (l ++ m) p n = (okE l p n && okE m (lastE l p) n)
  | [], _, _, _ => by simp [okE, lastE]
  | e :: l, m, p, n => by simp [okE, lastE, okE_app l m, Bool.and_assoc]
theorem lastE_app : ∀ (l m : List Edx) (p : Int), lastE (l ++ m) p = lastE m (lastE l p)
  | [], _, _ => rfl
  | e :: l, m, p => by simp [lastE, lastE_app l m]
theorem preE_app (a : List UInt8) : ∀ (l m : List Edx) (p : Int), preE a (l ++ m) p = preE a l p ++ preE a m (lastE l p)
  | [], _, _ => rfl
  | e :: l, m, p => by simp [preE, lastE, preE_app a l m]
theorem preE_len (a : List UInt8) : ∀ (l : List Edx) (p : Int), (preE a l p).length = 2 * l.length
  | [], _ => rfl
  | e :: l, p => by simp [preE, preE_len a l]; omega
theorem take_next {α : Type} (l : List α) (k : Nat) (h : k < l.length) : l.take (k + 1) = l.take k ++ [l[k]] := List.take_succ_eq_append_getElem h
theorem okE_next (l : List Edx) (k : Nat) (h : k < l.length) (p n : Int) : okE (l.take (k + 1)) p n = (okE (l.take k) p n && stepE (lastE (l.take k) p) n l[k]) := by
  rw [take_next l k h, okE_app]
  simp [okE]
theorem lastE_next (l : List Edx) (k : Nat) (h : k < l.length) (p : Int) : lastE (l.take (k + 1)) p = l[k].2.1 := by
  rw [take_next l k h, lastE_app]
  rfl
theorem preE_next (a : List UInt8) (l : List Edx) (k : Nat) (h : k < l.length) (p : Int) : preE a (l.take (k + 1)) p = preE a (l.take k) p ++ [(a.take l[k].1.toNat).drop (lastE (l.take k) p).toNat, l[k].2.2] := by
  rw [take_next l k h, preE_app]
  rfl
theorem okE_false (l : List Edx) (k : Nat) (p n : Int) (h : okE (l.take k) p n = false) : okE l p n = false := by
  conv => lhs; rw [← List.take_append_drop k l]
  rw [okE_app, h]
  rfl
theorem okE_take {l : List Edx} {p n : Int} (h : okE l p n = true) (k : Nat) : okE (l.take k) p n = true := by
  rw [← List.take_append_drop k l, okE_app, Bool.and_eq_true] at h
  exact h.1
theorem okE_last : ∀ (l : List Edx) (p n : Int), okE l p n = true → p ≤ n → p ≤ lastE l p ∧ lastE l p ≤ n
  | [], p, n, _, h => ⟨Int.le_refl _, h⟩
  | e :: l, p, n, h, hp => by
    simp only [okE, stepE, Bool.and_eq_true, decide_eq_true_eq] at h
    have := okE_last l e.2.1 n h.2 h.1.2
    simp only [lastE]
    omega
/-- What stands at a place, of edits that are valid. -/
theorem okE_at {l : List Edx} {n : Int} (h : okE l 0 n = true) (h0 : 0 ≤ n) (k : Nat) (hk : k < l.length) : 0 ≤ lastE (l.take k) 0 ∧ lastE (l.take k) 0 ≤ l[k].1 ∧ l[k].1 ≤ l[k].2.1 ∧ l[k].2.1 ≤ n := by
  have h1 := okE_take h (k + 1)
  rw [okE_next l k hk, Bool.and_eq_true] at h1
  have h2 := okE_last _ _ _ h1.1 h0
  have h3 := h1.2
  simp only [stepE, Bool.and_eq_true, decide_eq_true_eq] at h3
  omega
/-- How much there is at most. -/
def sumE (l : List Edx) : Nat := (l.map fun e => e.2.2.length).sum
theorem pre_sum (a : List UInt8) : ∀ (l : List Edx) (p : Int), okE l p a.length = true → 0 ≤ p → p ≤ a.length → (preE a l p).flatten.length + (a.drop (lastE l p).toNat).length ≤ a.length - p.toNat + sumE l
  | [], p, _, _, _ => by simp [preE, lastE, sumE]
  | e :: l, p, h, h0, h1 => by
    simp only [okE, stepE, Bool.and_eq_true, decide_eq_true_eq] at h
    have ih := pre_sum a l e.2.1 h.2 (by omega) h.1.2
    simp only [preE, lastE, List.flatten_cons, List.length_append, sumE, List.map_cons, List.sum_cons] at ih ⊢
    rw [List.length_drop, List.length_take]
    omega
theorem app_sum (a : List UInt8) (l : List Edx) (h : okE l 0 a.length = true) : (appE a l).length ≤ a.length + sumE l := by
  have := pre_sum a l 0 h (Int.le_refl _) (by omega)
  unfold appE
  rw [List.length_append]
  simpa using this
/-- One piece's end lies within all. -/
theorem flat_le (l : List (List UInt8)) (k : Nat) : (l.take k).flatten.length ≤ l.flatten.length := by
  conv => rhs; rw [← List.take_append_drop k l, List.flatten_append, List.length_append]
  omega
theorem flat_next (l : List (List UInt8)) (k : Nat) (h : k < l.length) : (l.take (k + 1)).flatten.length = (l.take k).flatten.length + l[k].length := by
  rw [take_next l k h, List.flatten_append, List.length_append]
  simp
/-- What is made, applied. -/
theorem app_made (a b : List UInt8) : appE a [((fromL a b : Nat), ((a.length - tailL a b : Nat) : Int), putL a b)] = b := by
  have h := make_apply a b
  simp only [appE, preE, lastE, List.flatten_cons, List.flatten_nil, List.append_nil, Int.toNat_natCast, Int.toNat_zero, List.drop_zero]
  rw [List.append_assoc]
  exact h
theorem ok_made (a b : List UInt8) : okE [((fromL a b : Nat), ((a.length - tailL a b : Nat) : Int), putL a b)] 0 a.length = true := by
  have := tail_le a b
  simp only [okE, stepE, Bool.and_eq_true, decide_eq_true_eq, and_true]
  omega
end Go.Proofs.Ytbilempgnpnacaa
