/-
  Layer 3: Plain and bare of the program.
-/
import Derived.Test.YtboiclejhnbonaaDoorQs
import Derived.Test.YtboiclejhnbonaaDoorMm
import Derived.IntWalk
import Derived.WalkSmall
namespace Go.Proofs.YtboiclejhnbonaaDoor
open Go.RowKit
set_option linter.unusedVariables false

/-- The rune at a place, as a number, and its width. -/
theorem rune_int (l : List UInt8) (i : Nat) (hi : i < l.length) : ∃ (r : Int) (k : Nat), r = ((Utf8.decode ⟨l.toArray⟩ i).1 : Int) ∧ k = (Utf8.decode ⟨l.toArray⟩ i).2 ∧ 0 ≤ r ∧ r ≤ 2147483647 ∧ 1 ≤ k ∧ i + k ≤ l.length ∧
    ((r < 128 ∧ r = ((l.getD i 0).toNat : Int) ∧ k = 1) ∨ (128 ≤ r ∧ k ≤ 4 ∧ ∀ j, i ≤ j → j < i + k → 128 ≤ (l.getD j 0).toNat)) := by
  refine ⟨_, _, rfl, rfl, ?_⟩
  rcases rune_at l i hi with ⟨h1, h2⟩ | ⟨h1, h2, h3, h4, h5, h6, h7⟩
  · rw [h2]
    exact ⟨by omega, by simp only; omega, Nat.le_refl _, by simp only; omega, .inl ⟨by simp only; omega, rfl, rfl⟩⟩
  · exact ⟨by omega, by omega, h4, h6, .inr ⟨by omega, h5, h7⟩⟩
theorem plainB_no (c : UInt8) (h : c.toNat < 32 ∨ c.toNat = 127 ∨ c.toNat = 34 ∨ c.toNat = 92) : plainB c = false := by
  unfold plainB; simp; omega
theorem plainB_yes (c : UInt8) (h1 : ¬ c.toNat < 32) (h2 : c.toNat ≠ 127) (h3 : c.toNat ≠ 34) (h4 : c.toNat ≠ 92) : plainB c = true := by
  unfold plainB; simp; omega
theorem cleanB_no (c : UInt8) (h : c.toNat = 32 ∨ 128 ≤ c.toNat) : cleanB c = false := by
  unfold cleanB; simp; omega
theorem cleanB_yes (c : UInt8) (h1 : c.toNat ≠ 32) (h2 : c.toNat < 128) : cleanB c = true := by
  unfold cleanB; simp; omega
/-- A rune that ends a plain text is a low byte. -/
theorem plain_stop {l : List UInt8} {i k : Nat} {r : Int} (h : (r < 128 ∧ r = ((l.getD i 0).toNat : Int) ∧ k = 1) ∨ (128 ≤ r ∧ k ≤ 4 ∧ ∀ j, i ≤ j → j < i + k → 128 ≤ (l.getD j 0).toNat)) (hr : r < 32 ∨ r = 127 ∨ r = 34 ∨ r = 92) : plainB (l.getD i 0) = false := by
  rcases h with ⟨_, h, _⟩ | ⟨h, _, _⟩
  · exact plainB_no _ (by omega)
  · omega
theorem plain_go {l : List UInt8} {i k : Nat} {r : Int} (h : (r < 128 ∧ r = ((l.getD i 0).toNat : Int) ∧ k = 1) ∨ (128 ≤ r ∧ k ≤ 4 ∧ ∀ j, i ≤ j → j < i + k → 128 ≤ (l.getD j 0).toNat)) (h1 : ¬ r < 32) (h2 : ¬ r = 127) (h3 : ¬ r = 34) (h4 : ¬ r = 92)
    (hall : ∀ j, j < i → plainB (l.getD j 0) = true) : ∀ j, j < i + k → plainB (l.getD j 0) = true := by
  intro j hj
  by_cases hji : j < i
  · exact hall j hji
  · rcases h with ⟨_, h, hk⟩ | ⟨_, _, h⟩
    · obtain rfl : j = i := by omega
      exact plainB_yes _ (by omega) (by omega) (by omega) (by omega)
    · have := h j (by omega) hj
      exact plainB_yes _ (by omega) (by omega) (by omega) (by omega)
theorem clean_go {l : List UInt8} {i k : Nat} {r : Int} (h : (r < 128 ∧ r = ((l.getD i 0).toNat : Int) ∧ k = 1) ∨ (128 ≤ r ∧ k ≤ 4 ∧ ∀ j, i ≤ j → j < i + k → 128 ≤ (l.getD j 0).toNat)) (h1 : ¬ r = 32) (h2 : ¬ 128 ≤ r)
    (hall : ∀ j, j < i → cleanB (l.getD j 0) = true) : ∀ j, j < i + k → cleanB (l.getD j 0) = true := by
  intro j hj
  by_cases hji : j < i
  · exact hall j hji
  · rcases h with ⟨_, h, hk⟩ | ⟨h, _, _⟩
    · obtain rfl : j = i := by omega
      exact cleanB_yes _ (by omega) (by omega)
    · omega
theorem clean_stop {l : List UInt8} {i k : Nat} {r : Int} (hi : i < l.length) (hk1 : 1 ≤ k) (h : (r < 128 ∧ r = ((l.getD i 0).toNat : Int) ∧ k = 1) ∨ (128 ≤ r ∧ k ≤ 4 ∧ ∀ j, i ≤ j → j < i + k → 128 ≤ (l.getD j 0).toNat)) (hr : r = 32 ∨ 128 ≤ r) : cleanL l = false := by
  refine clean_bad l i hi ?_
  rcases h with ⟨_, h, _⟩ | ⟨_, _, h⟩
  · exact cleanB_no _ (by omega)
  · have := h i (Nat.le_refl _) (by omega)
    exact cleanB_no _ (by omega)
theorem plain_blank {l : List UInt8} (h : (l.getD 0 0).toNat = 32) : plainL l = false := by
  unfold plainL
  rw [h]
  simp
theorem plain_end {l : List UInt8} (hall : ∀ j, j < l.length → plainB (l.getD j 0) = true) (h0 : 0 < l.length → (l.getD 0 0).toNat ≠ 32) : plainL l = !decide (l.length = 0) := by
  rw [plain_good l hall]
  by_cases h : 0 < l.length
  · have := h0 h
    have e : ((l.getD 0 0).toNat == 32) = false := beq_eq_false_iff_ne.2 this
    rw [e]
    have : ¬ l.length = 0 := by omega
    simp [this, h]
  · have : l.length = 0 := by omega
    simp [this]
theorem empty_list (l : List UInt8) : (⟨l.toArray⟩ : ByteArray).toList.isEmpty = decide (l.length = 0) := by
  rw [Lib.toList_data]
  cases l <;> rfl

set_option maxHeartbeats 4000000 in
theorem Plain_is (l : List UInt8) (w : World) :
    Calls Tryd.prog 11 #[.string ⟨l.toArray⟩] w fun e w' => e = .returned (.bool (plainL l)) ∧ Below w.heap.size w w' := by
  go_enter Tryd.func11, Tryd.ntmps11
  go_wp2_with fail
  go_loopw [3, 4] (fun _ _ wr => ∃ i : Nat, i ≤ l.length ∧ wr = w.iter ⟨l.toArray⟩ i ∧ (∀ j, j < i → plainB (l.getD j 0) = true) ∧ (0 < i → (l.getD 0 0).toNat ≠ 32)) (fun _ _ wr => l.length - wr.iterPos w.heap.size)
  case atStart => exact ⟨0, Nat.zero_le _, rfl, fun j h => absurd h (Nat.not_lt_zero _), fun h => absurd h (Nat.lt_irrefl 0)⟩
  case round =>
    obtain ⟨i, hi, rfl, hall, h0⟩ := hrel
    have HALL := Lib.hid hall; clear hall
    have H0 := Lib.hid h0; clear h0
    by_cases hlt : i < l.length
    · have hnx := fun ty => run_next_any (P := Tryd.prog) w ⟨l.toArray⟩ i ty (by rw [size_toArray]; exact hlt)
      obtain ⟨r, k, hr, hk, hr0, hr1, hk1, hkl, hw⟩ := rune_int l i hlt
      rw [← hr, ← hk] at hnx
      have HW := Lib.hid hw
      clear hr hk hw
      by_cases c1 : r < 32
      · go_wp2
        go_ret
        exact ⟨ret_bool (plain_bad l i hlt (plain_stop HW.out (by omega))).symm, (Below.refl _ _).alloc (Nat.le_refl _) _⟩
      · by_cases c2 : r = 127
        · have f2 : (r == 127) = true := by simp [c2]
          go_wp2
          go_ret
          exact ⟨ret_bool (plain_bad l i hlt (plain_stop HW.out (by omega))).symm, (Below.refl _ _).alloc (Nat.le_refl _) _⟩
        · have f2 : (r == 127) = false := by simp [c2]
          by_cases c3 : r = 34
          · have f3 : (r == 34) = true := by simp [c3]
            go_wp2
            go_ret
            exact ⟨ret_bool (plain_bad l i hlt (plain_stop HW.out (by omega))).symm, (Below.refl _ _).alloc (Nat.le_refl _) _⟩
          · have f3 : (r == 34) = false := by simp [c3]
            by_cases c4 : r = 92
            · have f4 : (r == 92) = true := by simp [c4]
              go_wp2
              go_ret
              exact ⟨ret_bool (plain_bad l i hlt (plain_stop HW.out (by omega))).symm, (Below.refl _ _).alloc (Nat.le_refl _) _⟩
            · have f4 : (r == 92) = false := by simp [c4]
              by_cases c5 : i = 0
              · have f5 : ((i : Int) == 0) = true := by simp [c5]
                have C5 := Lib.hid c5
                clear c5
                by_cases c6 : r = 32
                · have f6 : (r == 32) = true := by simp [c6]
                  go_wp2
                  go_ret
                  refine ⟨ret_bool (plain_blank ?_).symm, (Below.refl _ _).alloc (Nat.le_refl _) _⟩
                  rcases HW.out with ⟨_, h, _⟩ | ⟨h, _, _⟩
                  · rw [C5.out] at h; omega
                  · omega
                · have f6 : (r == 32) = false := by simp [c6]
                  have nb : (l.getD 0 0).toNat ≠ 32 := by
                    rcases HW.out with ⟨_, h, _⟩ | ⟨_, _, h⟩
                    · rw [C5.out] at h; omega
                    · have c5 := C5.out
                      have := h 0 (by omega) (by omega); omega
                  go_wp2
                  go_roundw
                  case rel => exact ⟨i + k, hkl, rfl, plain_go HW.out c1 c2 c3 c4 HALL.out, fun _ => nb⟩
                  case measure => simp; omega
              · have f5 : ((i : Int) == 0) = false := by simp [c5]
                go_wp2
                go_roundw
                case rel => exact ⟨i + k, hkl, rfl, plain_go HW.out c1 c2 c3 c4 HALL.out, fun _ => H0.out (by omega)⟩
                case measure => simp; omega
    · obtain rfl : i = l.length := by omega
      have hnx := fun ty => run_next_end (P := Tryd.prog) w ⟨l.toArray⟩ l.length ty (by rw [size_toArray]; omega)
      have hem := empty_list l
      go_wp2
      go_ret
      refine ⟨ret_bool ?_, (Below.refl _ _).alloc (Nat.le_refl _) _⟩
      rw [plain_end HALL.out H0.out]
      cases l <;> simp

set_option maxHeartbeats 4000000 in
theorem bare_is (l : List UInt8) (w : World) :
    Calls Tryd.prog 26 #[.string ⟨l.toArray⟩] w fun e w' => e = .returned (.bool (plainL l && cleanL l)) ∧ Below w.heap.size w w' := by
  go_enter Tryd.func26, Tryd.ntmps26
  go_wp2_with fail
  go_loopw [4] (fun _ wr => ∃ i : Nat, i ≤ l.length ∧ wr = w.iter ⟨l.toArray⟩ i ∧ (∀ j, j < i → cleanB (l.getD j 0) = true)) (fun _ wr => l.length - wr.iterPos w.heap.size)
  case atStart => exact ⟨0, Nat.zero_le _, rfl, fun j h => absurd h (Nat.not_lt_zero _)⟩
  case round =>
    obtain ⟨i, hi, rfl, hall⟩ := hrel
    have HALL := Lib.hid hall; clear hall
    by_cases hlt : i < l.length
    · have hnx := fun ty => run_next_any (P := Tryd.prog) w ⟨l.toArray⟩ i ty (by rw [size_toArray]; exact hlt)
      obtain ⟨r, k, hr, hk, hr0, hr1, hk1, hkl, hw⟩ := rune_int l i hlt
      rw [← hr, ← hk] at hnx
      have HW := Lib.hid hw
      clear hr hk hw
      by_cases c1 : r = 32
      · have f1 : (r == 32) = true := by simp [c1]
        go_wp2
        go_ret
        exact ⟨ret_bool (by rw [clean_stop hlt hk1 HW.out (by omega), Bool.and_false]), (Below.refl _ _).alloc (Nat.le_refl _) _⟩
      · have f1 : (r == 32) = false := by simp [c1]
        by_cases c2 : 128 ≤ r
        · go_wp2
          go_ret
          exact ⟨ret_bool (by rw [clean_stop hlt hk1 HW.out (by omega), Bool.and_false]), (Below.refl _ _).alloc (Nat.le_refl _) _⟩
        · go_wp2
          go_roundw
          case rel => exact ⟨i + k, hkl, rfl, clean_go HW.out c1 c2 HALL.out⟩
          case measure => simp; omega
    · obtain rfl : i = l.length := by omega
      have hnx := fun ty => run_next_end (P := Tryd.prog) w ⟨l.toArray⟩ l.length ty (by rw [size_toArray]; omega)
      have b0 : Below w.heap.size w (w.iter ⟨l.toArray⟩ l.length) := (Below.refl _ _).alloc (Nat.le_refl _) _
      go_wp2_with fail
      refine (Plain_is l _).mono ?_
      rintro e w1 ⟨rfl, hb⟩
      go_wp2
      go_ret
      exact ⟨ret_bool (by rw [clean_good l HALL.out, Bool.and_true]), b0.trans (hb.mono b0.size)⟩

/-- How long the text between marks is: the text begins with a mark. -/
def quotedL (s : List UInt8) : Int × Bool := if s.length ≤ 1 + endL s.tail then (0, false) else (((1 + endL s.tail + 1 : Nat) : Int), true)
theorem tail_drop (s : List UInt8) : s.tail = s.drop 1 := by cases s <;> rfl
theorem end_high (s : List UInt8) (i : Nat) : ∀ (k : Nat), i + k ≤ s.length → (∀ j, i ≤ j → j < i + k → 128 ≤ (s.getD j 0).toNat) → endL (s.drop i) = k + endL (s.drop (i + k))
  | 0, _, _ => by simp
  | k + 1, h, ha => by
    rw [end_high s i k (by omega) (fun j h1 h2 => ha j h1 (by omega))]
    have hb := ha (i + k) (by omega) (by omega)
    have e := end_at s (i + k) (by omega)
    rw [if_neg (by omega), if_neg (by omega)] at e
    rw [e]
    have : i + (k + 1) = i + k + 1 := by omega
    rw [this]
    omega
end Go.Proofs.YtboiclejhnbonaaDoor
