/-
  Layer 3: quotedLen of the program: where the closing mark stands.
-/
import Derived.Test.YtkhfgddjnnibdaaDoorQt
namespace Go.Proofs.YtkhfgddjnnibdaaDoor
open Go.RowKit
set_option linter.unusedVariables false

/-- Where the search stands: with 'esc' the next rune is taken as it is. -/
def Seek (s : List UInt8) (i : Nat) (esc : Bool) : Prop := 1 + endL s.tail = if esc then i + 1 + endL (s.drop (i + 1)) else i + endL (s.drop i)
theorem Seek.first (s : List UInt8) : Seek s 0 true := by
  unfold Seek
  rw [if_pos rfl, tail_drop]
theorem Seek.esc {s : List UInt8} {i k : Nat} (h : Seek s i true) (hk : 1 ≤ k) (hi : i + k ≤ s.length) (hw : k = 1 ∨ ∀ j, i ≤ j → j < i + k → 128 ≤ (s.getD j 0).toNat) : Seek s (i + k) false := by
  unfold Seek at h ⊢
  rw [if_pos rfl] at h
  rw [if_neg (by decide), h]
  rcases hw with rfl | hw
  · rfl
  · obtain ⟨m, rfl⟩ : ∃ m, k = m + 1 := ⟨k - 1, by omega⟩
    rw [end_high s (i + 1) m (by omega) (fun j h1 h2 => hw j (by omega) (by omega)), show i + 1 + m = i + (m + 1) by omega]
    omega
theorem Seek.slash {s : List UInt8} {i : Nat} (h : Seek s i false) (hi : i < s.length) (hc : (s.getD i 0).toNat = 92) : Seek s (i + 1) true := by
  unfold Seek at h ⊢
  rw [if_neg (by decide)] at h
  rw [if_pos rfl, h, end_at s i hi, if_neg (by omega), if_pos hc]
  rw [show i + 1 + 1 = i + 2 by omega]
  omega
theorem Seek.plain {s : List UInt8} {i k : Nat} (h : Seek s i false) (hk : 1 ≤ k) (hi : i + k ≤ s.length) (hw : (k = 1 ∧ (s.getD i 0).toNat ≠ 34 ∧ (s.getD i 0).toNat ≠ 92) ∨ ∀ j, i ≤ j → j < i + k → 128 ≤ (s.getD j 0).toNat) : Seek s (i + k) false := by
  unfold Seek at h ⊢
  rw [if_neg (by decide)] at h ⊢
  rw [h]
  rcases hw with ⟨rfl, h1, h2⟩ | hw
  · rw [end_at s i (by omega), if_neg h1, if_neg h2]; omega
  · rw [end_high s i k hi hw]; omega
theorem Seek.stop {s : List UInt8} {i : Nat} (h : Seek s i false) (hi : i < s.length) (hc : (s.getD i 0).toNat = 34) : quotedL s = (((i + 1 : Nat) : Int), true) := by
  unfold Seek at h
  rw [if_neg (by decide), end_at s i hi, if_pos hc] at h
  unfold quotedL
  rw [if_neg (by omega), h]
theorem Seek.none {s : List UInt8} {esc : Bool} (h : Seek s s.length esc) : quotedL s = (0, false) := by
  unfold Seek at h
  rw [end_beyond s _ (Nat.le_refl _), end_beyond s (s.length + 1) (by omega)] at h
  unfold quotedL
  rw [if_pos (by cases esc <;> simp at h <;> omega)]

set_option maxHeartbeats 4000000 in
theorem quotedLen_is (l : List UInt8) (w : World) (hn : l.length ≤ 1099511627776) :
    Calls Tryd.prog 24 #[.string ⟨l.toArray⟩] w fun e w' => e = .returned (.tuple #[.int .i64 (quotedL l).1, .bool (quotedL l).2]) ∧ Below w.heap.size w w' := by
  go_enter Tryd.func24, Tryd.ntmps24
  go_wp2_with fail
  go_loopw [4, 5, 6] (fun esc _ _ wr => ∃ (i : Nat) (b : Bool), i ≤ l.length ∧ esc = .bool b ∧ wr = w.iter ⟨l.toArray⟩ i ∧ Seek l i b) (fun _ _ _ wr => l.length - wr.iterPos w.heap.size)
  case atStart => exact ⟨0, true, Nat.zero_le _, rfl, rfl, Seek.first l⟩
  case round =>
    obtain ⟨i, b, hi, rfl, rfl, hsk⟩ := hrel
    have SK := Lib.hid hsk; clear hsk
    by_cases hlt : i < l.length
    · have hnx := fun ty => run_next_any (P := Tryd.prog) w ⟨l.toArray⟩ i ty (by rw [size_toArray]; exact hlt)
      obtain ⟨r, k, hr, hk, hr0, hr1, hk1, hkl, hw⟩ := rune_int l i hlt
      rw [← hr, ← hk] at hnx
      have HW := Lib.hid hw
      clear hr hk hw
      have wide : k = 1 ∨ ∀ j, i ≤ j → j < i + k → 128 ≤ (l.getD j 0).toNat := by
        rcases HW.out with ⟨_, _, h⟩ | ⟨_, _, h⟩
        · exact .inl h
        · exact .inr h
      have WD := Lib.hid wide; clear wide
      cases b with
      | true =>
        go_wp2
        go_roundw
        case rel => exact ⟨i + k, false, hkl, rfl, rfl, SK.out.esc hk1 hkl WD.out⟩
        case measure => simp; omega
      | false =>
        by_cases c1 : r = 92
        · have f1 : (r == 92) = true := by simp [c1]
          have low : k = 1 ∧ (l.getD i 0).toNat = 92 := by
            rcases HW.out with ⟨_, h1, h2⟩ | ⟨h, _, _⟩
            · exact ⟨h2, by omega⟩
            · omega
          have LOW := Lib.hid low; clear low
          go_wp2
          go_roundw
          case rel => exact ⟨i + k, true, hkl, rfl, rfl, by rw [LOW.out.1]; exact SK.out.slash hlt LOW.out.2⟩
          case measure => simp; omega
        · have f1 : (r == 92) = false := by simp [c1]
          by_cases c2 : r = 34
          · have f2 : (r == 34) = true := by simp [c2]
            have low : (l.getD i 0).toNat = 34 := by
              rcases HW.out with ⟨_, h1, h2⟩ | ⟨h, _, _⟩
              · omega
              · omega
            have LOW := Lib.hid low; clear low
            go_wp2
            go_ret2
            rw [SK.out.stop hlt LOW.out]
            exact ⟨rfl, (Below.refl _ _).alloc (Nat.le_refl _) _⟩
          · have f2 : (r == 34) = false := by simp [c2]
            have pl : (k = 1 ∧ (l.getD i 0).toNat ≠ 34 ∧ (l.getD i 0).toNat ≠ 92) ∨ ∀ j, i ≤ j → j < i + k → 128 ≤ (l.getD j 0).toNat := by
              rcases HW.out with ⟨_, h1, h2⟩ | ⟨_, _, h⟩
              · exact .inl ⟨h2, by omega, by omega⟩
              · exact .inr h
            have PL := Lib.hid pl; clear pl
            go_wp2
            go_roundw
            case rel => exact ⟨i + k, false, hkl, rfl, rfl, SK.out.plain hk1 hkl PL.out⟩
            case measure => simp; omega
    · obtain rfl : i = l.length := by omega
      have hnx := fun ty => run_next_end (P := Tryd.prog) w ⟨l.toArray⟩ l.length ty (by rw [size_toArray]; omega)
      go_wp2
      go_ret2
      rw [SK.out.none]
      exact ⟨rfl, (Below.refl _ _).alloc (Nat.le_refl _) _⟩
end Go.Proofs.YtkhfgddjnnibdaaDoor
