/-
  Texts that belong together, one behind the other.
-/
import Derived.Test.YtgbmbemmkadagaaFu01
import Derived.Test.YtgbmbemmkadagaaFu02
/-
  Bytes that are read alone.
-/
namespace Go.Proofs.Ytgbmbemmkadagaa
open Go.RowKit
set_option linter.unusedVariables false

/-- Bytes that are read alone. -/
def Red (w : World) (v : Value) (l : List UInt8) : Prop := ∃ a c, v = .slice a l.length c ∧ BAt w a l ∧ (a = none → l.length = 0 ∧ c = 0) ∧ l.length ≤ c ∧ c ≤ maxLen
theorem Red.below {w w' : World} {v : Value} {l : List UInt8} (h : Red w v l) {B : Nat} (hb : Below B w w') (hB : w.heap.size ≤ B) : Red w' v l := by
  obtain ⟨a, c, e, hba, r⟩ := h
  exact ⟨a, c, e, hba.below hb hB, r⟩
theorem Red.none (w : World) : Red w (.slice none 0 0) [] := ⟨.none, 0, rfl, BAt.nil w _, fun _ => ⟨rfl, rfl⟩, Nat.le_refl _, Nat.zero_le _⟩
end Go.Proofs.Ytgbmbemmkadagaa

/-
  Parts of rows of bytes (cut out of Fd).
-/
namespace Go.Proofs.Ytgbmbemmkadagaa
open Go.RowKit
set_option linter.unusedVariables false
set_option linter.unusedSimpArgs false

theorem word32 {x2 x3 x4 x5 : Int} (h2 : 0 ≤ x2 ∧ x2 < 256) (h3 : 0 ≤ x3 ∧ x3 < 256) (h4 : 0 ≤ x4 ∧ x4 < 256) (h5 : 0 ≤ x5 ∧ x5 < 256) :
    bits .or .u32 (bits .or .u32 (bits .or .u32 (x2 * 16777216) (x3 * 65536)) (x4 * 256)) x5 = x2 * 16777216 + x3 * 65536 + x4 * 256 + x5 := word_or .u32 32 (by decide) (by decide) wraps_u32 _ _ _ _ h2 h3 h4 h5
theorem index_u8c (w : World) (b o n c k : Nat) (hk : k < n) (i : Int) (hi : i = (k : Int)) :
    (Instr.indexAt 32 (.slice (some ⟨b, o, none⟩) n c) (.int .i64 i)).run Try.prog w = .ok (.pointer (some ⟨b, o + k, none⟩)) w := by
  have ee : Try.prog.elem 32 = 5 := by kernel_rfl
  rw [run_indexAt_slice w 32 ⟨b, o, none⟩ n c .i64 i (by rw [ee]; exact Try.underlying32), if_pos (by omega), ee, size_u8]
  simp only [Result.andThen_ok, show i.toNat = k by omega, Nat.mul_one, addr_add]
theorem BAt.cut {w : World} {b o : Nat} {l : List UInt8} (h : BAt w (some ⟨b, o, none⟩) l) (i n : Nat) (hi : i + n ≤ l.length) : BAt w (some ⟨b, o + i, none⟩) ((l.drop i).take n) := fun hp => by
  have hl : ((l.drop i).take n).length = n := by rw [List.length_take, List.length_drop]; omega
  obtain ⟨b', o', e, hb, hc⟩ := h (by omega)
  cases e
  refine ⟨b, o + i, rfl, hb, fun j hj => ?_⟩
  rw [Nat.add_assoc, hc (i + j) (by omega)]
  simp
theorem BAt.first {w : World} {b o : Nat} {l : List UInt8} (h : BAt w (some ⟨b, o, none⟩) l) (n : Nat) (hn : n ≤ l.length) : BAt w (some ⟨b, o, none⟩) (l.take n) := by
  have := h.cut 0 n (by omega)
  rwa [List.drop_zero, Nat.add_zero] at this
end Go.Proofs.Ytgbmbemmkadagaa
