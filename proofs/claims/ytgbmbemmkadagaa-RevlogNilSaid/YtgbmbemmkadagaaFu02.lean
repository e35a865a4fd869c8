/-
  Texts that belong together, one behind the other.
-/
import Derived.Test.YtgbmbemmkadagaaFu01
import Derived.Laws.BitsLemmas
/-
  Parts of slices of bytes (cut out of St).
-/
namespace Go.Proofs.Ytgbmbemmkadagaa
open Go.RowKit
set_option linter.unusedVariables false
set_option linter.unusedSimpArgs false

theorem size_u8 (w : World) : (sizeOf 5).run Try.prog w = .ok 1 w := Try.sizeOf5 w
theorem slice_u8_l (w : World) (a : Option Addr) (len cap k : Nat) (h : k ≤ len) (l : Int) (hl : l = (k : Int)) :
    (Instr.sliceAt 32 (.slice a len cap) (some (.int .i64 l)) none none).run Try.prog w = .ok (.slice (if cap = k then a else a.map (·.add k)) (len - k) (cap - k)) w := by
  have ee : Try.prog.elem 32 = 5 := by kernel_rfl
  rw [run_sliceAt_slice (P := Try.prog) (w := w) 32 _ _ _ _ (by rw [ee]; exact Try.underlying32), run_slice_l (P := Try.prog) (w := w) 32 a len cap (by rw [ee]; exact Try.underlying32) .i64 l (by omega) (by omega), ee, size_u8]
  simp only [Result.andThen_ok, sliced, show l.toNat = k by omega, Nat.mul_one]
theorem slice_u8_lh (w : World) (a : Option Addr) (len cap k m : Nat) (h : k ≤ m) (h2 : m ≤ cap) (l r : Int) (hl : l = (k : Int)) (hr : r = (m : Int)) :
    (Instr.sliceAt 32 (.slice a len cap) (some (.int .i64 l)) (some (.int .i64 r)) none).run Try.prog w = .ok (.slice (if cap = k then a else a.map (·.add k)) (m - k) (cap - k)) w := by
  have ee : Try.prog.elem 32 = 5 := by kernel_rfl
  rw [run_sliceAt_slice (P := Try.prog) (w := w) 32 _ _ _ _ (by rw [ee]; exact Try.underlying32), run_slice_lh (P := Try.prog) (w := w) 32 a len cap (by rw [ee]; exact Try.underlying32) .i64 .i64 l r (by omega) (by omega) (by omega), ee, size_u8]
  simp only [Result.andThen_ok, sliced, show l.toNat = k by omega, show r.toNat = m by omega, Nat.mul_one]
theorem addr_add (b o k : Nat) : (⟨b, o, none⟩ : Addr).add k = ⟨b, o + k, none⟩ := by unfold Addr.add; split <;> simp_all
end Go.Proofs.Ytgbmbemmkadagaa

/-
  Words of four bytes by or (cut out of Fp).
-/
namespace Go.Proofs.Ytgbmbemmkadagaa
open Go
set_option linter.unusedVariables false

theorem wraps_i64 (n : Int) (h₀ : 0 ≤ n) (h₁ : n < 2 ^ 63) : IntKind.i64.wrap n = n := by rw [IntKind.wrap_i64]; omega
theorem wraps_u32 (n : Int) (h₀ : 0 ≤ n) (h₁ : n < 2 ^ 32) : IntKind.u32.wrap n = n := by rw [IntKind.wrap_u32]; omega
theorem word_or (k : IntKind) (j : Nat) (hb : (4294967296 : Int) ≤ 2 ^ j) (hj : j ≤ k.bits) (hk : ∀ n : Int, 0 ≤ n → n < 2 ^ j → k.wrap n = n) (p q r s : Int) (hp : 0 ≤ p ∧ p < 256) (hq : 0 ≤ q ∧ q < 256) (hr : 0 ≤ r ∧ r < 256) (hs : 0 ≤ s ∧ s < 256) :
    bits .or k (bits .or k (bits .or k (p * 16777216) (q * 65536)) (r * 256)) s = p * 16777216 + q * 65536 + r * 256 + s := by
  have e24 : (2 : Int) ^ 24 = 16777216 := by decide
  have e16 : (2 : Int) ^ 16 = 65536 := by decide
  have e8 : (2 : Int) ^ 8 = 256 := by decide
  have j1 : bits .or k (p * 16777216) (q * 65536) = p * 16777216 + q * 65536 := bits_join k j hj hk 24 _ _ (by omega) (by rw [e24]; omega) (by omega) (by omega) (by rw [e24]; omega) (by omega)
  have j2 : bits .or k (p * 16777216 + q * 65536) (r * 256) = p * 16777216 + q * 65536 + r * 256 := bits_join k j hj hk 16 _ _ (by omega) (by rw [e16]; omega) (by omega) (by omega) (by rw [e16]; omega) (by omega)
  have j3 : bits .or k (p * 16777216 + q * 65536 + r * 256) s = p * 16777216 + q * 65536 + r * 256 + s := bits_join k j hj hk 8 _ _ (by omega) (by rw [e8]; omega) (by omega) (by omega) (by rw [e8]; omega) (by omega)
  rw [j1, j2, j3]
theorem u8_in (p : UInt8) : 0 ≤ (p.toNat : Int) ∧ (p.toNat : Int) < 256 := ⟨by omega, by have := p.toNat_lt; omega⟩
theorem word_u32 (p q r s : UInt8) : bits .or .u32 (bits .or .u32 (bits .or .u32 ((p.toNat : Int) * 16777216) ((q.toNat : Int) * 65536)) ((r.toNat : Int) * 256)) (s.toNat : Int) = ((p.toNat * 16777216 + q.toNat * 65536 + r.toNat * 256 + s.toNat : Nat) : Int) :=
  (word_or .u32 32 (by decide) (by decide) wraps_u32 _ _ _ _ (u8_in p) (u8_in q) (u8_in r) (u8_in s)).trans (by omega)
theorem word_i64 (p q r s : UInt8) : bits .or .i64 (bits .or .i64 (bits .or .i64 ((p.toNat : Int) * 16777216) ((q.toNat : Int) * 65536)) ((r.toNat : Int) * 256)) (s.toNat : Int) = ((p.toNat * 16777216 + q.toNat * 65536 + r.toNat * 256 + s.toNat : Nat) : Int) :=
  (word_or .i64 63 (by decide) (by decide) wraps_i64 _ _ _ _ (u8_in p) (u8_in q) (u8_in r) (u8_in s)).trans (by omega)
end Go.Proofs.Ytgbmbemmkadagaa
