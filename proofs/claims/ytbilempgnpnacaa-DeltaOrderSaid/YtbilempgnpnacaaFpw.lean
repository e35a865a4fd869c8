/-
  Words of four bytes by or (cut out of Fp).
-/
import Derived.Test.YtbilempgnpnacaaMm
import Derived.Laws.BitsLemmas
namespace Go.Proofs.Ytbilempgnpnacaa
open Go
set_option linter.unusedVariables false

theorem wraps_i64 (n : Int) (h₀ : 0 ≤ n) (h₁ : n < 2 ^ 63) : IntKind.i64.wrap n = n := by rw [IntKind.wrap_i64]; omega
theorem wraps_u32 (n : Int) (h₀ : 0 ≤ n) (h₁ : n < 2 ^ 32) : IntKind.u32.wrap n = n := by rw [IntKind.wrap_u32]; omega
theorem word_or (k : IntKind) (j : Nat) (hb : (4294967296 : Int) ≤ 2 ^ j) (hj : j ≤ k.bits) (hk : ∀ n : Int, 0 ≤ n → n < 2 ^ j → k.wrap n = n) (p q r s : Int) (hp : 0 ≤ p ∧ p < 256) (hq : 0 ≤ q ∧ q < 256) (hr : 0 ≤ r ∧ r < 256) (hs : 0 ≤ s ∧ s < 256) :
    bits .or k (bits .or k (bits .or k (p * 16777216) (q * 65536)) (r * 256)) s = p * 16777216 + q * 65536 + r * 256 + s := by
  have e24 : (2 : Int) ^ 24 = 16777216 := by decide
  have e16 : (2 : Int) ^ 16 = 65536 := by decide
  have e8 : (2 : Int) ^ 8 = 256 := by decide
  have j1 : bits .or k (p * 16777216) (q * 65536) = p * 16777216 + q * 65536 := bits_join k j hj hk 24 _ _ (by omega) (by rw [e24]; omega) (by omega) (by omega) (by rw [e24]; omega) (by omega)
  have j2 : bits .or k (p * 16777216 + q * 65536) (r * 256) = p * 16777216 + q * 65536 + r * 256 := bits_join k j hj hk 16 _ _ (by omega) (by rw [e16]; omega) (by omega) (by omega) (by rw [e16]; omega) (by omega)
  have j3 : bits .or k (p * 16777216 + q * 65536 + r * 256) s = p * 16777216 + q * 65536 + r * 256 + s := bits_join k j hj hk 8 _ _ (by omega) (by rw [e8]; omega) (by omega) (by omega) (by rw [e8]; omega) (by omega)
  rw [j1, j2, j3]
theorem u8_in (p : UInt8) : 0 ≤ (p.toNat : Int) ∧ (p.toNat : Int) < 256 := ⟨by omega, by have := p.toNat_lt; omega⟩
theorem word_u32 (p q r s : UInt8) : bits .or .u32 (bits .or .u32 (bits .or .u32 ((p.toNat : Int) * 16777216) ((q.toNat : Int) * 65536)) ((r.toNat : Int) * 256)) (s.toNat : Int) = ((p.toNat * 16777216 + q.toNat * 65536 + r.toNat * 256 + s.toNat : Nat) : Int) :=
  (word_or .u32 32 (by decide) (by decide) wraps_u32 _ _ _ _ (u8_in p) (u8_in q) (u8_in r) (u8_in s)).trans (by omega)
theorem word_i64 (p q r s : UInt8) : bits .or .i64 (bits .or .i64 (bits .or .i64 ((p.toNat : Int) * 16777216) ((q.toNat : Int) * 65536)) ((r.toNat : Int) * 256)) (s.toNat : Int) = ((p.toNat * 16777216 + q.toNat * 65536 + r.toNat * 256 + s.toNat : Nat) : Int) :=
  (word_or .i64 63 (by decide) (by decide) wraps_i64 _ _ _ _ (u8_in p) (u8_in q) (u8_in r) (u8_in s)).trans (by omega)
end Go.Proofs.Ytbilempgnpnacaa
