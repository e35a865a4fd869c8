/-
  Parts of slices of bytes (cut out of St).
-/
import Derived.Test.YtbilempgnpnacaaMm
namespace Go.Proofs.Ytbilempgnpnacaa
open Go.RowKit
set_option linter.unusedVariables false
set_option linter.unusedSimpArgs false

theorem size_u8 (w : World) : (sizeOf 5).run Try.prog w = .ok 1 w := Try.sizeOf5 w
theorem slice_u8_l (w : World) (a : Option Addr) (len cap k : Nat) (h : k ≤ len) (l : Int) (hl : l = (k : Int)) :
    (Instr.sliceAt 22 (.slice a len cap) (some (.int .i64 l)) none none).run Try.prog w = .ok (.slice (if cap = k then a else a.map (·.add k)) (len - k) (cap - k)) w := by
  have ee : Try.prog.elem 22 = 5 := by kernel_rfl
  rw [run_sliceAt_slice (P := Try.prog) (w := w) 22 _ _ _ _ (by rw [ee]; exact Try.underlying22), run_slice_l (P := Try.prog) (w := w) 22 a len cap (by rw [ee]; exact Try.underlying22) .i64 l (by omega) (by omega), ee, size_u8]
  simp only [Result.andThen_ok, sliced, show l.toNat = k by omega, Nat.mul_one]
theorem slice_u8_lh (w : World) (a : Option Addr) (len cap k m : Nat) (h : k ≤ m) (h2 : m ≤ cap) (l r : Int) (hl : l = (k : Int)) (hr : r = (m : Int)) :
    (Instr.sliceAt 22 (.slice a len cap) (some (.int .i64 l)) (some (.int .i64 r)) none).run Try.prog w = .ok (.slice (if cap = k then a else a.map (·.add k)) (m - k) (cap - k)) w := by
  have ee : Try.prog.elem 22 = 5 := by kernel_rfl
  rw [run_sliceAt_slice (P := Try.prog) (w := w) 22 _ _ _ _ (by rw [ee]; exact Try.underlying22), run_slice_lh (P := Try.prog) (w := w) 22 a len cap (by rw [ee]; exact Try.underlying22) .i64 .i64 l r (by omega) (by omega) (by omega), ee, size_u8]
  simp only [Result.andThen_ok, sliced, show l.toNat = k by omega, show r.toNat = m by omega, Nat.mul_one]
theorem addr_add (b o k : Nat) : (⟨b, o, none⟩ : Addr).add k = ⟨b, o + k, none⟩ := by unfold Addr.add; split <;> simp_all
end Go.Proofs.Ytbilempgnpnacaa
