/-
  The walk of QuotePlain, over its parts.
-/
import Derived.Test.YtefljlbkdjaloaaDoorWQpA
import Derived.Test.YtefljlbkdjaloaaDoorWQpB
import Derived.Test.YtefljlbkdjaloaaDoorWQpC
import Derived.Test.YtefljlbkdjaloaaDoorWQpD
import Derived.Test.YtefljlbkdjaloaaDoorWQpE
namespace Go.Proofs.YtefljlbkdjaloaaDoor.quotePlain
open Go.RowKit
set_option linter.unusedVariables false

theorem walk (w : World) (a : Option Addr) (n c : Nat) (nm : n ≤ maxLen ∧ (0 < n → ∃ b o, a = some ⟨b, o, none⟩ ∧ b < w.heap.size ∧ ∀ i, i < n → ∃ x : Int, w.cell? ⟨b, o + i, none⟩ = some (.int .i64 x)))
    (x : Int) (x0 : -9223372036854775808 ≤ x) (x1 : x ≤ 9223372036854775807) (b : Int) (hb0 : 0 ≤ b) (hb1 : b ≤ 255) (tab : Tab w) :
    Calls Tryd.prog 7 #[.slice a n c, .int .i64 x, .int .u8 b] w fun e w' => e = .returned (.bool true) ∧ Below w.heap.size w w' := by
  by_cases h : n = 0 ∨ 100 < n
  · exact walk_off w a n c nm.1 x b tab h
  · obtain ⟨cb, rfl⟩ : ∃ cb : UInt8, b = (cb.toNat : Int) := ⟨UInt8.ofNat b.toNat, by rw [UInt8.toNat_ofNat']; omega⟩
    have h0 : 0 < n := by omega
    have h1 : n ≤ 100 := by omega
    have hc := nm.2 h0
    have ob := okB_iff cb
    cases ho : okB cb with
    | true =>
      obtain ⟨a1, a2, a3, a4⟩ := ob.1 ho
      exact notodd w a n c nm.1 x cb (Lib.hid ho) (decide_eq_false (by omega)) (beq_eq_false_iff_ne.2 (by omega)) (beq_eq_false_iff_ne.2 (by omega)) (decide_eq_false (by omega)) tab h0 h1 hc
    | false =>
      have h2 : ¬ (32 < cb.toNat ∧ cb.toNat < 127 ∧ cb.toNat ≠ 34 ∧ cb.toNat ≠ 92) := fun h => by have := ob.2 h; rw [ho] at this; cases this
      by_cases b1 : (cb.toNat : Int) ≤ 32
      · exact oddA w a n c nm.1 x cb (Lib.hid ho) (decide_eq_true b1) tab h0 h1 hc
      · by_cases b2 : (cb.toNat : Int) = 34
        · exact oddB w a n c nm.1 x cb (Lib.hid ho) (decide_eq_false b1) (beq_iff_eq.2 b2) tab h0 h1 hc
        · by_cases b3 : (cb.toNat : Int) = 92
          · exact oddC w a n c nm.1 x cb (Lib.hid ho) (decide_eq_false b1) (beq_eq_false_iff_ne.2 b2) (beq_iff_eq.2 b3) tab h0 h1 hc
          · exact oddD w a n c nm.1 x cb (Lib.hid ho) (decide_eq_false b1) (beq_eq_false_iff_ne.2 b2) (beq_eq_false_iff_ne.2 b3) (decide_eq_true (by omega)) tab h0 h1 hc
end Go.Proofs.YtefljlbkdjaloaaDoor.quotePlain
