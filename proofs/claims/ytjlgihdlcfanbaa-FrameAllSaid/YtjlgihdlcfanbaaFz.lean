/-
  Layer 5: what the laws' walks share.
-/
import Derived.Test.YtjlgihdlcfanbaaFt2
import Derived.Test.YtjlgihdlcfanbaaFw
import Derived.Test.YtjlgihdlcfanbaaFaw
import Derived.Test.YtjlgihdlcfanbaaHelpB
namespace Go.Proofs.Ytjlgihdlcfanbaa
open Go.RowKit
set_option linter.unusedVariables false
set_option linter.unusedSimpArgs false

theorem Row.below {w w' : World} {v : Value} {l : List UInt8} (h : Row w v l) (hb : Below w.heap.size w w') : Row w' v l := h.chg (Chg.of_below (S := fun _ => False) hb) (fun _ _ h => h)
theorem Row.setAt {w : World} {g c : Nat} {l : List UInt8} (h : Row w (.slice (some ⟨g, 0, none⟩) l.length c) l) (q : Nat) (hq : q < l.length) (y : UInt8) :
    Row (w.setCell ⟨g, q, none⟩ (.int .u8 y.toNat)) (.slice (some ⟨g, 0, none⟩) l.length c) (l.set q y) := by
  rcases h with ⟨a, e, rfl⟩ | ⟨g', cap, cur, e, hh, h1, h2, h3, h4⟩
  · exact absurd hq (Nat.not_lt_zero _)
  · simp only [Value.slice.injEq, Option.some.injEq, Addr.mk.injEq, and_true, true_and] at e
    obtain ⟨rfl, rfl⟩ := e
    refine .inr ⟨g, cap, _, by rw [List.length_set], heap_put hh _, by rw [List.length_set]; exact h1, h2, by simpa using h3, ?_⟩
    rw [List.length_set]
    have e1 : (cur.setIfInBounds q (.int .u8 y.toNat)).toList = cur.toList.set q (.int .u8 y.toNat) := by simp
    rw [e1, List.take_set, h4]
    simp [Lib.byteCells, List.map_set]
theorem Row.free {w : World} {g n c : Nat} {l : List UInt8} (h : Row w (.slice (some ⟨g, 0, none⟩) n c) l) (hp : 0 < l.length) (q : Nat) : w.frozen? ⟨g, q, none⟩ = false := by
  rcases h with ⟨a, e, rfl⟩ | ⟨g', cap, cur, e, hh, h1, h2, h3, h4⟩
  · exact absurd hp (Nat.not_lt_zero _)
  · simp only [Value.slice.injEq, Option.some.injEq, Addr.mk.injEq, and_true, true_and] at e
    obtain ⟨rfl, _⟩ := e
    simp [World.frozen?, hh]
theorem xor_u8 (x y : Int) : ∃ z : UInt8, bits .xor .u8 x y = (z.toNat : Int) := by
  refine ⟨UInt8.ofNat (bits .xor .u8 x y).toNat, ?_⟩
  have h : 0 ≤ bits .xor .u8 x y ∧ bits .xor .u8 x y < 256 := by
    show 0 ≤ IntKind.u8.wrap _ ∧ IntKind.u8.wrap _ < 256
    rw [IntKind.wrap_u8]; omega
  rw [UInt8.toNat_ofNat']
  omega
end Go.Proofs.Ytjlgihdlcfanbaa
