/-
  An object that came in by value, opened.
-/
import Derived.Test.YtbcbbkdfdfgnfaaDoorFs
import Derived.Lib.SmallJoins
namespace Go.Proofs.YtbcbbkdfdfgnfaaDoor
open Go.ChangeShapes Go.WideShapes Go.ChangeAt Go.RowKit Go.Lib Go.Joins
set_option linter.unusedVariables false

set_option maxRecDepth 100000 in
theorem open_object {H : Type} {enc : TypeId × Value → H} {W : World} {b0 base : Nat} {v : Value} {d : DataW H} {p : List MemPlace} (hv : Value.okWide Tryd.prog W .any b0 24 v) (h : DataW.Trod enc Tryd.prog W base (fun _ => true) true 24 v d p) :
    ∃ (k : Int) (a : Option Addr) (n c : Nat) (l : List UInt8), v = .agg #[.int .i64 k, .slice a n c] ∧ n = l.length ∧ BAt W a l ∧ (a = none → n = 0 ∧ c = 0) ∧ (n ≤ c ∧ c ≤ maxLen) ∧ (-9223372036854775808 ≤ k ∧ k ≤ 9223372036854775807) := by
  have hc : Tryd.prog.cellsOf 24 = 2 := by kernel_rfl
  obtain ⟨c0, c1, y0, y1, m, rfl, rfl, rfl, h0, h1⟩ := open_agg2 Tryd.underlying24 (by kernel_rfl) hc hv h
  obtain ⟨k, e0, z0, w0⟩ := DataW.trod_int Tryd.underlying3 h0
  simp only [List.cons.injEq, and_true] at e0
  subst e0
  have hk : -9223372036854775808 ≤ k ∧ k ≤ 9223372036854775807 := by
    have e1 : IntKind.i64.min = -9223372036854775808 := rfl
    have e2 : IntKind.i64.max = 9223372036854775807 := rfl
    simpa [Lit.wf, e1, e2] using w0
  have hs : ∃ (a : Option Addr) (n c : Nat), c1 = .slice a n c := by
    rcases open_ints Tryd.underlying22 Tryd.underlying5 (by kernel_rfl) h1 with ⟨hcs, _⟩ | ⟨x, l, c', zs, hcs, _⟩
    · simp at hcs
      exact ⟨_, _, _, hcs⟩
    · simp at hcs
      exact ⟨_, _, _, hcs⟩
  obtain ⟨a, n, c, rfl⟩ := hs
  have ht : DataW.Trod enc Tryd.prog W base (fun _ => true) true 22 (.slice a n c) y1.1 y1.2 := ⟨m, by simpa [Value.cells] using h1⟩
  obtain ⟨l, h2, h3, h4, h5⟩ := open_bytes ht
  exact ⟨k, a, n, c, l, rfl, h2, h3, h4, h5, hk⟩
end Go.Proofs.YtbcbbkdfdfgnfaaDoor
