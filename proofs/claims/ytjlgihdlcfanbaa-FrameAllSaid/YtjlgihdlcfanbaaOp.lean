/-
  A slice of slices of bytes that came in, opened.
-/
import Derived.Test.YtjlgihdlcfanbaaPi
import Derived.Test.YtjlgihdlcfanbaaFs
import Derived.Deep.Slices
import Derived.Deep.Strs
namespace Go.Proofs.Ytjlgihdlcfanbaa
open Go.ChangeShapes Go.WideShapes Go.ChangeAt Go.RowKit Go.Deep
set_option linter.unusedVariables false

theorem spot_none {W : World} {a : Addr} {v : Value} (h : W.cell? a = some v) : ∃ b o, a = ⟨b, o, none⟩ := by
  obtain ⟨b, o, s⟩ := a
  have := World.cell?_spot h
  exact ⟨b, o, by simpa using this⟩
theorem open_parts {H : Type} {enc : TypeId × Value → H} {W : World} {base fuel : Nat} {c : Value} {x : DataW H × List MemPlace} (h : DataW.trod enc Try.prog W base (fun _ => true) true fuel 34 [c] = some x) :
    ∃ pa np pc, ∃ ls : List (List UInt8), c = .slice pa np pc ∧ np = ls.length ∧ np ≤ maxLen ∧ PartsIn (fun k => k < W.heap.size) W pa ls := by
  rcases open_slice1 Try.underlying34 (by kernel_rfl) h with ⟨hcs, _⟩ | ⟨a, len, cap, m, n, V, D, Pl, hcs, hb, hl, hm, hmm, _, hx⟩
  · exact ⟨none, 0, 0, [], by simpa using hcs, rfl, Nat.zero_le _, fun h => absurd h (Nat.lt_irrefl 0)⟩
  · have hmc : m = cap := by simpa using hmm
    have each : ∀ r, r < len → ∃ y : Option Addr × Nat × List UInt8, W.cell? (a.add r) = some (.slice y.1 y.2.2.length y.2.1) ∧ BAt W y.1 y.2.2 ∧ (y.1 = none → y.2.2.length = 0 ∧ y.2.1 = 0) ∧ y.2.2.length ≤ maxLen := by
      intro r hr
      obtain ⟨h1, h2⟩ := hx r (by omega)
      have hs : ∃ A L C, V r = .slice A L C := by
        rcases DataW.trod_slice Try.underlying22 h2 with ⟨e, _⟩ | ⟨a', len', cap', _, _, _, _, e, _⟩
        · exact ⟨none, 0, 0, by simpa using e⟩
        · exact ⟨some a', len', cap', by simpa using e⟩
      obtain ⟨A, L, C, hV⟩ := hs
      rw [hV] at h1 h2
      obtain ⟨l, e1, e2, e3, e4⟩ := open_bytes (d := D r) (p := Pl r) ⟨n, by simpa [Value.cells] using h2⟩
      exact ⟨(A, C, l), by rw [h1, e1], e2, fun h => by have := e3 h; rw [e1] at this; exact this, by rw [← e1]; exact Nat.le_trans e4.1 e4.2⟩
    obtain ⟨y, hy⟩ := choose_lt each
    refine ⟨some a, len, cap, (List.range len).map fun r => (y r).2.2, by simpa using hcs, by simp, Nat.le_trans hl hm, fun hp => ?_⟩
    have hp2 : 0 < len := by simpa using hp
    obtain ⟨b, o, rfl⟩ : ∃ b o, a = ⟨b, o, none⟩ := by
      have := (hy 0 hp2).1
      rw [show a.add 0 = a by unfold Addr.add; simp] at this
      exact spot_none this
    have add_eq : ∀ r, (⟨b, o, none⟩ : Addr).add r = ⟨b, o + r, none⟩ := fun r => by unfold Addr.add; split <;> simp_all
    have hlt : b < W.heap.size := lt_of_cell (a := (⟨b, o, none⟩ : Addr).add 0) (hy 0 hp2).1 |> fun h => by rw [add_eq] at h; exact h
    refine ⟨b, o, rfl, hlt, hlt, fun i hi => ?_⟩
    have hi2 : i < len := by simpa using hi
    obtain ⟨g1, g2, g3, g4⟩ := hy i hi2
    rw [add_eq] at g1
    have e : ((List.range len).map fun r => (y r).2.2)[i] = (y i).2.2 := by simp
    rw [e]
    exact ⟨(y i).1, (y i).2.1, g1, fun hp => by obtain ⟨b', o', k1, k2, k3⟩ := g2 hp; exact ⟨b', o', k1, k2, k2, k3⟩, g3, g4⟩
end Go.Proofs.Ytjlgihdlcfanbaa
