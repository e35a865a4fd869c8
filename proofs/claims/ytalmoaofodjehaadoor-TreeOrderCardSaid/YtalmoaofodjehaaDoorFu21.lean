/-
  Texts that belong together, one behind the other.
-/
import Derived.Test.YtalmoaofodjehaaDoorFu19
import Derived.Test.YtalmoaofodjehaaDoorFu20
import Derived.Deep.Slices
/-
  A slice of ints that came in, opened.
-/
namespace Go.Proofs.YtalmoaofodjehaaDoor
open Go.ChangeShapes Go.WideShapes Go.ChangeAt Go.RowKit
set_option linter.unusedVariables false

/-- A slice of ints that came in. -/
theorem open_nums {H : Type} {enc : TypeId × Value → H} {W : World} {base : Nat} {a : Option Addr} {n c : Nat} {d : DataW H} {p : List MemPlace} (h : DataW.Trod enc Tryd.prog W base (fun _ => true) true 44 (.slice a n c) d p) :
    n ≤ maxLen ∧ (0 < n → ∃ b o, a = some ⟨b, o, none⟩ ∧ b < W.heap.size ∧ ∀ i, i < n → ∃ x : Int, W.cell? ⟨b, o + i, none⟩ = some (.int .i64 x)) := by
  obtain ⟨fuel, hf⟩ := h
  rcases open_ints Tryd.underlying44 Tryd.underlying3 (by kernel_rfl) hf with ⟨hcs, _⟩ | ⟨x, l, c', zs, hcs, _, hl, hm, hz, _, hcell, hwz⟩
  · simp [Value.cells] at hcs
    obtain ⟨rfl, rfl, rfl⟩ := hcs
    exact ⟨Nat.zero_le _, fun h => absurd h (Nat.lt_irrefl 0)⟩
  · simp [Value.cells] at hcs
    obtain ⟨rfl, rfl, rfl⟩ := hcs
    have hzl : zs.length = c := by simpa using hz
    refine ⟨Nat.le_trans hl hm, fun hp => ?_⟩
    obtain ⟨b, o, rfl, hc⟩ := ints_at hcell (by omega)
    exact ⟨b, o, rfl, lt_of_cell (a := ⟨b, o + 0, none⟩) (hc 0 (by omega)), fun i hi => ⟨_, hc i (by omega)⟩⟩
end Go.Proofs.YtalmoaofodjehaaDoor

/-
  A slice of bools that came in, opened.
-/
namespace Go.Proofs.YtalmoaofodjehaaDoor
open Go.ChangeShapes Go.WideShapes Go.ChangeAt Go.RowKit Go.Deep
set_option linter.unusedVariables false
set_option maxRecDepth 100000

theorem spot_noneB {W : World} {a : Addr} {v : Value} (h : W.cell? a = some v) : ∃ b o, a = ⟨b, o, none⟩ := by
  obtain ⟨b, o, s⟩ := a
  have := World.cell?_spot h
  exact ⟨b, o, by simpa using this⟩
theorem open_bools {H : Type} {enc : TypeId × Value → H} {W : World} {base : Nat} {a : Option Addr} {n c : Nat} {d : DataW H} {p : List MemPlace} (h : DataW.Trod enc Tryd.prog W base (fun _ => true) true 45 (.slice a n c) d p) :
    n ≤ maxLen ∧ (0 < n → ∃ b o, a = some ⟨b, o, none⟩ ∧ b < W.heap.size ∧ ∀ i, i < n → ∃ x : Bool, W.cell? ⟨b, o + i, none⟩ = some (.bool x)) := by
  obtain ⟨fuel, hf⟩ := h
  rcases open_slice1 Tryd.underlying45 (by kernel_rfl) hf with ⟨hcs, _⟩ | ⟨x, len, cap, m, q, V, D, Pl, hcs, hb, hl, hm, hmm, _, hx⟩
  · simp [Value.cells] at hcs
    obtain ⟨rfl, rfl, rfl⟩ := hcs
    exact ⟨Nat.zero_le _, fun h => absurd h (Nat.lt_irrefl 0)⟩
  · simp [Value.cells] at hcs
    obtain ⟨rfl, rfl, rfl⟩ := hcs
    have hmc : m = c := by simpa using hmm
    have each : ∀ r, r < n → ∃ y : Bool, W.cell? (x.add r) = some (.bool y) := by
      intro r hr
      obtain ⟨h1, h2⟩ := hx r (by omega)
      obtain ⟨y, e, _⟩ := DataW.trod_bool Tryd.underlying4 h2
      have e2 : V r = .bool y := by simpa using e
      exact ⟨y, by rw [h1, e2]⟩
    refine ⟨Nat.le_trans hl hm, fun hp => ?_⟩
    obtain ⟨b, o, rfl⟩ : ∃ b o, x = ⟨b, o, none⟩ := by
      obtain ⟨y, e⟩ := each 0 hp
      rw [show x.add 0 = x by unfold Addr.add; simp] at e
      exact spot_noneB e
    have add_eq : ∀ r, (⟨b, o, none⟩ : Addr).add r = ⟨b, o + r, none⟩ := fun r => by unfold Addr.add; split <;> simp_all
    have hlt : b < W.heap.size := by
      obtain ⟨y, e⟩ := each 0 hp
      rw [add_eq] at e
      exact lt_of_cell e
    refine ⟨b, o, rfl, hlt, fun i hi => ?_⟩
    obtain ⟨y, e⟩ := each i hi
    rw [add_eq] at e
    exact ⟨y, e⟩
end Go.Proofs.YtalmoaofodjehaaDoor
