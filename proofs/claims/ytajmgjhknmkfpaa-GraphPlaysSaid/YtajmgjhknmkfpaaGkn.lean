/-
  Layer 12, frame: the nodes that came in, opened.
-/
import Derived.Test.YtajmgjhknmkfpaaLa
import Derived.Test.YtajmgjhknmkfpaaGkb
import Derived.Test.YtajmgjhknmkfpaaGkc
namespace Go.Proofs.Ytajmgjhknmkfpaa
open Go.ChangeShapes Go.WideShapes Go.ChangeAt Go.RowKit Go.Deep Go.Joins
set_option linter.unusedVariables false
set_option linter.unusedSimpArgs false
set_option maxRecDepth 100000

theorem open_ids {H : Type} {enc : TypeId × Value → H} {W : World} {base : Nat} {a : Option Addr} {n c : Nat} {d : DataW H} {p : List MemPlace} (h : DataW.Trod enc Try.prog W base (fun _ => true) true 23 (.slice a n c) d p) :
    ∃ l : List (List UInt8), n = l.length ∧ IdsAt W a l ∧ (a = none → n = 0 ∧ c = 0) ∧ (n ≤ c ∧ c ≤ maxLen) ∧ ∀ i ∈ l, i.length = 20 := by
  obtain ⟨fuel, hf⟩ := h
  obtain ⟨a1, n1, c1, l, e, h1, h2, h3, h4, h5⟩ := ids_of_cells hf
  simp only [Value.cells, List.cons.injEq, Value.slice.injEq, and_true] at e
  obtain ⟨rfl, rfl, rfl⟩ := e
  exact ⟨l, h1, h2, h3, h4, h5⟩
theorem node_of_cells {H : Type} {enc : TypeId × Value → H} {W : World} {base fuel : Nat} {cs : List Value} {x : DataW H × List MemPlace} (h : DataW.trod enc Try.prog W base (fun _ => true) true fuel 34 cs = some x) :
    ∃ e : Ln, cs = cellsL e ∧ LnIn W e := by
  obtain ⟨y0, y1, m, _, hlen, h0, h1⟩ := trod_struct2 Try.underlying34 h
  have c21 : Try.prog.cellsOf 34 = 21 := by kernel_rfl
  have c20 : Try.prog.cellsOf 32 = 20 := by kernel_rfl
  have cb : Try.prog.cellsOf 23 = 1 := by kernel_rfl
  rw [c21] at hlen
  have h0' : DataW.trod enc Try.prog W base (fun _ => true) true m 32 ((cs.drop 0).take 20) = some y0 := by rw [← c20]; exact h0
  have h1' : DataW.trod enc Try.prog W base (fun _ => true) true m 23 ((cs.drop 20).take 1) = some y1 := by rw [← cb]; exact h1
  obtain ⟨i, ei, hi⟩ := id_of_cells (by rw [List.length_take, List.drop_zero]; omega) h0'
  obtain ⟨a1, n, c1, l, el, k1, k2, k3, k4, k5⟩ := ids_of_cells h1'
  subst k1
  refine ⟨⟨i, .slice a1 l.length c1, l⟩, ?_, ⟨⟨hi, _, _, _, rfl⟩, ⟨a1, c1, rfl, k2, k3, k4.1, k4.2, fun _ _ _ => trivial⟩, k5⟩⟩
  have e5 : (cs.drop 20).take 1 = cs.drop 20 := List.take_of_length_le (by rw [List.length_drop]; omega)
  show cs = cellsD i ++ [.slice a1 l.length c1]
  rw [← ei, ← el, e5, List.drop_zero, List.take_append_drop]
theorem open_nodes {H : Type} {enc : TypeId × Value → H} {W : World} {base : Nat} {a : Option Addr} {n c : Nat} {d : DataW H} {p : List MemPlace} (h : DataW.Trod enc Try.prog W base (fun _ => true) true 22 (.slice a n c) d p) :
    ∃ l : List Ln, n = l.length ∧ RowAt rowL W a l ∧ (a = none → n = 0 ∧ c = 0) ∧ (n ≤ c ∧ c ≤ maxLen) ∧ ∀ e ∈ l, LnIn W e := by
  obtain ⟨fuel, hf⟩ := h
  rcases open_slice Try.underlying22 hf with ⟨hcs, _⟩ | ⟨x, len, cap, m, q, D, Pl, hcs, hb, hl, hm, hmm, _, hx⟩
  · simp [Value.cells] at hcs
    obtain ⟨rfl, rfl, rfl⟩ := hcs
    exact ⟨[], rfl, RowAt.nil _ _, fun _ => ⟨rfl, rfl⟩, ⟨Nat.le_refl _, Nat.zero_le _⟩, fun e he => (by cases he)⟩
  · simp [Value.cells] at hcs
    obtain ⟨rfl, rfl, rfl⟩ := hcs
    have hmc : m = c := by simpa using hmm
    have c2 : Try.prog.cellsOf 34 = 21 := by kernel_rfl
    rw [c2] at hx
    have each : ∀ r, r < n → ∃ e : Ln, (∀ j v, (cellsL e)[j]? = some v → W.cell? ((x.add (r * 21)).add j) = some v) ∧ LnIn W e := by
      intro r hr
      obtain ⟨cs', h1, h2⟩ := hx r (by omega)
      obtain ⟨_, hlen, hcell⟩ := World.cells?_some h1
      obtain ⟨e, rfl, k1⟩ := node_of_cells h2
      refine ⟨e, fun j v hj => ?_, k1⟩
      obtain ⟨hjl, hje⟩ := List.getElem?_eq_some_iff.1 hj
      have := hcell j (by rw [← hlen]; exact hjl)
      rw [this, List.getElem?_eq_getElem hjl, hje]
    obtain ⟨z, hz⟩ := choose_lt each
    have first : ∀ r, r < n → ∃ v, (cellsL (z r))[0]? = some v := fun r hr => ⟨_, List.getElem?_eq_getElem (by unfold cellsL; simp)⟩
    refine ⟨(List.range n).map z, by simp, ?_, (fun h => by cases h), ⟨hl, hm⟩, ?_⟩
    · intro hp
      have hp2 : 0 < n := by simpa using hp
      obtain ⟨v0, hv0⟩ := first 0 hp2
      obtain ⟨b, o, rfl⟩ : ∃ b o, x = ⟨b, o, none⟩ := by
        have := (hz 0 hp2).1 0 _ hv0
        rw [Nat.zero_mul, show (x.add 0).add 0 = x by unfold Addr.add; simp] at this
        exact spot_noneD this
      have add_eq : ∀ r s, ((⟨b, o, none⟩ : Addr).add r).add s = ⟨b, o + r + s, none⟩ := fun r s => by unfold Addr.add; split <;> split <;> simp_all
      have hlt : b < W.heap.size := by
        have := (hz 0 hp2).1 0 _ hv0
        rw [add_eq] at this
        exact lt_of_cell this
      refine ⟨b, o, rfl, hlt, fun k hk j v hv => ?_⟩
      have hk2 : k < n := by simpa using hk
      have e : ((List.range n).map z)[k] = z k := by simp
      rw [e] at hv
      have := (hz k hk2).1 j v hv
      rwa [add_eq] at this
    · intro i hi
      obtain ⟨k, hk, rfl⟩ := List.mem_map.1 hi
      exact (hz k (List.mem_range.1 hk)).2
end Go.Proofs.Ytajmgjhknmkfpaa
