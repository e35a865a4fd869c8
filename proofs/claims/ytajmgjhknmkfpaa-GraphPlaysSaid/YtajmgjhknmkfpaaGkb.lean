/-
  Frame: a slice of ids, opened.
-/
import Derived.Test.YtajmgjhknmkfpaaGka
namespace Go.Proofs.Ytajmgjhknmkfpaa
open Go.ChangeShapes Go.WideShapes Go.ChangeAt Go.RowKit Go.Deep
set_option linter.unusedVariables false
set_option maxRecDepth 100000

theorem ids_of_cells {H : Type} {enc : TypeId × Value → H} {W : World} {base fuel : Nat} {cs : List Value} {y : DataW H × List MemPlace} (h : DataW.trod enc Try.prog W base (fun _ => true) true fuel 23 cs = some y) :
    ∃ (a : Option Addr) (n c : Nat) (l : List (List UInt8)), cs = [.slice a n c] ∧ n = l.length ∧ IdsAt W a l ∧ (a = none → n = 0 ∧ c = 0) ∧ (n ≤ c ∧ c ≤ maxLen) ∧ ∀ i ∈ l, i.length = 20 := by
  rcases open_slice Try.underlying23 h with ⟨hcs, _⟩ | ⟨x, len, cap, m, q, D, Pl, hcs, hb, hl, hm, hmm, _, hx⟩
  · exact ⟨none, 0, 0, [], hcs, rfl, IdsAt.nil _ _, fun _ => ⟨rfl, rfl⟩, ⟨Nat.le_refl _, Nat.zero_le _⟩, fun i hi => (by cases hi)⟩
  · have hmc : m = cap := by simpa using hmm
    have c20 : Try.prog.cellsOf 32 = 20 := by kernel_rfl
    rw [c20] at hx
    have each : ∀ r, r < len → ∃ i : List UInt8, (∀ j v, (cellsD i)[j]? = some v → W.cell? ((x.add (r * 20)).add j) = some v) ∧ i.length = 20 := by
      intro r hr
      obtain ⟨cs', h1, h2⟩ := hx r (by omega)
      obtain ⟨_, hlen, hcell⟩ := World.cells?_some h1
      obtain ⟨i, rfl, k1⟩ := id_of_cells hlen h2
      refine ⟨i, fun j v hj => ?_, k1⟩
      obtain ⟨hjl, hje⟩ := List.getElem?_eq_some_iff.1 hj
      have := hcell j (by rw [cellsD_len i k1] at hjl; exact hjl)
      rw [this, List.getElem?_eq_getElem hjl, hje]
    obtain ⟨z, hz⟩ := choose_lt each
    have first : ∀ r, r < len → ∃ v, (cellsD (z r))[0]? = some v := fun r hr => ⟨_, List.getElem?_eq_getElem (by rw [cellsD_len _ (hz r hr).2]; decide)⟩
    refine ⟨some x, len, cap, (List.range len).map z, hcs, by simp, ?_, (fun h => by cases h), ⟨hl, hm⟩, ?_⟩
    · intro hp
      have hp2 : 0 < len := by simpa using hp
      obtain ⟨v0, hv0⟩ := first 0 hp2
      obtain ⟨b, o, rfl⟩ : ∃ b o, x = ⟨b, o, none⟩ := by
        have := (hz 0 hp2).1 0 _ hv0
        rw [Nat.zero_mul, show (x.add 0).add 0 = x by unfold Addr.add; simp] at this
        exact spot_noneD this
      have add_eq : ∀ r s, ((⟨b, o, none⟩ : Addr).add r).add s = ⟨b, o + r + s, none⟩ := fun r s => by unfold Addr.add; split <;> split <;> simp_all
      have hlt : b < W.heap.size := by
        have := (hz 0 hp2).1 0 _ hv0
        rw [add_eq] at this
        exact lt_of_cell this
      refine ⟨b, o, rfl, hlt, fun k hk j v hv => ?_⟩
      have hk2 : k < len := by simpa using hk
      have e : ((List.range len).map z)[k] = z k := by simp
      rw [e] at hv
      have := (hz k hk2).1 j v hv
      rwa [add_eq] at this
    · intro i hi
      obtain ⟨k, hk, rfl⟩ := List.mem_map.1 hi
      exact (hz k (List.mem_range.1 hk)).2
end Go.Proofs.Ytajmgjhknmkfpaa
