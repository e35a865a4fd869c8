/-
  Layer 4: the deeds that came in, opened.
-/
import Derived.Test.YtghncdoophoieaaTr
import Derived.Test.YtghncdoophoieaaFs
import Derived.Deep.Slices
import Derived.Deep.Strs
namespace Go.Proofs.Ytghncdoophoieaa
open Go.ChangeShapes Go.WideShapes Go.ChangeAt Go.RowKit Go.Deep
set_option linter.unusedVariables false

theorem spot_none {W : World} {a : Addr} {v : Value} (h : W.cell? a = some v) : ∃ b o, a = ⟨b, o, none⟩ := by
  obtain ⟨b, o, s⟩ := a
  have := World.cell?_spot h
  exact ⟨b, o, by simpa using this⟩
theorem open_parts {H : Type} {enc : TypeId × Value → H} {W : World} {base fuel : Nat} {c : Value} {x : DataW H × List MemPlace} (h : DataW.trod enc Try.prog W base (fun _ => true) true fuel 29 [c] = some x) :
    ∃ pa np pc, ∃ ls : List (List UInt8), c = .slice pa np pc ∧ np = ls.length ∧ np ≤ maxLen ∧ PartsIn (fun k => k < W.heap.size) W pa ls := by
  rcases open_slice1 Try.underlying29 (by kernel_rfl) h with ⟨hcs, _⟩ | ⟨a, len, cap, m, n, V, D, Pl, hcs, hb, hl, hm, hmm, _, hx⟩
  · exact ⟨none, 0, 0, [], by simpa using hcs, rfl, Nat.zero_le _, fun h => absurd h (Nat.lt_irrefl 0)⟩
  · have hmc : m = cap := by simpa using hmm
    have each : ∀ r, r < len → ∃ y : Option Addr × Nat × List UInt8, W.cell? (a.add r) = some (.slice y.1 y.2.2.length y.2.1) ∧ BAt W y.1 y.2.2 ∧ (y.1 = none → y.2.2.length = 0 ∧ y.2.1 = 0) ∧ y.2.2.length ≤ maxLen := by
      intro r hr
      obtain ⟨h1, h2⟩ := hx r (by omega)
      have hs : ∃ A L C, V r = .slice A L C := by
        rcases DataW.trod_slice Try.underlying32 h2 with ⟨e, _⟩ | ⟨a', len', cap', _, _, _, _, e, _⟩
        · exact ⟨none, 0, 0, by simpa using e⟩
        · exact ⟨some a', len', cap', by simpa using e⟩
      obtain ⟨A, L, C, hV⟩ := hs
      rw [hV] at h1 h2
      obtain ⟨l, e1, e2, e3, e4⟩ := open_bytes (d := D r) (p := Pl r) ⟨n, by simpa [Value.cells] using h2⟩
      exact ⟨(A, C, l), by rw [h1, e1], e2, fun h => by have := e3 h; rw [e1] at this; exact this, by rw [← e1]; exact Nat.le_trans e4.1 e4.2⟩
    obtain ⟨y, hy⟩ := choose_lt each
    refine ⟨some a, len, cap, (List.range len).map fun r => (y r).2.2, by simpa using hcs, by simp, Nat.le_trans hl hm, fun hp => ?_⟩
    have hp2 : 0 < len := by simpa using hp
    obtain ⟨b, o, rfl⟩ : ∃ b o, a = ⟨b, o, none⟩ := by
      have := (hy 0 hp2).1
      rw [show a.add 0 = a by unfold Addr.add; simp] at this
      exact spot_none this
    have add_eq : ∀ r, (⟨b, o, none⟩ : Addr).add r = ⟨b, o + r, none⟩ := fun r => by unfold Addr.add; split <;> simp_all
    have hlt : b < W.heap.size := lt_of_cell (a := (⟨b, o, none⟩ : Addr).add 0) (hy 0 hp2).1 |> fun h => by rw [add_eq] at h; exact h
    refine ⟨b, o, rfl, hlt, hlt, fun i hi => ?_⟩
    have hi2 : i < len := by simpa using hi
    obtain ⟨g1, g2, g3, g4⟩ := hy i hi2
    rw [add_eq] at g1
    have e : ((List.range len).map fun r => (y r).2.2)[i] = (y i).2.2 := by simp
    rw [e]
    exact ⟨(y i).1, (y i).2.1, g1, fun hp => by obtain ⟨b', o', k1, k2, k3⟩ := g2 hp; exact ⟨b', o', k1, k2, k2, k3⟩, g3, g4⟩
theorem wf_le {x : Int} (h : (Lit.int .i64 x).wf = true) : x ≤ 9223372036854775807 := by
  have e1 : IntKind.i64.min = -9223372036854775808 := rfl
  have e2 : IntKind.i64.max = 9223372036854775807 := rfl
  have : -9223372036854775808 ≤ x ∧ x ≤ 9223372036854775807 := by simpa [Lit.wf, e1, e2] using h
  exact this.2
theorem open_deeds {H : Type} {enc : TypeId × Value → H} {W : World} {base : Nat} {a : Option Addr} {n c : Nat} {d : DataW H} {p : List MemPlace} (h : DataW.Trod enc Try.prog W base (fun _ => true) true 22 (.slice a n c) d p) :
    n ≤ maxLen ∧ DeedsAt W a n := by
  obtain ⟨fuel, hf⟩ := h
  rcases open_slice Try.underlying22 hf with ⟨hcs, _⟩ | ⟨x, len, cap, m, q, D, Pl, hcs, hb, hl, hm, hmm, _, hx⟩
  · simp [Value.cells] at hcs
    obtain ⟨rfl, rfl, rfl⟩ := hcs
    exact ⟨Nat.zero_le _, fun h => absurd h (Nat.lt_irrefl 0)⟩
  · simp [Value.cells] at hcs
    obtain ⟨rfl, rfl, rfl⟩ := hcs
    have hmc : m = c := by simpa using hmm
    have h3 : Try.prog.cellsOf 31 = 3 := by kernel_rfl
    rw [h3] at hx
    have each : ∀ i, i < n → ∃ v0 v1 v2, W.cell? ((x.add (i * 3)).add 0) = some v0 ∧ W.cell? ((x.add (i * 3)).add 1) = some v1 ∧ W.cell? ((x.add (i * 3)).add 2) = some v2 ∧
        (∃ wh, v0 = .int .i64 wh) ∧ (∃ k, v1 = .int .i64 k ∧ k ≤ 9223372036854775807) ∧ ∃ pa np pc, ∃ ls : List (List UInt8), v2 = .slice pa np pc ∧ np = ls.length ∧ np ≤ maxLen ∧ PartsIn (fun k => k < W.heap.size) W pa ls := by
      intro i hi
      obtain ⟨cs', h1, h2⟩ := hx i (by omega)
      obtain ⟨_, hlen, hcell⟩ := World.cells?_some h1
      obtain ⟨y0, y1, y2, q2, _, _, t0, t1, t2⟩ := trod_struct3 Try.underlying31 h2
      match cs', hlen with
      | [v0, v1, v2], _ =>
        obtain ⟨z0, e0, _, _⟩ := DataW.trod_int Try.underlying3 t0
        obtain ⟨z1, e1, _, w1⟩ := DataW.trod_int Try.underlying3 t1
        have t2' : DataW.trod enc Try.prog W base (fun _ => true) true q2 29 [v2] = some y2 := t2
        have e0' : v0 = .int .i64 z0 := by simpa using (show [v0] = [.int .i64 z0] from e0)
        have e1' : v1 = .int .i64 z1 := by simpa using (show [v1] = [.int .i64 z1] from e1)
        exact ⟨v0, v1, v2, hcell 0 (by omega), hcell 1 (by omega), hcell 2 (by omega), ⟨z0, e0'⟩, ⟨z1, e1', wf_le w1⟩, open_parts t2'⟩
    refine ⟨Nat.le_trans hl hm, fun hp => ?_⟩
    obtain ⟨b, o, rfl⟩ : ∃ b o, x = ⟨b, o, none⟩ := by
      obtain ⟨v0, _, _, e, _⟩ := each 0 hp
      rw [Nat.zero_mul, show (x.add 0).add 0 = x by unfold Addr.add; simp] at e
      exact spot_none e
    have add_eq : ∀ r s, ((⟨b, o, none⟩ : Addr).add r).add s = ⟨b, o + r + s, none⟩ := fun r s => by unfold Addr.add; split <;> split <;> simp_all
    have hlt : b < W.heap.size := by
      obtain ⟨v0, _, _, e, _⟩ := each 0 hp
      rw [add_eq] at e
      exact lt_of_cell e
    refine ⟨b, o, rfl, hlt, fun i hi => ?_⟩
    obtain ⟨v0, v1, v2, g0, g1, g2, ⟨wh, rfl⟩, ⟨k, rfl, hk⟩, pa, np, pc, ls, rfl, k1, k2, k3⟩ := each i hi
    rw [add_eq] at g0 g1 g2
    exact ⟨wh, k, pa, np, pc, ls, by simpa using g0, g1, g2, hk, k1, k2, k3⟩
end Go.Proofs.Ytghncdoophoieaa
