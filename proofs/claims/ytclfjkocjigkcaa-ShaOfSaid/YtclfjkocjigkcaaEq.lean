/-
  Layer 2: two ids held against each other.
-/
import Derived.Test.YtclfjkocjigkcaaRs
import Derived.Test.YtclfjkocjigkcaaSaw
import Derived.Stop.BytesEq
namespace Go.Proofs.Ytclfjkocjigkcaa
open Go.RowKit
set_option linter.unusedVariables false

theorem eql_ids (w : World) (l : List UInt8) (h : l.length = 20) (arr : Array Value) (ha : arr = (Lib.byteCells l).toArray) : (binOp .eql 29 (.agg arr) (.agg arr)).run Try.prog w = .ok (.bool true) w := by
  subst ha
  have := run_eql_bytes (P := Try.prog) w 29 5 20 Try.underlying29 Try.underlying5 Try.sizeOf5 l l h h
  rwa [show (l == l) = true by simp] at this
theorem rSum_n (w : World) (A : Option Addr) (n c : Nat) (l : List UInt8) (hn : n = l.length) (hl : l.length ≤ 1000000) (hbat : BAt w A l) (hnone : A = none → l.length = 0 ∧ c = 0) :
    Calls Try.prog 8 #[.slice A n c] w fun e w' => e = .returned (idv (sumL l)) ∧ Below w.heap.size w w' := by
  subst hn; exact rSum_any w A c l hl hbat hnone
theorem bat_cells {w : World} {b : Nat} {l : List UInt8} (hb : b < w.heap.size) (h : ∀ j, j < l.length → w.cell? ⟨b, j, none⟩ = some (.int .u8 (l.getD j 0).toNat)) : BAt w (some ⟨b, 0, none⟩) l := fun hp =>
  ⟨b, 0, rfl, hb, fun i hi => by rw [Nat.zero_add, h i hi]; simp [hi]⟩
theorem one_slice {w : World} {b n c : Nat} {l : List UInt8} (hn : n = l.length) (hc : n ≤ c) (hb : b < w.heap.size) (h : ∀ j, j < n → w.cell? ⟨b, j, none⟩ = some (.int .u8 (l.getD j 0).toNat)) :
    Nonempty (Parts (w.alloc (.cells #[Value.slice (some ⟨b, 0, none⟩) n c] 22)) (some ⟨w.heap.size, 0, none⟩) 1 l) := by
  subst hn
  refine ⟨onePart _ w.heap.size 0 b 0 c l (by simp) ((cell_of_row _ _ 0 _ _ _ (heap_alloc_new w _)).trans rfl) (by simp; omega) hc (fun k hk => ?_)⟩
  rw [Nat.zero_add, World.cell?_alloc_lt w _ ⟨b, k, none⟩ hb]
  exact h k hk
end Go.Proofs.Ytclfjkocjigkcaa
