/-
  Texts that belong together, one behind the other.
-/
import Derived.Test.YtgbmbemmkadagaaFu03
import Derived.Laws.CopyRow
import Derived.Laws.CopyOwn
import Derived.Laws.Rows
import Derived.Laws.Tables
import Derived.Deep.WholeRow
import Derived.Test.YtgbmbemmkadagaaFu01
/-
  What stands behind the first bytes of a row (cut out of Fal).
-/
namespace Go.Proofs.Ytgbmbemmkadagaa
open Go.RowKit
set_option linter.unusedVariables false
set_option linter.unusedSimpArgs false

theorem bat_drop {w : World} {a : Option Addr} {l : List UInt8} (h : BAt w a l) (c k : Nat) (hk : k ≤ l.length) (hc : l.length ≤ c) : BAt w (if c = k then a else a.map (·.add k)) (l.drop k) := by
  by_cases hp : 0 < (l.drop k).length
  · have hl : k < l.length := by rw [List.length_drop] at hp; omega
    rw [if_neg (by omega)]
    obtain ⟨b, o, rfl, hb, hcell⟩ := h (by omega)
    simp only [Option.map_some, addr_add]
    have := (show BAt w (some ⟨b, o, none⟩) l from fun _ => ⟨b, o, rfl, hb, hcell⟩).cut k (l.length - k) (by omega)
    rwa [List.take_of_length_le (by rw [List.length_drop]; exact Nat.le_refl _)] at this
  · have e : l.drop k = [] := List.eq_nil_of_length_eq_zero (by omega)
    rw [e]; exact BAt.nil _ _
end Go.Proofs.Ytgbmbemmkadagaa

/-
  A zero value of cells, carried by a name; blocks of cells (cut out of Zi).
-/
namespace Go.Proofs.Ytgbmbemmkadagaa
set_option maxRecDepth 20000
open Go.RowKit
set_option linter.unusedVariables false
set_option linter.unusedSimpArgs false

theorem lt_of_heap {w : World} {b : Nat} {o : Obj} (h : w.heap[b]? = some o) : b < w.heap.size := by
  rcases Nat.lt_or_ge b w.heap.size with h' | h'
  · exact h'
  · simp [Array.getElem?_eq_none h'] at h
theorem not_frozen {w : World} {g : Nat} {cs : Array Value} {t : TypeId} (h : w.heap[g]? = some (.cells cs t (0, 0))) (i : Nat) : w.frozen? ⟨g, i, none⟩ = false := by
  simp [World.frozen?, h]
theorem heap_set {w : World} {g : Nat} {cs : Array Value} {t : TypeId} {fr : Nat × Nat} (h : w.heap[g]? = some (.cells cs t fr)) (i : Nat) (v : Value) : (w.setCell ⟨g, i, none⟩ v).heap[g]? = some (.cells (cs.setIfInBounds i v) t fr) := by
  simp [World.setCell, Array.getElem?_modify, h]
theorem set_get (cs : Array Value) (i j : Nat) (v : Value) (h : i < cs.size) : (cs.setIfInBounds i v)[j]? = if j = i then some v else cs[j]? := by
  rw [Array.getElem?_setIfInBounds]
  by_cases e : j = i
  · subst e; simp [h]
  · rw [if_neg (fun q => e q.symm), if_neg e]
/-- An array's zero value, carried by a name. -/
theorem zero_arr {t : TypeId} {n : Nat} {z : Array Value} (h : (Try.prog.info? t).map (fun i => (i.zero, i.size)) = some (some (.agg z), n)) : ∀ w, (zeroValue t).run Try.prog w = .ok (.agg z) w := (zero_of_info h).1
theorem heap_keep {w w' : World} {g : Nat} {o : Obj} (h : w.heap[g]? = some o) (b : Below w.heap.size w w') : w'.heap[g]? = some o := (b.block g (Array.getElem?_eq_some_iff.1 h).1).trans h
end Go.Proofs.Ytgbmbemmkadagaa
