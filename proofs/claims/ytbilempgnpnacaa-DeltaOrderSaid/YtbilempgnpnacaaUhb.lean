/-
  A literal of one element of a row (cut out of Uh).
-/
import Derived.Test.YtbilempgnpnacaaUcr
import Derived.Test.YtbilempgnpnacaaZiz
import Derived.Great.BuildSlice
import Derived.Great.FillDense
namespace Go.Proofs.Ytbilempgnpnacaa
set_option maxRecDepth 20000
open Go.RowKit
set_option linter.unusedVariables false
set_option linter.unusedSimpArgs false

section
variable {α : Type} {R : RowT α} {P : Program}
theorem build_fill {n : Nat} (hn : 0 < n) (A : Array Value) (hA : A.size = n) (z : Array Value) : Instr.fill (fun i => some (i * n, n)) ((Array.range (1 * n)).map (z[· % z.size]!)) [(0, .agg A)] = some A := by
  have h := Great.fill_whole (s := n) hn [.agg A] ((Array.range (1 * n)).map (z[· % z.size]!)) (fun v hv => by simp at hv; subst hv; exact hA) (by simp)
  simpa [Value.cells] using h
theorem wp_build_oneR (G : R.Good P) {o : Oper} {a : Act} {w : World} {K : Act → World → Prop} {Q : Exit → Act → World → Prop} (x : Operand) (ho : o.op = .buildSlice R.sl 1 #[(0, x)])
    (A : Array Value) (hA : A.size = R.size) (hx : a.eval x = .agg A)
    (h : K (a.put o.dst (.slice (some ⟨w.heap.size, 0, none⟩) 1 1)) (w.alloc (.cells A R.ty))) : o.wp P a w K Q := by
  obtain ⟨ie, z, hie, hz, hs, _, hzs⟩ := G.info
  have h1 := G.small.1
  have h2 := G.pos
  refine wp_buildSlice R.sl R.ty 1 _ ho A ie z G.under hie hz (by rw [hs]; omega) (by rw [hs]; omega) ?_ h
  rw [hs]
  have e : (Array.map (fun (p : Nat × Operand) => (p.1, a.eval p.2)) #[(0, x)]).toList = [(0, .agg A)] := by simp [hx]
  rw [show (fun (p : Nat × Operand) => match p with | (i, x) => (i, a.eval x)) = (fun (p : Nat × Operand) => (p.1, a.eval p.2)) from rfl, e]
  exact build_fill h2 A hA _
theorem wpList_build_oneR (G : R.Good P) {ops : Array Oper} {rest : List Oper} {o : Oper} {a : Act} {w : World} {Q : Exit → Act → World → Prop} (hgd : o.guard = none) (x : Operand) (ho : o.op = .buildSlice R.sl 1 #[(0, x)])
    (A : Array Value) (hA : A.size = R.size) (hx : a.eval x = .agg A)
    (h : wpList P ops Q rest (a.put o.dst (.slice (some ⟨w.heap.size, 0, none⟩) 1 1)) (w.alloc (.cells A R.ty))) : wpList P ops Q (o :: rest) a w :=
  wpList_plain hgd fun K hK => wp_build_oneR G x ho A hA hx (hK _ _ h)
theorem rowR_one (G : R.Good P) {w : World} {q : Nat} {x : α} {t : TypeId} {fr : Nat × Nat} (h : w.heap[q]? = some (.cells (R.cl x).toArray t fr)) : RowAt R w (some ⟨q, 0, none⟩) [x] := fun _ =>
  ⟨q, 0, rfl, lt_of_heap h, fun k hk j v hv => by
    obtain rfl : k = 0 := by simpa using hk
    simp only [Nat.zero_mul, Nat.zero_add]
    rw [Lib.cell_of_heap h, ← hv]
    show (R.cl x).toArray[j]? = (R.cl x)[j]?
    simp⟩
/-- An operation that has no guard is carried out. -/
theorem stepW {o : Oper} {ops : Array Oper} {a : Act} {w : World} {K : Act → World → Prop} {Q : Exit → Act → World → Prop} (hg : o.guard = none) (h : o.wp P a w K Q) : if Region.wanted o (yielded ops a.tmps) = true then o.wp P a w K Q else K (a.put o.dst undef) w := by
  rw [if_pos]
  · exact h
  · unfold Region.wanted; rw [hg]
end
end Go.Proofs.Ytbilempgnpnacaa
