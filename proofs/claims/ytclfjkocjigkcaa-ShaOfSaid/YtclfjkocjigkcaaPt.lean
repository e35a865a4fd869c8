/-
  Layer 2: parts that are cut out of one text.
-/
import Derived.Test.YtclfjkocjigkcaaEq
import Derived.Test.YtclfjkocjigkcaaKept
namespace Go.Proofs.Ytclfjkocjigkcaa
open Go.RowKit
set_option linter.unusedVariables false
set_option linter.unusedSimpArgs false

theorem info22 : (Try.prog.info? 22).map (fun i => (i.zero, i.size, i.bytes)) = some (some (.slice none 0 0), 1, 24) := by kernel_rfl
/-- One slice of bytes more. -/
theorem wpList_append_slice {ops : Array Oper} {rest : List Oper} {o : Oper} {a : Act} {w : World} {Q : Exit → Act → World → Prop} (hgd : o.guard = none) (s x : Operand)
    (ho : o.op = .call { callee := .builtin .append, args := #[s, x], argTypes := #[26, 26] })
    (base : Nat) (v : Value) (n : Nat) (xs : List Value) (hs : a.eval s = v) (hown : w.ownsRow base 22 1 v n xs) (ad : Addr) (c : Nat) (hx : a.eval x = .slice (some ad) 1 c) (y : Value) (hy : y.oneCell' = true)
    (hc : w.cell? (ad.add 0) = some y) (hn : n ≤ 1000000) (hbase : base ≤ w.heap.size)
    (h : ∀ v' w', w'.ownsRow base 22 1 v' (n + 1) (xs ++ [y]) → w.grownBy w' v.ownBlock → wpList Try.prog ops Q rest (a.put o.dst v') w') : wpList Try.prog ops Q (o :: rest) a w := by
  obtain ⟨i0, hi, hz0, hz1, hz2⟩ := info_parts info22
  refine wpList_append_own w hgd s x 26 ho base 22 i0 _ 1 24 Try.underlying26 hi hz0 hz1 hz2 rfl (by omega) v n xs hs hown ad 1 c [y] hx rfl (fun j u hu => ?_)
    (fun u hu => by simp at hu; subst hu; exact hy) (by unfold maxLen; omega) (by omega) hbase ?_
  · match j, hu with
    | 0, hu => simp at hu; subst hu; exact hc
  · intro v' w' h2 h3 _
    exact h v' w' h2 h3
/-- The parts so far: cut out of block G, one behind the other, up to a place. -/
structure PR (G L k at_ : Nat) (ofs : Nat → Nat) (xs : List Value) : Prop where
  zero : ofs 0 = 0
  last : ofs k = at_
  le : at_ ≤ L
  mono : ∀ i, i < k → ofs i ≤ ofs (i + 1)
  bound : ∀ i, i ≤ k → ofs i ≤ L
  row : ∀ i, i < k → xs[i]? = some (.slice (some ⟨G, ofs i, none⟩) (ofs (i + 1) - ofs i) (L + 3 - ofs i))
theorem PR.start (G L : Nat) : PR G L 0 0 (fun _ => 0) [] := ⟨rfl, rfl, Nat.zero_le _, fun i h => absurd h (Nat.not_lt_zero _), fun _ _ => Nat.zero_le _, fun i h => absurd h (Nat.not_lt_zero _)⟩
theorem PR.step {G L k at_ : Nat} {ofs : Nat → Nat} {xs : List Value} (h : PR G L k at_ ofs xs) (hl : xs.length = k) (n : Nat) (hn : at_ + n ≤ L) :
    PR G L (k + 1) (at_ + n) (fun i => if i ≤ k then ofs i else at_ + n) (xs ++ [.slice (some ⟨G, at_, none⟩) n (L + 3 - at_)]) where
  zero := by rw [if_pos (Nat.zero_le _)]; exact h.zero
  last := by rw [if_neg (by omega)]
  le := hn
  mono := fun i hi => by
    rw [if_pos (by omega)]
    by_cases h1 : i + 1 ≤ k
    · rw [if_pos h1]; exact h.mono i (by omega)
    · obtain rfl : i = k := by omega
      rw [if_neg h1, h.last]; omega
  bound := fun i hi => by
    by_cases h1 : i ≤ k
    · rw [if_pos h1]; exact h.bound i h1
    · rw [if_neg h1]; exact hn
  row := fun i hi => by
    rw [if_pos (by omega)]
    by_cases h1 : i < k
    · rw [if_pos (by omega), List.getElem?_append_left (by omega)]; exact h.row i h1
    · obtain rfl : i = k := by omega
      rw [if_neg (by omega), List.getElem?_append_right (by omega), hl, Nat.sub_self, h.last, Nat.add_sub_cancel_left]; rfl
theorem PR.parts {G k : Nat} {ofs : Nat → Nat} {xs : List Value} {w : World} {l : List UInt8} (h : PR G l.length k l.length ofs xs) {base g c : Nat} (hown : w.ownsRow base 22 1 (.slice (some ⟨g, 0, none⟩) k c) k xs)
    (hG : OwnAt w G l 71) : Nonempty (Parts w (some ⟨g, 0, none⟩) k l) := by
  refine ⟨{ b := g, o := 0, addr := fun _ => ⟨rfl, own_lt hown⟩, pb := fun _ => G, po := ofs, pn := fun i => ofs (i + 1) - ofs i, pc := fun i => l.length + 3 - ofs i, ofs := ofs, row := fun i hi => ?_, old := fun i hi => ⟨hG.lt, ?_⟩, zero := h.zero, next := fun i hi => ?_, full := h.last, bytes := fun i hi j hj => ?_ }⟩
  · rw [Nat.zero_add, hown.cellAt i (by omega), h.row i hi]
  · have := h.bound (i + 1) (by omega); omega
  · have := h.mono i hi; omega
  · have h1 := h.bound (i + 1) (by omega)
    have h2 := h.mono i hi
    have hlt : ofs i + j < l.length := by omega
    have e : (Lib.byteCells l).length = l.length := by simp [Lib.byteCells]
    rw [World.ownsRow.cellAt hG (ofs i + j) (by omega), List.getElem?_append_left (by rw [e]; exact hlt), bc_at l _ hlt]
theorem OwnAt.grown {w w' : World} {g : Nat} {l : List UInt8} {f : Int} {row : Option Nat} (h : OwnAt w g l f) (hg : w.grownBy w' row) (hr : some g ≠ row) : OwnAt w' g l f := World.ownsRow.kept h hg (Or.inr hr)
theorem OwnAt.alloc {w : World} {g : Nat} {l : List UInt8} {f : Int} (h : OwnAt w g l f) (o : Obj) : OwnAt (w.alloc o) g l f := World.ownsRow.alloc h o
theorem load20 {u : World} {g : Nat} {arr : Array Value} {fr : Nat × Nat} (hg : u.heap[g]? = some (.cells arr 29 fr)) (hs : arr.size = 20) : (loadCellsFrom ⟨g, 0, none⟩ 0 20 #[]).run Try.prog u = .ok arr u := by
  have := run_loadCells_list (P := Try.prog) u ⟨g, 0, none⟩ arr.toList (fun j v hv => by
    rw [addr_add, Nat.zero_add, cell_of_row _ _ j arr 29 fr hg]
    simpa using hv)
  have e : arr.toList.length = 20 := by rw [Array.length_toList, hs]
  rw [e] at this
  simpa [loadCells] using this
/-- A whole id out of its block, as a step of a region that draws its order. -/
theorem step_load_arr {ops : Array Oper} {o : Oper} {a : Act} {w : World} {K : Act → World → Prop} {Q : Exit → Act → World → Prop} {E : Prop} (hw : Region.wanted o (yielded ops a.tmps) = true) (x : Operand) (ho : o.op = .load 29 x)
    (g : Nat) (hx : a.eval x = .pointer (some ⟨g, 0, none⟩)) (arr : Array Value) (hg : w.heap[g]? = some (.cells arr 29 (0, 0))) (hs : arr.size = 20) (h : K (a.put o.dst (.agg arr)) w) :
    if Region.wanted o (yielded ops a.tmps) = true then Oper.wp Try.prog o a w K Q else E := by
  rw [if_pos hw]
  exact wp_load_row 29 x ho g hx 29 arr (0, 0) _ hg Try.underlying29 rfl (by rw [info29, hs]) h
end Go.Proofs.Ytclfjkocjigkcaa
