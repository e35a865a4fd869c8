/-
  Parts with room for what they hold: what Sum and Concat take.
-/
import Derived.Test.YtbcbbkdfdfgnfaaDoorSo
import Derived.Test.YtbcbbkdfdfgnfaaDoorFg
namespace Go.Proofs.YtbcbbkdfdfgnfaaDoor
set_option maxRecDepth 20000
open Go.RowKit
set_option linter.unusedVariables false

/-- One part in a cell. -/
def PartAt (w : World) (v : Value) (l : List UInt8) : Prop := ∃ a c, v = .slice a l.length c ∧ BAt w a l ∧ (a = none → l.length = 0 ∧ c = 0) ∧ l.length ≤ c ∧ l.length ≤ maxLen
def PartsC (w : World) (pa : Option Addr) (ls : List (List UInt8)) : Prop :=
  0 < ls.length → ∃ b o, pa = some ⟨b, o, none⟩ ∧ b < w.heap.size ∧ ∀ i (h : i < ls.length), ∃ v, w.cell? ⟨b, o + i, none⟩ = some v ∧ PartAt w v ls[i]
theorem PartAt.below {w w' : World} {v : Value} {l : List UInt8} (h : PartAt w v l) {B : Nat} (hb : Below B w w') (hB : w.heap.size ≤ B) : PartAt w' v l := by
  obtain ⟨a, c, h1, h2, h3⟩ := h
  exact ⟨a, c, h1, h2.below hb hB, h3⟩
theorem PartsC.pin {w : World} {pa : Option Addr} {ls : List (List UInt8)} (h : PartsC w pa ls) : PartsIn (fun _ => True) w pa ls := fun hp => by
  obtain ⟨b, o, h1, h2, h3⟩ := h hp
  refine ⟨b, o, h1, trivial, h2, fun i hi => ?_⟩
  obtain ⟨v, g1, a, c, rfl, g2, g3, g4, g5⟩ := h3 i hi
  exact ⟨a, c, g1, (fun hp => by obtain ⟨x, y, k1, k2, k3⟩ := g2 hp; exact ⟨x, y, k1, trivial, k2, k3⟩), g3, g5⟩
theorem flatten_at (ls : List (List UInt8)) (i : Nat) (hi : i < ls.length) (k : Nat) (hk : k < (ls[i]).length) : ls.flatten.getD (total (ls.take i) + k) 0 = (ls[i]).getD k 0 := by
  have e : ls.flatten = (ls.take i).flatten ++ (ls[i] ++ (ls.drop (i + 1)).flatten) := by
    conv => lhs; rw [← List.take_append_drop i ls, List.drop_eq_getElem_cons hi]
    rw [List.flatten_append, List.flatten_cons]
  rw [e, List.getD_eq_getElem?_getD, List.getD_eq_getElem?_getD]
  unfold total
  rw [List.getElem?_append_right (by omega), Nat.add_sub_cancel_left, List.getElem?_append_left hk]
theorem PartsC.po {w : World} {pa : Option Addr} {ls : List (List UInt8)} (h : PartsC w pa ls) : Nonempty (PartsO w pa ls.length ls.flatten) := by
  by_cases hp : 0 < ls.length
  · obtain ⟨b, o, h1, h2, h3⟩ := h hp
    have each : ∀ i, ∃ y : Option Addr × Nat, ∀ (hi : i < ls.length), w.cell? ⟨b, o + i, none⟩ = some (.slice y.1 (ls[i]).length y.2) ∧ BAt w y.1 ls[i] ∧ (ls[i]).length ≤ y.2 := fun i => by
      by_cases hi : i < ls.length
      · obtain ⟨v, g1, a, c, rfl, g2, _, g4, _⟩ := h3 i hi
        exact ⟨(a, c), fun _ => ⟨g1, g2, g4⟩⟩
      · exact ⟨(none, 0), fun h => absurd h hi⟩
    obtain ⟨y, hy⟩ := Classical.axiomOfChoice each
    refine ⟨{ b := b, o := o, addr := fun _ => ⟨h1, h2⟩, pa := fun i => (y i).1, pn := fun i => (ls.getD i []).length, pc := fun i => (y i).2, ofs := fun i => total (ls.take i), row := fun i hi => ?_, old := fun i hi hpos => ?_, zero := by simp [total], next := fun i hi => ?_, full := by rw [List.take_length]; rfl }⟩
    · rw [List.getD_eq_getElem?_getD, List.getElem?_eq_getElem hi]; exact (hy i hi).1
    · have e : ls.getD i [] = ls[i] := by rw [List.getD_eq_getElem?_getD, List.getElem?_eq_getElem hi]; rfl
      rw [e] at hpos ⊢
      obtain ⟨xb, xo, k1, k2, k3⟩ := (hy i hi).2.1 hpos
      refine ⟨xb, xo, k1, k2, (hy i hi).2.2, fun k hk => ?_⟩
      rw [k3 k hk, flatten_at ls i hi k hk]
      simp [hk]
    · have e : ls.getD i [] = ls[i] := by rw [List.getD_eq_getElem?_getD, List.getElem?_eq_getElem hi]; rfl
      rw [e]; exact total_step ls i hi
  · obtain rfl : ls = [] := List.eq_nil_of_length_eq_zero (by omega)
    exact ⟨{ b := 0, o := 0, addr := fun h => absurd h (Nat.lt_irrefl 0), pa := fun _ => none, pn := fun _ => 0, pc := fun _ => 0, ofs := fun _ => 0, row := fun i h => absurd h (Nat.not_lt_zero _), old := fun i h => absurd h (Nat.not_lt_zero _), zero := rfl, next := fun i h => absurd h (Nat.not_lt_zero _), full := rfl }⟩
/-- Sum of some parts. -/
theorem Sum_parts (w : World) (A : Option Addr) (n c : Nat) (ls : List (List UInt8)) (hn : n = ls.length) (h1 : n ≤ 1000) (hl : ls.flatten.length ≤ 1000000) (hp : PartsC w A ls) :
    Calls Tryd.prog 31 #[.slice A n c] w fun e w' => e = .returned (idv (sumL ls.flatten)) ∧ Below w.heap.size w w' := by
  subst hn
  obtain ⟨po⟩ := hp.po
  exact SumO_any w A ls.length c ls.flatten hl (by omega) po
theorem Concat_parts (w : World) (A : Option Addr) (n c : Nat) (ls : List (List UInt8)) (hn : n = ls.length) (h1 : n ≤ 1000) (h0 : 0 < ls.flatten.length) (hl : ls.flatten.length ≤ 16777216) (hp : PartsC w A ls) :
    Calls Tryd.prog 24 #[.slice A n c] w fun e w' => ∃ v', e = .returned v' ∧ Row w' v' ls.flatten ∧ (∀ g, foot v' = some g → w.heap.size ≤ g) ∧ Below w.heap.size w w' :=
  Concat_any _ A n c ls w hp.pin hn h1 h0 hl
/-- Two parts in a new block, three. -/
theorem parts1 {w : World} {x : Value} {l : List UInt8} (t : TypeId) (hx : PartAt w x l) : PartsC (w.alloc (.cells #[x] t)) (some ⟨w.heap.size, 0, none⟩) [l] := fun _ =>
  ⟨_, _, rfl, by simp, fun i hi => by
    have hi2 : i < 1 := hi
    obtain rfl : i = 0 := by omega
    exact ⟨x, (cell_of_row _ _ 0 _ _ _ (heap_alloc_new w _)).trans rfl, hx.below ((Below.refl w.heap.size w).alloc (Nat.le_refl _) _) (Nat.le_refl _)⟩⟩
theorem parts2 {w : World} {x y : Value} {l m : List UInt8} (t : TypeId) (hx : PartAt w x l) (hy : PartAt w y m) : PartsC (w.alloc (.cells #[x, y] t)) (some ⟨w.heap.size, 0, none⟩) [l, m] := fun _ =>
  ⟨_, _, rfl, by simp, fun i hi => by
    have hi2 : i < 2 := hi
    match i, hi2 with
    | 0, _ => exact ⟨x, (cell_of_row _ _ 0 _ _ _ (heap_alloc_new w _)).trans rfl, hx.below ((Below.refl w.heap.size w).alloc (Nat.le_refl _) _) (Nat.le_refl _)⟩
    | 1, _ => exact ⟨y, (cell_of_row _ _ 1 _ _ _ (heap_alloc_new w _)).trans rfl, hy.below ((Below.refl w.heap.size w).alloc (Nat.le_refl _) _) (Nat.le_refl _)⟩⟩
theorem parts3 {w : World} {x y z : Value} {l m n : List UInt8} (t : TypeId) (hx : PartAt w x l) (hy : PartAt w y m) (hz : PartAt w z n) : PartsC (w.alloc (.cells #[x, y, z] t)) (some ⟨w.heap.size, 0, none⟩) [l, m, n] := fun _ =>
  ⟨_, _, rfl, by simp, fun i hi => by
    have hi2 : i < 3 := hi
    match i, hi2 with
    | 0, _ => exact ⟨x, (cell_of_row _ _ 0 _ _ _ (heap_alloc_new w _)).trans rfl, hx.below ((Below.refl w.heap.size w).alloc (Nat.le_refl _) _) (Nat.le_refl _)⟩
    | 1, _ => exact ⟨y, (cell_of_row _ _ 1 _ _ _ (heap_alloc_new w _)).trans rfl, hy.below ((Below.refl w.heap.size w).alloc (Nat.le_refl _) _) (Nat.le_refl _)⟩
    | 2, _ => exact ⟨z, (cell_of_row _ _ 2 _ _ _ (heap_alloc_new w _)).trans rfl, hz.below ((Below.refl w.heap.size w).alloc (Nat.le_refl _) _) (Nat.le_refl _)⟩⟩
end Go.Proofs.YtbcbbkdfdfgnfaaDoor
