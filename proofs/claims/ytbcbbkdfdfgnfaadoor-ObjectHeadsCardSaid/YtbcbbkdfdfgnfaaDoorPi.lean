/-
  Parts: a slice of slices of bytes.
-/
import Derived.Test.YtbcbbkdfdfgnfaaDoorTa
namespace Go.Proofs.YtbcbbkdfdfgnfaaDoor
open Go.RowKit
set_option linter.unusedVariables false

/-- Bytes that lie in a block of which D holds. -/
def BIn (D : Nat → Prop) (w : World) (a : Option Addr) (l : List UInt8) : Prop :=
  0 < l.length → ∃ b o, a = some ⟨b, o, none⟩ ∧ D b ∧ b < w.heap.size ∧ ∀ i (h : i < l.length), w.cell? ⟨b, o + i, none⟩ = some (.int .u8 (l[i]).toNat)
theorem BIn.bat {D : Nat → Prop} {w : World} {a : Option Addr} {l : List UInt8} (h : BIn D w a l) : BAt w a l := fun hp => by
  obtain ⟨b, o, h1, _, h2, h3⟩ := h hp
  exact ⟨b, o, h1, h2, h3⟩
theorem BIn.chg {D S : Nat → Prop} {w w' : World} {a : Option Addr} {l : List UInt8} (h : BIn D w a l) (hc : Chg S w w') (hd : ∀ k, D k → ¬ S k) : BIn D w' a l := fun hp => by
  obtain ⟨b, o, h1, h2, h3, h4⟩ := h hp
  exact ⟨b, o, h1, h2, Nat.lt_of_lt_of_le h3 hc.size, fun i hi => (World.cell?_of_block (a := ⟨b, o + i, none⟩) (hc.block b h3 (hd b h2))).trans (h4 i hi)⟩
/-- Parts: a slice of slices of bytes. -/
def PartsIn (D : Nat → Prop) (w : World) (pa : Option Addr) (ls : List (List UInt8)) : Prop :=
  0 < ls.length → ∃ b o, pa = some ⟨b, o, none⟩ ∧ D b ∧ b < w.heap.size ∧ ∀ i (h : i < ls.length), ∃ a c, w.cell? ⟨b, o + i, none⟩ = some (.slice a (ls[i]).length c) ∧ BIn D w a ls[i] ∧ (a = none → (ls[i]).length = 0 ∧ c = 0) ∧ (ls[i]).length ≤ maxLen
theorem PartsIn.chg {D S : Nat → Prop} {w w' : World} {pa : Option Addr} {ls : List (List UInt8)} (h : PartsIn D w pa ls) (hc : Chg S w w') (hd : ∀ k, D k → ¬ S k) : PartsIn D w' pa ls := fun hp => by
  obtain ⟨b, o, h1, h2, h3, h4⟩ := h hp
  refine ⟨b, o, h1, h2, Nat.lt_of_lt_of_le h3 hc.size, fun i hi => ?_⟩
  obtain ⟨a, c, g1, g2, g3, g4⟩ := h4 i hi
  exact ⟨a, c, (World.cell?_of_block (a := ⟨b, o + i, none⟩) (hc.block b h3 (hd b h2))).trans g1, g2.chg hc hd, g3, g4⟩
theorem BIn.keep {D : Nat → Prop} {w w' : World} {a : Option Addr} {l : List UInt8} (h : BIn D w a l) (hb : Below w.heap.size w w') : BIn D w' a l :=
  h.chg (S := fun _ => False) (Chg.of_below hb) fun _ _ h => h
theorem PartsIn.keep {D : Nat → Prop} {w w' : World} {pa : Option Addr} {ls : List (List UInt8)} (h : PartsIn D w pa ls) (hb : Below w.heap.size w w') : PartsIn D w' pa ls :=
  h.chg (S := fun _ => False) (Chg.of_below hb) fun _ _ h => h
/-- How many bytes some parts have. -/
def total (ls : List (List UInt8)) : Nat := ls.flatten.length
theorem total_step (ls : List (List UInt8)) (k : Nat) (h : k < ls.length) : total (ls.take (k + 1)) = total (ls.take k) + (ls[k]).length := by
  unfold total; rw [List.take_succ_eq_append_getElem h, List.flatten_append, List.length_append]; simp only [List.flatten_cons, List.flatten_nil, List.append_nil]
theorem total_le (ls : List (List UInt8)) (k : Nat) : total (ls.take k) ≤ total ls := by
  unfold total
  have e : ls.flatten = (ls.take k).flatten ++ (ls.drop k).flatten := by rw [← List.flatten_append, List.take_append_drop]
  rw [e, List.length_append]; omega
end Go.Proofs.YtbcbbkdfdfgnfaaDoor
