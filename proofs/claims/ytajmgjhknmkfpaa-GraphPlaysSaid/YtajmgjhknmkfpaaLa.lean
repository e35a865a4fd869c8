/-
  Layer 12: the nodes that came in, in their cells; how few parents there are.
-/
import Derived.Test.YtajmgjhknmkfpaaUy
import Derived.Test.YtajmgjhknmkfpaaGg
import Derived.Test.YtajmgjhknmkfpaaGf
namespace Go.Proofs.Ytajmgjhknmkfpaa
set_option maxRecDepth 20000
open Go.RowKit
set_option linter.unusedVariables false
set_option linter.unusedSimpArgs false

/-- A node that came in: its id, the value of its parents, and who they are. -/
structure Ln where
  id : List UInt8
  v : Value
  ps : List (List UInt8)
instance : Inhabited Ln := ⟨⟨[], .nilIface, []⟩⟩
def cellsL (e : Ln) : List Value := cellsD e.id ++ [e.v]
def okL (e : Ln) : Prop := e.id.length = 20 ∧ ∃ a n c, e.v = .slice a n c
def rowL : RowT Ln := ⟨cellsL, 21, 48, 34, 22, okL⟩
structure LnIn (w : World) (e : Ln) : Prop where
  ok : okL e
  red : RedR rowI (fun _ => True) w e.v e.ps
  each : ∀ i ∈ e.ps, i.length = 20
theorem LnIn.below {w u : World} {e : Ln} (h : LnIn w e) (hb : Below w.heap.size w u) : LnIn u e := ⟨h.ok, h.red.below hb, h.each⟩
theorem nodeL_id {w : World} {b o : Nat} {e : Ln} (h : w.rangeAt b o (cellsL e)) : w.rangeAt b o (cellsD e.id) := fun j v hv => h j v (by
  unfold cellsL
  rw [List.getElem?_append_left (List.getElem?_eq_some_iff.1 hv).1]
  exact hv)
theorem nodeL_v {w : World} {b o : Nat} {e : Ln} (hok : okL e) (h : w.rangeAt b o (cellsL e)) : w.cell? ⟨b, o + 20, none⟩ = some e.v := by
  refine h 20 e.v ?_
  unfold cellsL
  rw [List.getElem?_append_right (by rw [cellsD_len _ hok.1]; exact Nat.le_refl _), cellsD_len _ hok.1]
  rfl
theorem addG_few {L : List Gn} {i : List UInt8} {ps : List (List UInt8)} {m : Nat} (h : ∀ k, (plAt L k).length ≤ m) (hp : ps.length ≤ m) : ∀ k, (plAt (addG L i ps).2 k).length ≤ m := by
  unfold addG
  cases e1 : atG L i with
  | some k =>
    cases e2 : placesG L ps with
    | some l => simp only; split <;> exact h
    | none => exact h
  | none =>
    cases e2 : placesG L ps with
    | none => exact h
    | some l =>
      simp only
      split
      · exact h
      · split
        · exact h
        · intro k
          rcases Nat.lt_trichotomy k L.length with hk | rfl | hk
          · rw [plAt_old hk]; exact h k
          · rw [plAt_new]; simp only; rw [(placesG_len e2).1]; exact hp
          · rw [plAt_out (by simp; omega)]; simp
theorem idAt_len {L : List Gn} (G : GoodG L) {i : Nat} (hi : i < L.length) : (idAt L i).length = 20 := by rw [idAt_lt hi]; exact G.len _ (List.getElem_mem hi)
theorem parG_at {L : List Gn} (G : GoodG L) {i : Nat} (hi : i < L.length) : parG L (idAt L i) = psOf L (plAt L i) := by
  unfold parG
  rw [atG_is G hi (idAt_lt hi).symm]
theorem up_self {L : List Gn} (G : GoodG L) {i : Nat} (hi : i < L.length) : comesG L (idAt L i) (idAt L i) = true := by rw [comesG_at G hi hi]; exact comes_self G hi
theorem up_one {L : List Gn} (G : GoodG L) {i q : Nat} (hi : i < L.length) (hq : q ∈ plAt L i) : comesG L (idAt L i) (idAt L q) = true := by
  rw [comesG_at G hi (low_lt G q hq)]
  exact comes_up G hi hi (comes_self G hi) hq
theorem up_two {L : List Gn} (G : GoodG L) {i q r : Nat} (hi : i < L.length) (hq : q ∈ plAt L i) (hr : r ∈ plAt L q) : comesG L (idAt L i) (idAt L r) = true := by
  rw [comesG_at G hi (low_lt G r hr)]
  exact comes_up G hi (low_lt G q hq) (comes_up G hi hi (comes_self G hi) hq) hr
theorem idsG_len (L : List Gn) : (idsG L).length = L.length := by simp [idsG]
theorem idsG_get {L : List Gn} {i : Nat} (hi : i < (idsG L).length) : (idsG L)[i] = idAt L i := by
  rw [idAt_lt (by rw [← idsG_len]; exact hi)]
  simp [idsG]
theorem idsG_each {L : List Gn} (G : GoodG L) : ∀ i ∈ idsG L, i.length = 20 := by
  intro i h
  unfold idsG at h
  obtain ⟨x, hx, rfl⟩ := List.mem_map.1 h
  exact G.len x hx
theorem among_up {L : List Gn} (G : GoodG L) {i q : Nat} (hi : i < L.length) (hq : q ∈ plAt L i) : amongD ((idsG L).take i) (idAt L q) = true := by
  have h1 := G.low i q hq
  rw [among_iff, List.mem_take_iff_getElem]
  refine ⟨q, by rw [idsG_len]; omega, ?_⟩
  rw [idsG_get]
theorem those_each {L : List Gn} (G : GoodG L) {f : Nat → Bool} : ∀ i ∈ thoseG L f, i.length = 20 := by
  intro i h
  obtain ⟨k, h1, _⟩ := (thoseG_mem G).1 h
  obtain ⟨hk, rfl⟩ := atG_some h1
  exact G.len _ (List.getElem_mem hk)
theorem heads_each {L : List Gn} (G : GoodG L) : ∀ i ∈ headsG L, i.length = 20 := those_each G
theorem heads_few {L : List Gn} (h : L.length ≤ 1000000) : (headsG L).length ≤ 1000000 := Nat.le_trans (thoseG_len L _) h
theorem psOf_len (L : List Gn) (l : List Nat) : (psOf L l).length = l.length := by simp [psOf]
theorem psOf_get {L : List Gn} {l : List Nat} {k : Nat} (hk : k < l.length) (h : k < (psOf L l).length) : (psOf L l)[k] = idAt L l[k] := by simp [psOf]
theorem psOf_each {L : List Gn} (G : GoodG L) (k : Nat) : ∀ i ∈ psOf L (plAt L k), i.length = 20 := by
  intro i h
  unfold psOf at h
  obtain ⟨x, hx, rfl⟩ := List.mem_map.1 h
  exact idAt_len G (low_lt G x hx)
end Go.Proofs.Ytajmgjhknmkfpaa
