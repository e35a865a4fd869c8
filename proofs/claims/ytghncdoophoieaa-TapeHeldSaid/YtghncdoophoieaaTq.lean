/-
  Layer 4: one deed, with both tapes: what the cases share. (Made by tools/gentq.py.)
-/
import Derived.Test.YtghncdoophoieaaTp
import Derived.RegionTactic
namespace Go.Proofs.Ytghncdoophoieaa
open Go.RowKit
set_option linter.unusedVariables false

theorem OwnAt.heap {w w' : World} {g : Nat} {l : List UInt8} {f : Int} (h : OwnAt w g l f) (e : w'.heap[g]? = w.heap[g]?) : OwnAt w' g l f := by
  refine ⟨h.1, ?_⟩
  rcases h.2 with ⟨h', _⟩ | ⟨g', cap', cur, h', hb', hg, r⟩
  · simp at h'
  · refine .inr ⟨g', cap', cur, h', hb', ?_, r⟩
    simp only [Value.slice.injEq, Option.some.injEq, Addr.mk.injEq, and_true, true_and] at h'
    obtain ⟨rfl, rfl⟩ := h'
    exact e.trans hg
/-- 'all[k:]'. -/
theorem slice_tail (a : Option Addr) (n c k : Nat) (l : List UInt8) (hn : n = l.length) (hk : k ≤ n) (hc : n ≤ c) :
    ∃ a', (∀ (x : Int) (u : World), x = k → (Instr.sliceAt 32 (.slice a n c) (some (.int .i64 x)) none none).run Try.prog u = .ok (.slice a' (n - k) (c - k)) u) ∧
      ∀ w, Row w (.slice a n c) l → BAt w a' (l.drop k) ∧ (a' = none → n - k = 0 ∧ c - k = 0) := by
  obtain ⟨i, hi, hz, hs, hby⟩ := info_parts info_u8
  have e : Try.prog.elem 32 = 5 := by kernel_rfl
  refine ⟨if c = k then a else a.map (·.add (k * 1)), fun x u hx => ?_, fun w hr => ?_⟩
  · subst hx
    rw [run_sliceAt_slice (h := elem_bytes), run_slice_l (ht := elem_bytes) (h0 := by omega) (h1 := by omega)]
    rw [e]
    simp [sizeOf, typeInfo, hi, hs, Result.andThen, sliced]
  · subst hn
    obtain ⟨a2, c2, e2, _, _, hb, hno⟩ := hr.shape
    cases e2
    by_cases hck : c = k
    · rw [if_pos hck]
      have hk2 : k = l.length := by omega
      refine ⟨fun hp => ?_, fun h => by have := hno h; omega⟩
      rw [List.length_drop] at hp; omega
    · rw [if_neg hck]
      refine ⟨fun hp => ?_, fun h => ?_⟩
      · rw [List.length_drop] at hp
        obtain ⟨b, o, rfl, h1, h2⟩ := hb (by omega)
        refine ⟨b, o + k, ?_, h1, fun j hj => ?_⟩
        · simp [Addr.add]
        · rw [List.length_drop] at hj
          rw [show o + k + j = o + (k + j) by omega, h2 (k + j) (by omega), List.getElem_drop]
      · cases a with
        | none => have := hno rfl; omega
        | some x => simp at h
/-- Three parts, the middle one nil, in blocks of D. -/
theorem parts_three {w : World} {g g1 g2 k q : Nat} {D : Nat → Prop} {l1 l2 : List UInt8} {f1 f2 : Int} {e3 : TypeId} {f3 : Nat × Nat} (h1 : OwnAt w g1 l1 f1) (h2 : OwnAt w g2 l2 f2) (hk : l1.length = k) (hq : l2.length = q) (hk2 : k ≤ 1600) (hq2 : q ≤ 1600)
    (h3 : w.heap[g]? = some (.cells #[.slice (some ⟨g1, 0, none⟩) k (k + 3), .slice none 0 0, .slice (some ⟨g2, 0, none⟩) q (q + 3)] e3 f3)) (d1 : D g1) (d2 : D g2) (d3 : D g) : PartsIn D w (some ⟨g, 0, none⟩) [l1, [], l2] := fun _ => by
  subst hk; subst hq
  have lt := fun {k : Nat} {o : Obj} (h : w.heap[k]? = some o) => (Array.getElem?_eq_some_iff.1 h).1
  refine ⟨g, 0, rfl, d3, lt h3, fun i hi => ?_⟩
  match i, hi with
  | 0, _ =>
    refine ⟨_, _, (cell_of_row w _ 0 _ _ _ h3).trans rfl, ?_, (fun h => by cases h), (by unfold maxLen; simp; omega)⟩
    intro hp
    obtain ⟨b, o, e1, e2, e4⟩ := h1.bat hp
    cases e1
    exact ⟨g1, 0, rfl, d1, e2, e4⟩
  | 1, _ => exact ⟨none, 0, (cell_of_row w _ 1 _ _ _ h3).trans rfl, (fun hp => absurd hp (Nat.lt_irrefl 0)), (fun _ => ⟨rfl, rfl⟩), (by unfold maxLen; simp)⟩
  | 2, _ =>
    refine ⟨_, _, (cell_of_row w _ 2 _ _ _ h3).trans rfl, ?_, (fun h => by cases h), (by unfold maxLen; simp; omega)⟩
    intro hp
    obtain ⟨b, o, e1, e2, e4⟩ := h2.bat hp
    cases e1
    exact ⟨g2, 0, rfl, d2, e2, e4⟩
theorem head_le : ∀ (ls : List (List UInt8)) (h : 0 < ls.length), (ls[0]).length ≤ ls.flatten.length
  | x :: r, _ => by simp
/-- What a deed leaves. -/
def Did (w0 : World) (bt br : Nat) (s : Sx) (what : Int) (w' : World) : Prop := ∃ s', Two w0 w' bt br (fun _ => False) s' s' ∧ ∀ first, what ≠ 2 → what ≠ 3 → Inv first s → Inv first s'
theorem Two.none {w0 w : World} {bt br : Nat} {X : Nat → Prop} {s t : Sx} (h : Two w0 w bt br X s t) : Two w0 w bt br (fun _ => False) s t := h.keep (Below.refl _ _) (fun _ h => h.elim)
/-- The box of a deed. -/
abbrev dbox (what n : Int) (pa : Option Addr) (np pc : Nat) : Obj := .cells #[.int .i64 what, .int .i64 n, .slice pa np pc] 31
end Go.Proofs.Ytghncdoophoieaa
