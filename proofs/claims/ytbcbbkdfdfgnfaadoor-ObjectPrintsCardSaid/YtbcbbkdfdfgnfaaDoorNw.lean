/-
  Layer 7: what the walks share: ids held against each other, what two readings tell.
-/
import Derived.Test.YtbcbbkdfdfgnfaaDoorNu
import Derived.Test.YtbcbbkdfdfgnfaaDoorNv
import Derived.Test.YtbcbbkdfdfgnfaaDoorNg
import Derived.Test.YtbcbbkdfdfgnfaaDoorKept
import Derived.Test.YtbcbbkdfdfgnfaaDoorCut
import Derived.Stop.BytesEq
namespace Go.Proofs.YtbcbbkdfdfgnfaaDoor
set_option maxRecDepth 20000
open Go.RowKit
set_option linter.unusedVariables false
set_option linter.unusedSimpArgs false

theorem sumO_len (k : Int) (l : List UInt8) : (sumO k l).length = 20 := by
  unfold sumO
  split
  · simp [sumL, digest_len]
  · simp
theorem eql_idv (w : World) (l m : List UInt8) (h : l.length = 20) (h' : m.length = 20) : (binOp .eql 34 (idv l) (idv m)).run Tryd.prog w = .ok (.bool (l == m)) w :=
  run_eql_bytes (P := Tryd.prog) w 34 5 20 Tryd.underlying34 Tryd.underlying5 Tryd.sizeOf5 l m h h'
theorem neq_idv (w : World) (l m : List UInt8) (h : l.length = 20) (h' : m.length = 20) : (binOp .neq 34 (idv l) (idv m)).run Tryd.prog w = .ok (.bool (!(l == m))) w := by
  have e := run_equalIn_bytes (P := Tryd.prog) w 9998 34 5 20 Tryd.underlying34 Tryd.underlying5 Tryd.sizeOf5 l m h h'
  unfold idv
  rw [run_neq_struct]
  erw [e]
  rfl
theorem parsed_same {l b b' : List UInt8} {k k' e e' : Int} (h : ParsedO l k b e) (h' : ParsedO l k' b' e') : k' = k ∧ b' = b ∧ e' = e := by
  rcases h with ⟨h1, h2⟩ | ⟨h1, h2, h3, h4⟩ <;> rcases h' with ⟨g1, g2⟩ | ⟨g1, g2, g3, g4⟩
  · rw [h1] at g1; cases g1; exact ⟨rfl, rfl, by rw [g2, h2]⟩
  · rw [h1] at g1; cases g1
  · rw [h1] at g1; cases g1
  · exact ⟨by rw [g2, h2], by rw [g3, h3], by rw [g4, h4]⟩
theorem own_same {w w' : World} {g : Nat} {l : List UInt8} {f : Int} (h : OwnAt w g l f) (hk : w'.heap[g]? = w.heap[g]?) : OwnAt w' g l f := by
  refine ⟨h.1, ?_⟩
  rcases h.2 with ⟨h', _⟩ | ⟨g', cap', cur, h', hb', hg, r⟩
  · simp at h'
  · refine .inr ⟨g', cap', cur, h', hb', ?_, r⟩
    simp only [Value.slice.injEq, Option.some.injEq, Addr.mk.injEq, and_true, true_and] at h'
    obtain ⟨rfl, rfl⟩ := h'
    exact hk.trans hg
theorem Red.keep {w w' : World} {v : Value} {l : List UInt8} (h : Red w v l) (b : Below w.heap.size w w') : Red w' v l := h.below b (Nat.le_refl _)
theorem heap_keep {w w' : World} {g : Nat} {o : Obj} (h : w.heap[g]? = some o) (b : Below w.heap.size w w') : w'.heap[g]? = some o := (b.block g (Array.getElem?_eq_some_iff.1 h).1).trans h
/-- A body that is parsed is no longer than the bytes. -/
theorem parsed_len {l b : List UInt8} {k e : Int} (h : ParsedO l k b e) : b.length ≤ 65536 ∧ b.length ≤ l.length := by
  rcases h with ⟨h1, h2⟩ | ⟨h1, h2, h3, h4⟩
  · obtain ⟨g1, g2, g3⟩ := take_some h1
    refine ⟨g2, ?_⟩
    rw [← g3, objO_length]; omega
  · rw [h3]; simp
theorem roWord_below (k : Int) (w : World) : Calls Tryd.prog 18 #[.int .i64 k] w fun e w' => e = .returned (.string ⟨(wordO k).toArray⟩) ∧ Below w.heap.size w w' := by
  refine (roWord_is k w).mono ?_
  rintro e w' ⟨h, rfl⟩
  exact ⟨h, Below.refl _ _⟩
theorem bytes_red {a1 a2 : Option Addr} {c1 c2 : Nat} (n : Nat) (l : List UInt8) (hn : l.length = n) (w : World) (h1 : Red w (.slice a1 n c1) l) (h2 : Red w (.slice a2 n c2) l) :
    Calls Tryd.prog 13 #[.slice a1 n c1, .slice a2 n c2] w fun e w' => e = .returned (.bool true) ∧ Below w.heap.size w w' := by
  obtain ⟨b1, d1, e1, hb1, _⟩ := h1
  obtain ⟨b2, d2, e2, hb2, _⟩ := h2
  cases e1; cases e2
  refine (Bytes_any _ _ _ _ _ _ l l w hb1 hb2 rfl rfl).mono ?_
  rintro e w' ⟨rfl, rfl⟩
  exact ⟨by simp, Below.refl _ _⟩
theorem object_same (k : Int) (v1 v2 : Value) (l : List UInt8) (w : World) (h1 : Red w v1 l) (h2 : Red w v2 l) :
    Calls Tryd.prog 16 #[.agg #[.int .i64 k, v1], .agg #[.int .i64 k, v2]] w fun e w' => e = .returned (.bool true) ∧ Below w.heap.size w w' := by
  refine (Object_any k k v1 v2 l l w h1 h2).mono ?_
  rintro e w' ⟨rfl, h⟩
  exact ⟨by simp, h⟩
end Go.Proofs.YtbcbbkdfdfgnfaaDoor
