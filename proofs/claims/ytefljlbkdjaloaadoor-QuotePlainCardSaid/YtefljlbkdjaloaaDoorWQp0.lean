/-
  The walk of QuotePlain, over the contracts. What its parts share.
-/
import Derived.Test.YtefljlbkdjaloaaDoorQb
import Derived.Test.YtefljlbkdjaloaaDoorOb
import Derived.StillTailTactics
import Derived.RegionTactic
namespace Go.Proofs.YtefljlbkdjaloaaDoor.quotePlain
open Go.RowKit
/-- The law's word: bytes that mean nothing. -/
def wordL : List UInt8 := [97, 98, 122, 48, 49, 57, 45, 95, 46, 47, 126, 39]
theorem word_at12 : ∀ n : Fin 12, (⟨#[97, 98, 122, 48, 49, 57, 45, 95, 46, 47, 126, 39]⟩ : ByteArray)[n.1]'(n.2) = wordL.getD n.1 0 := by decide
theorem word_at (n : Nat) (h : n < 12) : (⟨#[97, 98, 122, 48, 49, 57, 45, 95, 46, 47, 126, 39]⟩ : ByteArray)[n]'(h) = wordL.getD n 0 := word_at12 ⟨n, h⟩
theorem word_ok : ∀ n : Fin 12, okB (wordL.getD n.1 0) = true := by decide
theorem own_new (w : World) (t : TypeId) : (w.alloc (.cells #[] t)).ownsRow w.heap.size t 1 (.slice (some ⟨w.heap.size, 0, none⟩) 0 0) 0 [] :=
  World.ownsRow_lit w #[] 0 (Nat.le_refl _) (by simp) (by simp)
set_option linter.unusedVariables false
set_option linter.unusedSimpArgs false

theorem own_some {w : World} {base : Nat} {v : Value} {l : List UInt8} (h : w.ownsRow base 5 1 v l.length (Lib.byteCells l)) (hp : 0 < l.length) : ∃ g c, v = .slice (some ⟨g, 0, none⟩) l.length c ∧ base ≤ g ∧ g < w.heap.size := by
  have h2 := h.2
  rcases h2 with ⟨rfl, hn⟩ | ⟨g, cap, cur, rfl, hb, hg, r⟩
  · omega
  · exact ⟨g, cap, rfl, hb, own_lt h⟩
theorem own_news {w : World} {base : Nat} {g cap : Nat} {l : List UInt8} (h : w.ownsRow base 5 1 (.slice (some ⟨g, 0, none⟩) l.length cap) l.length (Lib.byteCells l)) (j : Nat) (u : Value) (hj : (Lib.byteCells l)[j]? = some u) : w.cell? (Addr.add ⟨g, 0, none⟩ j) = some u := by
  have hl : j < (Lib.byteCells l).length := by
    rcases Nat.lt_or_ge j (Lib.byteCells l).length with h' | h'
    · exact h'
    · rw [List.getElem?_eq_none h'] at hj; cases hj
  have hl2 : j < l.length := by simpa [Lib.byteCells] using hl
  have := h.cellAt j (by omega)
  rw [hj] at this
  unfold Addr.add
  split
  · rename_i h0; subst h0; exact this
  · simpa using this

set_option maxHeartbeats 8000000 in
set_option maxRecDepth 100000 in
theorem walk_off (w : World) (a : Option Addr) (n c : Nat) (hn : n ≤ maxLen) (x b : Int) (tab : Tab w) (h : n = 0 ∨ 100 < n) :
    Calls Tryd.prog 7 #[.slice a n c, .int .i64 x, .int .u8 b] w fun e w' => e = .returned (.bool true) ∧ Below w.heap.size w w' := by
  unfold maxLen at hn
  have T := Lib.hid tab
  clear tab
  rcases h with rfl | h1
  all_goals
    go_enter Tryd.func7, Tryd.ntmps7
    go_wp2_with fail
    refine (awake_quote _ T.out).mono ?_
    rintro e w1 ⟨rfl, b1⟩
    go_wp2
    go_ret
    exact ⟨rfl, b1⟩

end Go.Proofs.YtefljlbkdjaloaaDoor.quotePlain
