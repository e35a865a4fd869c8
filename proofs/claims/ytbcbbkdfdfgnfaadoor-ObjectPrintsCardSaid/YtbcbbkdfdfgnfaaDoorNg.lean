/-
  The helper Object of the statements.
-/
import Derived.Test.YtbcbbkdfdfgnfaaDoorNe
namespace Go.Proofs.YtbcbbkdfdfgnfaaDoor
set_option maxRecDepth 20000
open Go.RowKit
set_option linter.unusedVariables false
set_option linter.unusedSimpArgs false

set_option maxHeartbeats 2000000 in
/-- Objects held against each other. -/
theorem Object_any (k1 k2 : Int) (v1 v2 : Value) (l1 l2 : List UInt8) (w : World) (h1 : Red w v1 l1) (h2 : Red w v2 l2) :
    Calls Tryd.prog 16 #[.agg #[.int .i64 k1, v1], .agg #[.int .i64 k2, v2]] w fun e w' => e = .returned (.bool (k1 == k2 && l1 == l2)) ∧ Below w.heap.size w w' := by
  obtain ⟨a1, c1, rfl, hb1, hn1, hc1, hm1⟩ := h1
  obtain ⟨a2, c2, rfl, hb2, hn2, hc2, hm2⟩ := h2
  have b1 := (Below.refl w.heap.size w).alloc (Nat.le_refl _) (.cells #[.int .i64 k1, .slice a1 l1.length c1] 24)
  have b2 := b1.alloc b1.size (.cells #[.int .i64 k2, .slice a2 l2.length c2] 24)
  have BB := Lib.hid b2
  have CB := Lib.hid (Bytes_any a1 a2 _ _ c1 c2 l1 l2 _ (hb1.keep b2) (hb2.keep b2) rfl rfl)
  obtain ⟨n1, e1⟩ : ∃ n, l1.length = n := ⟨_, rfl⟩
  obtain ⟨n2, e2⟩ : ∃ n, l2.length = n := ⟨_, rfl⟩
  rw [e1, e2] at CB BB ⊢
  clear b1 b2 hb1 hb2 hn1 hn2 hc1 hc2 hm1 hm2 e1 e2
  by_cases hk : k1 = k2
  · subst hk
    have hr : (k1 == k1 && l1 == l2) = (l1 == l2) := by simp
    rw [hr]
    obtain ⟨r, hr2⟩ : ∃ r, (l1 == l2) = r := ⟨_, rfl⟩
    rw [hr2] at CB ⊢
    clear hr hr2
    go_enter Tryd.func16, Tryd.ntmps16
    go_wp2_with fail
    refine CB.out.mono ?_
    rintro e w1 ⟨rfl, rfl⟩
    go_wp2
    go_ret
    exact ⟨rfl, BB.out⟩
  · have hr : (k1 == k2 && l1 == l2) = false := by simp [hk]
    have hf : (k1 == k2) = false := beq_false_of_ne hk
    rw [hr]
    clear hr CB hk
    go_enter Tryd.func16, Tryd.ntmps16
    go_wp2
    go_ret
    exact ⟨rfl, BB.out⟩
end Go.Proofs.YtbcbbkdfdfgnfaaDoor
