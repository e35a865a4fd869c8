/-
  The walk of QuoteQuotes, over the contracts.
-/
import Derived.Test.YtkhfgddjnnibdaaDoorQb
import Derived.Test.YtkhfgddjnnibdaaDoorQm
import Derived.Test.YtkhfgddjnnibdaaDoorRv
namespace Go.Proofs.YtkhfgddjnnibdaaDoor
open Go.RowKit
theorem rUnquote_is (l : List UInt8) (w : World) (hn : l.length ≤ 1000000) :
    Calls Tryd.prog 14 #[.string ⟨l.toArray⟩] w fun e w' => e = .returned (unqV (unqL l)) ∧ Below w.heap.size w w' := by
  by_cases h : (l.getD 0 0).toNat = 34
  · exact rUnq_marks l w hn h
  · exact rUnq_bare l w hn h
end Go.Proofs.YtkhfgddjnnibdaaDoor
namespace Go.Proofs.YtkhfgddjnnibdaaDoor.quoteQuotes
open Go.RowKit
set_option linter.unusedVariables false
set_option linter.unusedSimpArgs false

set_option maxHeartbeats 8000000 in
set_option maxRecDepth 100000 in
theorem walk_long (w : World) (l t : List UInt8) (hl : l.length ≤ maxLen) (ht : t.length ≤ maxLen) (tab : Tab w) (h : 1000 < l.length ∨ 1000 < t.length) :
    Calls Tryd.prog 4 #[.string ⟨l.toArray⟩, .string ⟨t.toArray⟩] w fun e w' => e = .returned (.bool true) ∧ Below w.heap.size w w' := by
  unfold maxLen at hl ht
  have T := Lib.hid tab
  clear tab
  have z1 := size_toArray l
  have z2 := size_toArray t
  generalize (⟨l.toArray⟩ : ByteArray) = s1 at z1 ⊢
  generalize (⟨t.toArray⟩ : ByteArray) = s2 at z2 ⊢
  have hq : 1000 < l.length ∨ (¬ 1000 < l.length ∧ 1000 < t.length) := by omega
  clear h
  rcases hq with h1 | ⟨h1, h2⟩
  all_goals
    go_enter Tryd.func4, Tryd.ntmps4
    go_wp2_with fail
    refine (awake_quote _ T.out).mono ?_
    rintro e w1 ⟨rfl, b1⟩
    go_wp2
    go_ret
    exact ⟨rfl, b1⟩

set_option maxHeartbeats 16000000 in
set_option maxRecDepth 100000 in
theorem walk_short (w : World) (l t : List UInt8) (h1 : l.length ≤ 1000) (h2 : t.length ≤ 1000) (tab : Tab w) (err : ErrTab w) :
    Calls Tryd.prog 4 #[.string ⟨l.toArray⟩, .string ⟨t.toArray⟩] w fun e w' => e = .returned (.bool true) ∧ Below w.heap.size w w' := by
  have T := Lib.hid tab
  have EE := Lib.hid err
  clear tab err
  have c1 := fun w (tb : Tab w) (er : ErrTab w) => Unquote_is t w (by omega) tb.utf er
  have c2 := fun w => rUnquote_is t w (by omega)
  have c3 := fun w (tb : Tab w) => Quote_is l w (by omega) tb.utf
  have c4 := fun w => rQuote_is l w (by omega)
  obtain ⟨⟨y, n, f⟩, hu⟩ : ∃ u, unqL t = u := ⟨_, rfl⟩
  rw [hu] at c1 c2
  unfold unqV at c1 c2
  simp only at c1 c2
  have z1 := size_toArray l
  have z2 := size_toArray t
  generalize (⟨(quoteL l).toArray⟩ : ByteArray) = qb at c3 c4
  generalize (⟨y.toArray⟩ : ByteArray) = yb at c1 c2
  generalize (⟨l.toArray⟩ : ByteArray) = s1 at c3 c4 z1 ⊢
  generalize (⟨t.toArray⟩ : ByteArray) = s2 at c1 c2 z2 ⊢
  have hq1 : (qb.toList == qb.toList) = true := by simp
  have hq2 : (yb.toList == yb.toList) = true := by simp
  have hq3 : (f == f) = true := by simp
  have hq4 : ((n : Int) == (n : Int)) = true := by simp
  have C1 := Lib.hid c1
  have C2 := Lib.hid c2
  have C3 := Lib.hid c3
  have C4 := Lib.hid c4
  clear c1 c2 c3 c4 hu
  go_enter Tryd.func4, Tryd.ntmps4
  go_wp2_with fail
  refine (C1.out _ T.out EE.out).mono ?_
  rintro e w1 ⟨rfl, b1⟩
  go_wp2_with fail
  refine (C2.out _).mono ?_
  rintro e w2 ⟨rfl, b2⟩
  have b12 := b1.trans (b2.mono b1.size)
  go_wp2_with fail
  refine (awake_quote _ (T.out.below b12)).mono ?_
  rintro e w3 ⟨rfl, b3⟩
  have b13 := b12.trans (b3.mono b12.size)
  go_wp2_with fail
  refine (C3.out _ (T.out.below b13)).mono ?_
  rintro e w4 ⟨rfl, b4⟩
  have b14 := b13.trans (b4.mono b13.size)
  go_wp2_with fail
  refine (C4.out _).mono ?_
  rintro e w5 ⟨rfl, b5⟩
  have b15 := b14.trans (b5.mono b14.size)
  go_wp2
  go_ret
  exact ⟨rfl, b15⟩

theorem walk (w : World) (l : List UInt8) (hl : l.length ≤ maxLen) (t : List UInt8) (ht : t.length ≤ maxLen) (tab : Tab w ∧ ErrTab w) :
    Calls Tryd.prog 4 #[.string ⟨l.toArray⟩, .string ⟨t.toArray⟩] w fun e w' => e = .returned (.bool true) ∧ Below w.heap.size w w' := by
  by_cases h : 1000 < l.length ∨ 1000 < t.length
  · exact walk_long w l t hl ht tab.1 h
  · exact walk_short w l t (by omega) (by omega) tab.1 tab.2
end Go.Proofs.YtkhfgddjnnibdaaDoor.quoteQuotes
