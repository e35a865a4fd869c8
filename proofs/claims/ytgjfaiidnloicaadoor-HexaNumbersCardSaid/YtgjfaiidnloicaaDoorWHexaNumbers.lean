/-
  The walk of HexaNumbers, over the contracts.
-/
import Derived.Test.YtgjfaiidnloicaaDoorAw
import Derived.Test.YtgjfaiidnloicaaDoorHm
namespace Go.Proofs.YtgjfaiidnloicaaDoor.hexaNumbers
open Go.RowKit
set_option linter.unusedVariables false

set_option maxHeartbeats 1000000 in
theorem walk (w : World) (x : Int) (x0 : -9223372036854775808 ≤ x) (x1 : x ≤ 9223372036854775807) (l1 : List UInt8) (hl1 : l1.length ≤ maxLen) (l2 : List UInt8) (hl2 : l2.length ≤ maxLen) (tab : Tab w) :
    Calls Tryd.prog 4 #[.int .i64 x, .string ⟨l1.toArray⟩, .string ⟨l2.toArray⟩] w fun e w' => e = .returned (.bool true) ∧ Below w.heap.size w w' := by
  unfold maxLen at hl1 hl2
  have T := Lib.hid tab; clear tab
  by_cases h1 : 300 < l1.length
  · go_enter Tryd.func4, Tryd.ntmps4
    go_wp2_with fail
    refine (awake_any _ T.out).mono ?_
    rintro e w1 ⟨rfl, hb⟩
    go_wp2
    go_ret
    exact ⟨rfl, hb⟩
  by_cases h2 : 300 < l2.length
  · go_enter Tryd.func4, Tryd.ntmps4
    go_wp2_with fail
    refine (awake_any _ T.out).mono ?_
    rintro e w1 ⟨rfl, hb⟩
    go_wp2
    go_ret
    exact ⟨rfl, hb⟩
  have C1 := Lib.hid (fun w => Take_all l1 (by omega) w)
  have C2 := Lib.hid (fun w => rTake_all l1 (by omega) w)
  obtain ⟨v, hv⟩ : ∃ v : Int, v = (tv l1).1 := ⟨_, rfl⟩
  obtain ⟨er, her⟩ : ∃ v : Int, v = (tv l1).2 := ⟨_, rfl⟩
  rw [← hv, ← her] at C1 C2
  obtain ⟨c, hc⟩ : ∃ v : Int, v = Lib.compareBytes l1 l2 := ⟨_, rfl⟩
  have C3 := Lib.hid (fun w => Compare_any l1 l2 w)
  have C4 := Lib.hid (fun w => rCompare_any l1 l2 w)
  have C5 := Lib.hid (fun w => Compare_any l1 l1 w)
  rw [← hc] at C3 C4
  rw [cmp_same] at C5
  clear hv her hc
  go_enter Tryd.func4, Tryd.ntmps4
  go_wp2_with fail
  refine (C1.out _).mono ?_
  rintro e w1 ⟨rfl, b1⟩
  go_wp2_with fail
  refine (C2.out _).mono ?_
  rintro e w2 ⟨rfl, b2⟩
  have b12 := b1.trans (b2.mono b1.size)
  go_wp2_with fail
  refine (awake_any _ (T.out.keep b12)).mono ?_
  rintro e w3 ⟨rfl, b3⟩
  have b13 := b12.trans (b3.mono b12.size)
  go_wp2_with fail
  refine (Number_any x x0 x1 _ (T.out.keep b13)).mono ?_
  rintro e w4 ⟨rfl, b4⟩
  have b14 := b13.trans (b4.mono b13.size)
  go_wp2_with fail
  refine (rNumber x x0 x1 _).mono ?_
  rintro e w5 ⟨rfl, b5⟩
  have b15 := b14.trans (b5.mono b14.size)
  clear b1 b2 b12 b3 b13 b4 b14 b5
  go_wp2_with fail
  refine (C3.out _).mono ?_
  rintro e w6 ⟨rfl, rfl⟩
  go_wp2_with fail
  refine (C4.out _).mono ?_
  rintro e w6 ⟨rfl, rfl⟩
  go_wp2_with fail
  refine (C5.out _).mono ?_
  rintro e w6 ⟨rfl, rfl⟩
  go_wp2
  go_ret
  exact ⟨rfl, b15⟩
end Go.Proofs.YtgjfaiidnloicaaDoor.hexaNumbers
