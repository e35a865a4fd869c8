/-
  The walk of TapeNil, over the contracts.
-/
import Derived.Test.YtghncdoophoieaaTk
namespace Go.Proofs.Ytghncdoophoieaa.tapeNil
open Go.RowKit
set_option linter.unusedVariables false

set_option maxHeartbeats 4000000 in
theorem walk (w : World) (a : Option Addr) (n c : Nat) (l : List UInt8) (hl : n = l.length) (hb : BAt w a l) (hn : a = none → n = 0 ∧ c = 0) (hc : n ≤ c ∧ c ≤ maxLen) (x : Int) (x0 : -9223372036854775808 ≤ x) (x1 : x ≤ 9223372036854775807) :
    Calls Try.prog 7 #[.slice a n c, .int .i64 x] w fun e w' => e = .returned (.bool true) ∧ Below w.heap.size w w' := by
  have hm : n ≤ 9223372036854775807 := by have := hc.1; have := hc.2; unfold maxLen at *; omega
  clear hl hb hn hc
  by_cases h : 500 < n
  · go_enter Try.func7, Try.ntmps7
    go_wp2_with fail
    refine (tape_awake _).mono ?_
    rintro e w1 ⟨rfl, b1⟩
    go_wp2
    go_ret
    exact ⟨rfl, b1⟩
  · have h2 : n ≤ 500 := by omega
    go_enter Try.func7, Try.ntmps7
    go_wp2_with (first
      | (go_at_call 27; refine (Room_nil _ _).mono ?_; rintro e w' ⟨rfl, rfl⟩)
      | (go_at_call 22; refine (Fuse_nil _ _).mono ?_; rintro e w' ⟨rfl, rfl⟩)
      | (go_at_call 23; refine (Fall_nil _ _).mono ?_; rintro e w' ⟨rfl, rfl⟩)
      | (go_at_call 24; refine (Rise_nil _).mono ?_; rintro e w' ⟨rfl, rfl⟩)
      | fail)
    refine (tape_awake _).mono ?_
    rintro e w1 ⟨rfl, b1⟩
    have b2 : Below w.heap.size w (w1.alloc (.cells #[.slice a n c] 32)) := b1.alloc b1.size _
    go_wp2_with (first
      | (go_at_call 17; refine (Write_nil _ _ _ _).mono ?_; rintro e w' ⟨rfl, rfl⟩)
      | (go_at_call 18; refine (Hold_nil _).mono ?_; rintro e w' ⟨rfl, rfl⟩)
      | (go_at_call 28; refine (Cut_nil _ _).mono ?_; rintro e w' ⟨rfl, rfl⟩)
      | (go_at_call 26; refine (Swap_nil _ _ _ _).mono ?_; rintro e w' ⟨rfl, rfl⟩)
      | (go_at_call 12; refine (Bytes_nil _).mono ?_; rintro e w' ⟨rfl, rfl⟩)
      | (go_at_call 14; refine (Held_nil _).mono ?_; rintro e w' ⟨rfl, rfl⟩)
      | (go_at_call 15; refine (Down_nil _).mono ?_; rintro e w' ⟨rfl, rfl⟩)
      | fail)
    go_ret
    exact ⟨rfl, b2⟩
end Go.Proofs.Ytghncdoophoieaa.tapeNil
