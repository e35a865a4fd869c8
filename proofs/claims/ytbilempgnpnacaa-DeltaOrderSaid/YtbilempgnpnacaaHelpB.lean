/-
  The helper Bytes of the statements.
-/
import Derived.Test.YtbilempgnpnacaaMm
import Derived.Deep.QuietTactic
import Derived.BigQuiet
import Derived.IntWalk
import Derived.WalkSmall
import Derived.OwnWalk
import Derived.Laws.OwnMore
import Derived.Laws.CopyOwn
namespace Go.Proofs.Ytbilempgnpnacaa
open Go.RowKit
set_option linter.unusedVariables false

set_option maxHeartbeats 400000 in
theorem Bytes_any (a1 a2 : Option Addr) (n1 n2 c1 c2 : Nat) (l1 l2 : List UInt8) (w : World) (h1 : BAt w a1 l1) (h2 : BAt w a2 l2) (e1 : n1 = l1.length) (e2 : n2 = l2.length) :
    Calls Try.prog 18 #[.slice a1 n1 c1, .slice a2 n2 c2] w fun e w' => e = .returned (.bool (l1 == l2)) ∧ w = w' := by
  subst e1; subst e2
  have g1 := h1.conv (P := Try.prog) c1 22 5 Try.underlying22 Try.underlying5 9 Try.underlying9
  have g2 := h2.conv (P := Try.prog) c2 22 5 Try.underlying22 Try.underlying5 9 Try.underlying9
  clear h1 h2
  go_enter Try.func18, Try.ntmps18
  go_wp2
  go_ret
  exact ⟨rfl, rfl⟩

theorem Bytes_same (a1 a2 : Option Addr) (n1 n2 c1 c2 : Nat) (l : List UInt8) (w : World) (h1 : BAt w a1 l) (h2 : BAt w a2 l) (e1 : n1 = l.length) (e2 : n2 = l.length) :
    Calls Try.prog 18 #[.slice a1 n1 c1, .slice a2 n2 c2] w fun e w' => e = .returned (.bool true) ∧ w = w' := by
  have h := Bytes_any a1 a2 n1 n2 c1 c2 l l w h1 h2 e1 e2
  rwa [show (l == l) = true by simp] at h

end Go.Proofs.Ytbilempgnpnacaa
