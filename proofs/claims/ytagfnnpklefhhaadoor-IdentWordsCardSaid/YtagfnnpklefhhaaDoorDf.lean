/-
  What stands behind a place of a text, decoded.
-/
import Derived.Test.YtagfnnpklefhhaaDoorMm
import Derived.Test.YtagfnnpklefhhaaDoorShelf
import Derived.Lib.RuneCountTail
namespace Go.Proofs.YtagfnnpklefhhaaDoor
open Go.RowKit
set_option linter.unusedVariables false

/-- What stands behind a place, decoded. -/
theorem decode_from (s : ByteArray) (i n : Nat) (hn : s.size = n) (h : i < n) (r : Int) (k : Nat) (hr : r = ((Utf8.decode s i).1 : Int)) (hk : k = (Utf8.decode s i).2) (w : World) (hT : Lib.Utf8Tabs 1 2 w) :
    Calls Tryd.prog 33 #[.string (s.extract i n)] w fun e w' => e = .returned (.tuple #[.int .i32 r, .int .i64 k]) ∧ Below w.heap.size w w' := by
  subst hn
  have e : Lib.decodeGo (s.extract i s.size) = Utf8.decode s i := by
    unfold Lib.decodeGo
    rw [if_neg (by rw [Lib.tail_size]; omega), Lib.tail_decode]
    rfl
  subst hr hk
  rw [← e]
  exact Tryd.utf8_DecodeRuneInString _ w hT
end Go.Proofs.YtagfnnpklefhhaaDoor
