/-
  Layer 4: one deed, whatever it is; the deeds that came in.
-/
import Derived.Test.YtghncdoophoieaaTqa
import Derived.Test.YtghncdoophoieaaTqb
import Derived.Test.YtghncdoophoieaaTqc
import Derived.Test.YtghncdoophoieaaTqd
namespace Go.Proofs.Ytghncdoophoieaa
open Go.RowKit
set_option linter.unusedVariables false

theorem do_any (w0 w : World) (bt br : Nat) (s : Sx) (h : Two w0 w bt br (fun _ => False) s s) (what n : Int) (hn63 : n ≤ 9223372036854775807) (pa : Option Addr) (np pc : Nat) (ls : List (List UInt8)) (hp : PartsIn (fun k => k < w0.heap.size) w0 pa ls) (hn : np = ls.length) (hm : np ≤ maxLen) :
    Calls Try.prog 11 #[.pointer (some ⟨bt, 0, none⟩), .pointer (some ⟨br, 0, none⟩), .agg #[.int .i64 what, .int .i64 n, .slice pa np pc]] w fun e w' => e = .returned (.bool true) ∧ Did w0 bt br s what w' := by
  by_cases hok : okParts ls
  · by_cases ho : what < 0 ∨ 7 < what
    · exact do_other w0 w bt br s h n hn63 pa np pc ls hp hn hm what hok ho
    · have hc : what = 0 ∨ what = 1 ∨ what = 2 ∨ what = 3 ∨ what = 4 ∨ what = 5 ∨ what = 6 ∨ what = 7 := by omega
      rcases hc with rfl | rfl | rfl | rfl | rfl | rfl | rfl | rfl
      · exact do_write w0 w bt br s h n hn63 pa np pc ls hp hn hm hok
      · exact do_hold w0 w bt br s h n hn63 pa np pc ls hp hn hm hok
      · exact do_cut w0 w bt br s h n hn63 pa np pc ls hp hn hm hok
      · exact do_swap w0 w bt br s h n hn63 pa np pc ls hp hn hm hok
      · exact do_room w0 w bt br s h n hn63 pa np pc ls hp hn hm hok
      · exact do_fuse w0 w bt br s h n hn63 pa np pc ls hp hn hm hok
      · exact do_fall w0 w bt br s h n hn63 pa np pc ls hp hn hm hok
      · exact do_rise w0 w bt br s h n hn63 pa np pc ls hp hn hm hok
  · exact do_bad w0 w bt br s h n hn63 pa np pc ls hp hn hm what hok
/-- A deed in the cells of one that came in. -/
def DeedAt (W : World) (b o : Nat) (wh n : Int) (pa : Option Addr) (np pc : Nat) (ls : List (List UInt8)) : Prop :=
  W.cell? ⟨b, o, none⟩ = some (.int .i64 wh) ∧ W.cell? ⟨b, o + 1, none⟩ = some (.int .i64 n) ∧ W.cell? ⟨b, o + 2, none⟩ = some (.slice pa np pc) ∧ n ≤ 9223372036854775807 ∧ np = ls.length ∧ np ≤ maxLen ∧ PartsIn (fun k => k < W.heap.size) W pa ls
def DeedsAt (W : World) (a : Option Addr) (n : Nat) : Prop :=
  0 < n → ∃ b o, a = some ⟨b, o, none⟩ ∧ b < W.heap.size ∧ ∀ i, i < n → ∃ wh k pa np pc ls, DeedAt W b (o + i * 3) wh k pa np pc ls
end Go.Proofs.Ytghncdoophoieaa
