/-
  The helper Kept of the statements, over bytes: the copy that Own made is as it was.
-/
import Derived.Test.YtbilempgnpnacaaOwn
import Derived.Test.YtbilempgnpnacaaHelp
namespace Go.Proofs.Ytbilempgnpnacaa
open Go.RowKit
set_option linter.unusedVariables false

set_option maxHeartbeats 1000000 in
theorem Kept_any (g n n2 c c2 : Nat) (a : Option Addr) (l : List UInt8) (f : Int) (w : World) (ho : OwnAt w g l f) (h : BAt w a l) (e1 : n = l.length) (e2 : c = l.length + 3) (e3 : n2 = l.length) (hn : l.length ≤ 1099511627776) :
    Calls Try.prog 21 #[.slice (some ⟨g, 0, none⟩) n c, .slice a n2 c2, .int .u8 f] w fun e w' => e = .returned (.bool true) ∧ Below w.heap.size w w' := by
  subst e1; subst e2; subst e3
  have P := Lib.hid (fun c1 => Plain_any (some ⟨g, 0, none⟩) a l.length l.length c1 c2 l w ho.bat h rfl rfl hn)
  have HO := Lib.hid ho
  have hg := ho.lt
  clear ho h
  go_enter Try.func21, Try.ntmps21
  go_wp2_with fail
  refine (P.out _).mono ?_
  rintro e w1 ⟨rfl, hb1⟩
  have HO1 := Lib.hid (HO.out.keep hb1)
  go_wp2_with fail
  go_loopw [8] (fun i wr => ∃ k : Nat, l.length ≤ k ∧ k ≤ l.length + 3 ∧ i = .int .i64 k ∧ Below w.heap.size w wr) (fun i _ => l.length + 3 - (intOf i).toNat)
  case atStart => exact ⟨l.length, Nat.le_refl _, by omega, rfl, hb1⟩
  case round =>
    obtain ⟨k, hk0, hk, rfl, hbr⟩ := hrel
    by_cases hlt : k < l.length + 3
    · have hcell := (HO.out.keep hbr).room k hk0 hlt
      go_wp2
      go_roundw
      case rel => exact ⟨k + 1, by omega, by omega, by go_num, hbr⟩
      case measure => simp [intOf]; omega
    · obtain rfl : k = l.length + 3 := by omega
      go_wp2
      go_ret
      exact ⟨rfl, hbr⟩
end Go.Proofs.Ytbilempgnpnacaa
