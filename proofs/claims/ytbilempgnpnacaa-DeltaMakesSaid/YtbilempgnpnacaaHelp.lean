/-
  The helpers of the statements over bytes: Same, Plain.
-/
import Derived.Test.YtbilempgnpnacaaMm
import Derived.Deep.QuietTactic
import Derived.BigQuiet
import Derived.IntWalk
import Derived.WalkSmall
import Derived.OwnWalk
import Derived.Laws.OwnMore
import Derived.Laws.CopyOwn
namespace Go.Proofs.Ytbilempgnpnacaa
open Go.RowKit
set_option linter.unusedVariables false

set_option maxHeartbeats 400000 in
theorem eq_byte (x y : Int) (w : World) :
    Calls Try.prog 38 #[.int .u8 x, .int .u8 y] w fun e w' => e = .returned (.bool (x == y)) ∧ w = w' := by
  go_enter Try.func38, Try.ntmps38
  go_wp2
  go_ret
  exact ⟨rfl, rfl⟩

theorem eq_byte_same (x : Int) (w : World) :
    Calls Try.prog 38 #[.int .u8 x, .int .u8 x] w fun e w' => e = .returned (.bool true) ∧ w = w' := by
  have h := eq_byte x x w
  rwa [show (x == x) = true by simp] at h

set_option maxHeartbeats 400000 in
theorem Same_some (b1 o1 b2 o2 c1 c2 : Nat) (l : List UInt8) (w : World) (h1 : b1 < w.heap.size) (h2 : b2 < w.heap.size)
    (hc1 : ∀ i (h : i < l.length), w.cell? ⟨b1, o1 + i, none⟩ = some (.int .u8 (l[i]).toNat)) (hc2 : ∀ i (h : i < l.length), w.cell? ⟨b2, o2 + i, none⟩ = some (.int .u8 (l[i]).toNat)) (hn : l.length ≤ 1099511627776) :
    Calls Try.prog 37 #[.slice (some ⟨b1, o1, none⟩) l.length c1, .slice (some ⟨b2, o2, none⟩) l.length c2, .func (.func 38) #[] #[]] w fun e w' => e = .returned (.bool true) ∧ Below w.heap.size w w' := by
  have HC1 := Lib.hid hc1; clear hc1
  have HC2 := Lib.hid hc2; clear hc2
  go_enter Try.func37, Try.ntmps37
  go_wp2_with fail
  go_loopw [7] (fun i wr => ∃ k : Nat, k ≤ l.length ∧ i = .int .i64 k ∧ Below w.heap.size w wr) (fun i _ => l.length - (intOf i).toNat)
  case atStart => exact ⟨0, Nat.zero_le _, rfl, Below.refl _ _⟩
  case round =>
    obtain ⟨k, hk, rfl, hbr⟩ := hrel
    by_cases hlt : k < l.length
    · have hcell1 : wr.cell? ⟨b1, o1 + k, none⟩ = some (.int .u8 (l[k]).toNat) := (hbr.cell (p := ⟨b1, o1 + k, none⟩) h1).trans (HC1.out k hlt)
      have hcell2 : wr.cell? ⟨b2, o2 + k, none⟩ = some (.int .u8 (l[k]).toNat) := (hbr.cell (p := ⟨b2, o2 + k, none⟩) h2).trans (HC2.out k hlt)
      obtain ⟨x, hxe⟩ : ∃ x : Int, x = (l[k]).toNat := ⟨_, rfl⟩
      rw [← hxe] at hcell1 hcell2
      clear hxe
      go_wp2_with fail
      go_quiet ((go_at_call 38; exact Calls.quiet_of_same ((eq_byte_same _ _).mono fun _ _ h => ⟨h.1, h.2.symm⟩)))
      go_wp2
      go_roundw
      case rel => exact ⟨k + 1, by omega, by go_num, below_drewN hbr _⟩
      case measure => simp [intOf]; omega
    · obtain rfl : k = l.length := by omega
      go_wp2
      go_ret
      exact ⟨rfl, hbr⟩
set_option maxHeartbeats 400000 in
theorem Same_none (a1 a2 : Option Addr) (c1 c2 : Nat) (w : World) :
    Calls Try.prog 37 #[.slice a1 0 c1, .slice a2 0 c2, .func (.func 38) #[] #[]] w fun e w' => e = .returned (.bool true) ∧ Below w.heap.size w w' := by
  go_enter Try.func37, Try.ntmps37
  go_wp2_with fail
  refine wp_loop_rounds 1 ?_
  rw [rounds_succ]
  go_wp2
  go_ret
  exact ⟨rfl, Below.refl _ _⟩
theorem Same_any (a1 a2 : Option Addr) (n1 n2 c1 c2 : Nat) (l : List UInt8) (w : World) (h1 : BAt w a1 l) (h2 : BAt w a2 l) (e1 : n1 = l.length) (e2 : n2 = l.length) (hn : l.length ≤ 1099511627776) :
    Calls Try.prog 37 #[.slice a1 n1 c1, .slice a2 n2 c2, .func (.func 38) #[] #[]] w fun e w' => e = .returned (.bool true) ∧ Below w.heap.size w w' := by
  subst e1; subst e2
  by_cases hp : 0 < l.length
  · obtain ⟨b1, o1, rfl, hb1, hc1⟩ := h1 hp
    obtain ⟨b2, o2, rfl, hb2, hc2⟩ := h2 hp
    exact Same_some b1 o1 b2 o2 c1 c2 l w hb1 hb2 hc1 hc2 hn
  · obtain rfl : l = [] := List.eq_nil_of_length_eq_zero (by omega)
    exact Same_none a1 a2 c1 c2 w
set_option maxHeartbeats 400000 in
theorem Plain_any (a1 a2 : Option Addr) (n1 n2 c1 c2 : Nat) (l : List UInt8) (w : World) (h1 : BAt w a1 l) (h2 : BAt w a2 l) (e1 : n1 = l.length) (e2 : n2 = l.length) (hn : l.length ≤ 1099511627776) :
    Calls Try.prog 30 #[.slice a1 n1 c1, .slice a2 n2 c2] w fun e w' => e = .returned (.bool true) ∧ Below w.heap.size w w' := by
  have C := Lib.hid (Same_any a1 a2 n1 n2 c1 c2 l w h1 h2 e1 e2 hn)
  clear h1 h2 e1 e2
  go_enter Try.func30, Try.ntmps30
  go_wp2_with fail
  refine C.out.mono ?_
  rintro e w1 ⟨rfl, hb⟩
  go_wp2
  go_ret
  exact ⟨rfl, hb⟩
end Go.Proofs.Ytbilempgnpnacaa
