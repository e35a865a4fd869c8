/-
  Layer 1: Hex of the reference.
-/
import Derived.Test.YtgjfaiidnloicaaDoorHb
import Derived.Deep.QuietTactic
import Derived.BigQuiet
import Derived.IntWalk
import Derived.WalkSmall
namespace Go.Proofs.YtgjfaiidnloicaaDoor
open Go.RowKit
set_option linter.unusedVariables false

theorem ext_dig16 : ∀ n : Fin 16, (⟨#[48, 49, 50, 51, 52, 53, 54, 55, 56, 57, 97, 98, 99, 100, 101, 102]⟩ : ByteArray).extract n.1 (n.1 + 1) = ⟨[hexDig n.1].toArray⟩ := by decide
theorem ext_dig (n : Nat) (h : n < 16) : (⟨#[48, 49, 50, 51, 52, 53, 54, 55, 56, 57, 97, 98, 99, 100, 101, 102]⟩ : ByteArray).extract n (n + 1) = ⟨[hexDig n].toArray⟩ := ext_dig16 ⟨n, h⟩

set_option maxHeartbeats 400000 in
theorem rHex_some (b o c : Nat) (l : List UInt8) (w : World) (hb : b < w.heap.size) (hc : ∀ i (h : i < l.length), w.cell? ⟨b, o + i, none⟩ = some (.int .u8 (l[i]).toNat)) (hn : l.length ≤ 1099511627776) :
    Calls Tryd.prog 15 #[.slice (some ⟨b, o, none⟩) l.length c] w fun e w' => e = .returned (.string ⟨(hexL l).toArray⟩) ∧ Below w.heap.size w w' := by
  have HC := Lib.hid hc; clear hc
  go_enter Tryd.func15, Tryd.ntmps15
  go_wp2_with fail
  go_loopw [3, 4] (fun s i wr => ∃ k : Nat, k ≤ l.length ∧ i = .int .i64 k ∧ s = .string ⟨(hexL (l.take k)).toArray⟩ ∧ Below w.heap.size w wr) (fun _ i _ => l.length - (intOf i).toNat)
  case atStart => exact ⟨0, Nat.zero_le _, rfl, rfl, Below.refl _ _⟩
  case round =>
    obtain ⟨k, hk, rfl, rfl, hbr⟩ := hrel
    by_cases hlt : k < l.length
    · have hcell : wr.cell? ⟨b, o + k, none⟩ = some (.int .u8 (l[k]).toNat) := (hbr.cell (p := ⟨b, o + k, none⟩) hb).trans (HC.out k hlt)
      have hx : (l[k]).toNat < 256 := (l[k]).toNat_lt
      obtain ⟨x, hxe⟩ : ∃ x : Nat, x = (l[k]).toNat := ⟨_, rfl⟩
      rw [← hxe] at hcell hx
      obtain ⟨acc, hacc⟩ : ∃ acc : List UInt8, acc = hexL (l.take k) := ⟨_, rfl⟩
      have hal : acc.length = 2 * k := by rw [hacc, hexL_length, List.length_take]; omega
      rw [← hacc]
      obtain ⟨s1, hs1⟩ : ∃ s : List UInt8, s = [hexDig (x / 16)] := ⟨_, rfl⟩
      obtain ⟨s2, hs2⟩ : ∃ s : List UInt8, s = [hexDig (x % 16)] := ⟨_, rfl⟩
      obtain ⟨acc1, ha1⟩ : ∃ a : List UInt8, a = acc ++ s1 := ⟨_, rfl⟩
      obtain ⟨acc2, ha2⟩ : ∃ a : List UInt8, a = acc1 ++ s2 := ⟨_, rfl⟩
      have g1 := ext_dig (x / 16) (by omega)
      have g2 := ext_dig (x % 16) (by omega)
      rw [← hs1] at g1
      rw [← hs2] at g2
      have b1 : (0 : Int) ≤ (x : Int) / 16 + 1 := by omega
      have b2 : (x : Int) / 16 + 1 ≤ 16 := by omega
      have b3 : (0 : Int) ≤ (x : Int) % 16 + 1 := by omega
      have b4 : (x : Int) % 16 + 1 ≤ 16 := by omega
      have t1 : ((x : Int) / 16 + 1).toNat = x / 16 + 1 := by omega
      have t2 : ((x : Int) / 16).toNat = x / 16 := by omega
      have t3 : ((x : Int) % 16 + 1).toNat = x % 16 + 1 := by omega
      have t4 : ((x : Int) % 16).toNat = x % 16 := by omega
      have d1 := fun w => add_lists (P := Tryd.prog) w acc s1 (by rw [hs1, hal]; simp; omega)
      rw [← ha1] at d1
      have d2 := fun w => add_lists (P := Tryd.prog) w acc1 s2 (by rw [hs2, ha1, hs1, List.length_append, hal]; simp; omega)
      rw [← ha2] at d2
      have q1 := IntWalk.i64_in ((x : Int) / 16 + 1) (by omega)
      have q2 := IntWalk.i64_in ((x : Int) % 16 + 1) (by omega)
      have fin : acc2 = hexL (l.take (k + 1)) := by
        rw [hexL_snoc l k hlt, ← hxe, ha2, ha1, hs1, hs2, hacc, List.append_assoc]; rfl
      have FIN := Lib.hid fin
      clear hs1 hs2 ha1 ha2 hal hacc fin hxe
      go_wp2_with fail
      go_quiet (fail)
      go_wp2_with fail
      go_quiet (fail)
      go_wp2
      go_roundw
      case rel => exact ⟨k + 1, by omega, by go_num, by rw [FIN.out], below_drewN hbr _⟩
      case measure => simp [intOf]; omega
    · obtain rfl : k = l.length := by omega
      rw [List.take_length]
      go_wp2
      go_ret
      exact ⟨rfl, hbr⟩
set_option maxHeartbeats 400000 in
theorem rHex_none (a : Option Addr) (c : Nat) (w : World) :
    Calls Tryd.prog 15 #[.slice a 0 c] w fun e w' => e = .returned (.string ⟨(hexL []).toArray⟩) ∧ Below w.heap.size w w' := by
  go_enter Tryd.func15, Tryd.ntmps15
  go_wp2_with fail
  refine wp_loop_rounds 1 ?_
  rw [rounds_succ]
  go_wp2
  go_ret
  exact ⟨rfl, Below.refl _ _⟩
theorem rHex_any (a : Option Addr) (n c : Nat) (l : List UInt8) (w : World) (h : BAt w a l) (hl : n = l.length) (hn : l.length ≤ 1099511627776) :
    Calls Tryd.prog 15 #[.slice a n c] w fun e w' => e = .returned (.string ⟨(hexL l).toArray⟩) ∧ Below w.heap.size w w' := by
  subst hl
  by_cases hp : 0 < l.length
  · obtain ⟨b, o, rfl, hb, hc⟩ := h hp
    exact rHex_some b o c l w hb hc hn
  · obtain rfl : l = [] := List.eq_nil_of_length_eq_zero (by omega)
    exact rHex_none a c w
end Go.Proofs.YtgjfaiidnloicaaDoor
