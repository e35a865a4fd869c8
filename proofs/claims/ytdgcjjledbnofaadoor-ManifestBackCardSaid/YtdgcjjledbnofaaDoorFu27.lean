/-
  Texts that belong together, one behind the other.
-/
import Derived.Test.YtdgcjjledbnofaaDoorFu26
import Derived.Test.YtdgcjjledbnofaaDoorFu04
import Derived.Deep.QuietTactic
import Derived.BigQuiet
import Derived.IntWalk
import Derived.WalkSmall
import Derived.Test.YtdgcjjledbnofaaDoorFu07
import Derived.OwnWalk
import Derived.Lib.Hide
/-
  Cut of Drb: Right of the document, whatever the list.
-/
namespace Go.Proofs.YtdgcjjledbnofaaDoor
set_option maxRecDepth 20000
open Go.RowKit
set_option linter.unusedVariables false
set_option linter.unusedSimpArgs false

set_option maxHeartbeats 2000000 in
theorem rfRight_is (a : Option Addr) (n c : Nat) (l : List Fil) (w : World) (hn : n = l.length) (hm : n ≤ 1000000) (hat : FilesAt w a l) (hid : ∀ i ∈ l, i.id.length = 20) (hnm : ∀ i ∈ l, i.path.length ≤ 100000) (tab : QTab w) :
    Calls Tryd.prog 21 #[.slice a n c] w fun e w' => e = .returned (.bool (rightF l)) ∧ Below w.heap.size w w' := by
  by_cases h1 : n = 0
  · have hR : rightF l = true := by
      have : l = [] := List.eq_nil_of_length_eq_zero (by omega)
      subst this
      rfl
    rw [hR]
    subst h1
    clear hn hm hat hid hnm tab hR
    go_enter Tryd.func21, Tryd.ntmps21
    go_wp2_with fail
    refine wp_loop_rounds 1 ?_
    rw [rounds_succ]
    go_wp2
    go_ret
    exact ⟨rfl, Below.refl _ _⟩
  · obtain ⟨b, o, rfl, -⟩ := hat.some (by omega)
    exact rfRight_some b o n c l w hn hm (fun _ => hat) hid hnm tab
end Go.Proofs.YtdgcjjledbnofaaDoor

/-
  Layer 1: Hex of the reference.
-/
namespace Go.Proofs.YtdgcjjledbnofaaDoor
open Go.RowKit
set_option linter.unusedVariables false

theorem ext_dig16 : ∀ n : Fin 16, (⟨#[48, 49, 50, 51, 52, 53, 54, 55, 56, 57, 97, 98, 99, 100, 101, 102]⟩ : ByteArray).extract n.1 (n.1 + 1) = ⟨[hexDig n.1].toArray⟩ := by decide
theorem ext_dig (n : Nat) (h : n < 16) : (⟨#[48, 49, 50, 51, 52, 53, 54, 55, 56, 57, 97, 98, 99, 100, 101, 102]⟩ : ByteArray).extract n (n + 1) = ⟨[hexDig n].toArray⟩ := ext_dig16 ⟨n, h⟩

set_option maxHeartbeats 400000 in
theorem rHex_some (b o c : Nat) (l : List UInt8) (w : World) (hb : b < w.heap.size) (hc : ∀ i (h : i < l.length), w.cell? ⟨b, o + i, none⟩ = some (.int .u8 (l[i]).toNat)) (hn : l.length ≤ 1099511627776) :
    Calls Tryd.prog 17 #[.slice (some ⟨b, o, none⟩) l.length c] w fun e w' => e = .returned (.string ⟨(hexL l).toArray⟩) ∧ Below w.heap.size w w' := by
  have HC := Lib.hid hc; clear hc
  go_enter Tryd.func17, Tryd.ntmps17
  go_wp2_with fail
  go_loopw [3, 4] (fun s i wr => ∃ k : Nat, k ≤ l.length ∧ i = .int .i64 k ∧ s = .string ⟨(hexL (l.take k)).toArray⟩ ∧ Below w.heap.size w wr) (fun _ i _ => l.length - (intOf i).toNat)
  case atStart => exact ⟨0, Nat.zero_le _, rfl, rfl, Below.refl _ _⟩
  case round =>
    obtain ⟨k, hk, rfl, rfl, hbr⟩ := hrel
    by_cases hlt : k < l.length
    · have hcell : wr.cell? ⟨b, o + k, none⟩ = some (.int .u8 (l[k]).toNat) := (hbr.cell (p := ⟨b, o + k, none⟩) hb).trans (HC.out k hlt)
      have hx : (l[k]).toNat < 256 := (l[k]).toNat_lt
      obtain ⟨x, hxe⟩ : ∃ x : Nat, x = (l[k]).toNat := ⟨_, rfl⟩
      rw [← hxe] at hcell hx
      obtain ⟨acc, hacc⟩ : ∃ acc : List UInt8, acc = hexL (l.take k) := ⟨_, rfl⟩
      have hal : acc.length = 2 * k := by rw [hacc, hexL_length, List.length_take]; omega
      rw [← hacc]
      obtain ⟨s1, hs1⟩ : ∃ s : List UInt8, s = [hexDig (x / 16)] := ⟨_, rfl⟩
      obtain ⟨s2, hs2⟩ : ∃ s : List UInt8, s = [hexDig (x % 16)] := ⟨_, rfl⟩
      obtain ⟨acc1, ha1⟩ : ∃ a : List UInt8, a = acc ++ s1 := ⟨_, rfl⟩
      obtain ⟨acc2, ha2⟩ : ∃ a : List UInt8, a = acc1 ++ s2 := ⟨_, rfl⟩
      have g1 := ext_dig (x / 16) (by omega)
      have g2 := ext_dig (x % 16) (by omega)
      rw [← hs1] at g1
      rw [← hs2] at g2
      have b1 : (0 : Int) ≤ (x : Int) / 16 + 1 := by omega
      have b2 : (x : Int) / 16 + 1 ≤ 16 := by omega
      have b3 : (0 : Int) ≤ (x : Int) % 16 + 1 := by omega
      have b4 : (x : Int) % 16 + 1 ≤ 16 := by omega
      have t1 : ((x : Int) / 16 + 1).toNat = x / 16 + 1 := by omega
      have t2 : ((x : Int) / 16).toNat = x / 16 := by omega
      have t3 : ((x : Int) % 16 + 1).toNat = x % 16 + 1 := by omega
      have t4 : ((x : Int) % 16).toNat = x % 16 := by omega
      have d1 := fun w => add_lists (P := Tryd.prog) w acc s1 (by rw [hs1, hal]; simp; omega)
      rw [← ha1] at d1
      have d2 := fun w => add_lists (P := Tryd.prog) w acc1 s2 (by rw [hs2, ha1, hs1, List.length_append, hal]; simp; omega)
      rw [← ha2] at d2
      have q1 := IntWalk.i64_in ((x : Int) / 16 + 1) (by omega)
      have q2 := IntWalk.i64_in ((x : Int) % 16 + 1) (by omega)
      have fin : acc2 = hexL (l.take (k + 1)) := by
        rw [hexL_snoc l k hlt, ← hxe, ha2, ha1, hs1, hs2, hacc, List.append_assoc]; rfl
      have FIN := Lib.hid fin
      clear hs1 hs2 ha1 ha2 hal hacc fin hxe
      go_wp2_with fail
      go_quiet (fail)
      go_wp2_with fail
      go_quiet (fail)
      go_wp2
      go_roundw
      case rel => exact ⟨k + 1, by omega, by go_num, by rw [FIN.out], _root_.Go.below_drewN hbr _⟩
      case measure => simp [intOf]; omega
    · obtain rfl : k = l.length := by omega
      rw [List.take_length]
      go_wp2
      go_ret
      exact ⟨rfl, hbr⟩
set_option maxHeartbeats 400000 in
theorem rHex_none (a : Option Addr) (c : Nat) (w : World) :
    Calls Tryd.prog 17 #[.slice a 0 c] w fun e w' => e = .returned (.string ⟨(hexL []).toArray⟩) ∧ Below w.heap.size w w' := by
  go_enter Tryd.func17, Tryd.ntmps17
  go_wp2_with fail
  refine wp_loop_rounds 1 ?_
  rw [rounds_succ]
  go_wp2
  go_ret
  exact ⟨rfl, Below.refl _ _⟩
theorem rHex_any (a : Option Addr) (n c : Nat) (l : List UInt8) (w : World) (h : BAt w a l) (hl : n = l.length) (hn : l.length ≤ 1099511627776) :
    Calls Tryd.prog 17 #[.slice a n c] w fun e w' => e = .returned (.string ⟨(hexL l).toArray⟩) ∧ Below w.heap.size w w' := by
  subst hl
  by_cases hp : 0 < l.length
  · obtain ⟨b, o, rfl, hb, hc⟩ := h hp
    exact rHex_some b o c l w hb hc hn
  · obtain rfl : l = [] := List.eq_nil_of_length_eq_zero (by omega)
    exact rHex_none a c w
end Go.Proofs.YtdgcjjledbnofaaDoor

/-
  Helpers of the statements: Find of a byte, from a place on.
-/
namespace Go.Proofs.YtdgcjjledbnofaaDoor
set_option maxRecDepth 20000
open Go.RowKit
set_option linter.unusedVariables false
set_option linter.unusedSimpArgs false

/-- Where a byte stands first, from a place on; -1. -/
def findB (s : List UInt8) (c : UInt8) (k : Nat) : Int := if (s.drop k).findIdx (· == c) < (s.drop k).length then k + ((s.drop k).findIdx (· == c) : Nat) else -1
theorem findB_at (s : List UInt8) (c d : UInt8) (hd : d ≠ c) (k i : Nat) (hk : k ≤ i) (hi : i < s.length) (h : s.getD i d = c) (hn : ∀ j, k ≤ j → j < i → s.getD j d ≠ c) : findB s c k = i := by
  have hl : (s.drop k).length = s.length - k := List.length_drop
  have e : (s.drop k).findIdx (· == c) = i - k := by
    rw [List.findIdx_eq (by omega)]
    refine ⟨?_, fun j hj => ?_⟩
    · rw [List.getD_eq_getElem?_getD, List.getElem?_eq_getElem hi] at h
      simp only [Option.getD_some] at h
      rw [List.getElem_drop]
      simp only [show k + (i - k) = i by omega, h]
      simp
    · have := hn (k + j) (by omega) (by omega)
      rw [List.getD_eq_getElem?_getD, List.getElem?_eq_getElem (by omega)] at this
      simp only [Option.getD_some] at this
      rw [List.getElem_drop]
      exact beq_false_of_ne this
  unfold findB
  rw [e, if_pos (by omega)]
  omega
theorem findB_no (s : List UInt8) (c d : UInt8) (k : Nat) (hn : ∀ j, k ≤ j → j < s.length → s.getD j d ≠ c) : findB s c k = -1 := by
  unfold findB
  rw [if_neg]
  intro h
  have hl : (s.drop k).length = s.length - k := List.length_drop
  have h2 := List.findIdx_getElem (p := (· == c)) (w := h)
  rw [List.getElem_drop] at h2
  have := hn (k + (s.drop k).findIdx (· == c)) (by omega) (by omega)
  rw [List.getD_eq_getElem?_getD, List.getElem?_eq_getElem (by omega)] at this
  simp only [Option.getD_some] at this
  exact this (eq_of_beq h2)
theorem cut_oneB (s : List UInt8) (d : UInt8) (i : Nat) (hi : i < s.length) : (⟨s.toArray⟩ : ByteArray).extract i (i + 1) = ⟨[s.getD i d].toArray⟩ := by
  rw [ext_list, Nat.add_sub_cancel_left, List.getD_eq_getElem?_getD, List.getElem?_eq_getElem hi]
  rw [List.drop_eq_getElem_cons hi]
  rfl
theorem other_byte (c : UInt8) : ∃ d : UInt8, d ≠ c := ⟨c + 1, by intro h; have := congrArg UInt8.toNat h; rw [UInt8.toNat_add] at this; simp at this; have h2 := c.toNat_lt; omega⟩

set_option maxHeartbeats 4000000 in
theorem Find_byte (c : UInt8) (s : List UInt8) (k : Nat) (hs : s.length ≤ 1000000) (hk : k ≤ s.length) (w : World) :
    Calls Tryd.prog 22 #[.string ⟨s.toArray⟩, .string ⟨#[c]⟩, .int .i64 k] w fun e w' => e = .returned (.int .i64 (findB s c k)) ∧ w = w' := by
  obtain ⟨d, hd⟩ := other_byte c
  have z1 := size_toArray s
  have z2 : (⟨#[c]⟩ : ByteArray).size = 1 := rfl
  have CO := Lib.hid (fun i hi => cut_oneB s d i hi)
  have FA := Lib.hid (fun i h1 h2 h3 h4 => findB_at s c d hd k i h1 h2 h3 h4)
  have FN := Lib.hid (fun h => findB_no s c d k h)
  obtain ⟨R, hR⟩ : ∃ R, findB s c k = R := ⟨_, rfl⟩
  rw [hR] at FA FN ⊢
  clear hR
  generalize (⟨s.toArray⟩ : ByteArray) = S at *
  go_enter Tryd.func22, Tryd.ntmps22
  go_wp2_with fail
  go_loop [7] (fun v => ∃ i : Nat, k ≤ i ∧ i ≤ s.length ∧ v = .int .i64 i ∧ ∀ j, k ≤ j → j < i → s.getD j d ≠ c) (fun v => s.length - (intOf v).toNat)
  case atStart => exact ⟨k, Nat.le_refl _, hk, rfl, fun j h1 hj => absurd hj (Nat.not_lt.2 h1)⟩
  case round =>
    obtain ⟨i, hki, hi, rfl, hno⟩ := hrel
    have HNO := Lib.hid hno
    clear hno
    by_cases hlt : i < s.length
    · have ex := CO.out i hlt
      by_cases h0 : s.getD i d = c
      · have hz := FA.out i hki hlt h0 HNO.out
        rw [h0] at ex
        subst hz
        clear h0
        go_wp2
        go_ret
        exact ⟨rfl, rfl⟩
      · have hb2 : (s.getD i d == c) = false := beq_false_of_ne h0
        have H0 := Lib.hid h0
        clear h0
        generalize hg : s.getD i d = x at ex hb2
        have HG := Lib.hid hg
        clear hg
        go_wp2
        go_round
        case rel =>
          refine ⟨i + 1, by omega, by omega, by go_num, fun j h1 hj => ?_⟩
          by_cases h : j < i
          · exact HNO.out j h1 h
          · obtain rfl : j = i := by omega
            exact H0.out
        case measure => simp [intOf]; omega
    · have hi2 : i = s.length := by omega
      have hz := FN.out (fun j h1 hj => HNO.out j h1 (by omega))
      subst hz
      go_wp2
      go_ret
      exact ⟨rfl, rfl⟩
end Go.Proofs.YtdgcjjledbnofaaDoor
