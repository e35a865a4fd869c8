/-
  Texts that belong together, one behind the other.
-/
import Derived.Test.YtgbmbemmkadagaaFu10
import Derived.IntWalk
import Derived.WalkSmall
import Derived.OwnWalk
import Derived.Laws.OwnMore
/-
  The helper Own of the statements, over bytes: a copy with three bytes of room behind it.
-/
namespace Go.Proofs.Ytgbmbemmkadagaa
set_option maxRecDepth 20000
open Go.RowKit
set_option linter.unusedVariables false

set_option maxHeartbeats 1000000 in
theorem Own_core (ao : Option Addr) (c : Nat) (l : List UInt8) (f : Int) (w : World)
    (hnone : ao = none → l.length = 0 ∧ c = 0) (hcells : ∀ w', Below w.heap.size w w' → ∀ ad, ao = some ad → ∀ j u, (Lib.byteCells l)[j]? = some u → w'.cell? (ad.add j) = some u) (hn : l.length ≤ 1099511627776) :
    Calls Try.prog 10 #[.slice ao l.length c, .int .u8 f] w fun e w' => e = .returned (.slice (some ⟨w.heap.size, 0, none⟩) l.length (l.length + 3)) ∧
      w'.ownsRow w.heap.size 5 1 (.slice (some ⟨w.heap.size, 0, none⟩) (l.length + 3) (l.length + 3)) (l.length + 3) (Lib.byteCells l ++ List.replicate 3 (.int .u8 f)) ∧ Below w.heap.size w w' := by
  obtain ⟨i0, hi, hz0, hz1, hz2⟩ := info_parts info5
  have HC := Lib.hid hcells; clear hcells
  have HN := Lib.hid hnone; clear hnone
  have hbl : (Lib.byteCells l).length = l.length := by simp [Lib.byteCells]
  have HBL := Lib.hid hbl; clear hbl
  go_enter Try.func10, Try.ntmps10
  go_wp2_with (at_make; refine wpList_make_own _ rfl _ _ 32 rfl w.heap.size 5 i0 (.int .u8 0) 1 Try.underlying32 hi hz0 hz1 _ _ _ (l.length + 3) rfl rfl (by omega) ?b2 ?b3 (Nat.le_refl _) ?_)
  case b2 => rw [hz2]; omega
  case b3 => unfold maxLen; omega
  intro w0 hown0 hgrow0
  have hb0 : Below w.heap.size w w0 := (Below.refl _ _).grown hgrow0 (Nat.le_refl _) (fun k h => by cases h)
  have HC0 := Lib.hid (HC.out w0 hb0)
  go_wp2_with (at_builtin; refine wpList_append_fits_any _ rfl _ _ 32 rfl w.heap.size 5 i0 1 Try.underlying32 hi hz1 w.heap.size 0 (l.length + 3) _ rfl hown0 ao l.length c (Lib.byteCells l) rfl ?c1 ?c2 ?c3 ?c4 ?c5 ?_)
  case c1 => rw [HBL.out]; omega
  case c2 => exact HN.out
  case c3 => exact HC0.out
  case c4 => intro u hu; simp [Lib.byteCells] at hu; obtain ⟨x, _, rfl⟩ := hu; rfl
  case c5 => omega
  intro w1 hown1 hgrow1
  have hb1 : Below w.heap.size w w1 := hb0.grown hgrow1 hb0.size (fun k hk => by cases hk; exact Nat.le_refl _)
  clear hown0 hgrow0 hgrow1 HC0 hb0
  have hown2 : w1.ownsRow w.heap.size 5 1 (.slice (some ⟨w.heap.size, 0, none⟩) l.length (l.length + 3)) l.length (Lib.byteCells l) := by simpa using hown1
  obtain ⟨ys, hown, hys⟩ := own_full hown2
  clear hown2
  clear hown1
  have HY := Lib.hid hys; clear hys
  go_wp2_with fail
  go_loopw [7] (fun i wr => ∃ (k : Nat) (ys : List Value), l.length ≤ k ∧ k ≤ l.length + 3 ∧ i = .int .i64 k ∧ wr.ownsRow w.heap.size 5 1 (.slice (some ⟨w.heap.size, 0, none⟩) (l.length + 3) (l.length + 3)) (l.length + 3) ys ∧
      ys.take k = Lib.byteCells l ++ List.replicate (k - l.length) (.int .u8 f) ∧ Below w.heap.size w wr) (fun i _ => l.length + 3 - (intOf i).toNat)
  case atStart => exact ⟨l.length, ys, Nat.le_refl _, by omega, rfl, hown, by rw [HY.out]; simp, hb1⟩
  case round =>
    clear hown hb1 HY
    obtain ⟨k, ys, hk0, hk, rfl, hown, hys, hbr⟩ := hrel
    have HY := Lib.hid hys; clear hys
    by_cases hlt : k < l.length + 3
    · obtain ⟨y, hy⟩ := own_cell hown k hlt
      have hfz := hown.frozenAt k
      obtain ⟨hst, hgr⟩ := hown.stored k (.int .u8 f)
      have hlen := own_len hown
      have HL := Lib.hid hlen; clear hlen
      have HS := Lib.hid hst; clear hst
      have HG := Lib.hid hgr; clear hgr
      go_wp2
      go_roundw
      case rel =>
        refine ⟨k + 1, ys.set k (.int .u8 f), by omega, by omega, by go_num, HS.out, ?_, hbr.grown HG.out hbr.size (fun k hk => by cases hk; exact Nat.le_refl _)⟩
        have hl := HL.out
        rw [List.take_succ_eq_append_getElem (by simp; omega), List.take_set_of_le (Nat.le_refl _), HY.out, show k + 1 - l.length = (k - l.length) + 1 by omega, List.replicate_succ', List.append_assoc]
        simp
      case measure => simp [intOf]; omega
    · obtain rfl : k = l.length + 3 := by omega
      go_wp2
      go_ret
      have hl := own_len hown
      have e := HY.out
      rw [List.take_of_length_le (by omega), show l.length + 3 - l.length = 3 by omega] at e
      rw [e] at hown
      exact ⟨rfl, hown, hbr⟩

theorem Own_any (a : Option Addr) (n c : Nat) (l : List UInt8) (f : Int) (w : World) (h : BAt w a l) (hnone : a = none → n = 0 ∧ c = 0) (hl : n = l.length) (hn : l.length ≤ 1099511627776) :
    Calls Try.prog 10 #[.slice a n c, .int .u8 f] w fun e w' => e = .returned (.slice (some ⟨w.heap.size, 0, none⟩) l.length (l.length + 3)) ∧ OwnAt w' w.heap.size l f ∧ Below w.heap.size w w' := by
  subst hl
  exact Own_core a c l f w hnone (fun w' hb => (h.keep hb).cells) hn
end Go.Proofs.Ytgbmbemmkadagaa
