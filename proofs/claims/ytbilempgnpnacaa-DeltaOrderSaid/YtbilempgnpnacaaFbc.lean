/-
  bytes.Clone (cut out of Fb).
-/
import Derived.Test.YtbilempgnpnacaaCb
namespace Go.Proofs.Ytbilempgnpnacaa
open Go.RowKit
set_option linter.unusedVariables false

set_option maxHeartbeats 1000000 in
theorem bClone_any (l : List UInt8) (w : World) (a : Option Addr) (n c : Nat) (hb : BAt w a l) (hn : n = l.length) (hno : a = none → n = 0 ∧ c = 0) (hl : l.length ≤ 1099511627776) :
    Calls Try.prog 33 #[.slice a n c] w fun e w' => ∃ v', e = .returned v' ∧ Row w' v' l ∧ (∀ g, foot v' = some g → w.heap.size ≤ g) ∧ Below w.heap.size w w' := by
  subst hn
  have HB := Lib.hid hb; have HNO := Lib.hid hno
  clear hb hno
  cases a with
  | none =>
    have e1 := (HNO.out rfl).1
    obtain rfl : l = [] := List.eq_nil_of_length_eq_zero e1
    obtain rfl := (HNO.out rfl).2
    clear e1 HB HNO
    have qT : ∀ (w : World) (a : Option Addr) (n c n' c' : Nat), (binOp .eql 22 (.slice a n c) (.slice none n' c')).run Try.prog w = .ok (.bool a.isNone) w := fun w a n c n' c' => Lib.run_eql_slice_nil w _ _ a n c n' c' Try.underlying22
    go_enter Try.func33, Try.ntmps33
    go_wp2
    go_ret
    exact ⟨_, rfl, Row.nil _ _, fun g hg => by simp [foot] at hg, Below.refl _ _⟩
  | some ad =>
    have qT : ∀ (w : World) (a : Option Addr) (n c n' c' : Nat), (binOp .eql 22 (.slice a n c) (.slice none n' c')).run Try.prog w = .ok (.bool a.isNone) w := fun w a n c n' c' => Lib.run_eql_slice_nil w _ _ a n c n' c' Try.underlying22
    go_enter Try.func33, Try.ntmps33
    go_wp2_with (first
      | (at_builtin; refine wpList_append_row rfl (.tmp 5) (.tmp 6) rfl (.slice (some ⟨w.heap.size, 0, none⟩) 0 0) rfl [] l (Row.nil _ _) (some ad) l.length c rfl ((HB.out.below ((Below.refl _ w).alloc (Nat.le_refl _) _) (Nat.le_refl _))) rfl HNO.out (by simpa using hl) ?_; intro v' w' hap)
      | fail)
    obtain ⟨h1, h2, h3⟩ := hap
    have H1 := Lib.hid h1
    have hb2 : Below w.heap.size w w' := ((Below.refl _ w).alloc (Nat.le_refl _) _).grown h2 (by simp) (fun k hk => by rw [foot_zero] at hk; cases hk)
    have hf : ∀ g, foot v' = some g → w.heap.size ≤ g := fun g hg => by
      rcases h3 with h3 | h3 | h3
      · rw [h3, foot_zero] at hg; cases hg
      · rw [h3] at hg; cases hg
      · rw [h3] at hg; simp at hg; omega
    have HF := Lib.hid hf
    clear h1 h2 h3 hf
    go_wp2
    go_ret
    exact ⟨_, rfl, by simpa using H1.out, HF.out, hb2⟩
end Go.Proofs.Ytbilempgnpnacaa
