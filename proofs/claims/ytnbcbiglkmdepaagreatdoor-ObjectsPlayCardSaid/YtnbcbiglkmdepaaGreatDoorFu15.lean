/-
  Texts that belong together, one behind the other.
-/
import Derived.Test.YtnbcbiglkmdepaaGreatDoorFu14
import Derived.Test.YtnbcbiglkmdepaaGreatDoorFu06
import Derived.Test.YtnbcbiglkmdepaaGreatDoorFu13
import Derived.Deep.QuietTactic
import Derived.BigQuiet
import Derived.Test.YtnbcbiglkmdepaaGreatDoorFu04
import Derived.Lib.OthersKept
import Derived.Test.YtnbcbiglkmdepaaGreatDoorFu01
import Derived.Laws.CopyRow
import Derived.Laws.CopyOwn
import Derived.Laws.Rows
import Derived.Laws.Tables
import Derived.Deep.WholeRow
set_option maxHeartbeats 64000000
set_option linter.unusedVariables false
set_option linter.unusedSimpArgs false
open Go.Lib renaming hid → hyd
namespace Go.Proofs.YtnbcbiglkmdepaaGreatDoor
open Go.RowKit
set_option maxRecDepth 100000 in
theorem rPrint_bad (i : Idt) (h1 : i.name.length ≤ 1000000) (h2 : i.email.length ≤ 1000000) (hr : rightI i = false) (w : World) (tab : T6 w) :
  Calls Tryz.prog 114 #[idtV i] w fun e w' => e = .returned (.string ⟨#[]⟩) ∧ Below w.heap.size w w' := by
 have cR := fun w t => rRight_is i h1 h2 w t
 rw [hr] at cR; unfold idtV at cR ⊢; have B0 := hyd ((Below.refl w.heap.size w).alloc (Nat.le_refl _) (.cells #[.string ⟨i.name.toArray⟩, .string ⟨i.email.toArray⟩, .int .i64 i.whn, .int .i64 i.zone] 70)); have T0 := hyd (tab.keep B0.out); clear tab
 go_enter Tryz.func114, Tryz.ntmps114
 go_wp2_with fail
 refine (cR _ T0.out).mono ?_; rintro e w1 ⟨rfl, b1⟩; go_wp2; go_ret; exact ⟨rfl, B0.out.trans (b1.mono B0.out.size)⟩
def signL (z : Int) : List UInt8 := if z < 0 then [45] else [43]
theorem text_sign (name email num : List UInt8) (z : Int) : textT name email num (zoneT z) = aheadT name ++ [60] ++ email ++ [62, 32] ++ num ++ [32] ++ signL z ++ twoD (z.natAbs / 60) ++ twoD (z.natAbs % 60) := by
 unfold textT zoneT signL
 split <;> simp
set_option maxRecDepth 100000 in
theorem rPrint_good (i : Idt) (hr : rightI i = true) (w : World) (tab : T6 w) :
  Calls Tryz.prog 114 #[idtV i] w fun e w' => e = .returned (.string ⟨(textT i.name i.email (Lib.itoa i.whn) (zoneT i.zone)).toArray⟩) ∧ Below w.heap.size w w' := by
 obtain ⟨r1, r2, r3, r4, r5, r6⟩ := (right_iff i).1 hr; have l1 := ((word_iff _).1 r1).2.1; have l2 := ((word_iff _).1 r2).2.1; have l3 := num_len i.whn r3 r4
 have cR := fun w t => rRight_is i (by omega) (by omega) w t
 rw [hr] at cR
 have cN := fun w => rNumber i.whn (by omega) (by omega) w
 rw [text_sign]; unfold idtV at cR ⊢; obtain ⟨name, email, t, z⟩ := i; simp only at cR cN l1 l2 l3 r5 r6 ⊢; clear r1 r2 hr; generalize Lib.itoa t = num at cN l3 ⊢; obtain ⟨n, hn⟩ : ∃ n : Nat, z.natAbs = n := ⟨_, rfl⟩; rw [hn]
 have n840 : n ≤ 840 := by omega
 have q1 := IntWalk.i64_quo (n : Int) 60 (by omega); have q2 := IntWalk.rem_in (n : Int) 60 (by omega)
 have c1 := fun w => rtwo_is ((n : Int) / 60) (by omega) (by omega) w
 have c2 := fun w => rtwo_is ((n : Int) % 60) (by omega) (by omega) w
 rw [show ((n : Int) / 60).toNat = n / 60 by omega] at c1; rw [show ((n : Int) % 60).toNat = n % 60 by omega] at c2
 have q2w : IntKind.i64.wrap ((n : Int).tmod 60) = (n : Int) % 60 := by rw [q2]; exact IntWalk.i64_in _ (by omega)
 have q1w : IntKind.i64.wrap ((n : Int) / 60) = (n : Int) / 60 := IntWalk.i64_in _ (by omega); have q1v : (n : Int) / 60 = (n : Int) / 60 := rfl; have q2v : (n : Int) % 60 = (n : Int) % 60 := rfl; have q2u : IntKind.i64.wrap ((n : Int) % 60) = (n : Int) % 60 := IntWalk.i64_in _ (by omega); obtain ⟨qq, hqq⟩ : ∃ qq, (n : Int) / 60 = qq := ⟨_, rfl⟩; rw [hqq] at q1 c1; have q1w := q1w.trans hqq; have q1v := hqq; obtain ⟨rr, hrr⟩ : ∃ rr, (n : Int) % 60 = rr := ⟨_, rfl⟩; rw [hrr] at q2 q2w c2; have q2u := q2u.trans hrr; have q2v := hrr; have HQ := hyd (And.intro q1 (And.intro q1w q1v)); have HRR := hyd (And.intro q2 (And.intro q2w (And.intro q2u q2v))); clear q1 q1w q1v q2 q2w q2u q2v hqq hrr; have t1 : (twoD (n / 60)).length = 2 := rfl; have t2 : (twoD (n % 60)).length = 2 := rfl; generalize twoD (n / 60) = d1 at c1 t1 ⊢; generalize twoD (n % 60) = d2 at c2 t2 ⊢; have B0 := hyd ((Below.refl w.heap.size w).alloc (Nat.le_refl _) (.cells #[.string ⟨name.toArray⟩, .string ⟨email.toArray⟩, .int .i64 t, .int .i64 z] 70)); have T0 := hyd (tab.keep B0.out); have N0 := hyd (heap_alloc_new w (.cells #[.string ⟨name.toArray⟩, .string ⟨email.toArray⟩, .int .i64 t, .int .i64 z] 70)); have S0 := hyd (show (w.alloc (.cells #[.string ⟨name.toArray⟩, .string ⟨email.toArray⟩, .int .i64 t, .int .i64 z] 70)).heap.size = w.heap.size + 1 by simp)
 have la : (aheadT name).length ≤ 201 := by
  unfold aheadT
  split
  ·simp
  ·simp; omega
 have ls : (signL z).length = 1 := by unfold signL; split <;> rfl
 have ad0 := fun w => add_lists (P := Tryz.prog) w name [32] (by simp; omega)
 have ad1 := fun w => add_lists (P := Tryz.prog) w (aheadT name) [60] (by simp; omega)
 have ad2 := fun w => add_lists (P := Tryz.prog) w (aheadT name ++ [60]) email (by simp; omega)
 have ad3 := fun w => add_lists (P := Tryz.prog) w (aheadT name ++ [60] ++ email) [62, 32] (by simp; omega)
 have ad4 := fun w => add_lists (P := Tryz.prog) w (aheadT name ++ [60] ++ email ++ [62, 32]) num (by simp; omega)
 have ad5 := fun w => add_lists (P := Tryz.prog) w (aheadT name ++ [60] ++ email ++ [62, 32] ++ num) [32] (by simp; omega)
 have ad6 := fun w => add_lists (P := Tryz.prog) w (aheadT name ++ [60] ++ email ++ [62, 32] ++ num ++ [32]) (signL z) (by simp; omega)
 have ad7 := fun w => add_lists (P := Tryz.prog) w (aheadT name ++ [60] ++ email ++ [62, 32] ++ num ++ [32] ++ signL z) d1 (by simp; omega)
 have ad8 := fun w => add_lists (P := Tryz.prog) w (aheadT name ++ [60] ++ email ++ [62, 32] ++ num ++ [32] ++ signL z ++ d1) d2 (by simp; omega)
 generalize (⟨(aheadT name ++ [60] ++ email ++ [62, 32] ++ num ++ [32] ++ signL z ++ d1 ++ d2).toArray⟩ : ByteArray) = s8 at ad8 ⊢; generalize (⟨(aheadT name ++ [60] ++ email ++ [62, 32] ++ num ++ [32] ++ signL z ++ d1).toArray⟩ : ByteArray) = s7 at ad7 ad8; generalize (⟨(aheadT name ++ [60] ++ email ++ [62, 32] ++ num ++ [32] ++ signL z).toArray⟩ : ByteArray) = s6 at ad6 ad7; generalize (⟨(aheadT name ++ [60] ++ email ++ [62, 32] ++ num ++ [32]).toArray⟩ : ByteArray) = s5 at ad5 ad6; generalize (⟨(aheadT name ++ [60] ++ email ++ [62, 32] ++ num).toArray⟩ : ByteArray) = s4 at ad4 ad5; generalize (⟨(aheadT name ++ [60] ++ email ++ [62, 32]).toArray⟩ : ByteArray) = s3 at ad3 ad4; generalize (⟨(aheadT name ++ [60] ++ email).toArray⟩ : ByteArray) = s2 at ad2 ad3; generalize (⟨(aheadT name ++ [60]).toArray⟩ : ByteArray) = s1 at ad1 ad2
 generalize (⟨email.toArray⟩ : ByteArray) = se at *
 generalize (⟨num.toArray⟩ : ByteArray) = sn at *
 generalize (⟨d1.toArray⟩ : ByteArray) = sd1 at *
 generalize (⟨d2.toArray⟩ : ByteArray) = sd2 at *
 have dN := fun w' (h : PS se t z w w') => ((cN w').mono (fun e w'' ⟨he, hb⟩ => ⟨he, ps_keep h hb⟩) : Calls Tryz.prog 52 #[.int .i64 t] w' fun e w'' => e = .returned (.string sn) ∧ PS se t z w w'')
 have e1 := fun w' (h : PS se t z w w') (a : Int) (ha : a = qq) => (by rw [ha]; exact (c1 w').mono (fun e w'' ⟨he, hb⟩ => ⟨he, ps_keep h hb⟩) : Calls Tryz.prog 146 #[.int .i64 a] w' fun e w'' => e = .returned (.string sd1) ∧ PS se t z w w'')
 have e2 := fun w' (h : PS se t z w w') (a : Int) (ha : a = rr) => (by rw [ha]; exact (c2 w').mono (fun e w'' ⟨he, hb⟩ => ⟨he, ps_keep h hb⟩) : Calls Tryz.prog 146 #[.int .i64 a] w' fun e w'' => e = .returned (.string sd2) ∧ PS se t z w w'')
 have DN := hyd dN; have E1 := hyd e1; have E2 := hyd e2; clear tab l1 l2 l3 la r3 r4 cN c1 c2 dN e1 e2 t1 t2 ls
 by_cases hneg : z < 0
 ·by_cases hne : name = []
  ·subst hne
   have ea : aheadT ([] : List UInt8) = [] := rfl; rw [ea] at ad1
   have hz : -z = (n : Int) := by omega
   have hs : signL z = [45] := by unfold signL; rw [if_pos hneg]
   rw [hs] at ad6; clear hn hs
   go_enter Tryz.func114, Tryz.ntmps114
   go_wp2_with fail
   refine (cR _ T0.out).mono ?_; rintro e w1 ⟨rfl, b1⟩; have hb1 := B0.out.trans (b1.mono B0.out.size); have hN1 := (b1.block w.heap.size (by rw [S0.out]; omega)).trans N0.out; have hS1 : PS se t z w w1 := ⟨by rw [Lib.cell_of_heap hN1]; rfl, by rw [Lib.cell_of_heap hN1]; rfl, by rw [Lib.cell_of_heap hN1]; rfl, T0.out.keep b1, hb1, by have := b1.size; rw [S0.out] at this; omega⟩
   have hc0 : w1.cell? ⟨w.heap.size, 0, none⟩ = some (.string ⟨#[]⟩) := by rw [Lib.cell_of_heap hN1]; rfl
   have K0 := ps_drew hS1; have K1 := ps_drew K0; clear b1 hb1 hN1 hS1 B0 T0 N0 S0 cR
   go_wp2_with fail
   go_region_held3 (fun w' => w'.cell? ⟨w.heap.size, 1, none⟩ = some (.string se) ∧ w'.cell? ⟨w.heap.size, 2, none⟩ = some (.int .i64 t) ∧ w'.cell? ⟨w.heap.size, 3, none⟩ = some (.int .i64 z) ∧ Rest w w') (assumption) (fail)
   go_wp2_with fail
   go_region_held3 (fun w' => w'.cell? ⟨w.heap.size, 1, none⟩ = some (.string se) ∧ w'.cell? ⟨w.heap.size, 2, none⟩ = some (.int .i64 t) ∧ w'.cell? ⟨w.heap.size, 3, none⟩ = some (.int .i64 z) ∧ Rest w w') (assumption)
    (first | (go_at_call 52; refine (DN.out _ (by assumption)).mono ?_; rintro e w' ⟨rfl, hS⟩) | (go_at_call 146; refine (E1.out _ (by assumption) _ (by first | with_reducible exact HQ.out.1 | with_reducible exact HQ.out.2.1 | with_reducible exact HQ.out.2.2)).mono ?_; rintro e w' ⟨rfl, hS⟩) | (go_at_call 146; refine (E2.out _ (by assumption) _ (by first | with_reducible exact HRR.out.1 | with_reducible exact HRR.out.2.1 | with_reducible exact HRR.out.2.2.1 | with_reducible exact HRR.out.2.2.2)).mono ?_; rintro e w' ⟨rfl, hS⟩))
   go_wp2; go_ret; exact ⟨rfl, hS.2.2.2.2.1⟩
  ·skip
   have ea : aheadT name = name ++ [32] := by unfold aheadT; rw [if_neg hne]
   rw [ea] at ad1; generalize (⟨(name ++ [32]).toArray⟩ : ByteArray) = sA at ad0 ad1
   have fe : (name == ([] : List UInt8)) = false := by rw [beq_eq_false_iff_ne]; exact hne
   have fi : name.isEmpty = false := by cases name with | nil => exact absurd rfl hne | cons _ _ => rfl
   clear hne ea
   have hz : -z = (n : Int) := by omega
   have hs : signL z = [45] := by unfold signL; rw [if_pos hneg]
   rw [hs] at ad6; clear hn hs
   go_enter Tryz.func114, Tryz.ntmps114
   go_wp2_with fail
   refine (cR _ T0.out).mono ?_; rintro e w1 ⟨rfl, b1⟩; have hb1 := B0.out.trans (b1.mono B0.out.size); have hN1 := (b1.block w.heap.size (by rw [S0.out]; omega)).trans N0.out; have hS1 : PS se t z w w1 := ⟨by rw [Lib.cell_of_heap hN1]; rfl, by rw [Lib.cell_of_heap hN1]; rfl, by rw [Lib.cell_of_heap hN1]; rfl, T0.out.keep b1, hb1, by have := b1.size; rw [S0.out] at this; omega⟩
   have hc0 : w1.cell? ⟨w.heap.size, 0, none⟩ = some (.string ⟨name.toArray⟩) := by rw [Lib.cell_of_heap hN1]; rfl
   have K0 := ps_drew hS1; have K1 := ps_drew K0; clear b1 hb1 hN1 hS1 B0 T0 N0 S0 cR
   go_wp2_with fail
   go_region_held3 (fun w' => w'.cell? ⟨w.heap.size, 1, none⟩ = some (.string se) ∧ w'.cell? ⟨w.heap.size, 2, none⟩ = some (.int .i64 t) ∧ w'.cell? ⟨w.heap.size, 3, none⟩ = some (.int .i64 z) ∧ Rest w w') (assumption) (fail)
   go_wp2_with fail
   go_region_held3 (fun w' => w'.cell? ⟨w.heap.size, 1, none⟩ = some (.string se) ∧ w'.cell? ⟨w.heap.size, 2, none⟩ = some (.int .i64 t) ∧ w'.cell? ⟨w.heap.size, 3, none⟩ = some (.int .i64 z) ∧ Rest w w') (assumption)
    (first | (go_at_call 52; refine (DN.out _ (by assumption)).mono ?_; rintro e w' ⟨rfl, hS⟩) | (go_at_call 146; refine (E1.out _ (by assumption) _ (by first | with_reducible exact HQ.out.1 | with_reducible exact HQ.out.2.1 | with_reducible exact HQ.out.2.2)).mono ?_; rintro e w' ⟨rfl, hS⟩) | (go_at_call 146; refine (E2.out _ (by assumption) _ (by first | with_reducible exact HRR.out.1 | with_reducible exact HRR.out.2.1 | with_reducible exact HRR.out.2.2.1 | with_reducible exact HRR.out.2.2.2)).mono ?_; rintro e w' ⟨rfl, hS⟩))
   go_wp2; go_ret; exact ⟨rfl, hS.2.2.2.2.1⟩
 ·by_cases hne : name = []
  ·subst hne
   have ea : aheadT ([] : List UInt8) = [] := rfl; rw [ea] at ad1
   have hz : z = (n : Int) := by omega
   have hs : signL z = [43] := by unfold signL; rw [if_neg hneg]
   rw [hs] at ad6; clear hn hs; subst hz
   go_enter Tryz.func114, Tryz.ntmps114
   go_wp2_with fail
   refine (cR _ T0.out).mono ?_; rintro e w1 ⟨rfl, b1⟩; have hb1 := B0.out.trans (b1.mono B0.out.size); have hN1 := (b1.block w.heap.size (by rw [S0.out]; omega)).trans N0.out; have hS1 : PS se t (n : Int) w w1 := ⟨by rw [Lib.cell_of_heap hN1]; rfl, by rw [Lib.cell_of_heap hN1]; rfl, by rw [Lib.cell_of_heap hN1]; rfl, T0.out.keep b1, hb1, by have := b1.size; rw [S0.out] at this; omega⟩
   have hc0 : w1.cell? ⟨w.heap.size, 0, none⟩ = some (.string ⟨#[]⟩) := by rw [Lib.cell_of_heap hN1]; rfl
   have K0 := ps_drew hS1; have K1 := ps_drew K0; clear b1 hb1 hN1 hS1 B0 T0 N0 S0 cR
   go_wp2_with fail
   go_region_held3 (fun w' => w'.cell? ⟨w.heap.size, 1, none⟩ = some (.string se) ∧ w'.cell? ⟨w.heap.size, 2, none⟩ = some (.int .i64 t) ∧ w'.cell? ⟨w.heap.size, 3, none⟩ = some (.int .i64 (n : Int)) ∧ Rest w w') (assumption) (fail)
   go_wp2_with fail
   go_region_held3 (fun w' => w'.cell? ⟨w.heap.size, 1, none⟩ = some (.string se) ∧ w'.cell? ⟨w.heap.size, 2, none⟩ = some (.int .i64 t) ∧ w'.cell? ⟨w.heap.size, 3, none⟩ = some (.int .i64 (n : Int)) ∧ Rest w w') (assumption)
    (first | (go_at_call 52; refine (DN.out _ (by assumption)).mono ?_; rintro e w' ⟨rfl, hS⟩) | (go_at_call 146; refine (E1.out _ (by assumption) _ (by first | with_reducible exact HQ.out.1 | with_reducible exact HQ.out.2.1 | with_reducible exact HQ.out.2.2)).mono ?_; rintro e w' ⟨rfl, hS⟩) | (go_at_call 146; refine (E2.out _ (by assumption) _ (by first | with_reducible exact HRR.out.1 | with_reducible exact HRR.out.2.1 | with_reducible exact HRR.out.2.2.1 | with_reducible exact HRR.out.2.2.2)).mono ?_; rintro e w' ⟨rfl, hS⟩))
   go_wp2; go_ret; exact ⟨rfl, hS.2.2.2.2.1⟩
  ·skip
   have ea : aheadT name = name ++ [32] := by unfold aheadT; rw [if_neg hne]
   rw [ea] at ad1; generalize (⟨(name ++ [32]).toArray⟩ : ByteArray) = sA at ad0 ad1
   have fe : (name == ([] : List UInt8)) = false := by rw [beq_eq_false_iff_ne]; exact hne
   have fi : name.isEmpty = false := by cases name with | nil => exact absurd rfl hne | cons _ _ => rfl
   clear hne ea
   have hz : z = (n : Int) := by omega
   have hs : signL z = [43] := by unfold signL; rw [if_neg hneg]
   rw [hs] at ad6; clear hn hs; subst hz
   go_enter Tryz.func114, Tryz.ntmps114
   go_wp2_with fail
   refine (cR _ T0.out).mono ?_; rintro e w1 ⟨rfl, b1⟩; have hb1 := B0.out.trans (b1.mono B0.out.size); have hN1 := (b1.block w.heap.size (by rw [S0.out]; omega)).trans N0.out; have hS1 : PS se t (n : Int) w w1 := ⟨by rw [Lib.cell_of_heap hN1]; rfl, by rw [Lib.cell_of_heap hN1]; rfl, by rw [Lib.cell_of_heap hN1]; rfl, T0.out.keep b1, hb1, by have := b1.size; rw [S0.out] at this; omega⟩
   have hc0 : w1.cell? ⟨w.heap.size, 0, none⟩ = some (.string ⟨name.toArray⟩) := by rw [Lib.cell_of_heap hN1]; rfl
   have K0 := ps_drew hS1; have K1 := ps_drew K0; clear b1 hb1 hN1 hS1 B0 T0 N0 S0 cR
   go_wp2_with fail
   go_region_held3 (fun w' => w'.cell? ⟨w.heap.size, 1, none⟩ = some (.string se) ∧ w'.cell? ⟨w.heap.size, 2, none⟩ = some (.int .i64 t) ∧ w'.cell? ⟨w.heap.size, 3, none⟩ = some (.int .i64 (n : Int)) ∧ Rest w w') (assumption) (fail)
   go_wp2_with fail
   go_region_held3 (fun w' => w'.cell? ⟨w.heap.size, 1, none⟩ = some (.string se) ∧ w'.cell? ⟨w.heap.size, 2, none⟩ = some (.int .i64 t) ∧ w'.cell? ⟨w.heap.size, 3, none⟩ = some (.int .i64 (n : Int)) ∧ Rest w w') (assumption)
    (first | (go_at_call 52; refine (DN.out _ (by assumption)).mono ?_; rintro e w' ⟨rfl, hS⟩) | (go_at_call 146; refine (E1.out _ (by assumption) _ (by first | with_reducible exact HQ.out.1 | with_reducible exact HQ.out.2.1 | with_reducible exact HQ.out.2.2)).mono ?_; rintro e w' ⟨rfl, hS⟩) | (go_at_call 146; refine (E2.out _ (by assumption) _ (by first | with_reducible exact HRR.out.1 | with_reducible exact HRR.out.2.1 | with_reducible exact HRR.out.2.2.1 | with_reducible exact HRR.out.2.2.2)).mono ?_; rintro e w' ⟨rfl, hS⟩))
   go_wp2; go_ret; exact ⟨rfl, hS.2.2.2.2.1⟩
theorem rPrint_is (i : Idt) (h1 : i.name.length ≤ 1000000) (h2 : i.email.length ≤ 1000000) (w : World) (tab : T6 w) :
  Calls Tryz.prog 114 #[idtV i] w fun e w' => e = .returned (.string ⟨(printI Lib.itoa i).toArray⟩) ∧ Below w.heap.size w w' := by
 unfold printI
 cases hr : rightI i with
 | true => rw [if_pos rfl]; exact rPrint_good i hr w tab
 | false => rw [if_neg (by decide)]; exact rPrint_bad i h1 h2 hr w tab
theorem zone_len5 (s : List UInt8) (h : s.length ≠ 5) : zoneR s = none := by
 match s, h with
 | [], _ => rfl
 | [_], _ => rfl
 | [_, _], _ => rfl
 | [_, _, _], _ => rfl
 | [_, _, _, _], _ => rfl
 | [_, _, _, _, _], h => exact absurd rfl h
 | _ :: _ :: _ :: _ :: _ :: _ :: _, _ => rfl
theorem zoneA_no {s : List UInt8} (h : zoneR s = none) : zoneA s = .tuple #[.int .i64 0, .int .i64 4] := by unfold zoneA; rw [h]
theorem zone_sign (x a b c d : UInt8) (h : x.toNat ≠ 43) (h2 : x.toNat ≠ 45) : zoneR [x, a, b, c, d] = none := by
 show zoneV x a b c d = none
 unfold zoneV; rw [if_neg]; rintro ⟨h3 | h3, _⟩
 ·exact h h3
 ·exact h2 h3
theorem zone_dig (x a b c d : UInt8) (i : Nat) (h1 : 1 ≤ i) (h5 : i < 5) (h : digB ([x, a, b, c, d].getD i 0) = false) : zoneR [x, a, b, c, d] = none := by
 show zoneV x a b c d = none
 unfold zoneV; rw [if_neg]; rintro ⟨_, h2, h3, h4, h6⟩
 obtain rfl | rfl | rfl | rfl : i = 1 ∨ i = 2 ∨ i = 3 ∨ i = 4 := by omega
 ·simp at h; rw [h] at h2; cases h2
 ·simp at h; rw [h] at h3; cases h3
 ·simp at h; rw [h] at h4; cases h4
 ·simp at h; rw [h] at h6; cases h6
theorem zone_val (x a b c d : UInt8) (hs : x.toNat = 43 ∨ x.toNat = 45) (ha : digB a = true) (hb : digB b = true) (hc : digB c = true) (hd : digB d = true) (m z : Int)
  (hm : m = ((c.toNat : Int) - 48) * 10 + ((d.toNat : Int) - 48)) (hz : z = (((a.toNat : Int) - 48) * 10 + ((b.toNat : Int) - 48)) * 60 + m) :
  zoneR [x, a, b, c, d] = if 59 < m ∨ 840 < z ∨ (x.toNat = 45 ∧ z = 0) then none else some (if x.toNat = 45 then -z else z) := by
 show zoneV x a b c d = _
 unfold zoneV; rw [if_pos ⟨hs, ha, hb, hc, hd⟩]; unfold digB at ha hb hc hd; simp only [Bool.and_eq_true, decide_eq_true_eq] at ha hb hc hd
 have em : ((digV c * 10 + digV d : Nat) : Int) = m := by unfold digV; omega
 have ez : (((digV a * 10 + digV b) * 60 + (digV c * 10 + digV d) : Nat) : Int) = z := by unfold digV; unfold digV at em; omega
 rw [ez]; generalize digV c * 10 + digV d = M at em ez ⊢; generalize (digV a * 10 + digV b) * 60 + M = Z at ez ⊢
 by_cases h : 59 < m ∨ 840 < z ∨ (x.toNat = 45 ∧ z = 0)
 ·rw [if_pos h, if_pos (by omega)]
 ·rw [if_neg h, if_neg (by omega)]
set_option maxRecDepth 100000 in
theorem rZone_five (x a b c d : UInt8) (w : World) :
  Calls Tryz.prog 112 #[.string ⟨[x, a, b, c, d].toArray⟩] w fun e w' => e = .returned (zoneA [x, a, b, c, d]) ∧ Below w.heap.size w w' := by
 obtain ⟨R, hR⟩ : ∃ R, R = zoneA [x, a, b, c, d] := ⟨_, rfl⟩; rw [← hR]; have SG := hyd (fun h h2 => hR.trans (zoneA_no (zone_sign x a b c d h h2))); have DG := hyd (fun i h1 h5 h => hR.trans (zoneA_no (zone_dig x a b c d i h1 h5 h))); have VAL := hyd (zone_val x a b c d); have HR := hyd hR; have hsz0 : (⟨[x, a, b, c, d].toArray⟩ : ByteArray).size = 5 := rfl; obtain ⟨s, hs⟩ : ∃ s : ByteArray, s = ⟨[x, a, b, c, d].toArray⟩ := ⟨_, rfl⟩
 have hget : ∀ j, j < 5 → ∀ h2 : j < s.size, s[j]'h2 = [x, a, b, c, d].getD j 0 := by
  subst hs
  exact fun j h h2 => getD_mk [x, a, b, c, d] j h h2
 rw [← hs] at hsz0 ⊢; have hsz := hsz0; clear hs hsz0; have lt := x.toNat_lt
 have G := hyd (show ∀ j, 1 ≤ j → j < 5 → [x, a, b, c, d].getD j 0 = a ∨ [x, a, b, c, d].getD j 0 = b ∨ [x, a, b, c, d].getD j 0 = c ∨ [x, a, b, c, d].getD j 0 = d from fun j h1 h5 => by
  obtain rfl | rfl | rfl | rfl : j = 1 ∨ j = 2 ∨ j = 3 ∨ j = 4 := by omega
  ·exact .inl rfl
  ·exact .inr (.inl rfl)
  ·exact .inr (.inr (.inl rfl))
  ·exact .inr (.inr (.inr rfl)))
 have hx0 := hget 0 (by omega) (by omega); have hx1 := hget 1 (by omega) (by omega); have hx2 := hget 2 (by omega) (by omega); have hx3 := hget 3 (by omega) (by omega); have hx4 := hget 4 (by omega) (by omega); simp only [List.getD_cons_zero, List.getD_cons_succ] at hx0 hx1 hx2 hx3 hx4; have GET := hyd hget; have X1 := hyd hx1; have X2 := hyd hx2; have X3 := hyd hx3; have X4 := hyd hx4; clear hR hget hx1 hx2 hx3 hx4
 by_cases s43 : x.toNat = 43 ∨ x.toNat = 45
 case neg =>
  have HV := hyd (SG.out (by omega) (by omega))
  have f1 : (((x.toNat : Nat) : Int) != 43) = true := by rw [bne_iff_ne]; omega
  have f2 : (((x.toNat : Nat) : Int) != 45) = true := by rw [bne_iff_ne]; omega
  clear s43
  go_enter Tryz.func112, Tryz.ntmps112
  go_wp2
  go_ret2
  exact ⟨by rw [HV.out]; rfl, Below.refl _ _⟩
 case pos =>
  have S43 := hyd s43
  have fsg : ∃ f : Bool, (((x.toNat : Nat) : Int) != 43) = f ∧ (f = true → (((x.toNat : Nat) : Int) != 45) = false) := by
   rcases s43 with h | h
   ·exact ⟨false, by rw [h]; rfl, fun e => by cases e⟩
   ·exact ⟨true, by rw [h]; rfl, fun _ => by rw [h]; rfl⟩
  obtain ⟨f, f1, f2⟩ := fsg; clear s43
  go_enter Tryz.func112, Tryz.ntmps112
  cases f with
  | true =>
   have f2 := f2 rfl
   go_wp2_with fail
   go_loopw [4] (fun v4 wr => ∃ i : Nat, 1 ≤ i ∧ i ≤ 5 ∧ v4 = .int .i64 i ∧ (∀ j, 1 ≤ j → j < i → digB ([x, a, b, c, d].getD j 0) = true) ∧ w = wr) (fun v4 _ => 5 - (intOf v4).toNat)
   case atStart => exact ⟨1, by omega, by omega, rfl, fun j h1 h2 => absurd h2 (by omega), rfl⟩
   case round =>
    obtain ⟨i, i1, i5, rfl, hall, rfl⟩ := hrel; have HALL := hyd hall; clear hall
    by_cases hlt : i < 5
    ·have hx := GET.out i hlt (by omega)
     have DI := hyd (DG.out i i1 hlt); obtain ⟨y, hy⟩ : ∃ y : UInt8, y = [x, a, b, c, d].getD i 0 := ⟨_, rfl⟩; rw [← hy] at hx DI; have HY := hyd hy
     have j1 : (i : Int) < (s.size : Int) := by omega
     have j2 : (i : Int) < 5 := by omega
     have ylt := y.toNat_lt; clear hy
     by_cases y0 : y.toNat < 48
     ·have HV := hyd (DI.out (by unfold digB; rw [Bool.and_eq_false_iff, decide_eq_false_iff_not, decide_eq_false_iff_not]; omega))
      go_wp2
      go_ret2
      exact ⟨by rw [HV.out]; rfl, Below.refl _ _⟩
     ·by_cases y1 : 57 < y.toNat
      ·have HV := hyd (DI.out (by unfold digB; rw [Bool.and_eq_false_iff, decide_eq_false_iff_not, decide_eq_false_iff_not]; omega))
       go_wp2
       go_ret2
       exact ⟨by rw [HV.out]; rfl, Below.refl _ _⟩
      ·have HD := hyd (show digB y = true by unfold digB; rw [Bool.and_eq_true, decide_eq_true_eq, decide_eq_true_eq]; omega)
       go_wp2
       go_roundw
       case rel =>
        refine ⟨i + 1, by omega, by omega, by go_num, fun j h1 hj => ?_, by first | trivial | rfl⟩
        by_cases e : j = i
        ·rw [e, ← HY.out]; exact HD.out
        ·exact HALL.out j h1 (by omega)
       case measure => simp [intOf]; omega
    ·obtain rfl : i = 5 := by omega
     have da : digB a = true := HALL.out 1 (by omega) (by omega); have db : digB b = true := HALL.out 2 (by omega) (by omega); have dc : digB c = true := HALL.out 3 (by omega) (by omega); have dd : digB d = true := HALL.out 4 (by omega) (by omega); obtain ⟨M, hM⟩ : ∃ M : Int, M = ((c.toNat : Int) - 48) * 10 + ((d.toNat : Int) - 48) := ⟨_, rfl⟩; obtain ⟨Z, hZ⟩ : ∃ Z : Int, Z = (((a.toNat : Int) - 48) * 10 + ((b.toNat : Int) - 48)) * 60 + M := ⟨_, rfl⟩; have V := hyd (VAL.out S43.out da db dc dd M Z hM hZ); have hx1 := X1.out; have hx2 := X2.out; have hx3 := X3.out; have hx4 := X4.out; unfold digB at da db dc dd; simp only [Bool.and_eq_true, decide_eq_true_eq] at da db dc dd; obtain ⟨a0, a1⟩ := da; obtain ⟨b0, b1⟩ := db; obtain ⟨c0, c1⟩ := dc; obtain ⟨d0, d1⟩ := dd; clear HALL DG SG VAL G X1 X2 X3 X4 GET; obtain ⟨A, hA⟩ : ∃ A : Int, A = (a.toNat : Int) := ⟨_, rfl⟩; obtain ⟨B, hB⟩ : ∃ B : Int, B = (b.toNat : Int) := ⟨_, rfl⟩; obtain ⟨C, hC⟩ : ∃ C : Int, C = (c.toNat : Int) := ⟨_, rfl⟩; obtain ⟨D, hD⟩ : ∃ D : Int, D = (d.toNat : Int) := ⟨_, rfl⟩; rw [← hA, ← hB] at hZ; rw [← hC, ← hD] at hM; have k1 : IntKind.u8.wrap (A - 48) = A - 48 := IntWalk.u8_in _ (by omega); have k2 : IntKind.u8.wrap (B - 48) = B - 48 := IntWalk.u8_in _ (by omega); have k3 : IntKind.u8.wrap (C - 48) = C - 48 := IntWalk.u8_in _ (by omega); have k4 : IntKind.u8.wrap (D - 48) = D - 48 := IntWalk.u8_in _ (by omega); have k5 : IntKind.i64.wrap (A - 48) = A - 48 := IntWalk.i64_in _ (by omega); have k6 : IntKind.i64.wrap (B - 48) = B - 48 := IntWalk.i64_in _ (by omega)
     have k7 : IntKind.i64.wrap (C - 48) = C - 48 := IntWalk.i64_in _ (by omega); have k8 : IntKind.i64.wrap (D - 48) = D - 48 := IntWalk.i64_in _ (by omega); have k9 : IntKind.i64.wrap ((C - 48) * 10) = (C - 48) * 10 := IntWalk.i64_in _ (by omega); have k10 : IntKind.i64.wrap ((C - 48) * 10 + (D - 48)) = M := (IntWalk.i64_in _ (by omega)).trans hM.symm; have k11 : IntKind.i64.wrap ((A - 48) * 10) = (A - 48) * 10 := IntWalk.i64_in _ (by omega); have k12 : IntKind.i64.wrap ((A - 48) * 10 + (B - 48)) = (A - 48) * 10 + (B - 48) := IntWalk.i64_in _ (by omega); have k13 : IntKind.i64.wrap (((A - 48) * 10 + (B - 48)) * 60) = ((A - 48) * 10 + (B - 48)) * 60 := IntWalk.i64_in _ (by omega); have k14 : IntKind.i64.wrap (((A - 48) * 10 + (B - 48)) * 60 + M) = Z := (IntWalk.i64_in _ (by omega)).trans hZ.symm
     have m0 : 0 ≤ M ∧ M ≤ 99 := by omega
     have z0 : 0 ≤ Z ∧ Z ≤ 6039 := by omega
     rw [hA] at k1 k5 k11 k12 k13 k14; rw [hB] at k2 k6 k12 k13 k14; rw [hC] at k3 k7 k9 k10; rw [hD] at k4 k8 k10; obtain ⟨m0, m1⟩ := m0; obtain ⟨z0, z1⟩ := z0; clear hA hB hC hD hM hZ a0 a1 b0 b1 c0 c1 d0 d1
     go_wp2_with fail
     go_quiet (fail)
     have HB1 := hyd (_root_.Go.below_drewN (Below.refl w.heap.size w) nq); generalize w.drewN nq = w2 at HB1 ⊢
     go_wp2_with fail
     go_quiet (fail)
     have HB2 := hyd (HB1.out.trans ((_root_.Go.below_drewN (Below.refl w2.heap.size w2) nq).mono HB1.out.size)); generalize w2.drewN nq = w3 at HB2 ⊢; clear k1 k2 k3 k4 k5 k6 k7 k8 k9 k10 k11 k12 k13 k14 hx1 hx2 hx3 hx4
     by_cases c1 : 59 < M
     ·have HV := hyd (show R = .tuple #[.int .i64 0, .int .i64 4] by rw [HR.out]; unfold zoneA; rw [V.out, if_pos (.inl c1)])
      go_wp2
      go_ret2
      exact ⟨by rw [HV.out]; rfl, HB2.out⟩
     by_cases c2 : 840 < Z
     ·have HV := hyd (show R = .tuple #[.int .i64 0, .int .i64 4] by rw [HR.out]; unfold zoneA; rw [V.out, if_pos (.inr (.inl c2))])
      go_wp2
      go_ret2
      exact ⟨by rw [HV.out]; rfl, HB2.out⟩
     by_cases c3 : x.toNat = 45
     ·have g1 : (((x.toNat : Nat) : Int) == 45) = true := by rw [c3]; rfl
      by_cases c4 : Z = 0
      ·have HV := hyd (show R = .tuple #[.int .i64 0, .int .i64 4] by rw [HR.out]; unfold zoneA; rw [V.out, if_pos (.inr (.inr ⟨c3, c4⟩))])
       have g2 : (Z == 0) = true := by rw [c4]; rfl
       clear c3 c4; go_wp2
       go_ret2
       exact ⟨by rw [HV.out]; rfl, HB2.out⟩
      ·have HV := hyd (show R = .tuple #[.int .i64 (-Z), .int .i64 0] by rw [HR.out]; unfold zoneA; rw [V.out, if_neg (by omega), if_pos c3])
       have g2 : (Z == 0) = false := by rw [beq_eq_false_iff_ne]; exact c4
       clear c3 c4; go_wp2
       go_ret2
       exact ⟨by rw [HV.out]; rfl, HB2.out⟩
     ·have g1 : (((x.toNat : Nat) : Int) == 45) = false := by rw [beq_eq_false_iff_ne]; omega
      have HV := hyd (show R = .tuple #[.int .i64 Z, .int .i64 0] by rw [HR.out]; unfold zoneA; rw [V.out, if_neg (by omega), if_neg c3]); clear c3; go_wp2
      go_ret2
      exact ⟨by rw [HV.out]; rfl, HB2.out⟩
  | false =>
   clear f2
   go_wp2_with fail
   go_loopw [4] (fun v4 wr => ∃ i : Nat, 1 ≤ i ∧ i ≤ 5 ∧ v4 = .int .i64 i ∧ (∀ j, 1 ≤ j → j < i → digB ([x, a, b, c, d].getD j 0) = true) ∧ w = wr) (fun v4 _ => 5 - (intOf v4).toNat)
   case atStart => exact ⟨1, by omega, by omega, rfl, fun j h1 h2 => absurd h2 (by omega), rfl⟩
   case round =>
    obtain ⟨i, i1, i5, rfl, hall, rfl⟩ := hrel; have HALL := hyd hall; clear hall
    by_cases hlt : i < 5
    ·have hx := GET.out i hlt (by omega)
     have DI := hyd (DG.out i i1 hlt); obtain ⟨y, hy⟩ : ∃ y : UInt8, y = [x, a, b, c, d].getD i 0 := ⟨_, rfl⟩; rw [← hy] at hx DI; have HY := hyd hy
     have j1 : (i : Int) < (s.size : Int) := by omega
     have j2 : (i : Int) < 5 := by omega
     have ylt := y.toNat_lt; clear hy
     by_cases y0 : y.toNat < 48
     ·have HV := hyd (DI.out (by unfold digB; rw [Bool.and_eq_false_iff, decide_eq_false_iff_not, decide_eq_false_iff_not]; omega))
      go_wp2
      go_ret2
      exact ⟨by rw [HV.out]; rfl, Below.refl _ _⟩
     ·by_cases y1 : 57 < y.toNat
      ·have HV := hyd (DI.out (by unfold digB; rw [Bool.and_eq_false_iff, decide_eq_false_iff_not, decide_eq_false_iff_not]; omega))
       go_wp2
       go_ret2
       exact ⟨by rw [HV.out]; rfl, Below.refl _ _⟩
      ·have HD := hyd (show digB y = true by unfold digB; rw [Bool.and_eq_true, decide_eq_true_eq, decide_eq_true_eq]; omega)
       go_wp2
       go_roundw
       case rel =>
        refine ⟨i + 1, by omega, by omega, by go_num, fun j h1 hj => ?_, by first | trivial | rfl⟩
        by_cases e : j = i
        ·rw [e, ← HY.out]; exact HD.out
        ·exact HALL.out j h1 (by omega)
       case measure => simp [intOf]; omega
    ·obtain rfl : i = 5 := by omega
     have da : digB a = true := HALL.out 1 (by omega) (by omega); have db : digB b = true := HALL.out 2 (by omega) (by omega); have dc : digB c = true := HALL.out 3 (by omega) (by omega); have dd : digB d = true := HALL.out 4 (by omega) (by omega); obtain ⟨M, hM⟩ : ∃ M : Int, M = ((c.toNat : Int) - 48) * 10 + ((d.toNat : Int) - 48) := ⟨_, rfl⟩; obtain ⟨Z, hZ⟩ : ∃ Z : Int, Z = (((a.toNat : Int) - 48) * 10 + ((b.toNat : Int) - 48)) * 60 + M := ⟨_, rfl⟩; have V := hyd (VAL.out S43.out da db dc dd M Z hM hZ); have hx1 := X1.out; have hx2 := X2.out; have hx3 := X3.out; have hx4 := X4.out; unfold digB at da db dc dd; simp only [Bool.and_eq_true, decide_eq_true_eq] at da db dc dd; obtain ⟨a0, a1⟩ := da; obtain ⟨b0, b1⟩ := db; obtain ⟨c0, c1⟩ := dc; obtain ⟨d0, d1⟩ := dd; clear HALL DG SG VAL G X1 X2 X3 X4 GET; obtain ⟨A, hA⟩ : ∃ A : Int, A = (a.toNat : Int) := ⟨_, rfl⟩; obtain ⟨B, hB⟩ : ∃ B : Int, B = (b.toNat : Int) := ⟨_, rfl⟩; obtain ⟨C, hC⟩ : ∃ C : Int, C = (c.toNat : Int) := ⟨_, rfl⟩; obtain ⟨D, hD⟩ : ∃ D : Int, D = (d.toNat : Int) := ⟨_, rfl⟩; rw [← hA, ← hB] at hZ; rw [← hC, ← hD] at hM; have k1 : IntKind.u8.wrap (A - 48) = A - 48 := IntWalk.u8_in _ (by omega); have k2 : IntKind.u8.wrap (B - 48) = B - 48 := IntWalk.u8_in _ (by omega); have k3 : IntKind.u8.wrap (C - 48) = C - 48 := IntWalk.u8_in _ (by omega); have k4 : IntKind.u8.wrap (D - 48) = D - 48 := IntWalk.u8_in _ (by omega); have k5 : IntKind.i64.wrap (A - 48) = A - 48 := IntWalk.i64_in _ (by omega); have k6 : IntKind.i64.wrap (B - 48) = B - 48 := IntWalk.i64_in _ (by omega)
     have k7 : IntKind.i64.wrap (C - 48) = C - 48 := IntWalk.i64_in _ (by omega); have k8 : IntKind.i64.wrap (D - 48) = D - 48 := IntWalk.i64_in _ (by omega); have k9 : IntKind.i64.wrap ((C - 48) * 10) = (C - 48) * 10 := IntWalk.i64_in _ (by omega); have k10 : IntKind.i64.wrap ((C - 48) * 10 + (D - 48)) = M := (IntWalk.i64_in _ (by omega)).trans hM.symm; have k11 : IntKind.i64.wrap ((A - 48) * 10) = (A - 48) * 10 := IntWalk.i64_in _ (by omega); have k12 : IntKind.i64.wrap ((A - 48) * 10 + (B - 48)) = (A - 48) * 10 + (B - 48) := IntWalk.i64_in _ (by omega); have k13 : IntKind.i64.wrap (((A - 48) * 10 + (B - 48)) * 60) = ((A - 48) * 10 + (B - 48)) * 60 := IntWalk.i64_in _ (by omega); have k14 : IntKind.i64.wrap (((A - 48) * 10 + (B - 48)) * 60 + M) = Z := (IntWalk.i64_in _ (by omega)).trans hZ.symm
     have m0 : 0 ≤ M ∧ M ≤ 99 := by omega
     have z0 : 0 ≤ Z ∧ Z ≤ 6039 := by omega
     rw [hA] at k1 k5 k11 k12 k13 k14; rw [hB] at k2 k6 k12 k13 k14; rw [hC] at k3 k7 k9 k10; rw [hD] at k4 k8 k10; obtain ⟨m0, m1⟩ := m0; obtain ⟨z0, z1⟩ := z0; clear hA hB hC hD hM hZ a0 a1 b0 b1 c0 c1 d0 d1
     go_wp2_with fail
     go_quiet (fail)
     have HB1 := hyd (_root_.Go.below_drewN (Below.refl w.heap.size w) nq); generalize w.drewN nq = w2 at HB1 ⊢
     go_wp2_with fail
     go_quiet (fail)
     have HB2 := hyd (HB1.out.trans ((_root_.Go.below_drewN (Below.refl w2.heap.size w2) nq).mono HB1.out.size)); generalize w2.drewN nq = w3 at HB2 ⊢; clear k1 k2 k3 k4 k5 k6 k7 k8 k9 k10 k11 k12 k13 k14 hx1 hx2 hx3 hx4
     by_cases c1 : 59 < M
     ·have HV := hyd (show R = .tuple #[.int .i64 0, .int .i64 4] by rw [HR.out]; unfold zoneA; rw [V.out, if_pos (.inl c1)])
      go_wp2
      go_ret2
      exact ⟨by rw [HV.out]; rfl, HB2.out⟩
     by_cases c2 : 840 < Z
     ·have HV := hyd (show R = .tuple #[.int .i64 0, .int .i64 4] by rw [HR.out]; unfold zoneA; rw [V.out, if_pos (.inr (.inl c2))])
      go_wp2
      go_ret2
      exact ⟨by rw [HV.out]; rfl, HB2.out⟩
     by_cases c3 : x.toNat = 45
     ·have g1 : (((x.toNat : Nat) : Int) == 45) = true := by rw [c3]; rfl
      by_cases c4 : Z = 0
      ·have HV := hyd (show R = .tuple #[.int .i64 0, .int .i64 4] by rw [HR.out]; unfold zoneA; rw [V.out, if_pos (.inr (.inr ⟨c3, c4⟩))])
       have g2 : (Z == 0) = true := by rw [c4]; rfl
       clear c3 c4; go_wp2
       go_ret2
       exact ⟨by rw [HV.out]; rfl, HB2.out⟩
      ·have HV := hyd (show R = .tuple #[.int .i64 (-Z), .int .i64 0] by rw [HR.out]; unfold zoneA; rw [V.out, if_neg (by omega), if_pos c3])
       have g2 : (Z == 0) = false := by rw [beq_eq_false_iff_ne]; exact c4
       clear c3 c4; go_wp2
       go_ret2
       exact ⟨by rw [HV.out]; rfl, HB2.out⟩
     ·have g1 : (((x.toNat : Nat) : Int) == 45) = false := by rw [beq_eq_false_iff_ne]; omega
      have HV := hyd (show R = .tuple #[.int .i64 Z, .int .i64 0] by rw [HR.out]; unfold zoneA; rw [V.out, if_neg (by omega), if_neg c3]); clear c3; go_wp2
      go_ret2
      exact ⟨by rw [HV.out]; rfl, HB2.out⟩
theorem rZone_other (l : List UInt8) (h : l.length ≠ 5) (hn : l.length ≤ 1000000) (w : World) :
  Calls Tryz.prog 112 #[.string ⟨l.toArray⟩] w fun e w' => e = .returned (zoneA l) ∧ Below w.heap.size w w' := by
 have hsz := size_toArray l; rw [zoneA_no (zone_len5 l h)]; generalize (⟨l.toArray⟩ : ByteArray) = s at hsz ⊢
 have f : (((l.length : Nat) : Int) != 5) = true := by simp; omega
 clear h
 go_enter Tryz.func112, Tryz.ntmps112
 go_wp2
 go_ret2
 exact ⟨rfl, Below.refl _ _⟩
theorem rZone_is (l : List UInt8) (hn : l.length ≤ 1000000) (w : World) :
  Calls Tryz.prog 112 #[.string ⟨l.toArray⟩] w fun e w' => e = .returned (zoneA l) ∧ Below w.heap.size w w' := by
 by_cases h : l.length = 5
 ·match l, h with
  | [x, a, b, c, d], _ => exact rZone_five x a b c d w
 ·exact rZone_other l h hn w
theorem find_here (c : UInt8) (s : List UInt8) (i : Nat) (hi : i < s.length) (h : s.getD i 0 = c) (hn : ¬ s.findIdx (· == c) < i) : s.findIdx (· == c) = i := by
 rw [List.getD_eq_getElem?_getD, List.getElem?_eq_getElem hi] at h; simp only [Option.getD_some] at h
 by_cases hgt : i < s.findIdx (· == c)
 ·have := List.not_of_lt_findIdx hgt
  rw [h] at this
  simp at this
 ·omega
theorem find_not (c : UInt8) (s : List UInt8) (i : Nat) (hi : i < s.length) (h : s.getD i 0 ≠ c) : s.findIdx (· == c) ≠ i := by
 intro e; rw [List.getD_eq_getElem?_getD, List.getElem?_eq_getElem hi] at h; simp only [Option.getD_some] at h; have h2 := List.findIdx_getElem (xs := s) (p := (· == c)) (w := by rw [e]; exact hi)
 have h3 : s[s.findIdx (· == c)]'(by rw [e]; exact hi) = c := by simpa using h2
 simp only [e] at h3; exact h h3
def seen (f i : Nat) : Int := if f < i then f else -1
theorem seen_zero (f : Nat) : seen f 0 = -1 := by unfold seen; rw [if_neg (Nat.not_lt_zero _)]
theorem seen_here (c : UInt8) (s : List UInt8) (i : Nat) (hi : i < s.length) (h : s.getD i 0 = c) : seen (s.findIdx (· == c)) (i + 1) = if seen (s.findIdx (· == c)) i < 0 then (i : Int) else seen (s.findIdx (· == c)) i := by
 unfold seen
 by_cases hn : s.findIdx (· == c) < i
 ·rw [if_pos hn, if_pos (by omega), if_neg (by omega)]
 ·have e := find_here c s i hi h hn
  rw [if_neg hn, if_pos (by omega), e, if_pos (by omega)]
theorem seen_not (c : UInt8) (s : List UInt8) (i : Nat) (hi : i < s.length) (h : s.getD i 0 ≠ c) : seen (s.findIdx (· == c)) (i + 1) = seen (s.findIdx (· == c)) i := by
 have e := find_not c s i hi h; unfold seen
 by_cases hn : s.findIdx (· == c) < i
 ·rw [if_pos hn, if_pos (by omega)]
 ·rw [if_neg hn, if_neg (by omega)]
theorem setCell4_0 {w : World} {b : Nat} {t : TypeId} {x0 x1 x2 x3 v : Value} (h : w.heap[b]? = some (.cells #[x0, x1, x2, x3] t (0, 0))) : (w.setCell ⟨b, 0, none⟩ v).heap[b]? = some (.cells #[v, x1, x2, x3] t (0, 0)) := by
 simp [World.setCell, Array.getElem?_modify, h]
theorem setCell4_2 {w : World} {b : Nat} {t : TypeId} {x0 x1 x2 x3 v : Value} (h : w.heap[b]? = some (.cells #[x0, x1, x2, x3] t (0, 0))) : (w.setCell ⟨b, 2, none⟩ v).heap[b]? = some (.cells #[x0, x1, v, x3] t (0, 0)) := by
 simp [World.setCell, Array.getElem?_modify, h]
theorem setCell4_3 {w : World} {b : Nat} {t : TypeId} {x0 x1 x2 x3 v : Value} (h : w.heap[b]? = some (.cells #[x0, x1, x2, x3] t (0, 0))) : (w.setCell ⟨b, 3, none⟩ v).heap[b]? = some (.cells #[x0, x1, x2, v] t (0, 0)) := by
 simp [World.setCell, Array.getElem?_modify, h]
theorem parseR_badA {wr : Int → List UInt8} {rd : List UInt8 → Option Int} {s : List UInt8} (h : badA s) : parseR wr rd s = none := by unfold parseR; rw [if_pos h]
theorem parseR_badB {wr : Int → List UInt8} {rd : List UInt8 → Option Int} {s : List UInt8} (h : badB (restI s)) : parseR wr rd s = none := by
 unfold parseR
 by_cases h0 : badA s
 ·rw [if_pos h0]
 ·rw [if_neg h0, if_pos h]
theorem parseR_good {wr : Int → List UInt8} {rd : List UInt8 → Option Int} {s : List UInt8} (h : ¬ badA s) (h2 : ¬ badB (restI s)) :
  parseR wr rd s = match rd (((restI s).take ((restI s).length - 6)).drop 1) with
  | none => none
  | some v => match zoneR ((restI s).drop ((restI s).length - 5)) with
   | none => none
   | some z => if rightI (candI s v z) = true ∧ printI wr (candI s v z) = s then some (candI s v z) else none := by
 unfold parseR; rw [if_neg h, if_neg h2]
 rfl
theorem seen_two (f i : Nat) : seen f i = -1 ∧ i ≤ f ∨ seen f i = (f : Int) ∧ f < i := by
 unfold seen
 by_cases h : f < i
 ·rw [if_pos h]; exact .inr ⟨rfl, h⟩
 ·rw [if_neg h]; exact .inl ⟨rfl, by omega⟩
theorem wpList_store_idt {ops : Array Oper} {rest : List Oper} {o : Oper} {a : Act} {w : World} {Q : Exit → Act → World → Prop} (hgd : o.guard = none) (x y : Operand) (ho : o.op = .store 70 x y)
  (g : Nat) (a0 a1 a2 a3 b0 b1 b2 b3 : Value) (hx : a.eval x = .pointer (some ⟨g, 0, none⟩)) (hy : a.eval y = .agg #[a0, a1, a2, a3]) (hg : w.heap[g]? = some (.cells #[b0, b1, b2, b3] 70 (0, 0)))
  (one : (#[a0, a1, a2, a3] : Array Value).all (·.oneCell') = true)
  (h : ∀ w', w'.heap[g]? = some (.cells #[a0, a1, a2, a3] 70 (0, 0)) → (∀ B w0, B ≤ g → Below B w0 w → Below B w0 w') → (∀ k, k ≠ g → w'.heap[k]? = w.heap[k]?) → w'.heap.size = w.heap.size → wpList Tryz.prog ops Q rest (a.put o.dst undef) w') :
  wpList Tryz.prog ops Q (o :: rest) a w := by
 refine wpList_store_row hgd 70 x y ho g #[a0, a1, a2, a3] hx hy 70 #[b0, b1, b2, b3] hg (infoId4 _ _ _ _) (sizeId4 _ _ _ _ _ _ _ _) one ?_; refine h _ (setRow_heap w g _ _ _ (0, 0) hg) (fun B w0 hB hb => below_setRow hb hB _) (fun k hk => ?_) ?_
 ·simp [World.setRow, Array.getElem?_modify]
  intro e; exact absurd e.symm hk
 ·simp [World.setRow]
theorem find_val (c : UInt8) (l : List UInt8) (h : l.findIdx (· == c) < l.length) : l.getD (l.findIdx (· == c)) 0 = c := by
 have a := List.findIdx_getElem (xs := l) (p := (· == c)) (w := h); rw [List.getD_eq_getElem?_getD, List.getElem?_eq_getElem h]
 simpa using a
theorem find_ne (l : List UInt8) (h : openI l < l.length) : openI l ≠ endI l := by
 intro e
 have h2 : endI l < l.length := by rw [← e]; exact h
 have a : l.getD (openI l) 0 = 60 := find_val 60 l h; have b : l.getD (endI l) 0 = 62 := find_val 62 l h2; rw [e, b] at a; exact absurd a (by decide)
theorem setCell_far {w : World} {p : Addr} {k : Nat} (v : Value) (h : k ≠ p.block) : (w.setCell p v).heap[k]? = w.heap[k]? := by
 simp [World.setCell, Array.getElem?_modify]
 intro e; exact absurd e.symm h
theorem zoneA_shape (s : List UInt8) : ∃ za zf : Int, zoneA s = .tuple #[.int .i64 za, .int .i64 zf] := by
 unfold zoneA
 split
 ·exact ⟨_, _, rfl⟩
 ·exact ⟨_, _, rfl⟩
set_option maxRecDepth 100000 in
theorem rParse_is (l : List UInt8) (hn : l.length ≤ 1000000) (w : World) (tab : T6 w) :
  Calls Tryz.prog 90 #[.string ⟨l.toArray⟩] w fun e w' => e = .returned (idtA (parseR Lib.itoa takeN l)) ∧ Below w.heap.size w w' := by
 have D0 := hyd ((Below.refl w.heap.size w).alloc (Nat.le_refl _) (.cells id0 70)); have T0 := hyd (tab.keep D0.out); have N0 := hyd (heap_alloc_new w (.cells id0 70)); have S0 := hyd (show (w.alloc (.cells id0 70)).heap.size = w.heap.size + 1 by simp); obtain ⟨R, hR⟩ : ∃ R, R = idtA (parseR Lib.itoa takeN l) := ⟨_, rfl⟩; rw [← hR]; have BA := hyd (fun h => hR.trans (congrArg idtA (parseR_badA (s := l) h))); have BB := hyd (fun h => hR.trans (congrArg idtA (parseR_badB (s := l) h))); have GD := hyd (fun h h2 => hR.trans (congrArg idtA (parseR_good (s := l) h h2))); have hsz := size_toArray l
 have hget0 : ∀ j, j < l.length → ∀ h2 : j < (⟨l.toArray⟩ : ByteArray).size, (⟨l.toArray⟩ : ByteArray)[j]'h2 = l.getD j 0 := fun j h h2 => getD_mk l j h h2
 have XM := hyd (fun a b => Lib.extract_mk l a b); have XU := hyd (ext_upto l); have XF := hyd (fun k => ext_from l k l.length rfl); have LS := hyd (fun m => (Iff.rfl : (printI Lib.itoa m = l) ↔ (printI Lib.itoa m = l))); obtain ⟨s, hs⟩ : ∃ s : ByteArray, s = ⟨l.toArray⟩ := ⟨_, rfl⟩
 have hget : ∀ j, j < l.length → ∀ h2 : j < s.size, s[j]'h2 = l.getD j 0 := by subst hs; exact hget0
 rw [← hs] at hsz XM XU XF ⊢; have HS := hyd hs; have GET := hyd hget; have badAiff := hyd (show badA l ↔ (l.length ≤ openI l ∨ l.length ≤ endI l ∨ endI l < openI l ∨ (0 < openI l ∧ l.getD (openI l - 1) 0 ≠ 32) ∨ openI l = 1) from Iff.rfl); have TAB := hyd tab; have NE := hyd (find_ne l); clear hR hget hget0 hs tab; have SO := hyd (show ∀ i, i < l.length → l.getD i 0 = 60 → seen (openI l) (i + 1) = if seen (openI l) i < 0 then (i : Int) else seen (openI l) i from fun i hi h => seen_here 60 l i hi h); have SN := hyd (show ∀ i, i < l.length → l.getD i 0 ≠ 60 → seen (openI l) (i + 1) = seen (openI l) i from fun i hi h => seen_not 60 l i hi h); have EO := hyd (show ∀ i, i < l.length → l.getD i 0 = 62 → seen (endI l) (i + 1) = if seen (endI l) i < 0 then (i : Int) else seen (endI l) i from fun i hi h => seen_here 62 l i hi h); have EN := hyd (show ∀ i, i < l.length → l.getD i 0 ≠ 62 → seen (endI l) (i + 1) = seen (endI l) i from fun i hi h => seen_not 62 l i hi h); have Z1 := hyd (seen_zero (openI l)); have Z2 := hyd (seen_zero (endI l)); have SD := hyd seen_two
 go_enter Tryz.func90, Tryz.ntmps90
 go_wp2_with fail
 go_loopw [4, 5, 6] (fun v4 v5 v6 wr => ∃ i : Nat, i ≤ l.length ∧ v6 = .int .i64 i ∧ v4 = .int .i64 (seen (openI l) i) ∧ v5 = .int .i64 (seen (endI l) i) ∧ wr = w.alloc (.cells id0 70)) (fun _ _ v6 _ => l.length - (intOf v6).toNat)
 case atStart => exact ⟨0, Nat.zero_le _, rfl, by rw [Z1.out], by rw [Z2.out], rfl⟩
 case round =>
  clear Z1 Z2; obtain ⟨i, hi, rfl, rfl, rfl, hwr⟩ := hrel; have HWR := hyd hwr; clear hwr
  by_cases hlt : i < l.length
  ·have hx := GET.out i hlt (by omega)
   have j1 : (i : Int) < (s.size : Int) := by omega
   have j2 : (i : Int) < (l.length : Int) := by omega
   have so := SO.out i hlt; have sn := SN.out i hlt; have eo := EO.out i hlt; have en := EN.out i hlt; obtain ⟨x, hxe⟩ : ∃ x : UInt8, x = l.getD i 0 := ⟨_, rfl⟩; rw [← hxe] at hx so sn eo en; obtain ⟨p, hp⟩ : ∃ p, p = seen (openI l) i := ⟨_, rfl⟩; obtain ⟨q, hq⟩ : ∃ q, q = seen (endI l) i := ⟨_, rfl⟩; rw [← hp] at so sn ⊢; rw [← hq] at eo en ⊢; have SO2 := hyd so; have SN2 := hyd sn; have EO2 := hyd eo; have EN2 := hyd en; clear hxe hp hq so sn eo en
   by_cases x60 : x.toNat = 60
   ·have e60 : x = 60 := UInt8.toNat_inj.1 (by simpa using x60)
    have SV := hyd (SO2.out e60); have EV := hyd (EN2.out (by rw [e60]; decide))
    have f1 : (((x.toNat : Nat) : Int) == 60) = true := by rw [x60]; rfl
    have f2 : (((x.toNat : Nat) : Int) == 62) = false := by rw [x60]; rfl
    clear x60 e60
    by_cases p0 : p < 0
    ·have SV2 := hyd (show seen (openI l) (i + 1) = (i : Int) by rw [SV.out, if_pos p0])
     go_wp2
     go_roundw
     case rel => exact ⟨i + 1, by omega, by go_num, by rw [SV2.out], by rw [EV.out], HWR.out⟩
     case measure => simp [intOf]; omega
    ·have SV2 := hyd (show seen (openI l) (i + 1) = p by rw [SV.out, if_neg p0])
     go_wp2
     go_roundw
     case rel => exact ⟨i + 1, by omega, by go_num, by rw [SV2.out], by rw [EV.out], HWR.out⟩
     case measure => simp [intOf]; omega
   ·have f1 : (((x.toNat : Nat) : Int) == 60) = false := by rw [beq_eq_false_iff_ne]; omega
    have SV := hyd (SN2.out (fun e => x60 (by rw [e]; rfl))); clear x60
    by_cases x62 : x.toNat = 62
    ·have e62 : x = 62 := UInt8.toNat_inj.1 (by simpa using x62)
     have EV := hyd (EO2.out e62)
     have f2 : (((x.toNat : Nat) : Int) == 62) = true := by rw [x62]; rfl
     clear x62 e62
     by_cases q0 : q < 0
     ·have EV2 := hyd (show seen (endI l) (i + 1) = (i : Int) by rw [EV.out, if_pos q0])
      go_wp2
      go_roundw
      case rel => exact ⟨i + 1, by omega, by go_num, by rw [SV.out], by rw [EV2.out], HWR.out⟩
      case measure => simp [intOf]; omega
     ·have EV2 := hyd (show seen (endI l) (i + 1) = q by rw [EV.out, if_neg q0])
      go_wp2
      go_roundw
      case rel => exact ⟨i + 1, by omega, by go_num, by rw [SV.out], by rw [EV2.out], HWR.out⟩
      case measure => simp [intOf]; omega
    ·have f2 : (((x.toNat : Nat) : Int) == 62) = false := by rw [beq_eq_false_iff_ne]; omega
     have EV := hyd (EN2.out (fun e => x62 (by rw [e]; rfl))); clear x62; go_wp2
     go_roundw
     case rel => exact ⟨i + 1, by omega, by go_num, by rw [SV.out], by rw [EV.out], HWR.out⟩
     case measure => simp [intOf]; omega
  ·obtain rfl : i = l.length := by omega
   have C1 := SD.out (openI l) l.length; have C2 := SD.out (endI l) l.length; have hO : openI l = l.findIdx (· == 60) := rfl; have REST := hyd (show restI l = l.drop (endI l + 1) from rfl); have CAND := hyd (show ∀ v z, candI l v z = ⟨if 1 < openI l then l.take (openI l - 1) else [], (l.take (endI l)).drop (openI l + 1), v, z⟩ from fun _ _ => rfl); clear SO SN EO EN SD hlt hO; generalize seen (openI l) l.length = p at C1 ⊢; generalize seen (endI l) l.length = q at C2 ⊢
   generalize openI l = o at *
   generalize endI l = n at *
   have hwr := HWR.out; clear HWR; subst hwr
   rcases C1 with ⟨rfl, c1⟩ | ⟨rfl, c1⟩
   ·have HV := hyd (show R = .tuple #[.agg id0, .int .i64 4] from BA.out (badAiff.out.2 (.inl c1)))
    clear C2
    go_wp2_with (first
     | (with_reducible refine wpList_store_row rfl 70 (.tmp 2) (.tmp 59) rfl w.heap.size id0 rfl rfl 70 id0 N0.out (infoId4 _ _ _ _) (sizeId4 _ _ _ _ _ _ _ _) one_id0 ?_)
     | fail)
    refine bodyPost_ret (results_idt Tryz.results90 _ _ w.heap.size _ (0, 0) _ rfl rfl (setRow_heap _ w.heap.size id0 _ _ (0, 0) N0.out) rfl) rfl ⟨by rw [HV.out]; rfl, below_setRow D0.out (Nat.le_refl _) _⟩
   rcases C2 with ⟨rfl, c2⟩ | ⟨rfl, c2⟩
   ·have HV := hyd (show R = .tuple #[.agg id0, .int .i64 4] from BA.out (badAiff.out.2 (.inr (.inl c2))))
    have g1 : (-1 : Int) < (o : Int) := by omega
    go_wp2_with (first
     | (with_reducible refine wpList_store_row rfl 70 (.tmp 2) (.tmp 59) rfl w.heap.size id0 rfl rfl 70 id0 N0.out (infoId4 _ _ _ _) (sizeId4 _ _ _ _ _ _ _ _) one_id0 ?_)
     | fail)
    refine bodyPost_ret (results_idt Tryz.results90 _ _ w.heap.size _ (0, 0) _ rfl rfl (setRow_heap _ w.heap.size id0 _ _ (0, 0) N0.out) rfl) rfl ⟨by rw [HV.out]; rfl, below_setRow D0.out (Nat.le_refl _) _⟩
   by_cases c3 : n < o
   ·have HV := hyd (show R = .tuple #[.agg id0, .int .i64 4] from BA.out (badAiff.out.2 (.inr (.inr (.inl c3)))))
    have g1 : (n : Int) < (o : Int) := by omega
    go_wp2_with (first
     | (with_reducible refine wpList_store_row rfl 70 (.tmp 2) (.tmp 59) rfl w.heap.size id0 rfl rfl 70 id0 N0.out (infoId4 _ _ _ _) (sizeId4 _ _ _ _ _ _ _ _) one_id0 ?_)
     | fail)
    refine bodyPost_ret (results_idt Tryz.results90 _ _ w.heap.size _ (0, 0) _ rfl rfl (setRow_heap _ w.heap.size id0 _ _ (0, 0) N0.out) rfl) rfl ⟨by rw [HV.out]; rfl, below_setRow D0.out (Nat.le_refl _) _⟩
   have g1 : ¬ ((n : Int) < (o : Int)) := by omega
   obtain rfl | ⟨j, rfl⟩ := (show o = 0 ∨ ∃ j, o = j + 1 from by cases o with | zero => exact .inl rfl | succ j => exact .inr ⟨j, rfl⟩)
   ·have NA := hyd (show ¬ badA l by rw [badAiff.out]; rintro (h | h | h | h | h) <;> omega)
    have NEQ := NE.out (by omega); have HA := hyd (heap_alloc2_new w (.cells id0 70) (.cells id0 70)); have HN := hyd (heap_alloc2_old w (.cells id0 70) (.cells id0 70)); have HD := hyd ((D0.out).alloc D0.out.size (.cells id0 70))
    have e1 : s.extract 1 n = ⟨((l.take n).drop 1).toArray⟩ := by rw [XM.out, List.drop_take]
    have hRl : (l.drop (n + 1)).length = l.length - (n + 1) := List.length_drop; have hRs : s.extract (n + 1) l.length = ⟨(l.drop (n + 1)).toArray⟩ := XF.out (n + 1)
    have eml : ((l.take n).drop 1).length ≤ 1000000 := by rw [List.length_drop, List.length_take]; omega
    have E1 := hyd e1; have CA := hyd (show ∀ v z, candI l v z = ⟨[], (l.take n).drop 1, v, z⟩ from fun v z => by rw [CAND.out]; rfl); have RL := hyd (show restI l = l.drop (n + 1) from REST.out); clear e1 BA CAND REST badAiff GET; generalize (l.take n).drop 1 = em at E1 CA eml; generalize l.drop (n + 1) = RS at hRl hRs RL; have hrz : (⟨RS.toArray⟩ : ByteArray).size = RS.length := size_toArray RS
    have hrget0 : ∀ j, j < RS.length → ∀ h2 : j < (⟨RS.toArray⟩ : ByteArray).size, (⟨RS.toArray⟩ : ByteArray)[j]'h2 = RS.getD j 0 := fun j h h2 => getD_mk RS j h h2
    have RXM := hyd (fun a b => Lib.extract_mk RS a b); obtain ⟨rs, hrs⟩ : ∃ rs : ByteArray, rs = ⟨RS.toArray⟩ := ⟨_, rfl⟩
    have hrget : ∀ j, j < RS.length → ∀ h2 : j < rs.size, rs[j]'h2 = RS.getD j 0 := by subst hrs; exact hrget0
    rw [← hrs] at hRs hrz RXM; have RGET := hyd hrget; clear hrget hrget0 hrs
    have n1 : (n : Int) + 1 ≤ (s.size : Int) := by omega
    have n2 : (n : Int) + 1 ≤ (l.length : Int) := by omega
    have o1 : (0 : Int) + 1 ≤ (n : Int) := by omega
    go_wp2_with (first
     | (with_reducible refine wpList_store_idt rfl (.tmp 7) (.tmp 65) rfl (w.heap.size + 1) _ _ _ _ _ _ _ _ rfl rfl HA.out (by simp [Value.oneCell']) ?_)
     | fail)
    intro w2 h2 d2 k2 z2; rw [E1.out] at h2; have hd2 := d2 w.heap.size w (by omega) HD.out; have hn2 := (k2 w.heap.size (by omega)).trans HN.out; clear d2 k2 z2 HA HN HD; have H3 := hyd h2; have N3 := hyd hn2; have D3 := hyd hd2; have T3 := hyd (TAB.out.keep D3.out); clear h2 hn2 hd2
    by_cases r8 : RS.length < 8
    ·have HV := hyd (show R = .tuple #[.agg id0, .int .i64 4] from BB.out (by rw [RL.out]; exact .inl r8))
     have g8 : ((RS.length : Nat) : Int) < 8 := by omega
     go_wp2_with (first
      | (with_reducible refine wpList_store_row rfl 70 (.tmp 2) (.tmp 93) rfl w.heap.size id0 rfl rfl 70 id0 N3.out (infoId4 _ _ _ _) (sizeId4 _ _ _ _ _ _ _ _) one_id0 ?_)
      | fail)
     refine bodyPost_ret (results_idt Tryz.results90 _ _ w.heap.size _ (0, 0) _ rfl rfl (setRow_heap _ w.heap.size id0 _ _ (0, 0) N3.out) rfl) rfl ⟨by rw [HV.out]; rfl, below_setRow D3.out (Nat.le_refl _) _⟩
    obtain ⟨q, hq⟩ : ∃ q, RS.length = q + 6 := ⟨RS.length - 6, by omega⟩
    have q2 : 2 ≤ q := by omega
    have qb : q ≤ 1000000 := by omega
    have g8 : ¬ (((RS.length : Nat) : Int) < 8) := by omega
    have BB0 := hyd (fun h : RS.getD 0 0 ≠ 32 => (BB.out (by rw [RL.out]; exact .inr (.inl h)) : R = .tuple #[.agg id0, .int .i64 4])); have BBq := hyd (fun h : RS.getD q 0 ≠ 32 => (BB.out (by rw [RL.out]; refine .inr (.inr ?_); rw [show RS.length - 6 = q by omega]; exact h) : R = .tuple #[.agg id0, .int .i64 4])); have GDB := hyd (fun h0 : RS.getD 0 0 = 32 => fun hq' : RS.getD q 0 = 32 => (by rw [RL.out]; rintro (h | h | h); exact r8 h; exact h h0; exact h (by rw [show RS.length - 6 = q by omega]; exact hq') : ¬ badB (restI l))); have TA := hyd (show ((restI l).take ((restI l).length - 6)).drop 1 = (RS.take q).drop 1 by rw [RL.out, show RS.length - 6 = q by omega]); have ZB := hyd (show (restI l).drop ((restI l).length - 5) = RS.drop (q + 1) by rw [RL.out, show RS.length - 5 = q + 1 by omega]); rw [hq] at hrz g8; have y0 := RGET.out 0 (by omega) (by rw [hrz]; exact Nat.succ_pos _); have yq := RGET.out q (by omega) (by rw [hrz]; exact Nat.lt_add_of_pos_right (by decide))
    have et : rs.extract 1 q = ⟨((RS.take q).drop 1).toArray⟩ := by rw [RXM.out, List.drop_take]
    have ez : rs.extract (q + 1) (q + 6) = ⟨(RS.drop (q + 1)).toArray⟩ := by rw [RXM.out, show q + 6 - (q + 1) = 5 by omega, List.take_of_length_le (by rw [List.length_drop, hq]; omega)]
    have tl : ((RS.take q).drop 1).length ≤ 1000000 := by rw [List.length_drop, List.length_take]; omega
    have zl : (RS.drop (q + 1)).length ≤ 1000000 := by rw [List.length_drop]; omega
    have rsq : (q : Int) < (rs.size : Int) := by omega
    have rs0 : (0 : Int) < (rs.size : Int) := by omega
    clear BB RXM RGET; generalize ha0 : RS.getD 0 0 = A0 at y0 BB0 GDB; generalize haq : RS.getD q 0 = AQ at yq BBq GDB; generalize (RS.take q).drop 1 = ta at TA et tl; generalize RS.drop (q + 1) = zb at ZB ez zl; clear ha0 haq hq RL
    by_cases a32 : A0 = 32
    case neg =>
     have HV := hyd (BB0.out a32)
     have f0 : (((A0.toNat : Nat) : Int) != 32) = true := by
      rw [bne_iff_ne]; intro e; exact a32 (UInt8.toNat_inj.1 (by show A0.toNat = 32; omega))
     clear a32
     go_wp2_with (first
      | (with_reducible refine wpList_store_row rfl 70 (.tmp 2) (.tmp 93) rfl w.heap.size id0 rfl rfl 70 id0 N3.out (infoId4 _ _ _ _) (sizeId4 _ _ _ _ _ _ _ _) one_id0 ?_)
      | fail)
     refine bodyPost_ret (results_idt Tryz.results90 _ _ w.heap.size _ (0, 0) _ rfl rfl (setRow_heap _ w.heap.size id0 _ _ (0, 0) N3.out) rfl) rfl ⟨by rw [HV.out]; rfl, below_setRow D3.out (Nat.le_refl _) _⟩
    have f0 : (((A0.toNat : Nat) : Int) != 32) = false := by rw [a32]; rfl
    by_cases q32 : AQ = 32
    case neg =>
     have HV := hyd (BBq.out q32)
     have fq : (((AQ.toNat : Nat) : Int) != 32) = true := by
      rw [bne_iff_ne]; intro e; exact q32 (UInt8.toNat_inj.1 (by show AQ.toNat = 32; omega))
     clear a32 q32
     go_wp2_with (first
      | (with_reducible refine wpList_store_row rfl 70 (.tmp 2) (.tmp 93) rfl w.heap.size id0 rfl rfl 70 id0 N3.out (infoId4 _ _ _ _) (sizeId4 _ _ _ _ _ _ _ _) one_id0 ?_)
      | fail)
     refine bodyPost_ret (results_idt Tryz.results90 _ _ w.heap.size _ (0, 0) _ rfl rfl (setRow_heap _ w.heap.size id0 _ _ (0, 0) N3.out) rfl) rfl ⟨by rw [HV.out]; rfl, below_setRow D3.out (Nat.le_refl _) _⟩
    have fq : (((AQ.toNat : Nat) : Int) != 32) = false := by rw [q32]; rfl
    have GG := hyd (GD.out NA (GDB.out a32 q32))
    have cT := fun w => rTake_all ta tl w
    have cZ := fun w => rZone_is zb zl w
    clear a32 q32 GDB BB0 BBq GD NA
    go_wp2_with fail
    refine (cT _).mono ?_; rintro e w4 ⟨rfl, b4⟩; have H4 := hyd ((b4.block _ (lt_heap H3.out)).trans H3.out); have N4 := hyd ((b4.block _ (lt_heap N3.out)).trans N3.out); have D4 := hyd (D3.out.trans (b4.mono D3.out.size)); have T4 := hyd (T3.out.keep b4); clear b4 H3 N3 D3 T3 cT; obtain ⟨za, zf, hzA⟩ := zoneA_shape zb; rw [hzA] at cZ
    go_wp2_with fail
    refine (cZ _).mono ?_; rintro e w5 ⟨rfl, b5⟩; have hh5 := (b5.block _ (lt_heap H4.out)).trans H4.out; have N5 := hyd ((b5.block _ (lt_heap N4.out)).trans N4.out); have D5 := hyd (D4.out.trans (b5.mono D4.out.size)); have T5 := hyd (T4.out.keep b5); clear b5 H4 N4 D4 T4 cZ; have c52 := (cells4 hh5).2.2.1; have f52 : w5.frozen? ⟨w.heap.size + 1, 2, none⟩ = false := Lib.frozen_of_heap hh5 2
    have c63 := fun v : Int => (cells4 (setCell4_2 (v := .int .i64 v) hh5)).2.2.2
    have f63 := fun v : Int => Lib.frozen_of_heap (setCell4_2 (v := .int .i64 v) hh5) 3
    have H7 := hyd (fun v z : Int => setCell4_3 (v := .int .i64 z) (setCell4_2 (v := .int .i64 v) hh5)); have D7 := hyd (fun v z : Int => (D5.out.setCell (p := ⟨w.heap.size + 1, 2, none⟩) (show w.heap.size ≤ w.heap.size + 1 by omega) (.int .i64 v)).setCell (p := ⟨w.heap.size + 1, 3, none⟩) (show w.heap.size ≤ w.heap.size + 1 by omega) (.int .i64 z)); have N7 := hyd (fun v z : Int => ((setCell_far (w := w5.setCell ⟨w.heap.size + 1, 2, none⟩ (.int .i64 v)) (p := ⟨w.heap.size + 1, 3, none⟩) (.int .i64 z) (show w.heap.size ≠ w.heap.size + 1 by omega)).trans (setCell_far (p := ⟨w.heap.size + 1, 2, none⟩) (.int .i64 v) (show w.heap.size ≠ w.heap.size + 1 by omega))).trans N5.out); have T7 := hyd (fun v z : Int => TAB.out.keep (D7.out v z)); have C7 := hyd (fun v z : Int => cells4 (H7.out v z)); clear N5 D5 T5 hh5 TAB
    cases ht : takeN ta with
    | none =>
     obtain ⟨u1, u2⟩ := tv_none ht; have HV := hyd (show R = .tuple #[.agg id0, .int .i64 4] by rw [GG.out, TA.out, ht]; rfl); generalize (tv ta).2 = p2 at u1 u2 ⊢; generalize (tv ta).1 = p1; have c63 := c63 p1; have f63 := f63 p1; have N8 := hyd (N7.out p1 za); have D8 := hyd (D7.out p1 za); clear ht H7 N7 D7 T7 C7
     go_wp2_with (first
      | (with_reducible refine wpList_store_row rfl 70 (.tmp 2) (.tmp 133) rfl w.heap.size id0 rfl rfl 70 id0 N8.out (infoId4 _ _ _ _) (sizeId4 _ _ _ _ _ _ _ _) one_id0 ?_)
      | fail)
     refine bodyPost_ret (results_idt Tryz.results90 _ _ w.heap.size _ (0, 0) _ rfl rfl (setRow_heap _ w.heap.size id0 _ _ (0, 0) N8.out) rfl) rfl ⟨by rw [HV.out]; rfl, below_setRow D8.out (Nat.le_refl _) _⟩
    | some v =>
     rw [tv_some ht]; have c63 := c63 v; have f63 := f63 v
     cases hz : zoneR zb with
     | none =>
      have HV := hyd (show R = .tuple #[.agg id0, .int .i64 4] by rw [GG.out, TA.out, ht, ZB.out]; simp only [hz]; rfl); unfold zoneA at hzA; rw [hz] at hzA
      simp at hzA
      obtain ⟨rfl, rfl⟩ := hzA; have N8 := hyd (N7.out v 0); have D8 := hyd (D7.out v 0); clear ht hz H7 N7 D7 T7 C7
      go_wp2_with (first
       | (with_reducible refine wpList_store_row rfl 70 (.tmp 2) (.tmp 133) rfl w.heap.size id0 rfl rfl 70 id0 N8.out (infoId4 _ _ _ _) (sizeId4 _ _ _ _ _ _ _ _) one_id0 ?_)
       | fail)
      refine bodyPost_ret (results_idt Tryz.results90 _ _ w.heap.size _ (0, 0) _ rfl rfl (setRow_heap _ w.heap.size id0 _ _ (0, 0) N8.out) rfl) rfl ⟨by rw [HV.out]; rfl, below_setRow D8.out (Nat.le_refl _) _⟩
     | some z =>
      unfold zoneA at hzA; rw [hz] at hzA
      simp at hzA
      obtain ⟨rfl, rfl⟩ := hzA; have RG := hyd (show R = idtA (if rightI ⟨[], em, v, z⟩ = true ∧ printI Lib.itoa ⟨[], em, v, z⟩ = l then some ⟨[], em, v, z⟩ else none) by rw [GG.out, TA.out, ht, ZB.out]; simp only [hz, CA.out])
      have cR := fun w t => rRight_is ⟨[], em, v, z⟩ (by simp) eml w t
      have cQ := fun w t => rPrint_is ⟨[], em, v, z⟩ (by simp) eml w t
      unfold idtV at cR cQ; simp only at cR cQ; have N8 := hyd (N7.out v z); have D8 := hyd (D7.out v z); have T8 := hyd (T7.out v z); have H8 := hyd (H7.out v z); obtain ⟨c80, c81, c82, c83⟩ := C7.out v z; have IV := hyd (show idtV ⟨[], em, v, z⟩ = .agg #[.string ⟨#[]⟩, .string ⟨em.toArray⟩, .int .i64 v, .int .i64 z] by unfold idtV; simp only); clear ht hz H7 N7 D7 T7 C7 GG TA ZB
      go_wp2_with fail
      refine (cR _ T8.out).mono ?_; rintro e w9 ⟨rfl, b9⟩; have N9 := hyd ((b9.block _ (lt_heap N8.out)).trans N8.out); have hh9 := (b9.block _ (lt_heap H8.out)).trans H8.out; have D9 := hyd (D8.out.trans (b9.mono D8.out.size)); have T9 := hyd (T8.out.keep b9); obtain ⟨c90, c91, c92, c93⟩ := cells4 hh9; have H9 := hyd hh9; clear b9 hh9 N8 D8 T8 H8 c80 c81 c82 c83 cR c52 f52 c63 f63
      cases hr : rightI ⟨[], em, v, z⟩ with
      | false =>
       have HV := hyd (show R = .tuple #[.agg id0, .int .i64 4] by rw [RG.out, if_neg (fun h => by rw [hr] at h; exact absurd h.1 (by decide))]; rfl); clear hr
       go_wp2_with (first
        | (with_reducible refine wpList_store_row rfl 70 (.tmp 2) (.tmp 133) rfl w.heap.size id0 rfl rfl 70 id0 N9.out (infoId4 _ _ _ _) (sizeId4 _ _ _ _ _ _ _ _) one_id0 ?_)
        | fail)
       refine bodyPost_ret (results_idt Tryz.results90 _ _ w.heap.size _ (0, 0) _ rfl rfl (setRow_heap _ w.heap.size id0 _ _ (0, 0) N9.out) rfl) rfl ⟨by rw [HV.out]; rfl, below_setRow D9.out (Nat.le_refl _) _⟩
      | true =>
       go_wp2_with fail
       refine (cQ _ T9.out).mono ?_; rintro e w10 ⟨rfl, b10⟩; have N10 := hyd ((b10.block _ (lt_heap N9.out)).trans N9.out); have hh10 := (b10.block _ (lt_heap H9.out)).trans H9.out; have D10 := hyd (D9.out.trans (b10.mono D9.out.size)); obtain ⟨c100, c101, c102, c103⟩ := cells4 hh10
       have one : (#[Value.string ⟨#[]⟩, .string ⟨em.toArray⟩, .int .i64 v, .int .i64 z] : Array Value).all (·.oneCell') = true := by simp [Value.oneCell']
       clear b10 hh10 N9 D9 T9 H9 c90 c91 c92 c93 cQ
       by_cases he : printI Lib.itoa ⟨[], em, v, z⟩ = l
       ·have HV := hyd (show R = .tuple #[.agg #[.string ⟨#[]⟩, .string ⟨em.toArray⟩, .int .i64 v, .int .i64 z], .int .i64 0] by rw [RG.out, if_pos ⟨hr, he⟩]; unfold idtA; simp only; rw [IV.out])
        have feq : (⟨(printI Lib.itoa ⟨[], em, v, z⟩).toArray⟩ : ByteArray) = s := by rw [he]; exact HS.out.symm
        rw [feq]; clear hr he RG feq
        go_wp2_with (first
         | (with_reducible refine wpList_store_row rfl 70 (.tmp 2) (.tmp 134) rfl w.heap.size #[.string ⟨#[]⟩, .string ⟨em.toArray⟩, .int .i64 v, .int .i64 z] rfl rfl 70 id0 N10.out (infoId4 _ _ _ _) (sizeId4 _ _ _ _ _ _ _ _) one ?_)
         | fail)
        refine bodyPost_ret (results_idt Tryz.results90 _ _ w.heap.size _ (0, 0) _ rfl rfl (setRow_heap _ w.heap.size id0 _ _ (0, 0) N10.out) rfl) rfl ⟨by rw [HV.out]; rfl, below_setRow D10.out (Nat.le_refl _) _⟩
       ·have HV := hyd (show R = .tuple #[.agg id0, .int .i64 4] by rw [RG.out, if_neg (fun h => he h.2)]; rfl)
        have feq : (printI Lib.itoa ⟨[], em, v, z⟩ == l) = false := by rw [beq_eq_false_iff_ne]; exact he
        have hs := HS.out; clear hr he RG; generalize printI Lib.itoa ⟨[], em, v, z⟩ = pt at feq; rw [hs]
        go_wp2_with (first
         | (with_reducible refine wpList_store_row rfl 70 (.tmp 2) (.tmp 133) rfl w.heap.size id0 rfl rfl 70 id0 N10.out (infoId4 _ _ _ _) (sizeId4 _ _ _ _ _ _ _ _) one_id0 ?_)
         | fail)
        refine bodyPost_ret (results_idt Tryz.results90 _ _ w.heap.size _ (0, 0) _ rfl rfl (setRow_heap _ w.heap.size id0 _ _ (0, 0) N10.out) rfl) rfl ⟨by rw [HV.out]; rfl, below_setRow D10.out (Nat.le_refl _) _⟩
   ·have hx := GET.out j (by omega) (by omega)
    have j1 : (j : Int) < (s.size : Int) := by omega
    have j2 : (j : Int) < (l.length : Int) := by omega
    by_cases c4 : l.getD j 0 = 32
    ·by_cases c5 : j = 0
     ·subst c5
      have HV := hyd (show R = .tuple #[.agg id0, .int .i64 4] from BA.out (badAiff.out.2 (.inr (.inr (.inr (.inr rfl))))))
      have hx2 : (l.getD 0 0).toNat = 32 := by rw [c4]; rfl
      generalize l.getD 0 0 = y at hx hx2 c4
      have fy : (((y.toNat : Nat) : Int) != 32) = false := by rw [hx2]; rfl
      clear c4 hx2
      go_wp2_with (first
       | (with_reducible refine wpList_store_row rfl 70 (.tmp 2) (.tmp 59) rfl w.heap.size id0 rfl rfl 70 id0 N0.out (infoId4 _ _ _ _) (sizeId4 _ _ _ _ _ _ _ _) one_id0 ?_)
       | fail)
      refine bodyPost_ret (results_idt Tryz.results90 _ _ w.heap.size _ (0, 0) _ rfl rfl (setRow_heap _ w.heap.size id0 _ _ (0, 0) N0.out) rfl) rfl ⟨by rw [HV.out]; rfl, below_setRow D0.out (Nat.le_refl _) _⟩
     ·have NA := hyd (show ¬ badA l by
       rw [badAiff.out]; rintro (h | h | h | h | h)
       ·omega
       ·omega
       ·omega
       ·exact h.2 c4
       ·omega)
      have hx2 : (l.getD j 0).toNat = 32 := by rw [c4]; rfl
      generalize l.getD j 0 = y at hx hx2 c4
      have fy : (((y.toNat : Nat) : Int) != 32) = false := by rw [hx2]; rfl
      have fj : (((j : Nat) : Int) + 1 == 1) = false := by rw [beq_eq_false_iff_ne]; omega
      clear c4 hx2; have NEQ := NE.out (by omega)
      have fj2 : (((j : Nat) : Int) + 1 > 1) = True := by simp; omega
      have oj0 : ¬ (((j : Nat) : Int) + 1 < 0) := by omega
      have HA := hyd (heap_alloc2_new w (.cells id0 70) (.cells id0 70)); have HN := hyd (heap_alloc2_old w (.cells id0 70) (.cells id0 70)); have HD := hyd ((D0.out).alloc D0.out.size (.cells id0 70))
      have e1 : s.extract (j + 1 + 1) n = ⟨((l.take n).drop (j + 1 + 1)).toArray⟩ := by rw [XM.out, List.drop_take]
      have hRl : (l.drop (n + 1)).length = l.length - (n + 1) := List.length_drop; have hRs : s.extract (n + 1) l.length = ⟨(l.drop (n + 1)).toArray⟩ := XF.out (n + 1)
      have eml : ((l.take n).drop (j + 1 + 1)).length ≤ 1000000 := by rw [List.length_drop, List.length_take]; omega
      have E1 := hyd e1; have CA := hyd (show ∀ v z, candI l v z = ⟨(l.take j), (l.take n).drop (j + 1 + 1), v, z⟩ from fun v z => by rw [CAND.out]; rw [if_pos (by omega)]; rfl); have RL := hyd (show restI l = l.drop (n + 1) from REST.out); clear e1 BA CAND REST badAiff GET; generalize (l.take n).drop (j + 1 + 1) = em at E1 CA eml; generalize l.drop (n + 1) = RS at hRl hRs RL; have hrz : (⟨RS.toArray⟩ : ByteArray).size = RS.length := size_toArray RS
      have hrget0 : ∀ j, j < RS.length → ∀ h2 : j < (⟨RS.toArray⟩ : ByteArray).size, (⟨RS.toArray⟩ : ByteArray)[j]'h2 = RS.getD j 0 := fun j h h2 => getD_mk RS j h h2
      have RXM := hyd (fun a b => Lib.extract_mk RS a b); obtain ⟨rs, hrs⟩ : ∃ rs : ByteArray, rs = ⟨RS.toArray⟩ := ⟨_, rfl⟩
      have hrget : ∀ j, j < RS.length → ∀ h2 : j < rs.size, rs[j]'h2 = RS.getD j 0 := by subst hrs; exact hrget0
      rw [← hrs] at hRs hrz RXM; have RGET := hyd hrget; clear hrget hrget0 hrs
      have n1 : (n : Int) + 1 ≤ (s.size : Int) := by omega
      have n2 : (n : Int) + 1 ≤ (l.length : Int) := by omega
      have o1 : ((j : Int) + 1 : Int) + 1 ≤ (n : Int) := by omega
      go_wp2_with (first
       | (with_reducible refine wpList_store_idt rfl (.tmp 7) (.tmp 65) rfl (w.heap.size + 1) _ _ _ _ _ _ _ _ rfl rfl HA.out (by simp [Value.oneCell']) ?_)
       | fail)
      intro w2 h2 d2 k2 z2; rw [E1.out] at h2; have hd2 := d2 w.heap.size w (by omega) HD.out; have hn2 := (k2 w.heap.size (by omega)).trans HN.out; clear d2 k2 z2 HA HN HD; have c20 : w2.cell? ⟨w.heap.size + 1, 0, none⟩ = some (.string ⟨#[]⟩) := (cells4 h2).1; have f20 : w2.frozen? ⟨w.heap.size + 1, 0, none⟩ = false := Lib.frozen_of_heap h2 0; have H3 := hyd (setCell4_0 (v := .string (s.extract 0 j)) h2); have N3 := hyd ((setCell_far (p := ⟨w.heap.size + 1, 0, none⟩) (.string (s.extract 0 j)) (show w.heap.size ≠ w.heap.size + 1 by omega)).trans hn2); have D3 := hyd (hd2.setCell (p := ⟨w.heap.size + 1, 0, none⟩) (show w.heap.size ≤ w.heap.size + 1 by omega) (.string (s.extract 0 j))); have T3 := hyd (TAB.out.keep D3.out); clear h2 hn2 hd2
      by_cases r8 : RS.length < 8
      ·have HV := hyd (show R = .tuple #[.agg id0, .int .i64 4] from BB.out (by rw [RL.out]; exact .inl r8))
       have g8 : ((RS.length : Nat) : Int) < 8 := by omega
       go_wp2_with (first
        | (with_reducible refine wpList_store_row rfl 70 (.tmp 2) (.tmp 93) rfl w.heap.size id0 rfl rfl 70 id0 N3.out (infoId4 _ _ _ _) (sizeId4 _ _ _ _ _ _ _ _) one_id0 ?_)
        | fail)
       refine bodyPost_ret (results_idt Tryz.results90 _ _ w.heap.size _ (0, 0) _ rfl rfl (setRow_heap _ w.heap.size id0 _ _ (0, 0) N3.out) rfl) rfl ⟨by rw [HV.out]; rfl, below_setRow D3.out (Nat.le_refl _) _⟩
      obtain ⟨q, hq⟩ : ∃ q, RS.length = q + 6 := ⟨RS.length - 6, by omega⟩
      have q2 : 2 ≤ q := by omega
      have qb : q ≤ 1000000 := by omega
      have g8 : ¬ (((RS.length : Nat) : Int) < 8) := by omega
      have BB0 := hyd (fun h : RS.getD 0 0 ≠ 32 => (BB.out (by rw [RL.out]; exact .inr (.inl h)) : R = .tuple #[.agg id0, .int .i64 4])); have BBq := hyd (fun h : RS.getD q 0 ≠ 32 => (BB.out (by rw [RL.out]; refine .inr (.inr ?_); rw [show RS.length - 6 = q by omega]; exact h) : R = .tuple #[.agg id0, .int .i64 4])); have GDB := hyd (fun h0 : RS.getD 0 0 = 32 => fun hq' : RS.getD q 0 = 32 => (by rw [RL.out]; rintro (h | h | h); exact r8 h; exact h h0; exact h (by rw [show RS.length - 6 = q by omega]; exact hq') : ¬ badB (restI l))); have TA := hyd (show ((restI l).take ((restI l).length - 6)).drop 1 = (RS.take q).drop 1 by rw [RL.out, show RS.length - 6 = q by omega]); have ZB := hyd (show (restI l).drop ((restI l).length - 5) = RS.drop (q + 1) by rw [RL.out, show RS.length - 5 = q + 1 by omega]); rw [hq] at hrz g8; have y0 := RGET.out 0 (by omega) (by rw [hrz]; exact Nat.succ_pos _); have yq := RGET.out q (by omega) (by rw [hrz]; exact Nat.lt_add_of_pos_right (by decide))
      have et : rs.extract 1 q = ⟨((RS.take q).drop 1).toArray⟩ := by rw [RXM.out, List.drop_take]
      have ez : rs.extract (q + 1) (q + 6) = ⟨(RS.drop (q + 1)).toArray⟩ := by rw [RXM.out, show q + 6 - (q + 1) = 5 by omega, List.take_of_length_le (by rw [List.length_drop, hq]; omega)]
      have tl : ((RS.take q).drop 1).length ≤ 1000000 := by rw [List.length_drop, List.length_take]; omega
      have zl : (RS.drop (q + 1)).length ≤ 1000000 := by rw [List.length_drop]; omega
      have rsq : (q : Int) < (rs.size : Int) := by omega
      have rs0 : (0 : Int) < (rs.size : Int) := by omega
      clear BB RXM RGET; generalize ha0 : RS.getD 0 0 = A0 at y0 BB0 GDB; generalize haq : RS.getD q 0 = AQ at yq BBq GDB; generalize (RS.take q).drop 1 = ta at TA et tl; generalize RS.drop (q + 1) = zb at ZB ez zl; clear ha0 haq hq RL
      by_cases a32 : A0 = 32
      case neg =>
       have HV := hyd (BB0.out a32)
       have f0 : (((A0.toNat : Nat) : Int) != 32) = true := by
        rw [bne_iff_ne]; intro e; exact a32 (UInt8.toNat_inj.1 (by show A0.toNat = 32; omega))
       clear a32
       go_wp2_with (first
        | (with_reducible refine wpList_store_row rfl 70 (.tmp 2) (.tmp 93) rfl w.heap.size id0 rfl rfl 70 id0 N3.out (infoId4 _ _ _ _) (sizeId4 _ _ _ _ _ _ _ _) one_id0 ?_)
        | fail)
       refine bodyPost_ret (results_idt Tryz.results90 _ _ w.heap.size _ (0, 0) _ rfl rfl (setRow_heap _ w.heap.size id0 _ _ (0, 0) N3.out) rfl) rfl ⟨by rw [HV.out]; rfl, below_setRow D3.out (Nat.le_refl _) _⟩
      have f0 : (((A0.toNat : Nat) : Int) != 32) = false := by rw [a32]; rfl
      by_cases q32 : AQ = 32
      case neg =>
       have HV := hyd (BBq.out q32)
       have fq : (((AQ.toNat : Nat) : Int) != 32) = true := by
        rw [bne_iff_ne]; intro e; exact q32 (UInt8.toNat_inj.1 (by show AQ.toNat = 32; omega))
       clear a32 q32
       go_wp2_with (first
        | (with_reducible refine wpList_store_row rfl 70 (.tmp 2) (.tmp 93) rfl w.heap.size id0 rfl rfl 70 id0 N3.out (infoId4 _ _ _ _) (sizeId4 _ _ _ _ _ _ _ _) one_id0 ?_)
        | fail)
       refine bodyPost_ret (results_idt Tryz.results90 _ _ w.heap.size _ (0, 0) _ rfl rfl (setRow_heap _ w.heap.size id0 _ _ (0, 0) N3.out) rfl) rfl ⟨by rw [HV.out]; rfl, below_setRow D3.out (Nat.le_refl _) _⟩
      have fq : (((AQ.toNat : Nat) : Int) != 32) = false := by rw [q32]; rfl
      have GG := hyd (GD.out NA (GDB.out a32 q32))
      have cT := fun w => rTake_all ta tl w
      have cZ := fun w => rZone_is zb zl w
      clear a32 q32 GDB BB0 BBq GD NA
      go_wp2_with fail
      refine (cT _).mono ?_; rintro e w4 ⟨rfl, b4⟩; have H4 := hyd ((b4.block _ (lt_heap H3.out)).trans H3.out); have N4 := hyd ((b4.block _ (lt_heap N3.out)).trans N3.out); have D4 := hyd (D3.out.trans (b4.mono D3.out.size)); have T4 := hyd (T3.out.keep b4); clear b4 H3 N3 D3 T3 cT; obtain ⟨za, zf, hzA⟩ := zoneA_shape zb; rw [hzA] at cZ
      go_wp2_with fail
      refine (cZ _).mono ?_; rintro e w5 ⟨rfl, b5⟩; have hh5 := (b5.block _ (lt_heap H4.out)).trans H4.out; have N5 := hyd ((b5.block _ (lt_heap N4.out)).trans N4.out); have D5 := hyd (D4.out.trans (b5.mono D4.out.size)); have T5 := hyd (T4.out.keep b5); clear b5 H4 N4 D4 T4 cZ c20 f20; have c52 := (cells4 hh5).2.2.1; have f52 : w5.frozen? ⟨w.heap.size + 1, 2, none⟩ = false := Lib.frozen_of_heap hh5 2
      have c63 := fun v : Int => (cells4 (setCell4_2 (v := .int .i64 v) hh5)).2.2.2
      have f63 := fun v : Int => Lib.frozen_of_heap (setCell4_2 (v := .int .i64 v) hh5) 3
      have H7 := hyd (fun v z : Int => setCell4_3 (v := .int .i64 z) (setCell4_2 (v := .int .i64 v) hh5)); have D7 := hyd (fun v z : Int => (D5.out.setCell (p := ⟨w.heap.size + 1, 2, none⟩) (show w.heap.size ≤ w.heap.size + 1 by omega) (.int .i64 v)).setCell (p := ⟨w.heap.size + 1, 3, none⟩) (show w.heap.size ≤ w.heap.size + 1 by omega) (.int .i64 z)); have N7 := hyd (fun v z : Int => ((setCell_far (w := w5.setCell ⟨w.heap.size + 1, 2, none⟩ (.int .i64 v)) (p := ⟨w.heap.size + 1, 3, none⟩) (.int .i64 z) (show w.heap.size ≠ w.heap.size + 1 by omega)).trans (setCell_far (p := ⟨w.heap.size + 1, 2, none⟩) (.int .i64 v) (show w.heap.size ≠ w.heap.size + 1 by omega))).trans N5.out); have T7 := hyd (fun v z : Int => TAB.out.keep (D7.out v z)); have C7 := hyd (fun v z : Int => cells4 (H7.out v z)); clear N5 D5 T5 hh5 TAB
      cases ht : takeN ta with
      | none =>
       obtain ⟨u1, u2⟩ := tv_none ht; have HV := hyd (show R = .tuple #[.agg id0, .int .i64 4] by rw [GG.out, TA.out, ht]; rfl); generalize (tv ta).2 = p2 at u1 u2 ⊢; generalize (tv ta).1 = p1; have c63 := c63 p1; have f63 := f63 p1; have N8 := hyd (N7.out p1 za); have D8 := hyd (D7.out p1 za); clear ht H7 N7 D7 T7 C7
       go_wp2_with (first
        | (with_reducible refine wpList_store_row rfl 70 (.tmp 2) (.tmp 133) rfl w.heap.size id0 rfl rfl 70 id0 N8.out (infoId4 _ _ _ _) (sizeId4 _ _ _ _ _ _ _ _) one_id0 ?_)
        | fail)
       refine bodyPost_ret (results_idt Tryz.results90 _ _ w.heap.size _ (0, 0) _ rfl rfl (setRow_heap _ w.heap.size id0 _ _ (0, 0) N8.out) rfl) rfl ⟨by rw [HV.out]; rfl, below_setRow D8.out (Nat.le_refl _) _⟩
      | some v =>
       rw [tv_some ht]; have c63 := c63 v; have f63 := f63 v
       cases hz : zoneR zb with
       | none =>
        have HV := hyd (show R = .tuple #[.agg id0, .int .i64 4] by rw [GG.out, TA.out, ht, ZB.out]; simp only [hz]; rfl); unfold zoneA at hzA; rw [hz] at hzA
        simp at hzA
        obtain ⟨rfl, rfl⟩ := hzA; have N8 := hyd (N7.out v 0); have D8 := hyd (D7.out v 0); clear ht hz H7 N7 D7 T7 C7
        go_wp2_with (first
         | (with_reducible refine wpList_store_row rfl 70 (.tmp 2) (.tmp 133) rfl w.heap.size id0 rfl rfl 70 id0 N8.out (infoId4 _ _ _ _) (sizeId4 _ _ _ _ _ _ _ _) one_id0 ?_)
         | fail)
        refine bodyPost_ret (results_idt Tryz.results90 _ _ w.heap.size _ (0, 0) _ rfl rfl (setRow_heap _ w.heap.size id0 _ _ (0, 0) N8.out) rfl) rfl ⟨by rw [HV.out]; rfl, below_setRow D8.out (Nat.le_refl _) _⟩
       | some z =>
        unfold zoneA at hzA; rw [hz] at hzA
        simp at hzA
        obtain ⟨rfl, rfl⟩ := hzA; have RG := hyd (show R = idtA (if rightI ⟨(l.take j), em, v, z⟩ = true ∧ printI Lib.itoa ⟨(l.take j), em, v, z⟩ = l then some ⟨(l.take j), em, v, z⟩ else none) by rw [GG.out, TA.out, ht, ZB.out]; simp only [hz, CA.out])
        have cR := fun w t => rRight_is ⟨(l.take j), em, v, z⟩ (by simp only [List.length_take]; omega) eml w t
        have cQ := fun w t => rPrint_is ⟨(l.take j), em, v, z⟩ (by simp only [List.length_take]; omega) eml w t
        unfold idtV at cR cQ; simp only at cR cQ; rw [← XU.out j] at cR cQ; have N8 := hyd (N7.out v z); have D8 := hyd (D7.out v z); have T8 := hyd (T7.out v z); have H8 := hyd (H7.out v z); obtain ⟨c80, c81, c82, c83⟩ := C7.out v z; have IV := hyd (show idtV ⟨(l.take j), em, v, z⟩ = .agg #[.string (s.extract 0 j), .string ⟨em.toArray⟩, .int .i64 v, .int .i64 z] by unfold idtV; simp only; rw [XU.out j]); clear ht hz H7 N7 D7 T7 C7 GG TA ZB
        go_wp2_with fail
        refine (cR _ T8.out).mono ?_; rintro e w9 ⟨rfl, b9⟩; have N9 := hyd ((b9.block _ (lt_heap N8.out)).trans N8.out); have hh9 := (b9.block _ (lt_heap H8.out)).trans H8.out; have D9 := hyd (D8.out.trans (b9.mono D8.out.size)); have T9 := hyd (T8.out.keep b9); obtain ⟨c90, c91, c92, c93⟩ := cells4 hh9; have H9 := hyd hh9; clear b9 hh9 N8 D8 T8 H8 c80 c81 c82 c83 cR c52 f52 c63 f63
        cases hr : rightI ⟨(l.take j), em, v, z⟩ with
        | false =>
         have HV := hyd (show R = .tuple #[.agg id0, .int .i64 4] by rw [RG.out, if_neg (fun h => by rw [hr] at h; exact absurd h.1 (by decide))]; rfl); clear hr
         go_wp2_with (first
          | (with_reducible refine wpList_store_row rfl 70 (.tmp 2) (.tmp 133) rfl w.heap.size id0 rfl rfl 70 id0 N9.out (infoId4 _ _ _ _) (sizeId4 _ _ _ _ _ _ _ _) one_id0 ?_)
          | fail)
         refine bodyPost_ret (results_idt Tryz.results90 _ _ w.heap.size _ (0, 0) _ rfl rfl (setRow_heap _ w.heap.size id0 _ _ (0, 0) N9.out) rfl) rfl ⟨by rw [HV.out]; rfl, below_setRow D9.out (Nat.le_refl _) _⟩
        | true =>
         go_wp2_with fail
         refine (cQ _ T9.out).mono ?_; rintro e w10 ⟨rfl, b10⟩; have N10 := hyd ((b10.block _ (lt_heap N9.out)).trans N9.out); have hh10 := (b10.block _ (lt_heap H9.out)).trans H9.out; have D10 := hyd (D9.out.trans (b10.mono D9.out.size)); obtain ⟨c100, c101, c102, c103⟩ := cells4 hh10
         have one : (#[Value.string (s.extract 0 j), .string ⟨em.toArray⟩, .int .i64 v, .int .i64 z] : Array Value).all (·.oneCell') = true := by simp [Value.oneCell']
         clear b10 hh10 N9 D9 T9 H9 c90 c91 c92 c93 cQ
         by_cases he : printI Lib.itoa ⟨(l.take j), em, v, z⟩ = l
         ·have HV := hyd (show R = .tuple #[.agg #[.string (s.extract 0 j), .string ⟨em.toArray⟩, .int .i64 v, .int .i64 z], .int .i64 0] by rw [RG.out, if_pos ⟨hr, he⟩]; unfold idtA; simp only; rw [IV.out])
          have feq : (⟨(printI Lib.itoa ⟨(l.take j), em, v, z⟩).toArray⟩ : ByteArray) = s := by rw [he]; exact HS.out.symm
          rw [feq]; clear hr he RG feq
          go_wp2_with (first
           | (with_reducible refine wpList_store_row rfl 70 (.tmp 2) (.tmp 134) rfl w.heap.size #[.string (s.extract 0 j), .string ⟨em.toArray⟩, .int .i64 v, .int .i64 z] rfl rfl 70 id0 N10.out (infoId4 _ _ _ _) (sizeId4 _ _ _ _ _ _ _ _) one ?_)
           | fail)
          refine bodyPost_ret (results_idt Tryz.results90 _ _ w.heap.size _ (0, 0) _ rfl rfl (setRow_heap _ w.heap.size id0 _ _ (0, 0) N10.out) rfl) rfl ⟨by rw [HV.out]; rfl, below_setRow D10.out (Nat.le_refl _) _⟩
         ·have HV := hyd (show R = .tuple #[.agg id0, .int .i64 4] by rw [RG.out, if_neg (fun h => he h.2)]; rfl)
          have feq : (printI Lib.itoa ⟨(l.take j), em, v, z⟩ == l) = false := by rw [beq_eq_false_iff_ne]; exact he
          have hs := HS.out; clear hr he RG; generalize printI Lib.itoa ⟨(l.take j), em, v, z⟩ = pt at feq; rw [hs]
          go_wp2_with (first
           | (with_reducible refine wpList_store_row rfl 70 (.tmp 2) (.tmp 133) rfl w.heap.size id0 rfl rfl 70 id0 N10.out (infoId4 _ _ _ _) (sizeId4 _ _ _ _ _ _ _ _) one_id0 ?_)
           | fail)
          refine bodyPost_ret (results_idt Tryz.results90 _ _ w.heap.size _ (0, 0) _ rfl rfl (setRow_heap _ w.heap.size id0 _ _ (0, 0) N10.out) rfl) rfl ⟨by rw [HV.out]; rfl, below_setRow D10.out (Nat.le_refl _) _⟩
    ·have HV := hyd (show R = .tuple #[.agg id0, .int .i64 4] from BA.out (badAiff.out.2 (.inr (.inr (.inr (.inl ⟨by omega, c4⟩))))))
     generalize l.getD j 0 = y at hx c4
     have fy : (((y.toNat : Nat) : Int) != 32) = true := by
      rw [bne_iff_ne]; intro e; exact c4 (UInt8.toNat_inj.1 (by show y.toNat = 32; omega))
     clear c4
     go_wp2_with (first
      | (with_reducible refine wpList_store_row rfl 70 (.tmp 2) (.tmp 59) rfl w.heap.size id0 rfl rfl 70 id0 N0.out (infoId4 _ _ _ _) (sizeId4 _ _ _ _ _ _ _ _) one_id0 ?_)
      | fail)
     refine bodyPost_ret (results_idt Tryz.results90 _ _ w.heap.size _ (0, 0) _ rfl rfl (setRow_heap _ w.heap.size id0 _ _ (0, 0) N0.out) rfl) rfl ⟨by rw [HV.out]; rfl, below_setRow D0.out (Nat.le_refl _) _⟩
theorem num_itoa : Num Lib.itoa takeN := ⟨fun v h0 h1 => (take_itoa v (by omega) (by omega)).1, fun v h0 h1 => by
 have h := (take_itoa v (by omega) (by omega)).2.1
 cases e : Lib.itoa v with
 | nil => exact absurd e h
 | cons _ _ => simp⟩
theorem itoa_no_blank : ∀ v, 0 ≤ v → v ≤ 1099511627775 → ∀ c ∈ Lib.itoa v, c ≠ 32 := by
 intro v h0 h1 c hc; unfold Lib.itoa at hc; rw [if_neg (by omega)] at hc; have := (decDigits_spec v.toNat).1 c hc; intro e; rw [e] at this; exact absurd this (by decide)
theorem parse_alike (s : List UInt8) : parseP Lib.itoa takeN s = parseR Lib.itoa takeN s := parse_same num_itoa itoa_no_blank s
theorem parse_nil : parseP Lib.itoa takeN [] = none := by rw [parse_alike]; exact parseR_badA (.inl (Nat.zero_le _))
theorem parse_some (s : List UInt8) (i : Idt) (h : parseP Lib.itoa takeN s = some i) : rightI i = true ∧ printI Lib.itoa i = s := by rw [parse_alike] at h; exact parse_only h
def dg (c : UInt8) : Int := dig16 (c.toNat : Int)
theorem dg_lt (c : UInt8) : dg c < 16 := dig16_lt _
def uh (l : List UInt8) (k j : Nat) : Int := if 2 * j + 1 < k then 16 * dg (l.getD (2 * j) 0) + dg (l.getD (2 * j + 1) 0) else if 2 * j < k then dg (l.getD (2 * j) 0) else 0
theorem uh_next_even (l : List UInt8) (k j : Nat) (h : k = 2 * j) : uh l (k + 1) j = dg (l.getD k 0) ∧ uh l k j = 0 := by
 subst h; unfold uh; constructor
 ·rw [if_neg (by omega), if_pos (by omega)]
 ·rw [if_neg (by omega), if_neg (by omega)]
theorem uh_next_odd (l : List UInt8) (k j : Nat) (h : k = 2 * j + 1) : uh l (k + 1) j = 16 * uh l k j + dg (l.getD k 0) ∧ uh l k j = dg (l.getD (2 * j) 0) := by
 subst h; unfold uh
 have e : (if 2 * j + 1 < 2 * j + 1 then 16 * dg (l.getD (2 * j) 0) + dg (l.getD (2 * j + 1) 0) else if 2 * j < 2 * j + 1 then dg (l.getD (2 * j) 0) else 0) = dg (l.getD (2 * j) 0) := by
  rw [if_neg (by omega), if_pos (by omega)]
 rw [e]; exact ⟨by rw [if_pos (by omega)], rfl⟩
theorem uh_other (l : List UInt8) (k j : Nat) (h : j ≠ k / 2) : uh l (k + 1) j = uh l k j := by
 unfold uh
 by_cases h1 : 2 * j + 1 < k
 ·rw [if_pos h1, if_pos (by omega)]
 ·rw [if_neg h1, if_neg (by omega)]
  by_cases h2 : 2 * j < k
  ·rw [if_pos h2, if_pos (by omega)]
  ·rw [if_neg h2, if_neg (by omega)]
theorem or16' : ∀ x d : Fin 16, bits BinOp.or IntKind.u8 ((x.1 : Int) * 16 % 256) (d.1 : Int) = 16 * (x.1 : Int) + (d.1 : Int) := by decide +kernel
theorem or16 (x d : Int) (h0 : 0 ≤ x) (h1 : x < 16) (h2 : 0 ≤ d) (h3 : d < 16) : bits BinOp.or IntKind.u8 (x * 16 % 256) d = 16 * x + d := by
 have h := or16' ⟨x.toNat, by omega⟩ ⟨d.toNat, by omega⟩
 simpa [Int.toNat_of_nonneg h0, Int.toNat_of_nonneg h2] using h
theorem set_at (ys : List Value) (i j : Nat) (u : Value) (h : j < ys.length) : (ys.set i u)[j]? = if i = j then some u else ys[j]? := by
 rw [List.getElem?_set]
 split
 ·rw [if_pos (by omega)]
 ·rfl
theorem uh_step (l : List UInt8) (pos n : Nat) (ys : List Value) (x d : Int) (hn : ys.length = n) (hp : pos / 2 < n) (hdig : ∀ i, i < pos → 0 ≤ dg (l.getD i 0))
  (hx : x = uh l pos (pos / 2)) (hd : d = dg (l.getD pos 0)) (hd0 : 0 ≤ d) (hys : ∀ j, j < n → ys[j]? = some (.int .u8 (uh l pos j))) :
  ∀ j, j < n → (ys.set (pos / 2) (.int .u8 (bits BinOp.or IntKind.u8 (x * 16 % 256) d)))[j]? = some (.int .u8 (uh l (pos + 1) j)) := by
 intro j hj
 have hd3 : d < 16 := by rw [hd]; exact dg_lt _
 have key : 0 ≤ x ∧ x < 16 ∧ uh l (pos + 1) (pos / 2) = 16 * x + d := by
  rcases Nat.mod_two_eq_zero_or_one pos with h | h
  ·obtain ⟨a, b⟩ := uh_next_even l pos (pos / 2) (by omega)
   rw [b] at hx; rw [a, hx, hd]; omega
  ·obtain ⟨a, b⟩ := uh_next_odd l pos (pos / 2) (by omega)
   have c := hdig (2 * (pos / 2)) (by omega); have e := dg_lt (l.getD (2 * (pos / 2)) 0); rw [b] at hx a; rw [a, hd, ← hx]
   omega
 rw [set_at _ _ _ _ (by omega)]
 split
 ·rename_i e; subst e
  rw [or16 x d key.1 key.2.1 hd0 hd3, key.2.2]
 ·rename_i e
  rw [uh_other l pos j (fun h => e h.symm)]; exact hys j hj
def UPost (s : ByteArray) (w : World) (e : Ending) (w' : World) : Prop :=
 Below w.heap.size w w' ∧ ((e = .returned (.tuple #[.slice none 0 0, .int .i64 4]) ∧ ∃ i, i < s.size ∧ dg (s.data.toList.getD i 0) < 0) ∨
  ((∀ i, i < s.size → 0 ≤ dg (s.data.toList.getD i 0)) ∧ ∃ g ys, e = .returned (.tuple #[.slice (some ⟨g, 0, none⟩) (s.size / 2) (s.size / 2), .int .i64 0]) ∧ w.heap.size ≤ g ∧
   w'.ownsRow w.heap.size 5 1 (.slice (some ⟨g, 0, none⟩) (s.size / 2) (s.size / 2)) (s.size / 2) ys ∧ ∀ j, j < s.size / 2 → ys[j]? = some (.int .u8 (uh s.data.toList s.size j))))
theorem own_iter {w : World} {base : Nat} {e : TypeId} {g n cap : Nat} {xs : List Value} (h : w.ownsRow base e 1 (.slice (some ⟨g, 0, none⟩) n cap) n xs) {k : Nat} {s : ByteArray} {pos : Nat} (hk : w.heap[k]? = some (.stringIter s pos)) (p : Nat) :
  (w.iterAt k s p).ownsRow base e 1 (.slice (some ⟨g, 0, none⟩) n cap) n xs := by
 refine ⟨h.1, ?_⟩
 rcases h.2 with ⟨h', _⟩ | ⟨g', cap', cur, h', hb', hg, r⟩
 ·simp at h'
 ·refine .inr ⟨g', cap', cur, h', hb', ?_, r⟩
  rw [Lib.iterAt_other _ _ _ _ _ (fun e => by rw [e, hk] at hg; cases hg)]; exact hg
theorem Unhex_core (s : ByteArray) (w : World) (hs : s.size ≤ 1099511627776) (he : s.size % 2 = 0) :
  Calls Tryz.prog 161 #[.string s] w fun e w' => UPost s w e w' := by
 obtain ⟨i0, hi, hz0, hz1, hz2⟩ := info_parts info5
 have hev : ((s.size : Int) % 2 != 0) = false := by simp; omega
 have hmod : (s.size : Int).tmod 2 = (s.size : Int) % 2 := IntWalk.rem_in _ _ (by omega)
 go_enter Tryz.func161, Tryz.ntmps161
 go_wp2_with (at_make; refine wpList_make_full _ rfl _ _ 32 rfl w.heap.size 5 i0 (.int .u8 0) 1 Tryz.underlying32 hi hz0 hz1 _ _ _ _ (s.size / 2) rfl rfl (by omega) (by omega) ?b2 ?b3 (Nat.le_refl _) ?_)
 case b2 => rw [hz2]; omega
 case b3 => unfold maxLen; omega
 intro w0 hown0 hgrow0; have hb0 : Below w.heap.size w w0 := (Below.refl _ _).grown hgrow0 (Nat.le_refl _) (fun k h => by cases h); have hB : w.heap.size < w0.heap.size := own_lt hown0
 have hz : ∀ j, j < s.size / 2 → (madeCells #[Value.int .u8 0] (s.size / 2)).toList[j]? = some (.int .u8 (uh s.data.toList 0 j)) := fun j hj => by
  rw [toList_madeCells_one, List.getElem?_replicate, if_pos (by omega)]; unfold uh; rw [if_neg (by omega), if_neg (by omega)]
 have HZ := hyd hz; clear hz; have HO := hyd hown0; clear hown0 hgrow0
 go_wp2_with fail
 go_loopw [] (fun wr => ∃ (pos : Nat) (ys : List Value), pos ≤ s.size ∧ (∀ i, i < pos → 0 ≤ dg (s.data.toList.getD i 0)) ∧ wr.heap[w0.heap.size]? = some (.stringIter s pos) ∧
   wr.ownsRow w.heap.size 5 1 (.slice (some ⟨w.heap.size, 0, none⟩) (s.size / 2) (s.size / 2)) (s.size / 2) ys ∧ (∀ j, j < s.size / 2 → ys[j]? = some (.int .u8 (uh s.data.toList pos j))) ∧ Below w.heap.size w wr) (fun wr => s.size - wr.iterPos w0.heap.size)
 case atStart =>
  exact ⟨0, _, Nat.zero_le _, fun i hi => absurd hi (Nat.not_lt_zero _), World.iter_heap w0 s 0, own_keep HO.out ((Below.refl _ w0).alloc (Nat.le_refl _) _), HZ.out, hb0.alloc hb0.size _⟩
 case round =>
  clear hb0 HZ HO; obtain ⟨pos, ys, hpos, hdig, hit, hown, hys, hbr⟩ := hrel; have HDIG := hyd hdig; clear hdig; have HYS := hyd hys; clear hys; have hsz := hbr.size
  by_cases hp : pos < s.size
  ·have hgd : s.data.toList.getD pos 0 = s[pos] := by
    have : pos < s.data.toList.length := by simpa using hp
    rw [List.getD_eq_getElem?_getD, List.getElem?_eq_getElem this]; rfl
   have HGD := hyd hgd; clear hgd
   by_cases ha : (s[pos]).toNat < 128
   ·have hnx : ∀ ty, (Instr.next (.pointer (some ⟨w0.heap.size, 0, none⟩)) true ty).run Tryz.prog wr = _ := fun ty => Lib.run_next_ascii_at wr w0.heap.size s pos ty hit hp ha
    obtain ⟨r, hr⟩ : ∃ r : Int, r = ((s[pos]).toNat : Int) := ⟨_, rfl⟩; rw [← hr] at hnx; have HR := hyd hr; clear hr; have hit2 := Lib.iterAt_heap wr w0.heap.size s pos (pos + 1) hit; have hown2 := own_iter hown hit (pos + 1); have hbr2 := Lib.below_iterAt hbr (k := w0.heap.size) (Nat.le_of_lt hB) s (pos + 1); generalize wr.iterAt w0.heap.size s (pos + 1) = w2 at hnx hit2 hown2 hbr2
    by_cases hd : 0 ≤ dig16 r
    ·go_wp2_with fail
     refine (digit16_yes r hd _).mono ?_; rintro e w3 ⟨rfl, rfl⟩; obtain ⟨x, hx⟩ : ∃ x : Int, x = uh s.data.toList pos (pos / 2) := ⟨_, rfl⟩
     have hcell : w2.cell? ⟨w.heap.size, pos / 2, none⟩ = some (.int .u8 x) := by
      rw [hx, hown2.cellAt (pos / 2) (by omega)]; exact HYS.out _ (by omega)
     have hfz := hown2.frozenAt (pos / 2); obtain ⟨d, hde⟩ : ∃ d : Int, d = dig16 r := ⟨_, rfl⟩; rw [← hde] at hd; simp only [← hde]
     have hd2 : d < 16 := by rw [hde]; exact dig16_lt r
     have HD := hyd hde; clear hde; have HX := hyd hx; clear hx; obtain ⟨hst, hgr⟩ := hown2.stored (pos / 2) (.int .u8 (bits BinOp.or IntKind.u8 (x * 16 % 256) d)); have HS := hyd hst; clear hst; have HG := hyd hgr; clear hgr
     have hit3 : (w2.setCell ⟨w.heap.size, pos / 2, none⟩ (.int .u8 (bits BinOp.or IntKind.u8 (x * 16 % 256) d))).heap[w0.heap.size]? = some (.stringIter s (pos + 1)) :=
      (heap_setCell_other w2 ⟨w.heap.size, pos / 2, none⟩ w0.heap.size _ (Nat.ne_of_gt hB)).trans hit2
     have hlen := own_len hown; have HL := hyd hlen; clear hlen; have HI3 := hyd hit3; clear hit3; go_wp2
     go_roundw
     case rel =>
      refine ⟨pos + 1, _, by omega, ?_, HI3.out, HS.out, uh_step s.data.toList pos _ ys x d HL.out (by omega) HDIG.out HX.out ?_ hd HYS.out, hbr2.grown HG.out hbr2.size (fun k hk => by cases hk; exact Nat.le_refl _)⟩
      ·intro i hi
       by_cases h : i < pos
       ·exact HDIG.out i h
       ·obtain rfl : i = pos := by omega
        rw [HGD.out]; unfold dg; rw [← HR.out, ← HD.out]; exact hd
      ·rw [HGD.out]; unfold dg; rw [← HR.out]; exact HD.out
     case measure =>
      rw [iterPos_of HI3.out, iterPos_of hit]
      omega
    ·go_wp2_with fail
     refine (digit16_no r (by omega) _).mono ?_; rintro e w3 ⟨rfl, rfl⟩; go_wp2
     go_ret2
     refine ⟨hbr2, .inl ⟨rfl, pos, hp, ?_⟩⟩; rw [HGD.out]; unfold dg; rw [← HR.out]; omega
   ·have hnx : ∀ ty, (Instr.next (.pointer (some ⟨w0.heap.size, 0, none⟩)) true ty).run Tryz.prog wr = _ := fun ty => Lib.run_next_any_at wr w0.heap.size s pos ty hit hp
    have hh := (decode_high s pos hp (by omega)).1; have hbr2 := Lib.below_iterAt hbr (k := w0.heap.size) (Nat.le_of_lt hB) s (pos + (Utf8.decode s pos).2); generalize (Utf8.decode s pos).1 = r at hnx hh; generalize wr.iterAt w0.heap.size s (pos + (Utf8.decode s pos).2) = w2 at hnx hbr2
    go_wp2_with fail
    refine (digit_high r 16 (by omega) (by omega) (by omega) _).mono ?_; rintro e w3 ⟨rfl, rfl⟩; go_wp2
    go_ret2
    refine ⟨hbr2, .inl ⟨rfl, pos, hp, ?_⟩⟩; rw [HGD.out]; unfold dg dig16; rw [if_neg (by omega), if_neg (by omega)]; omega
  ·have hnx : ∀ ty, (Instr.next (.pointer (some ⟨w0.heap.size, 0, none⟩)) true ty).run Tryz.prog wr = _ := fun ty => Lib.run_next_end_at wr w0.heap.size s pos ty hit hp
   obtain rfl : pos = s.size := by omega
   go_wp2
   go_ret2
   exact ⟨hbr, .inr ⟨HDIG.out, w.heap.size, ys, rfl, Nat.le_refl _, hown, HYS.out⟩⟩
def unhexL : List UInt8 → Option (List UInt8)
 | [] => some []
 | [_] => none
 | a :: b :: r => if 0 ≤ dg a ∧ 0 ≤ dg b then (unhexL r).map (fun t => UInt8.ofNat (16 * dg a + dg b).toNat :: t) else none
theorem unhex_spec : ∀ (n : Nat) (l t : List UInt8), l.length ≤ n → unhexL l = some t → l.length = 2 * t.length ∧ (∀ i, i < l.length → 0 ≤ dg (l.getD i 0)) ∧ ∀ j, j < t.length → ((t.getD j 0).toNat : Int) = 16 * dg (l.getD (2 * j) 0) + dg (l.getD (2 * j + 1) 0) := by
 intro n
 induction n using Nat.strongRecOn with
 | ind n ih =>
  intro l t hl h
  match l, hl, h with
  | [], _, h => simp [unhexL] at h; subst h; simp
  | [_], _, h => simp [unhexL] at h
  | a :: b :: r, hl, h =>
   simp only [unhexL] at h
   split at h
   ·rename_i hab
    cases hr : unhexL r with
    | none => simp [hr] at h
    | some t' =>
     simp [hr] at h
     subst h; obtain ⟨h1, h2, h3⟩ := ih r.length (by simp at hl; omega) r t' (Nat.le_refl _) hr; refine ⟨by simp; omega, ?_, ?_⟩
     ·intro i hi
      match i, hi with
      | 0, _ => exact hab.1
      | 1, _ => exact hab.2
      | i + 2, hi => exact h2 i (by simp at hi; omega)
     ·intro j hj
      match j, hj with
      | 0, _ =>
       have c := dg_lt a; have d := dg_lt b
       show ((UInt8.ofNat (16 * dg a + dg b).toNat).toNat : Int) = 16 * dg a + dg b
       rw [UInt8.toNat_ofNat']; omega
      | j + 1, hj =>
       have e := h3 j (by simp at hj; omega); rw [show 2 * (j + 1) = 2 * j + 2 by omega, show 2 * j + 2 + 1 = 2 * j + 1 + 2 by omega]; exact e
   ·cases h
theorem unhex_none : ∀ (n : Nat) (l : List UInt8), l.length ≤ n → unhexL l = none → l.length % 2 = 1 ∨ ∃ i, i < l.length ∧ dg (l.getD i 0) < 0 := by
 intro n
 induction n using Nat.strongRecOn with
 | ind n ih =>
  intro l hl h
  match l, hl, h with
  | [], _, h => simp [unhexL] at h
  | [_], _, h => left; rfl
  | a :: b :: r, hl, h =>
   simp only [unhexL] at h
   by_cases ha : dg a < 0
   ·exact .inr ⟨0, by simp, ha⟩
   by_cases hb : dg b < 0
   ·exact .inr ⟨1, by simp, hb⟩
   rw [if_pos ⟨by omega, by omega⟩] at h
   have hr : unhexL r = none := by simpa using h
   rcases ih r.length (by simp at hl; omega) r (Nat.le_refl _) hr with h1 | ⟨i, h1, h2⟩
   ·left; simp; omega
   ·right; exact ⟨i + 2, by simp; omega, h2⟩
theorem unhex_bad (l : List UInt8) (i : Nat) (hi : i < l.length) (h : dg (l.getD i 0) < 0) : unhexL l = none := by
 cases e : unhexL l with
 | none => rfl
 | some t => have := (unhex_spec l.length l t (Nat.le_refl _) e).2.1 i hi; omega
theorem Unhex_odd (s : ByteArray) (w : World) (hs : s.size ≤ 1099511627776) (he : s.size % 2 = 1) :
  Calls Tryz.prog 161 #[.string s] w fun e w' => e = .returned (.tuple #[.slice none 0 0, .int .i64 4]) ∧ w = w' := by
 have hev : ((s.size : Int) % 2 != 0) = true := by simp; omega
 go_enter Tryz.func161, Tryz.ntmps161
 go_wp2
 go_ret2
 exact ⟨rfl, rfl⟩
theorem Unhex_none (s : ByteArray) (w : World) (hs : s.size ≤ 1099511627776) (h : unhexL s.data.toList = none) :
  Calls Tryz.prog 161 #[.string s] w fun e w' => e = .returned (.tuple #[.slice none 0 0, .int .i64 4]) ∧ Below w.heap.size w w' := by
 have hl := size_list s
 by_cases ho : s.size % 2 = 1
 ·refine (Unhex_odd s w hs ho).mono ?_
  rintro e w' ⟨rfl, rfl⟩; exact ⟨rfl, Below.refl _ _⟩
 ·refine (Unhex_core s w hs (by omega)).mono ?_
  rintro e w' ⟨hb, ⟨he, _⟩ | ⟨hd, _⟩⟩
  ·exact ⟨he, hb⟩
  ·rcases unhex_none _ _ (Nat.le_refl _) h with h1 | ⟨i, hi, h1⟩
   ·omega
   ·have := hd i (by omega); omega
theorem Unhex_some (s : ByteArray) (t : List UInt8) (w : World) (hs : s.size ≤ 1099511627776) (h : unhexL s.data.toList = some t) :
  Calls Tryz.prog 161 #[.string s] w fun e w' => ∃ g c, e = .returned (.tuple #[.slice g t.length c, .int .i64 0]) ∧ BAt w' g t ∧ t.length ≤ c ∧ (g = none → t.length = 0 ∧ c = 0) ∧ Below w.heap.size w w' := by
 have hl := size_list s; obtain ⟨h1, h2, h3⟩ := unhex_spec _ _ _ (Nat.le_refl _) h
 have hn : s.size / 2 = t.length := by omega
 refine (Unhex_core s w hs (by omega)).mono ?_; rintro e w' ⟨hb, ⟨_, i, hi, hd⟩ | ⟨_, g, ys, he, hg, hown, hys⟩⟩
 ·have := h2 i (by omega); omega
 ·rw [hn] at he hown hys
  refine ⟨some ⟨g, 0, none⟩, t.length, he, fun hp => ⟨g, 0, rfl, own_lt hown, fun i hi => ?_⟩, Nat.le_refl _, (fun h => by cases h), hb⟩; rw [Nat.zero_add, hown.cellAt i (by omega), hys i hi]; have e := h3 i hi; rw [List.getD_eq_getElem?_getD, List.getElem?_eq_getElem hi] at e
  have e2 : uh s.data.toList s.size i = ((t[i]).toNat : Int) := by
   unfold uh; rw [if_pos (by omega)]; exact e.symm
  rw [e2]
theorem rdigit_dec (c : Int) (h0 : 48 ≤ c) (h1 : c ≤ 57) (w : World) :
  Calls Tryz.prog 144 #[.int .u8 c] w fun e w' => e = .returned (.int .i64 (c - 48)) ∧ w = w' := by
 go_enter Tryz.func144, Tryz.ntmps144
 go_wp2; go_ret; exact ⟨rfl, rfl⟩
theorem rdigit_hex (c : Int) (h0 : 97 ≤ c) (h1 : c ≤ 102) (w : World) :
  Calls Tryz.prog 144 #[.int .u8 c] w fun e w' => e = .returned (.int .i64 (c - 87)) ∧ w = w' := by
 go_enter Tryz.func144, Tryz.ntmps144
 go_wp2; go_ret; exact ⟨ret_int (by omega), rfl⟩
theorem rdigit_low (c : Int) (h1 : c < 48) (w : World) :
  Calls Tryz.prog 144 #[.int .u8 c] w fun e w' => e = .returned (.int .i64 (-1)) ∧ w = w' := by
 go_enter Tryz.func144, Tryz.ntmps144
 go_wp2; go_ret; exact ⟨rfl, rfl⟩
theorem rdigit_mid (c : Int) (h0 : 57 < c) (h1 : c < 97) (w : World) :
  Calls Tryz.prog 144 #[.int .u8 c] w fun e w' => e = .returned (.int .i64 (-1)) ∧ w = w' := by
 go_enter Tryz.func144, Tryz.ntmps144
 go_wp2; go_ret; exact ⟨rfl, rfl⟩
theorem rdigit_high (c : Int) (h0 : 102 < c) (w : World) :
  Calls Tryz.prog 144 #[.int .u8 c] w fun e w' => e = .returned (.int .i64 (-1)) ∧ w = w' := by
 go_enter Tryz.func144, Tryz.ntmps144
 go_wp2; go_ret; exact ⟨rfl, rfl⟩
theorem rdigit (c : Int) (w : World) :
  Calls Tryz.prog 144 #[.int .u8 c] w fun e w' => e = .returned (.int .i64 (dig16 c)) ∧ w = w' := by
 unfold dig16
 by_cases h1 : 48 ≤ c ∧ c ≤ 57
 ·rw [if_pos h1]; exact rdigit_dec c h1.1 h1.2 w
 ·rw [if_neg h1]
  by_cases h2 : 97 ≤ c ∧ c ≤ 102
  ·rw [if_pos h2]; exact rdigit_hex c h2.1 h2.2 w
  ·rw [if_neg h2]
   by_cases h3 : c < 48
   ·exact rdigit_low c h3 w
   ·by_cases h4 : 102 < c
    ·exact rdigit_high c h4 w
    ·exact rdigit_mid c (by omega) (by omega) w
theorem unhex_two (l : List UInt8) (i : Nat) (hi : i + 1 < l.length) (acc : List UInt8) (hacc : unhexL l = (unhexL (l.drop i)).map (acc ++ ·)) (ha : 0 ≤ dg (l.getD i 0)) (hb : 0 ≤ dg (l.getD (i + 1) 0)) :
  unhexL l = (unhexL (l.drop (i + 2))).map ((acc ++ [UInt8.ofNat (16 * dg (l.getD i 0) + dg (l.getD (i + 1) 0)).toNat]) ++ ·) := by
 have e : l.drop i = l.getD i 0 :: l.getD (i + 1) 0 :: l.drop (i + 2) := by
  rw [List.drop_eq_getElem_cons (by omega), List.drop_eq_getElem_cons (show i + 1 < l.length by omega), List.getD_eq_getElem?_getD, List.getElem?_eq_getElem (by omega), List.getD_eq_getElem?_getD, List.getElem?_eq_getElem (by omega)]
  rfl
 rw [hacc, e]; simp only [unhexL]; rw [if_pos ⟨ha, hb⟩]
 cases unhexL (l.drop (i + 2)) <;> simp
def RPost (s : ByteArray) (w : World) (e : Ending) (w' : World) : Prop :=
 Below w.heap.size w w' ∧ ((e = .returned (.tuple #[.slice none 0 0, .int .i64 4]) ∧ unhexL s.data.toList = none) ∨
  ∃ t v, unhexL s.data.toList = some t ∧ e = .returned (.tuple #[v, .int .i64 0]) ∧ w'.ownsRow w.heap.size 5 1 v t.length (Lib.byteCells t))
theorem rUnhex_core (s : ByteArray) (w : World) (hs : s.size ≤ 1099511627776) (he : s.size % 2 = 0) :
  Calls Tryz.prog 110 #[.string s] w fun e w' => RPost s w e w' := by
 obtain ⟨i0, hi, hz0, hz1, hz2⟩ := info_parts info5
 have hev : ((s.size : Int) % 2 != 0) = false := by simp; omega
 go_enter Tryz.func110, Tryz.ntmps110
 go_wp2_with fail
 go_loopw [4, 5] (fun v i wr => ∃ (k : Nat) (acc : List UInt8), k ≤ s.size ∧ k % 2 = 0 ∧ i = .int .i64 k ∧ wr.ownsRow w.heap.size 5 1 v acc.length (Lib.byteCells acc) ∧ acc.length ≤ k ∧
   unhexL s.data.toList = (unhexL (s.data.toList.drop k)).map (acc ++ ·) ∧ Below w.heap.size w wr) (fun _ i _ => s.size - (intOf i).toNat)
 case atStart => exact ⟨0, [], Nat.zero_le _, rfl, rfl, World.ownsRow_nil _ _ _ _, Nat.zero_le _, by simp, Below.refl _ _⟩
 case round =>
  obtain ⟨k, acc, hk, hk2, rfl, hown, hal, hacc, hbr⟩ := hrel; have HK2 := hyd hk2; clear hk2; have HA := hyd hacc; clear hacc; have hl := size_list s; have HLL := hyd hl; clear hl
  by_cases hlt : k < s.size
  ·have hlt2 : k + 1 < s.size := by have := HK2.out; omega
   have hlt3 : (k : Int) + 1 < s.size := by omega
   have h03 : (0 : Int) ≤ (k : Int) + 1 := by omega
   have ht3 : ((k : Int) + 1).toNat = k + 1 := by omega
   have q3 := IntWalk.i64_in ((k : Int) + 1) (by omega)
   have e1 : dg (s.data.toList.getD k 0) = dig16 ((s[k]'hlt).toNat : Int) := by rw [getD_at s k hlt]; rfl
   have e2 : dg (s.data.toList.getD (k + 1) 0) = dig16 ((s[k + 1]'hlt2).toNat : Int) := by rw [getD_at s (k + 1) hlt2]; rfl
   have E1 := hyd e1; clear e1; have E2 := hyd e2; clear e2
   go_wp2_with fail
   go_quiet ((go_at_call 144; exact Calls.quiet_of_same ((rdigit _ _).mono fun _ _ h => ⟨h.1, h.2.symm⟩)))
   have g1 := dig16_lt ((s[k]'hlt).toNat : Int); have g2 := dig16_lt ((s[k + 1]'hlt2).toNat : Int); have g3 := dig16_ge ((s[k]'hlt).toNat : Int); have g4 := dig16_ge ((s[k + 1]'hlt2).toNat : Int)
   generalize dig16 ((s[k]'hlt).toNat : Int) = d1 at *
   generalize dig16 ((s[k + 1]'hlt2).toNat : Int) = d2 at *
   have hbr2 := _root_.Go.below_drewN hbr nq; have hown2 : (wr.drewN nq).ownsRow w.heap.size 5 1 _ acc.length (Lib.byteCells acc) := hown
   generalize wr.drewN nq = w2 at *
   clear hbr hown
   by_cases h1 : d1 < 0
   ·go_wp2
    go_ret2
    exact ⟨hbr2, .inl ⟨rfl, unhex_bad _ k (by rw [HLL.out]; omega) (by rw [E1.out]; omega)⟩⟩
   ·by_cases h2 : d2 < 0
    ·go_wp2
     go_ret2
     exact ⟨hbr2, .inl ⟨rfl, unhex_bad _ (k + 1) (by rw [HLL.out]; omega) (by rw [E2.out]; omega)⟩⟩
    ·go_wp2_with (at_builtin; refine wpList_append_own _ rfl _ _ 32 rfl w.heap.size 5 i0 (.int .u8 0) 1 1 Tryz.underlying32 hi hz0 hz1 hz2 rfl (by decide) _ _ _ rfl (hown2.alloc _) ⟨w2.heap.size, 0, none⟩ 1 1 [.int .u8 (16 * d1 + d2)] rfl rfl ?c1 ?c2 ?c3 ?c4 ?c5 ?_)
     case c2 => first | rfl | (intro u hu; simp at hu; subst hu; rfl)
     case c3 => unfold maxLen; omega
     case c4 => omega
     case c5 => have := hbr2.size; simp; omega
     intro v' w3 hown3 hgrow3 _; have hbr3 : Below w.heap.size w w3 := (hbr2.alloc hbr2.size _).grown hgrow3 (by have := hbr2.size; simp; omega) (fun k hk => own_block hown2 k hk)
     have h16 : Lib.byteCells (acc ++ [UInt8.ofNat (16 * d1 + d2).toNat]) = Lib.byteCells acc ++ [.int .u8 (16 * d1 + d2)] := by
      rw [Lib.byteCells_append]
      simp [Lib.byteCells]
      omega
     have HO3 : Hid (w3.ownsRow w.heap.size 5 1 v' (acc ++ [UInt8.ofNat (16 * d1 + d2).toNat]).length (Lib.byteCells (acc ++ [UInt8.ofNat (16 * d1 + d2).toNat]))) := hyd (by rw [h16, List.length_append]; exact hown3); clear hown3 hgrow3 hown2 hbr2 h16; go_wp2
     go_roundw
     case rel =>
      refine ⟨k + 2, _, by omega, by have := HK2.out; omega, by go_num, HO3.out, by simp; omega, ?_, hbr3⟩; have := unhex_two s.data.toList k (by rw [HLL.out]; omega) acc HA.out (by rw [E1.out]; omega) (by rw [E2.out]; omega); rw [E1.out, E2.out] at this; exact this
     case measure => simp [intOf]; omega
  ·obtain rfl : k = s.size := by omega
   have e : unhexL s.data.toList = some acc := by
    rw [HA.out, List.drop_of_length_le (by rw [HLL.out]; exact Nat.le_refl _)]; simp [unhexL]
   have EE := hyd e; clear e; go_wp2
   go_ret2
   exact ⟨hbr, .inr ⟨acc, _, EE.out, rfl, hown⟩⟩
theorem rUnhex_odd (s : ByteArray) (w : World) (hs : s.size ≤ 1099511627776) (he : s.size % 2 = 1) :
  Calls Tryz.prog 110 #[.string s] w fun e w' => e = .returned (.tuple #[.slice none 0 0, .int .i64 4]) ∧ w = w' := by
 have hev : ((s.size : Int) % 2 != 0) = true := by simp; omega
 go_enter Tryz.func110, Tryz.ntmps110
 go_wp2
 go_ret2
 exact ⟨rfl, rfl⟩
theorem rUnhex_none (s : ByteArray) (w : World) (hs : s.size ≤ 1099511627776) (h : unhexL s.data.toList = none) :
  Calls Tryz.prog 110 #[.string s] w fun e w' => e = .returned (.tuple #[.slice none 0 0, .int .i64 4]) ∧ Below w.heap.size w w' := by
 by_cases ho : s.size % 2 = 1
 ·refine (rUnhex_odd s w hs ho).mono ?_
  rintro e w' ⟨rfl, rfl⟩; exact ⟨rfl, Below.refl _ _⟩
 ·refine (rUnhex_core s w hs (by omega)).mono ?_
  rintro e w' ⟨hb, ⟨he, _⟩ | ⟨t, v, ht, _⟩⟩
  ·exact ⟨he, hb⟩
  ·rw [h] at ht; cases ht
theorem rUnhex_some (s : ByteArray) (t : List UInt8) (w : World) (hs : s.size ≤ 1099511627776) (h : unhexL s.data.toList = some t) :
  Calls Tryz.prog 110 #[.string s] w fun e w' => ∃ g c, e = .returned (.tuple #[.slice g t.length c, .int .i64 0]) ∧ BAt w' g t ∧ t.length ≤ c ∧ (g = none → t.length = 0 ∧ c = 0) ∧ Below w.heap.size w w' := by
 have hl := size_list s; obtain ⟨h1, _, _⟩ := unhex_spec _ _ _ (Nat.le_refl _) h; refine (rUnhex_core s w hs (by omega)).mono ?_; rintro e w' ⟨hb, ⟨_, hn⟩ | ⟨t', v, ht, he, hown⟩⟩
 ·rw [h] at hn; cases hn
 ·rw [h] at ht; cases ht
  rcases hown.2 with ⟨rfl, hz⟩ | ⟨g, cap, cur, rfl, hg, hh, hnc, hcm, hcs, htk⟩
  ·refine ⟨none, 0, by rw [he, hz], fun hp => by omega, by omega, fun _ => ⟨hz, rfl⟩, hb⟩
  ·exact ⟨some ⟨g, 0, none⟩, cap, he, own_bat hown, hnc, (fun h => by cases h), hb⟩
set_option maxRecDepth 20000
theorem results_id {fn : Func} (h : fn.results = #[.cell 2 24, .tmp 3]) (tmps : Array Value) (w : World) (g : Nat) (cs : Array Value) (fr : Nat × Nat) (x : Value)
  (hp : tmps.getD 2 undef = .pointer (some ⟨g, 0, none⟩)) (hx : tmps.getD 3 undef = x) (hg : w.heap[g]? = some (.cells cs 24 fr)) (hn : cs.size = 20) :
  (results fn tmps).run Tryz.prog w = .ok (.tuple #[.agg cs, x]) w := by
 rw [results_cell_tmp h, hp, hx]; have e : (asAddr (.pointer (some ⟨g, 0, none⟩))).run Tryz.prog w = .ok ⟨g, 0, none⟩ w := rfl; rw [e]; simp only [Result.andThen_ok]; rw [run_loadVar_row w g 24 24 cs fr _ hg Tryz.underlying24 rfl (by rw [info29, hn])]
 rfl
abbrev zero20 : Array Value := #[Value.int .u8 0, Value.int .u8 0, Value.int .u8 0, Value.int .u8 0, Value.int .u8 0, Value.int .u8 0, Value.int .u8 0, Value.int .u8 0, Value.int .u8 0, Value.int .u8 0, Value.int .u8 0, Value.int .u8 0, Value.int .u8 0, Value.int .u8 0, Value.int .u8 0, Value.int .u8 0, Value.int .u8 0, Value.int .u8 0, Value.int .u8 0, Value.int .u8 0]
theorem zero20_idv : idv (List.replicate 20 0) = .agg zero20 := rfl
theorem Id_len (s : ByteArray) (w : World) (hs : s.size ≤ 1099511627776) (he : s.size ≠ 40) :
  Calls Tryz.prog 137 #[.string s] w fun e w' => e = .returned (.tuple #[idv (List.replicate 20 0), .int .i64 4]) ∧ Below w.heap.size w w' := by
 have hev : ((s.size : Int) != 40) = true := by simp; omega
 rw [zero20_idv]
 go_enter Tryz.func137, Tryz.ntmps137
 go_wp2_with (with_reducible refine wpList_store_row rfl 24 _ _ rfl w.heap.size zero20 rfl rfl 24 zero20 ?hg ?hi ?ho ?h1 ?_)
 case hg => exact two_new w _ _
 case hi => exact info29
 case ho => rfl
 case h1 => kernel_rfl
 rw [setRow_self _ w.heap.size zero20 24 (0, 0) (two_new w _ _)]
 go_wp2_with fail
 refine bodyPost_ret (results_id Tryz.results137 _ _ w.heap.size zero20 (0, 0) (.int .i64 4) rfl rfl (two_new w _ _) rfl) rfl ⟨rfl, ?_⟩; exact ((Below.refl _ w).alloc (Nat.le_refl _) _).alloc (by simp) _
theorem Id_bad (s : ByteArray) (w : World) (he : s.size = 40) (hu : unhexL s.data.toList = none) :
  Calls Tryz.prog 137 #[.string s] w fun e w' => e = .returned (.tuple #[idv (List.replicate 20 0), .int .i64 4]) ∧ Below w.heap.size w w' := by
 have hev : ((s.size : Int) != 40) = false := by simp; omega
 have C := hyd (fun w => Unhex_none s w (by omega) hu); clear hu he; rw [zero20_idv]
 go_enter Tryz.func137, Tryz.ntmps137
 go_wp2_with fail
 refine (C.out _).mono ?_; rintro e w1 ⟨rfl, hb⟩; have hg1 : w1.heap[w.heap.size]? = some (.cells zero20 24 (0, 0)) := (hb.block _ (by simp; omega)).trans (two_new w _ _); have hbw : Below w.heap.size w w1 := (((Below.refl _ w).alloc (Nat.le_refl _) _).alloc (by simp) _).trans (hb.mono (by simp; omega)); clear hb C; have HG := hyd hg1; clear hg1
 go_wp2_with (with_reducible refine wpList_store_row rfl 24 _ _ rfl w.heap.size zero20 rfl rfl 24 zero20 ?hg ?hi ?ho ?h1 ?_)
 case hg => exact HG.out
 case hi => exact info29
 case ho => rfl
 case h1 => kernel_rfl
 rw [setRow_self _ w.heap.size zero20 24 (0, 0) HG.out]
 go_wp2_with fail
 exact bodyPost_ret (results_id Tryz.results137 _ _ w.heap.size zero20 (0, 0) (.int .i64 4) rfl rfl HG.out rfl) rfl ⟨rfl, hbw⟩
theorem oneCell_bytes (t : List UInt8) : ∀ v ∈ Lib.byteCells t, v.oneCell' = true := by
 intro v hv; simp [Lib.byteCells] at hv; obtain ⟨x, _, rfl⟩ := hv; rfl
theorem size_bytes (t : List UInt8) : (Lib.byteCells t).toArray.size = t.length := by simp [Lib.byteCells]
theorem copy_id (w : World) (g : Nat) (b o c : Nat) (t : List UInt8) (ht : t.length = 20) (hg : w.heap[g]? = some (.cells zero20 24 (0, 0))) (hc : BAt w (some ⟨b, o, none⟩) t) :
  (Builtin.copy_ #[32, 32] 3 #[.slice (some ⟨g, 0, none⟩) 20 20, .slice (some ⟨b, o, none⟩) 20 c]).run Tryz.prog w = .ok (goInt 20) (w.setRow g (Lib.byteCells t).toArray) := by
 have hl : (Lib.byteCells t).length = 20 := by simp [Lib.byteCells, ht]
 have h := run_copy_row (P := Tryz.prog) w 32 32 3 5 g 0 20 20 ⟨b, o, none⟩ 20 c zero20 24 (Lib.byteCells t) Tryz.underlying32 (by kernel_rfl) hg (by rw [hl]; rfl) (fun j v hj => hc.cells _ rfl j v hj) (by rw [hl]; exact Nat.le_refl _) (oneCell_bytes t); rw [h, hl]
 congr 2
 simp
theorem Id_good (s : ByteArray) (t : List UInt8) (w : World) (he : s.size = 40) (hu : unhexL s.data.toList = some t) :
  Calls Tryz.prog 137 #[.string s] w fun e w' => e = .returned (.tuple #[idv t, .int .i64 0]) ∧ Below w.heap.size w w' := by
 have hev : ((s.size : Int) != 40) = false := by simp; omega
 have ht : t.length = 20 := by have := (unhex_spec _ _ _ (Nat.le_refl _) hu).1; rw [size_list] at this; omega
 have C := hyd (fun w => Unhex_some s t w (by omega) hu); clear hu he; have HT := hyd ht; clear ht
 go_enter Tryz.func137, Tryz.ntmps137
 go_wp2_with fail
 refine (C.out _).mono ?_; rintro e w1 ⟨g, c, rfl, hbat, hlc, _, hb⟩; obtain ⟨b, o, rfl, _, _⟩ := hbat (by rw [HT.out]; omega); have hg0 : w1.heap[w.heap.size]? = some (.cells zero20 24 (0, 0)) := (hb.block _ (by simp; omega)).trans (two_new w _ _); have hg1 : w1.heap[w.heap.size + 1]? = some (.cells zero20 24 (0, 0)) := (hb.block _ (by simp)).trans (heap_alloc2_new w _ _); have hbw : Below w.heap.size w w1 := (((Below.refl _ w).alloc (Nat.le_refl _) _).alloc (by simp) _).trans (hb.mono (by simp; omega)); have hcopy := copy_id w1 (w.heap.size + 1) b o c t HT.out hg1 hbat; clear hb C; have HG0 := hyd hg0; clear hg0; have HG1 := hyd hg1; clear hg1; have HB := hyd hbat; clear hbat; rw [HT.out]; have hbw2 : Below w.heap.size w (w1.setRow (w.heap.size + 1) (Lib.byteCells t).toArray) := below_setRow hbw (by omega) _
 have hn0 : (w1.setRow (w.heap.size + 1) (Lib.byteCells t).toArray).heap[w.heap.size]? = some (.cells zero20 24 (0, 0)) := by
  rw [setRow_other w1 _ _ _ (by omega)]; exact HG0.out
 have hn1 : (w1.setRow (w.heap.size + 1) (Lib.byteCells t).toArray).heap[w.heap.size + 1]? = some (.cells (Lib.byteCells t).toArray 24 (0, 0)) := setRow_heap _ _ _ _ _ _ HG1.out; have HN0 := hyd hn0; clear hn0; have HN1 := hyd hn1; clear hn1; generalize w1.setRow (w.heap.size + 1) (Lib.byteCells t).toArray = w2 at hcopy hbw2 HN0 HN1
 have hst : (storeCells ⟨w.heap.size, 0, none⟩ (Lib.byteCells t)).run Tryz.prog w2 = .ok () (w2.setRow w.heap.size (Lib.byteCells t).toArray) := by
  have h := run_storeCells_from (P := Tryz.prog) w.heap.size 24 (Lib.byteCells t) 0 zero20 w2 HN0.out (by simp [Lib.byteCells, HT.out]) (oneCell_bytes t)
  simpa using h
 have hbl : (Lib.byteCells t).length = 20 := by simp [Lib.byteCells, HT.out]
 go_wp2_with (with_reducible refine wpList_load_row rfl 24 _ rfl (w.heap.size + 1) rfl 24 (Lib.byteCells t).toArray (0, 0) _ ?hg Tryz.underlying24 rfl ?hi ?_)
 case hg => exact HN1.out
 case hi => rw [info29, size_bytes, HT.out]
 exact bodyPost_ret (results_id Tryz.results137 _ _ w.heap.size (Lib.byteCells t).toArray (0, 0) (.int .i64 0) rfl rfl (setRow_heap _ _ _ _ _ _ HN0.out) (by rw [size_bytes, HT.out])) rfl ⟨rfl, below_setRow hbw2 (Nat.le_refl _) _⟩
theorem rId_none (s : ByteArray) (w : World) (hs : s.size ≤ 1099511627776) (hu : unhexL s.data.toList = none) :
  Calls Tryz.prog 89 #[.string s] w fun e w' => e = .returned (.tuple #[idv (List.replicate 20 0), .int .i64 4]) ∧ Below w.heap.size w w' := by
 have C := hyd (fun w => rUnhex_none s w hs hu); clear hu; rw [zero20_idv]
 go_enter Tryz.func89, Tryz.ntmps89
 go_wp2_with fail
 refine (C.out _).mono ?_; rintro e w1 ⟨rfl, hb⟩; have hg1 : w1.heap[w.heap.size]? = some (.cells zero20 24 (0, 0)) := (hb.block _ (by simp)).trans (heap_alloc_new w _); have hbw : Below w.heap.size w w1 := ((Below.refl _ w).alloc (Nat.le_refl _) _).trans (hb.mono (by simp)); clear hb C; have HG := hyd hg1; clear hg1
 go_wp2_with (with_reducible refine wpList_store_row rfl 24 _ _ rfl w.heap.size zero20 rfl rfl 24 zero20 ?hg ?hi ?ho ?h1 ?_)
 case hg => exact HG.out
 case hi => exact info29
 case ho => rfl
 case h1 => kernel_rfl
 rw [setRow_self _ w.heap.size zero20 24 (0, 0) HG.out]
 go_wp2_with fail
 exact bodyPost_ret (results_id Tryz.results89 _ _ w.heap.size zero20 (0, 0) (.int .i64 4) rfl rfl HG.out rfl) rfl ⟨rfl, hbw⟩
theorem rId_len (s : ByteArray) (t : List UInt8) (w : World) (hs : s.size ≤ 1099511627776) (hu : unhexL s.data.toList = some t) (hne : t.length ≠ 20) :
  Calls Tryz.prog 89 #[.string s] w fun e w' => e = .returned (.tuple #[idv (List.replicate 20 0), .int .i64 4]) ∧ Below w.heap.size w w' := by
 have ht : t.length ≤ 1099511627776 := by have := (unhex_spec _ _ _ (Nat.le_refl _) hu).1; rw [size_list] at this; omega
 have hne2 : ((t.length : Int) != 20) = true := by simp; omega
 have C := hyd (fun w => rUnhex_some s t w hs hu); clear hu hne; rw [zero20_idv]
 go_enter Tryz.func89, Tryz.ntmps89
 go_wp2_with fail
 refine (C.out _).mono ?_; rintro e w1 ⟨g, c, rfl, _, _, _, hb⟩; have hg1 : w1.heap[w.heap.size]? = some (.cells zero20 24 (0, 0)) := (hb.block _ (by simp)).trans (heap_alloc_new w _); have hbw : Below w.heap.size w w1 := ((Below.refl _ w).alloc (Nat.le_refl _) _).trans (hb.mono (by simp)); clear hb C; have HG := hyd hg1; clear hg1
 go_wp2_with (with_reducible refine wpList_store_row rfl 24 _ _ rfl w.heap.size zero20 rfl rfl 24 zero20 ?hg ?hi ?ho ?h1 ?_)
 case hg => exact HG.out
 case hi => exact info29
 case ho => rfl
 case h1 => kernel_rfl
 rw [setRow_self _ w.heap.size zero20 24 (0, 0) HG.out]
 go_wp2_with fail
 exact bodyPost_ret (results_id Tryz.results89 _ _ w.heap.size zero20 (0, 0) (.int .i64 4) rfl rfl HG.out rfl) rfl ⟨rfl, hbw⟩
theorem rId_good (s : ByteArray) (t : List UInt8) (w : World) (hs : s.size ≤ 1099511627776) (hu : unhexL s.data.toList = some t) (ht : t.length = 20) :
  Calls Tryz.prog 89 #[.string s] w fun e w' => e = .returned (.tuple #[idv t, .int .i64 0]) ∧ Below w.heap.size w w' := by
 have C := hyd (fun w => rUnhex_some s t w hs hu); clear hu; have HT := hyd ht; clear ht
 go_enter Tryz.func89, Tryz.ntmps89
 go_wp2_with fail
 refine (C.out _).mono ?_; rintro e w1 ⟨g, c, rfl, hbat, hlc, _, hb⟩; obtain ⟨b, o, rfl, hbl, hcl⟩ := hbat (by rw [HT.out]; omega); have hg0 : w1.heap[w.heap.size]? = some (.cells zero20 24 (0, 0)) := (hb.block _ (by simp)).trans (heap_alloc_new w _); have hbw : Below w.heap.size w w1 := ((Below.refl _ w).alloc (Nat.le_refl _) _).trans (hb.mono (by simp))
 have hsz : w.heap.size < w1.heap.size := by have := hb.size; simp at this; omega
 clear hb C hbat; have HG0 := hyd hg0; clear hg0; have HCL := hyd hcl; clear hcl; rw [HT.out]
 go_wp2_with fail
 go_loopw [7] (fun i wr => ∃ (k : Nat) (cur : Array Value), k ≤ 20 ∧ i = .int .i64 k ∧ wr.heap[w1.heap.size]? = some (.cells cur 24 (0, 0)) ∧ cur.size = 20 ∧ cur.toList.take k = Lib.byteCells (t.take k) ∧ Below w1.heap.size w1 wr) (fun i _ => 20 - (intOf i).toNat)
 case atStart => exact ⟨0, zero20, by omega, rfl, heap_alloc_new w1 _, rfl, by simp [Lib.byteCells], (Below.refl _ w1).alloc (Nat.le_refl _) _⟩
 case round =>
  obtain ⟨k, cur, hk, rfl, hh, hcs, hcur, hbr⟩ := hrel; have HCS := hyd hcs; clear hcs; have HCUR := hyd hcur; clear hcur
  by_cases hlt : k < 20
  ·have hkt : k < t.length := by rw [HT.out]; exact hlt
   have hcell : wr.cell? ⟨b, o + k, none⟩ = some (.int .u8 (t[k]).toNat) := (hbr.cell (p := ⟨b, o + k, none⟩) hbl).trans (HCL.out k hkt); obtain ⟨y, hy⟩ : ∃ y, wr.cell? ⟨w1.heap.size, k, none⟩ = some y := ⟨cur[k]'(by rw [HCS.out]; exact hlt), by rw [Lib.cell_of_heap hh, Array.getElem?_eq_getElem]⟩; have hfz : wr.frozen? ⟨w1.heap.size, k, none⟩ = false := Lib.frozen_of_heap hh k; have hst := heap_setCell_same wr w1.heap.size k cur 24 (.int .u8 (t[k]).toNat) hh; have hbr2 := hbr.setCell (p := ⟨w1.heap.size, k, none⟩) (Nat.le_refl _) (.int .u8 (t[k]).toNat); have HS := hyd hst; clear hst; have HB := hyd hbr2; clear hbr2; clear hh; go_wp2
   go_roundw
   case rel =>
    refine ⟨k + 1, _, by omega, by go_num, HS.out, by rw [Array.size_setIfInBounds]; exact HCS.out, ?_, HB.out⟩
    have hl : cur.toList.length = 20 := by rw [Array.length_toList]; exact HCS.out
    rw [Array.toList_setIfInBounds, List.take_succ_eq_append_getElem (by rw [List.length_set, hl]; omega), List.take_set_of_le (Nat.le_refl _), HCUR.out, List.take_succ_eq_append_getElem hkt, Lib.byteCells_append]
    simp [Lib.byteCells]
   case measure => simp [intOf]; omega
  ·obtain rfl : k = 20 := by omega
   have e : cur = (Lib.byteCells t).toArray := by
    have h := HCUR.out; rw [List.take_of_length_le (by rw [Array.length_toList, HCS.out]; exact Nat.le_refl _), List.take_of_length_le (by rw [HT.out]; exact Nat.le_refl _)] at h; rw [← h]
   subst e; have hb0 : wr.heap[w.heap.size]? = some (.cells zero20 24 (0, 0)) := (hbr.block _ hsz).trans HG0.out
   have hst : (storeCells ⟨w.heap.size, 0, none⟩ (Lib.byteCells t)).run Tryz.prog wr = .ok () (wr.setRow w.heap.size (Lib.byteCells t).toArray) := by
    have h := run_storeCells_from (P := Tryz.prog) w.heap.size 24 (Lib.byteCells t) 0 zero20 wr hb0 (by simp [Lib.byteCells, HT.out]) (oneCell_bytes t)
    simpa using h
   have hbl : (Lib.byteCells t).length = 20 := by simp [Lib.byteCells, HT.out]
   have HH := hyd hh; clear hh; have HB0 := hyd hb0; clear hb0
   go_wp2_with (with_reducible refine wpList_load_row rfl 24 _ rfl w1.heap.size rfl 24 (Lib.byteCells t).toArray (0, 0) _ ?hg Tryz.underlying24 rfl ?hi ?_)
   case hg => exact HH.out
   case hi => first | rw [info29, size_bytes, HT.out] | simpa using info29
   exact bodyPost_ret (results_id Tryz.results89 _ _ w.heap.size (Lib.byteCells t).toArray (0, 0) (.int .i64 0) rfl rfl (setRow_heap _ _ _ _ _ _ HB0.out) (by rw [size_bytes, HT.out])) rfl ⟨rfl, below_setRow (hbw.trans (hbr.mono (by omega))) (Nat.le_refl _) _⟩
end Go.Proofs.YtnbcbiglkmdepaaGreatDoor
