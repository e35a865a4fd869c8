/-
  Layer 6: Print of the reference.
-/
import Derived.Test.YtagfnnpklefhhaaDoorKa
namespace Go.Proofs.YtagfnnpklefhhaaDoor
open Go.RowKit
set_option linter.unusedVariables false
set_option linter.unusedSimpArgs false

set_option maxHeartbeats 8000000 in
set_option maxRecDepth 100000 in
theorem rPrint_bad (i : Idt) (h1 : i.name.length ≤ 1000000) (h2 : i.email.length ≤ 1000000) (hr : rightI i = false) (w : World) (tab : T6 w) :
    Calls Tryd.prog 16 #[idtV i] w fun e w' => e = .returned (.string ⟨#[]⟩) ∧ Below w.heap.size w w' := by
  have cR := fun w t => rRight_is i h1 h2 w t
  rw [hr] at cR
  unfold idtV at cR ⊢
  have B0 := Lib.hid ((Below.refl w.heap.size w).alloc (Nat.le_refl _) (.cells #[.string ⟨i.name.toArray⟩, .string ⟨i.email.toArray⟩, .int .i64 i.whn, .int .i64 i.zone] 23))
  have T0 := Lib.hid (tab.keep B0.out)
  clear tab
  go_enter Tryd.func16, Tryd.ntmps16
  go_wp2_with fail
  refine (cR _ T0.out).mono ?_
  rintro e w1 ⟨rfl, b1⟩
  go_wp2
  go_ret
  exact ⟨rfl, B0.out.trans (b1.mono B0.out.size)⟩

/-- The text of an ident's parts, whatever its sign. -/
def signL (z : Int) : List UInt8 := if z < 0 then [45] else [43]
theorem text_sign (name email num : List UInt8) (z : Int) : textT name email num (zoneT z) = aheadT name ++ [60] ++ email ++ [62, 32] ++ num ++ [32] ++ signL z ++ twoD (z.natAbs / 60) ++ twoD (z.natAbs % 60) := by
  unfold textT zoneT signL
  split <;> simp

set_option maxHeartbeats 16000000 in
set_option maxRecDepth 100000 in
theorem rPrint_good (i : Idt) (hr : rightI i = true) (w : World) (tab : T6 w) :
    Calls Tryd.prog 16 #[idtV i] w fun e w' => e = .returned (.string ⟨(textT i.name i.email (Lib.itoa i.whn) (zoneT i.zone)).toArray⟩) ∧ Below w.heap.size w w' := by
  obtain ⟨r1, r2, r3, r4, r5, r6⟩ := (right_iff i).1 hr
  have l1 := ((word_iff _).1 r1).2.1
  have l2 := ((word_iff _).1 r2).2.1
  have l3 := num_len i.whn r3 r4
  have cR := fun w t => rRight_is i (by omega) (by omega) w t
  rw [hr] at cR
  have cN := fun w => rNumber i.whn (by omega) (by omega) w
  rw [text_sign]
  unfold idtV at cR ⊢
  obtain ⟨name, email, t, z⟩ := i
  simp only at cR cN l1 l2 l3 r5 r6 ⊢
  clear r1 r2 hr
  generalize Lib.itoa t = num at cN l3 ⊢
  obtain ⟨n, hn⟩ : ∃ n : Nat, z.natAbs = n := ⟨_, rfl⟩
  rw [hn]
  have n840 : n ≤ 840 := by omega
  have q1 := IntWalk.i64_quo (n : Int) 60 (by omega)
  have q2 := IntWalk.rem_in (n : Int) 60 (by omega)
  have c1 := fun w => rtwo_is ((n : Int) / 60) (by omega) (by omega) w
  have c2 := fun w => rtwo_is ((n : Int) % 60) (by omega) (by omega) w
  rw [show ((n : Int) / 60).toNat = n / 60 by omega] at c1
  rw [show ((n : Int) % 60).toNat = n % 60 by omega] at c2
  have q2w : IntKind.i64.wrap ((n : Int).tmod 60) = (n : Int) % 60 := by rw [q2]; exact IntWalk.i64_in _ (by omega)
  have q1w : IntKind.i64.wrap ((n : Int) / 60) = (n : Int) / 60 := IntWalk.i64_in _ (by omega)
  have q1v : (n : Int) / 60 = (n : Int) / 60 := rfl
  have q2v : (n : Int) % 60 = (n : Int) % 60 := rfl
  have q2u : IntKind.i64.wrap ((n : Int) % 60) = (n : Int) % 60 := IntWalk.i64_in _ (by omega)
  obtain ⟨qq, hqq⟩ : ∃ qq, (n : Int) / 60 = qq := ⟨_, rfl⟩
  rw [hqq] at q1 c1
  have q1w := q1w.trans hqq
  have q1v := hqq
  obtain ⟨rr, hrr⟩ : ∃ rr, (n : Int) % 60 = rr := ⟨_, rfl⟩
  rw [hrr] at q2 q2w c2
  have q2u := q2u.trans hrr
  have q2v := hrr
  have HQ := Lib.hid (And.intro q1 (And.intro q1w q1v))
  have HRR := Lib.hid (And.intro q2 (And.intro q2w (And.intro q2u q2v)))
  clear q1 q1w q1v q2 q2w q2u q2v hqq hrr
  have t1 : (twoD (n / 60)).length = 2 := rfl
  have t2 : (twoD (n % 60)).length = 2 := rfl
  generalize twoD (n / 60) = d1 at c1 t1 ⊢
  generalize twoD (n % 60) = d2 at c2 t2 ⊢
  have B0 := Lib.hid ((Below.refl w.heap.size w).alloc (Nat.le_refl _) (.cells #[.string ⟨name.toArray⟩, .string ⟨email.toArray⟩, .int .i64 t, .int .i64 z] 23))
  have T0 := Lib.hid (tab.keep B0.out)
  have N0 := Lib.hid (heap_alloc_new w (.cells #[.string ⟨name.toArray⟩, .string ⟨email.toArray⟩, .int .i64 t, .int .i64 z] 23))
  have S0 := Lib.hid (show (w.alloc (.cells #[.string ⟨name.toArray⟩, .string ⟨email.toArray⟩, .int .i64 t, .int .i64 z] 23)).heap.size = w.heap.size + 1 by simp)
  have la : (aheadT name).length ≤ 201 := by
    unfold aheadT
    split
    · simp
    · simp; omega
  have ls : (signL z).length = 1 := by unfold signL; split <;> rfl
  have ad0 := fun w => add_lists (P := Tryd.prog) w name [32] (by simp; omega)
  have ad1 := fun w => add_lists (P := Tryd.prog) w (aheadT name) [60] (by simp; omega)
  have ad2 := fun w => add_lists (P := Tryd.prog) w (aheadT name ++ [60]) email (by simp; omega)
  have ad3 := fun w => add_lists (P := Tryd.prog) w (aheadT name ++ [60] ++ email) [62, 32] (by simp; omega)
  have ad4 := fun w => add_lists (P := Tryd.prog) w (aheadT name ++ [60] ++ email ++ [62, 32]) num (by simp; omega)
  have ad5 := fun w => add_lists (P := Tryd.prog) w (aheadT name ++ [60] ++ email ++ [62, 32] ++ num) [32] (by simp; omega)
  have ad6 := fun w => add_lists (P := Tryd.prog) w (aheadT name ++ [60] ++ email ++ [62, 32] ++ num ++ [32]) (signL z) (by simp; omega)
  have ad7 := fun w => add_lists (P := Tryd.prog) w (aheadT name ++ [60] ++ email ++ [62, 32] ++ num ++ [32] ++ signL z) d1 (by simp; omega)
  have ad8 := fun w => add_lists (P := Tryd.prog) w (aheadT name ++ [60] ++ email ++ [62, 32] ++ num ++ [32] ++ signL z ++ d1) d2 (by simp; omega)
  generalize (⟨(aheadT name ++ [60] ++ email ++ [62, 32] ++ num ++ [32] ++ signL z ++ d1 ++ d2).toArray⟩ : ByteArray) = s8 at ad8 ⊢
  generalize (⟨(aheadT name ++ [60] ++ email ++ [62, 32] ++ num ++ [32] ++ signL z ++ d1).toArray⟩ : ByteArray) = s7 at ad7 ad8
  generalize (⟨(aheadT name ++ [60] ++ email ++ [62, 32] ++ num ++ [32] ++ signL z).toArray⟩ : ByteArray) = s6 at ad6 ad7
  generalize (⟨(aheadT name ++ [60] ++ email ++ [62, 32] ++ num ++ [32]).toArray⟩ : ByteArray) = s5 at ad5 ad6
  generalize (⟨(aheadT name ++ [60] ++ email ++ [62, 32] ++ num).toArray⟩ : ByteArray) = s4 at ad4 ad5
  generalize (⟨(aheadT name ++ [60] ++ email ++ [62, 32]).toArray⟩ : ByteArray) = s3 at ad3 ad4
  generalize (⟨(aheadT name ++ [60] ++ email).toArray⟩ : ByteArray) = s2 at ad2 ad3
  generalize (⟨(aheadT name ++ [60]).toArray⟩ : ByteArray) = s1 at ad1 ad2
  generalize (⟨email.toArray⟩ : ByteArray) = se at *
  generalize (⟨num.toArray⟩ : ByteArray) = sn at *
  generalize (⟨d1.toArray⟩ : ByteArray) = sd1 at *
  generalize (⟨d2.toArray⟩ : ByteArray) = sd2 at *
  have dN := fun w' (h : PS se t z w w') => ((cN w').mono (fun e w'' ⟨he, hb⟩ => ⟨he, ps_keep h hb⟩) : Calls Tryd.prog 27 #[.int .i64 t] w' fun e w'' => e = .returned (.string sn) ∧ PS se t z w w'')
  have e1 := fun w' (h : PS se t z w w') (a : Int) (ha : a = qq) => (by rw [ha]; exact (c1 w').mono (fun e w'' ⟨he, hb⟩ => ⟨he, ps_keep h hb⟩) : Calls Tryd.prog 28 #[.int .i64 a] w' fun e w'' => e = .returned (.string sd1) ∧ PS se t z w w'')
  have e2 := fun w' (h : PS se t z w w') (a : Int) (ha : a = rr) => (by rw [ha]; exact (c2 w').mono (fun e w'' ⟨he, hb⟩ => ⟨he, ps_keep h hb⟩) : Calls Tryd.prog 28 #[.int .i64 a] w' fun e w'' => e = .returned (.string sd2) ∧ PS se t z w w'')
  have DN := Lib.hid dN
  have E1 := Lib.hid e1
  have E2 := Lib.hid e2
  clear tab l1 l2 l3 la r3 r4 cN c1 c2 dN e1 e2 t1 t2 ls
  by_cases hneg : z < 0
  · by_cases hne : name = []
    · subst hne
      have ea : aheadT ([] : List UInt8) = [] := rfl
      rw [ea] at ad1
      have hz : -z = (n : Int) := by omega
      have hs : signL z = [45] := by unfold signL; rw [if_pos hneg]
      rw [hs] at ad6
      clear hn hs
      go_enter Tryd.func16, Tryd.ntmps16
      go_wp2_with fail
      refine (cR _ T0.out).mono ?_
      rintro e w1 ⟨rfl, b1⟩
      have hb1 := B0.out.trans (b1.mono B0.out.size)
      have hN1 := (b1.block w.heap.size (by rw [S0.out]; omega)).trans N0.out
      have hS1 : PS se t z w w1 := ⟨by rw [Lib.cell_of_heap hN1]; rfl, by rw [Lib.cell_of_heap hN1]; rfl, by rw [Lib.cell_of_heap hN1]; rfl, T0.out.keep b1, hb1, by have := b1.size; rw [S0.out] at this; omega⟩
      have hc0 : w1.cell? ⟨w.heap.size, 0, none⟩ = some (.string ⟨#[]⟩) := by rw [Lib.cell_of_heap hN1]; rfl
      have K0 := ps_drew hS1
      have K1 := ps_drew K0
      clear b1 hb1 hN1 hS1 B0 T0 N0 S0 cR
      go_wp2_with fail
      go_region_held3 (fun w' => w'.cell? ⟨w.heap.size, 1, none⟩ = some (.string se) ∧ w'.cell? ⟨w.heap.size, 2, none⟩ = some (.int .i64 t) ∧ w'.cell? ⟨w.heap.size, 3, none⟩ = some (.int .i64 z) ∧ Rest w w') (assumption) (fail)
      go_wp2_with fail
      go_region_held3 (fun w' => w'.cell? ⟨w.heap.size, 1, none⟩ = some (.string se) ∧ w'.cell? ⟨w.heap.size, 2, none⟩ = some (.int .i64 t) ∧ w'.cell? ⟨w.heap.size, 3, none⟩ = some (.int .i64 z) ∧ Rest w w') (assumption)
        (first | (go_at_call 27; refine (DN.out _ (by assumption)).mono ?_; rintro e w' ⟨rfl, hS⟩) | (go_at_call 28; refine (E1.out _ (by assumption) _ (by first | with_reducible exact HQ.out.1 | with_reducible exact HQ.out.2.1 | with_reducible exact HQ.out.2.2)).mono ?_; rintro e w' ⟨rfl, hS⟩) | (go_at_call 28; refine (E2.out _ (by assumption) _ (by first | with_reducible exact HRR.out.1 | with_reducible exact HRR.out.2.1 | with_reducible exact HRR.out.2.2.1 | with_reducible exact HRR.out.2.2.2)).mono ?_; rintro e w' ⟨rfl, hS⟩))
      go_wp2
      go_ret
      exact ⟨rfl, hS.2.2.2.2.1⟩
    · skip
      have ea : aheadT name = name ++ [32] := by unfold aheadT; rw [if_neg hne]
      rw [ea] at ad1
      generalize (⟨(name ++ [32]).toArray⟩ : ByteArray) = sA at ad0 ad1
      have fe : (name == ([] : List UInt8)) = false := by rw [beq_eq_false_iff_ne]; exact hne
      have fi : name.isEmpty = false := by cases name with | nil => exact absurd rfl hne | cons _ _ => rfl
      clear hne ea
      have hz : -z = (n : Int) := by omega
      have hs : signL z = [45] := by unfold signL; rw [if_pos hneg]
      rw [hs] at ad6
      clear hn hs
      go_enter Tryd.func16, Tryd.ntmps16
      go_wp2_with fail
      refine (cR _ T0.out).mono ?_
      rintro e w1 ⟨rfl, b1⟩
      have hb1 := B0.out.trans (b1.mono B0.out.size)
      have hN1 := (b1.block w.heap.size (by rw [S0.out]; omega)).trans N0.out
      have hS1 : PS se t z w w1 := ⟨by rw [Lib.cell_of_heap hN1]; rfl, by rw [Lib.cell_of_heap hN1]; rfl, by rw [Lib.cell_of_heap hN1]; rfl, T0.out.keep b1, hb1, by have := b1.size; rw [S0.out] at this; omega⟩
      have hc0 : w1.cell? ⟨w.heap.size, 0, none⟩ = some (.string ⟨name.toArray⟩) := by rw [Lib.cell_of_heap hN1]; rfl
      have K0 := ps_drew hS1
      have K1 := ps_drew K0
      clear b1 hb1 hN1 hS1 B0 T0 N0 S0 cR
      go_wp2_with fail
      go_region_held3 (fun w' => w'.cell? ⟨w.heap.size, 1, none⟩ = some (.string se) ∧ w'.cell? ⟨w.heap.size, 2, none⟩ = some (.int .i64 t) ∧ w'.cell? ⟨w.heap.size, 3, none⟩ = some (.int .i64 z) ∧ Rest w w') (assumption) (fail)
      go_wp2_with fail
      go_region_held3 (fun w' => w'.cell? ⟨w.heap.size, 1, none⟩ = some (.string se) ∧ w'.cell? ⟨w.heap.size, 2, none⟩ = some (.int .i64 t) ∧ w'.cell? ⟨w.heap.size, 3, none⟩ = some (.int .i64 z) ∧ Rest w w') (assumption)
        (first | (go_at_call 27; refine (DN.out _ (by assumption)).mono ?_; rintro e w' ⟨rfl, hS⟩) | (go_at_call 28; refine (E1.out _ (by assumption) _ (by first | with_reducible exact HQ.out.1 | with_reducible exact HQ.out.2.1 | with_reducible exact HQ.out.2.2)).mono ?_; rintro e w' ⟨rfl, hS⟩) | (go_at_call 28; refine (E2.out _ (by assumption) _ (by first | with_reducible exact HRR.out.1 | with_reducible exact HRR.out.2.1 | with_reducible exact HRR.out.2.2.1 | with_reducible exact HRR.out.2.2.2)).mono ?_; rintro e w' ⟨rfl, hS⟩))
      go_wp2
      go_ret
      exact ⟨rfl, hS.2.2.2.2.1⟩
  · by_cases hne : name = []
    · subst hne
      have ea : aheadT ([] : List UInt8) = [] := rfl
      rw [ea] at ad1
      have hz : z = (n : Int) := by omega
      have hs : signL z = [43] := by unfold signL; rw [if_neg hneg]
      rw [hs] at ad6
      clear hn hs
      subst hz
      go_enter Tryd.func16, Tryd.ntmps16
      go_wp2_with fail
      refine (cR _ T0.out).mono ?_
      rintro e w1 ⟨rfl, b1⟩
      have hb1 := B0.out.trans (b1.mono B0.out.size)
      have hN1 := (b1.block w.heap.size (by rw [S0.out]; omega)).trans N0.out
      have hS1 : PS se t (n : Int) w w1 := ⟨by rw [Lib.cell_of_heap hN1]; rfl, by rw [Lib.cell_of_heap hN1]; rfl, by rw [Lib.cell_of_heap hN1]; rfl, T0.out.keep b1, hb1, by have := b1.size; rw [S0.out] at this; omega⟩
      have hc0 : w1.cell? ⟨w.heap.size, 0, none⟩ = some (.string ⟨#[]⟩) := by rw [Lib.cell_of_heap hN1]; rfl
      have K0 := ps_drew hS1
      have K1 := ps_drew K0
      clear b1 hb1 hN1 hS1 B0 T0 N0 S0 cR
      go_wp2_with fail
      go_region_held3 (fun w' => w'.cell? ⟨w.heap.size, 1, none⟩ = some (.string se) ∧ w'.cell? ⟨w.heap.size, 2, none⟩ = some (.int .i64 t) ∧ w'.cell? ⟨w.heap.size, 3, none⟩ = some (.int .i64 (n : Int)) ∧ Rest w w') (assumption) (fail)
      go_wp2_with fail
      go_region_held3 (fun w' => w'.cell? ⟨w.heap.size, 1, none⟩ = some (.string se) ∧ w'.cell? ⟨w.heap.size, 2, none⟩ = some (.int .i64 t) ∧ w'.cell? ⟨w.heap.size, 3, none⟩ = some (.int .i64 (n : Int)) ∧ Rest w w') (assumption)
        (first | (go_at_call 27; refine (DN.out _ (by assumption)).mono ?_; rintro e w' ⟨rfl, hS⟩) | (go_at_call 28; refine (E1.out _ (by assumption) _ (by first | with_reducible exact HQ.out.1 | with_reducible exact HQ.out.2.1 | with_reducible exact HQ.out.2.2)).mono ?_; rintro e w' ⟨rfl, hS⟩) | (go_at_call 28; refine (E2.out _ (by assumption) _ (by first | with_reducible exact HRR.out.1 | with_reducible exact HRR.out.2.1 | with_reducible exact HRR.out.2.2.1 | with_reducible exact HRR.out.2.2.2)).mono ?_; rintro e w' ⟨rfl, hS⟩))
      go_wp2
      go_ret
      exact ⟨rfl, hS.2.2.2.2.1⟩
    · skip
      have ea : aheadT name = name ++ [32] := by unfold aheadT; rw [if_neg hne]
      rw [ea] at ad1
      generalize (⟨(name ++ [32]).toArray⟩ : ByteArray) = sA at ad0 ad1
      have fe : (name == ([] : List UInt8)) = false := by rw [beq_eq_false_iff_ne]; exact hne
      have fi : name.isEmpty = false := by cases name with | nil => exact absurd rfl hne | cons _ _ => rfl
      clear hne ea
      have hz : z = (n : Int) := by omega
      have hs : signL z = [43] := by unfold signL; rw [if_neg hneg]
      rw [hs] at ad6
      clear hn hs
      subst hz
      go_enter Tryd.func16, Tryd.ntmps16
      go_wp2_with fail
      refine (cR _ T0.out).mono ?_
      rintro e w1 ⟨rfl, b1⟩
      have hb1 := B0.out.trans (b1.mono B0.out.size)
      have hN1 := (b1.block w.heap.size (by rw [S0.out]; omega)).trans N0.out
      have hS1 : PS se t (n : Int) w w1 := ⟨by rw [Lib.cell_of_heap hN1]; rfl, by rw [Lib.cell_of_heap hN1]; rfl, by rw [Lib.cell_of_heap hN1]; rfl, T0.out.keep b1, hb1, by have := b1.size; rw [S0.out] at this; omega⟩
      have hc0 : w1.cell? ⟨w.heap.size, 0, none⟩ = some (.string ⟨name.toArray⟩) := by rw [Lib.cell_of_heap hN1]; rfl
      have K0 := ps_drew hS1
      have K1 := ps_drew K0
      clear b1 hb1 hN1 hS1 B0 T0 N0 S0 cR
      go_wp2_with fail
      go_region_held3 (fun w' => w'.cell? ⟨w.heap.size, 1, none⟩ = some (.string se) ∧ w'.cell? ⟨w.heap.size, 2, none⟩ = some (.int .i64 t) ∧ w'.cell? ⟨w.heap.size, 3, none⟩ = some (.int .i64 (n : Int)) ∧ Rest w w') (assumption) (fail)
      go_wp2_with fail
      go_region_held3 (fun w' => w'.cell? ⟨w.heap.size, 1, none⟩ = some (.string se) ∧ w'.cell? ⟨w.heap.size, 2, none⟩ = some (.int .i64 t) ∧ w'.cell? ⟨w.heap.size, 3, none⟩ = some (.int .i64 (n : Int)) ∧ Rest w w') (assumption)
        (first | (go_at_call 27; refine (DN.out _ (by assumption)).mono ?_; rintro e w' ⟨rfl, hS⟩) | (go_at_call 28; refine (E1.out _ (by assumption) _ (by first | with_reducible exact HQ.out.1 | with_reducible exact HQ.out.2.1 | with_reducible exact HQ.out.2.2)).mono ?_; rintro e w' ⟨rfl, hS⟩) | (go_at_call 28; refine (E2.out _ (by assumption) _ (by first | with_reducible exact HRR.out.1 | with_reducible exact HRR.out.2.1 | with_reducible exact HRR.out.2.2.1 | with_reducible exact HRR.out.2.2.2)).mono ?_; rintro e w' ⟨rfl, hS⟩))
      go_wp2
      go_ret
      exact ⟨rfl, hS.2.2.2.2.1⟩
theorem rPrint_is (i : Idt) (h1 : i.name.length ≤ 1000000) (h2 : i.email.length ≤ 1000000) (w : World) (tab : T6 w) :
    Calls Tryd.prog 16 #[idtV i] w fun e w' => e = .returned (.string ⟨(printI Lib.itoa i).toArray⟩) ∧ Below w.heap.size w w' := by
  unfold printI
  cases hr : rightI i with
  | true => rw [if_pos rfl]; exact rPrint_good i hr w tab
  | false => rw [if_neg (by decide)]; exact rPrint_bad i h1 h2 hr w tab
end Go.Proofs.YtagfnnpklefhhaaDoor
