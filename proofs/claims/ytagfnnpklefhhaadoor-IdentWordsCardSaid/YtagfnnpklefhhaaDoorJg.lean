/-
  Layer 6: Right and Print of the program.
-/
import Derived.Test.YtagfnnpklefhhaaDoorJe
import Derived.Test.YtagfnnpklefhhaaDoorJf
import Derived.Deep.RegionHeld3
namespace Go.Proofs.YtagfnnpklefhhaaDoor
open Go.RowKit
set_option linter.unusedVariables false
set_option linter.unusedSimpArgs false

/-- An ident as a value. -/
def idtV (i : Idt) : Value := .agg #[.string ⟨i.name.toArray⟩, .string ⟨i.email.toArray⟩, .int .i64 i.whn, .int .i64 i.zone]
/-- What layer 6 reads of the world. -/
structure T6 (w : World) : Prop where
  pow : Tab w
  utf : Lib.Utf8Tabs 1 2 w
theorem T6.keep {w w' : World} (h : T6 w) (hb : Below w.heap.size w w') : T6 w' := ⟨h.pow.keep hb, Utf8Tabs_below h.utf hb⟩

set_option maxHeartbeats 4000000 in
set_option maxRecDepth 100000 in
theorem Right_is (i : Idt) (h1 : i.name.length ≤ 1000000) (h2 : i.email.length ≤ 1000000) (w : World) (tab : T6 w) :
    Calls Tryd.prog 13 #[idtV i] w fun e w' => e = .returned (.bool (rightI i)) ∧ Below w.heap.size w w' := by
  obtain ⟨name, email, t, z⟩ := i
  unfold idtV rightI
  simp only at h1 h2 ⊢
  have c1 := fun w hT => rightText_is name w h1 hT
  have c2 := fun w hT => rightText_is email w h2 hT
  have c3 := fun w => rightZone_is z w
  generalize (⟨name.toArray⟩ : ByteArray) = sn at c1 ⊢
  generalize (⟨email.toArray⟩ : ByteArray) = se at c2 ⊢
  have B0 := Lib.hid ((Below.refl w.heap.size w).alloc (Nat.le_refl _) (.cells #[.string sn, .string se, .int .i64 t, .int .i64 z] 23))
  have T0 := Lib.hid (Utf8Tabs_below tab.utf B0.out)
  have N0 := Lib.hid (heap_alloc_new w (.cells #[.string sn, .string se, .int .i64 t, .int .i64 z] 23))
  have S0 := Lib.hid (show (w.alloc (.cells #[.string sn, .string se, .int .i64 t, .int .i64 z] 23)).heap.size = w.heap.size + 1 by simp)
  clear tab h1 h2
  generalize wordL name = bn at c1 ⊢
  generalize wordL email = be at c2 ⊢
  cases bn with
  | false =>
    go_enter Tryd.func13, Tryd.ntmps13
    go_wp2_with fail
    refine (c1 _ T0.out).mono ?_
    rintro e w1 ⟨rfl, b1⟩
    have hb1 := B0.out.trans (b1.mono B0.out.size)
    go_wp2
    go_ret
    exact ⟨rfl, hb1⟩
  | true =>
    go_enter Tryd.func13, Tryd.ntmps13
    go_wp2_with fail
    refine (c1 _ T0.out).mono ?_
    rintro e w1 ⟨rfl, b1⟩
    have hb1 := B0.out.trans (b1.mono B0.out.size)
    have hN1 := (b1.block w.heap.size (by rw [S0.out]; omega)).trans N0.out
    have hc1 : w1.cell? ⟨w.heap.size, 1, none⟩ = some (.string se) := by rw [Lib.cell_of_heap hN1]; rfl
    have T1 := Lib.hid (Utf8Tabs_below T0.out b1)
    have S1 := Lib.hid (show w.heap.size < w1.heap.size by have := b1.size; rw [S0.out] at this; omega)
    have N1 := Lib.hid hN1
    clear b1 hN1
    go_wp2_with fail
    refine (c2 _ T1.out).mono ?_
    rintro e w2 ⟨rfl, b2⟩
    have hb2 := hb1.trans (b2.mono hb1.size)
    have hN2 := (b2.block w.heap.size S1.out).trans N1.out
    have hc2 : w2.cell? ⟨w.heap.size, 2, none⟩ = some (.int .i64 t) := by rw [Lib.cell_of_heap hN2]; rfl
    have hc3 : w2.cell? ⟨w.heap.size, 3, none⟩ = some (.int .i64 z) := by rw [Lib.cell_of_heap hN2]; rfl
    clear hb1 b2 hN2 N1 N0 S0 S1 T1 T0 B0 c1 c2
    cases be with
    | false =>
      go_wp2
      go_ret
      exact ⟨rfl, hb2⟩
    | true =>
      by_cases t0 : 0 ≤ t
      · by_cases t1 : t ≤ 1099511627775
        · go_wp2_with fail
          refine (c3 _).mono ?_
          rintro e w3 ⟨rfl, rfl⟩
          go_wp2
          go_ret
          exact ⟨ret_bool (by rw [decide_eq_true t0, decide_eq_true t1]; simp [Bool.and_assoc]), hb2⟩
        · have u1 := decide_eq_false t1
          go_wp2
          go_ret
          exact ⟨ret_bool (by rw [u1]; simp), hb2⟩
      · have u0 := decide_eq_false t0
        go_wp2
        go_ret
        exact ⟨ret_bool (by rw [u0]; simp), hb2⟩

/-! Print. -/
def Rest (w w' : World) : Prop := T6 w' ∧ Below w.heap.size w w' ∧ w.heap.size < w'.heap.size
/-- What holds of the world while an ident's text is put together: three of its fields, where they lie; the tables. -/
abbrev PS (se : ByteArray) (t z : Int) (w w' : World) : Prop :=
  w'.cell? ⟨w.heap.size, 1, none⟩ = some (.string se) ∧ w'.cell? ⟨w.heap.size, 2, none⟩ = some (.int .i64 t) ∧ w'.cell? ⟨w.heap.size, 3, none⟩ = some (.int .i64 z) ∧ Rest w w'
theorem ps_keep {se : ByteArray} {t z : Int} {w w1 w2 : World} (h : PS se t z w w1) (hb : Below w1.heap.size w1 w2) : PS se t z w w2 := by
  obtain ⟨h1, h2, h3, h4, h5, h6⟩ := h
  exact ⟨(hb.cell (p := ⟨w.heap.size, 1, none⟩) h6).trans h1, (hb.cell (p := ⟨w.heap.size, 2, none⟩) h6).trans h2, (hb.cell (p := ⟨w.heap.size, 3, none⟩) h6).trans h3, h4.keep hb, h5.trans (hb.mono h5.size), Nat.lt_of_lt_of_le h6 hb.size⟩
theorem ps_drew {se : ByteArray} {t z : Int} {w w1 : World} (h : PS se t z w w1) : PS se t z w w1.drew := ps_keep h ((Below.refl w1.heap.size w1).drew)
theorem num_len (t : Int) (h0 : 0 ≤ t) (h1 : t ≤ 1099511627775) : (Lib.itoa t).length ≤ 21 := (take_itoa t (by omega) (by omega)).2.2

set_option maxHeartbeats 8000000 in
set_option maxRecDepth 100000 in
theorem Print_bad (i : Idt) (h1 : i.name.length ≤ 1000000) (h2 : i.email.length ≤ 1000000) (hr : rightI i = false) (w : World) (tab : T6 w) :
    Calls Tryd.prog 15 #[idtV i] w fun e w' => e = .returned (.string ⟨#[]⟩) ∧ Below w.heap.size w w' := by
  have cR := fun w t => Right_is i h1 h2 w t
  rw [hr] at cR
  unfold idtV at cR ⊢
  have B0 := Lib.hid ((Below.refl w.heap.size w).alloc (Nat.le_refl _) (.cells #[.string ⟨i.name.toArray⟩, .string ⟨i.email.toArray⟩, .int .i64 i.whn, .int .i64 i.zone] 23))
  have T0 := Lib.hid (tab.keep B0.out)
  clear tab
  go_enter Tryd.func15, Tryd.ntmps15
  go_wp2_with fail
  refine (cR _ T0.out).mono ?_
  rintro e w1 ⟨rfl, b1⟩
  go_wp2
  go_ret
  exact ⟨rfl, B0.out.trans (b1.mono B0.out.size)⟩

set_option maxHeartbeats 8000000 in
set_option maxRecDepth 100000 in
theorem Print_good (i : Idt) (hr : rightI i = true) (w : World) (tab : T6 w) :
    Calls Tryd.prog 15 #[idtV i] w fun e w' => e = .returned (.string ⟨(textT i.name i.email (Lib.itoa i.whn) (zoneT i.zone)).toArray⟩) ∧ Below w.heap.size w w' := by
  obtain ⟨r1, r2, r3, r4, r5, r6⟩ := (right_iff i).1 hr
  have l1 := ((word_iff _).1 r1).2.1
  have l2 := ((word_iff _).1 r2).2.1
  have l3 := num_len i.whn r3 r4
  have l4 := zone_len i.zone
  have cR := fun w t => Right_is i (by omega) (by omega) w t
  rw [hr] at cR
  have cN := fun w t => Number_any i.whn (by omega) (by omega) w t
  have cZ := fun w t => zoneText_is i.zone r5 r6 w t
  unfold idtV at cR ⊢
  obtain ⟨name, email, t, z⟩ := i
  simp only at cR cN cZ l1 l2 l3 l4 ⊢
  clear r1 r2 hr
  generalize Lib.itoa t = num at cN l3 ⊢
  generalize zoneT z = zt at cZ l4 ⊢
  have B0 := Lib.hid ((Below.refl w.heap.size w).alloc (Nat.le_refl _) (.cells #[.string ⟨name.toArray⟩, .string ⟨email.toArray⟩, .int .i64 t, .int .i64 z] 23))
  have T0 := Lib.hid (tab.keep B0.out)
  have N0 := Lib.hid (heap_alloc_new w (.cells #[.string ⟨name.toArray⟩, .string ⟨email.toArray⟩, .int .i64 t, .int .i64 z] 23))
  have S0 := Lib.hid (show (w.alloc (.cells #[.string ⟨name.toArray⟩, .string ⟨email.toArray⟩, .int .i64 t, .int .i64 z] 23)).heap.size = w.heap.size + 1 by simp)
  have la : (aheadT name).length ≤ 201 := by
    unfold aheadT
    split
    · simp
    · simp; omega
  have ad0 := fun w => add_lists (P := Tryd.prog) w name [32] (by simp; omega)
  have ad1 := fun w => add_lists (P := Tryd.prog) w (aheadT name) [60] (by simp; omega)
  have ad2 := fun w => add_lists (P := Tryd.prog) w (aheadT name ++ [60]) email (by simp; omega)
  have ad3 := fun w => add_lists (P := Tryd.prog) w (aheadT name ++ [60] ++ email) [62, 32] (by simp; omega)
  have ad4 := fun w => add_lists (P := Tryd.prog) w (aheadT name ++ [60] ++ email ++ [62, 32]) num (by simp; omega)
  have ad5 := fun w => add_lists (P := Tryd.prog) w (aheadT name ++ [60] ++ email ++ [62, 32] ++ num) [32] (by simp; omega)
  have ad6 := fun w => add_lists (P := Tryd.prog) w (aheadT name ++ [60] ++ email ++ [62, 32] ++ num ++ [32]) zt (by simp; omega)
  have E := Lib.hid (show textT name email num zt = aheadT name ++ [60] ++ email ++ [62, 32] ++ num ++ [32] ++ zt by unfold textT; simp)
  rw [E.out]
  generalize (⟨(aheadT name ++ [60] ++ email ++ [62, 32] ++ num ++ [32] ++ zt).toArray⟩ : ByteArray) = s6 at ad6 ⊢
  generalize (⟨(aheadT name ++ [60] ++ email ++ [62, 32] ++ num ++ [32]).toArray⟩ : ByteArray) = s5 at ad5 ad6
  generalize (⟨(aheadT name ++ [60] ++ email ++ [62, 32] ++ num).toArray⟩ : ByteArray) = s4 at ad4 ad5
  generalize (⟨(aheadT name ++ [60] ++ email ++ [62, 32]).toArray⟩ : ByteArray) = s3 at ad3 ad4
  generalize (⟨(aheadT name ++ [60] ++ email).toArray⟩ : ByteArray) = s2 at ad2 ad3
  generalize (⟨(aheadT name ++ [60]).toArray⟩ : ByteArray) = s1 at ad1 ad2
  generalize (⟨email.toArray⟩ : ByteArray) = se at *
  generalize (⟨num.toArray⟩ : ByteArray) = sn at *
  generalize (⟨zt.toArray⟩ : ByteArray) = sz at *
  have dN := fun w' (h : PS se t z w w') => ((cN w' h.2.2.2.1.pow).mono (fun e w'' ⟨he, hb⟩ => ⟨he, ps_keep h hb⟩) : Calls Tryd.prog 26 #[.int .i64 t] w' fun e w'' => e = .returned (.string sn) ∧ PS se t z w w'')
  have dZ := fun w' (h : PS se t z w w') => ((cZ w' h.2.2.2.1.pow).mono (fun e w'' ⟨he, hb⟩ => ⟨he, ps_keep h hb⟩) : Calls Tryd.prog 23 #[.int .i64 z] w' fun e w'' => e = .returned (.string sz) ∧ PS se t z w w'')
  have DN := Lib.hid dN
  have DZ := Lib.hid dZ
  clear tab E l1 l2 l3 l4 la r3 r4 r5 r6 cN cZ dN dZ
  by_cases hne : name = []
  · subst hne
    have ea : aheadT ([] : List UInt8) = [] := rfl
    rw [ea] at ad1
    go_enter Tryd.func15, Tryd.ntmps15
    go_wp2_with fail
    refine (cR _ T0.out).mono ?_
    rintro e w1 ⟨rfl, b1⟩
    have hb1 := B0.out.trans (b1.mono B0.out.size)
    have hN1 := (b1.block w.heap.size (by rw [S0.out]; omega)).trans N0.out
    have hS1 : PS se t z w w1 := ⟨by rw [Lib.cell_of_heap hN1]; rfl, by rw [Lib.cell_of_heap hN1]; rfl, by rw [Lib.cell_of_heap hN1]; rfl, T0.out.keep b1, hb1, by have := b1.size; rw [S0.out] at this; omega⟩
    have hc0 : w1.cell? ⟨w.heap.size, 0, none⟩ = some (.string ⟨#[]⟩) := by rw [Lib.cell_of_heap hN1]; rfl
    have K0 := ps_drew hS1
    clear b1 hb1 hN1 hS1 B0 T0 N0 S0 cR
    go_wp2_with fail
    go_region_held3 (fun w' => w'.cell? ⟨w.heap.size, 1, none⟩ = some (.string se) ∧ w'.cell? ⟨w.heap.size, 2, none⟩ = some (.int .i64 t) ∧ w'.cell? ⟨w.heap.size, 3, none⟩ = some (.int .i64 z) ∧ Rest w w') (assumption)
      (first | (go_at_call 26; refine (DN.out _ (by assumption)).mono ?_; rintro e w' ⟨rfl, hS⟩) | (go_at_call 23; refine (DZ.out _ (by assumption)).mono ?_; rintro e w' ⟨rfl, hS⟩))
    go_wp2
    go_ret
    exact ⟨rfl, hS.2.2.2.2.1⟩
  · have ea : aheadT name = name ++ [32] := by unfold aheadT; rw [if_neg hne]
    rw [ea] at ad1
    generalize (⟨(name ++ [32]).toArray⟩ : ByteArray) = sA at ad0 ad1
    have fe : (name == ([] : List UInt8)) = false := by rw [beq_eq_false_iff_ne]; exact hne
    have fi : name.isEmpty = false := by cases name with | nil => exact absurd rfl hne | cons _ _ => rfl
    clear hne ea
    go_enter Tryd.func15, Tryd.ntmps15
    go_wp2_with fail
    refine (cR _ T0.out).mono ?_
    rintro e w1 ⟨rfl, b1⟩
    have hb1 := B0.out.trans (b1.mono B0.out.size)
    have hN1 := (b1.block w.heap.size (by rw [S0.out]; omega)).trans N0.out
    have hS1 : PS se t z w w1 := ⟨by rw [Lib.cell_of_heap hN1]; rfl, by rw [Lib.cell_of_heap hN1]; rfl, by rw [Lib.cell_of_heap hN1]; rfl, T0.out.keep b1, hb1, by have := b1.size; rw [S0.out] at this; omega⟩
    have hc0 : w1.cell? ⟨w.heap.size, 0, none⟩ = some (.string ⟨name.toArray⟩) := by rw [Lib.cell_of_heap hN1]; rfl
    have K0 := ps_drew hS1
    clear b1 hb1 hN1 hS1 B0 T0 N0 S0 cR
    go_wp2_with fail
    go_region_held3 (fun w' => w'.cell? ⟨w.heap.size, 1, none⟩ = some (.string se) ∧ w'.cell? ⟨w.heap.size, 2, none⟩ = some (.int .i64 t) ∧ w'.cell? ⟨w.heap.size, 3, none⟩ = some (.int .i64 z) ∧ Rest w w') (assumption)
      (first | (go_at_call 26; refine (DN.out _ (by assumption)).mono ?_; rintro e w' ⟨rfl, hS⟩) | (go_at_call 23; refine (DZ.out _ (by assumption)).mono ?_; rintro e w' ⟨rfl, hS⟩))
    go_wp2
    go_ret
    exact ⟨rfl, hS.2.2.2.2.1⟩
theorem Print_is (i : Idt) (h1 : i.name.length ≤ 1000000) (h2 : i.email.length ≤ 1000000) (w : World) (tab : T6 w) :
    Calls Tryd.prog 15 #[idtV i] w fun e w' => e = .returned (.string ⟨(printI Lib.itoa i).toArray⟩) ∧ Below w.heap.size w w' := by
  unfold printI
  cases hr : rightI i with
  | true => rw [if_pos rfl]; exact Print_good i hr w tab
  | false => rw [if_neg (by decide)]; exact Print_bad i h1 h2 hr w tab
end Go.Proofs.YtagfnnpklefhhaaDoor
