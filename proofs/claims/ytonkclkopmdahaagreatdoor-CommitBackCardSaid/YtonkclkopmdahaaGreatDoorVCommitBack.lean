/-
  The law CommitBack: its walk.
-/
import Derived.Test.YtonkclkopmdahaaGreatDoorFu22
namespace Go.Proofs.YtonkclkopmdahaaGreatDoor.commitBack
set_option maxRecDepth 20000
open Go.RowKit
set_option linter.unusedVariables false
set_option linter.unusedSimpArgs false

set_option maxHeartbeats 4000000 in
theorem walk_few (w : World) (t : List UInt8) (a0 : Option Addr) (n c0 : Nat) (l : List (List UInt8)) (ia ic : Idt) (tx : List UInt8) (hi : RecIn w t a0 n c0 l ia ic tx) (hr : ia.name.length ≤ reachN ∧ ia.email.length ≤ reachN ∧ ic.name.length ≤ reachN ∧ ic.email.length ≤ reachN) (hf : fewC n ia ic tx = false)
    (a2 : Option Addr) (n2 c2 : Nat) (tab : T7 w) :
    Calls Tryz.prog 4 #[.agg (arrC t (.slice a0 n c0) ia ic tx), .slice a2 n2 c2] w fun e w' => e = .returned (.bool true) ∧ Below w.heap.size w w' := by
  have C1 := Lib.hid (fun u => fewC_is t a0 n c0 ia ic tx u hi.tree hr.1 hr.2.1 hr.2.2.1 hr.2.2.2)
  rw [hf] at C1
  have CA := Lib.hid (fun u (h : Below w.heap.size w u) => awake9 u (tab.keep h).t6)
  obtain ⟨A1, hA1⟩ : ∃ A, arrC t (.slice a0 n c0) ia ic tx = A := ⟨_, rfl⟩
  have I1 := Lib.hid (infoC_arr A1 (by rw [← hA1]; exact arrC_size _ _ _ _ _ hi.tree))
  have B1 := Lib.hid ((Below.refl w.heap.size w).alloc (Nat.le_refl _) (.cells A1 28))
  have H1 := Lib.hid (heap_alloc_new w (.cells A1 28))
  rw [hA1] at C1 ⊢
  clear hi hr hf tab hA1
  go_enter Tryz.func4, Tryz.ntmps4
  go_wp2_with (first
    | (with_reducible refine wpList_load_all 28 (.tmp 2) rfl (by kernel_rfl) w.heap.size A1 28 (0, 0) rfl H1.out _ Tryz.underlying28 rfl I1.out ?_)
    | fail)
  refine (C1.out _).mono ?_
  rintro e w2 ⟨rfl, hb2⟩
  have B2 := Lib.hid (B1.out.trans (hb2.mono B1.out.size))
  clear hb2
  go_wp2_with fail
  refine (CA.out _ B2.out).mono ?_
  rintro e w3 ⟨rfl, hb3⟩
  have B3 := Lib.hid (B2.out.trans (hb3.mono B2.out.size))
  clear hb3
  go_wp2
  go_ret
  exact ⟨rfl, B3.out⟩
set_option maxHeartbeats 4000000 in
theorem walk_long (w : World) (t : List UInt8) (a0 : Option Addr) (n c0 : Nat) (l : List (List UInt8)) (ia ic : Idt) (tx : List UInt8) (hi : RecIn w t a0 n c0 l ia ic tx) (hr : ia.name.length ≤ reachN ∧ ia.email.length ≤ reachN ∧ ic.name.length ≤ reachN ∧ ic.email.length ≤ reachN) (hf : fewC n ia ic tx = true)
    (a2 : Option Addr) (n2 c2 : Nat) (h2 : 4000 < n2) (tab : T7 w) :
    Calls Tryz.prog 4 #[.agg (arrC t (.slice a0 n c0) ia ic tx), .slice a2 n2 c2] w fun e w' => e = .returned (.bool true) ∧ Below w.heap.size w w' := by
  have C1 := Lib.hid (fun u => fewC_is t a0 n c0 ia ic tx u hi.tree hr.1 hr.2.1 hr.2.2.1 hr.2.2.2)
  rw [hf] at C1
  have CA := Lib.hid (fun u (h : Below w.heap.size w u) => awake9 u (tab.keep h).t6)
  obtain ⟨A1, hA1⟩ : ∃ A, arrC t (.slice a0 n c0) ia ic tx = A := ⟨_, rfl⟩
  have I1 := Lib.hid (infoC_arr A1 (by rw [← hA1]; exact arrC_size _ _ _ _ _ hi.tree))
  have B1 := Lib.hid ((Below.refl w.heap.size w).alloc (Nat.le_refl _) (.cells A1 28))
  have H1 := Lib.hid (heap_alloc_new w (.cells A1 28))
  rw [hA1] at C1 ⊢
  have g2 : (n2 : Int) > 4000 := by omega
  clear hi hr hf tab hA1 h2
  go_enter Tryz.func4, Tryz.ntmps4
  go_wp2_with (first
    | (with_reducible refine wpList_load_all 28 (.tmp 2) rfl (by kernel_rfl) w.heap.size A1 28 (0, 0) rfl H1.out _ Tryz.underlying28 rfl I1.out ?_)
    | fail)
  refine (C1.out _).mono ?_
  rintro e w2 ⟨rfl, hb2⟩
  have B2 := Lib.hid (B1.out.trans (hb2.mono B1.out.size))
  clear hb2
  go_wp2_with fail
  refine (CA.out _ B2.out).mono ?_
  rintro e w3 ⟨rfl, hb3⟩
  have B3 := Lib.hid (B2.out.trans (hb3.mono B2.out.size))
  clear hb3
  go_wp2
  go_ret
  exact ⟨rfl, B3.out⟩
/-- Print of a record that was read. -/
theorem print_red (A : Array Value) (c : Rcd) (w : World) (tab : T6 w) (h : RecRed w A c) (hm : c.parents.length ≤ 1000000) (n1 : c.author.name.length ≤ 1000000) (n2 : c.author.email.length ≤ 1000000) (n3 : c.committer.name.length ≤ 1000000) (n4 : c.committer.email.length ≤ 1000000) :
    Calls Tryz.prog 10 #[.agg A] w fun e w' => ∃ v, e = .returned (.tuple #[v, .int .i64 (printR c).2]) ∧ Red w' v (printR c).1 ∧ Below w.heap.size w w' := by
  obtain ⟨hf, pa, ca, rfl, h1, h2, hi, _⟩ := h
  exact Print9_is c.tree pa c.parents.length ca c.parents c.author c.committer c.text w tab hf.tree hi rfl hm h1 hf.parents n1 n2 n3 n4
theorem printR_yes {c : Rcd} (h : rightR c = true) : printR c = (printC hexL (printI Lib.itoa) c, 0) := by unfold printR; rw [if_pos h]
theorem printR_no {c : Rcd} (h : rightR c = false) : printR c = ([], 4) := by unfold printR; rw [h]; rfl
theorem parsedR_print {c : Rcd} (hf : c.Fit) (h : rightR c = true) : parsedR (printC hexL (printI Lib.itoa) c) = (c, 0) := by
  unfold parsedR
  rw [show parseK (printC hexL (printI Lib.itoa) c) = some c from parse_printC wr9 hf h]
theorem parsedR_nil : parsedR [] = (rcdZ, 4) := by
  unfold parsedR
  rw [show parseK [] = none from by unfold parseK parseC; rw [show lineL [] treeW = none from rfl]]
theorem right_zero : rightR rcdZ = false := by decide +kernel
theorem right_names {c : Rcd} (h : rightR c = true) : c.author.name.length ≤ 200 ∧ c.author.email.length ≤ 200 ∧ c.committer.name.length ≤ 200 ∧ c.committer.email.length ≤ 200 := by
  obtain ⟨-, -, -, h4, h5, -, -⟩ := (rightR_iff c).1 h
  exact ⟨(right_len _ h4).1, (right_len _ h4).2, (right_len _ h5).1, (right_len _ h5).2⟩
structure PS (w : World) (A1 : Array Value) (u : World) : Prop where
  one : u.heap[w.heap.size]? = some (.cells A1 28 (0, 0))
  below : Below w.heap.size w u
theorem PS.keep {w u u' : World} {A1 : Array Value} (h : PS w A1 u) (b : Below u.heap.size u u') : PS w A1 u' := ⟨heap_keep h.one b, h.below.trans (b.mono h.below.size)⟩
set_option maxHeartbeats 32000000 in
theorem walk_good (w : World) (t : List UInt8) (a0 : Option Addr) (n c0 : Nat) (l : List (List UInt8)) (ia ic : Idt) (tx : List UInt8) (hi : RecIn w t a0 n c0 l ia ic tx) (hr : ia.name.length ≤ reachN ∧ ia.email.length ≤ reachN ∧ ic.name.length ≤ reachN ∧ ic.email.length ≤ reachN) (hf : fewC n ia ic tx = true)
    (a2 : Option Addr) (n2 c2 : Nat) (m : List UInt8) (hb2 : BAt w a2 m) (hl2 : n2 = m.length) (hno2 : a2 = none → n2 = 0 ∧ c2 = 0) (hc2 : n2 ≤ c2) (h2 : n2 ≤ 4000) (tab : T7 w) :
    Calls Tryz.prog 4 #[.agg (arrC t (.slice a0 n c0) ia ic tx), .slice a2 n2 c2] w fun e w' => e = .returned (.bool true) ∧ Below w.heap.size w w' := by
  obtain ⟨f1, f2, f3⟩ := fewC_yes hf
  have g2 : ¬ ((n2 : Int) > 4000) := by omega
  have hn40 : n ≤ 40 := f1
  have C1 := Lib.hid (fun u => fewC_is t a0 n c0 ia ic tx u hi.tree hr.1 hr.2.1 hr.2.2.1 hr.2.2.2)
  rw [hf] at C1
  have HRED := Lib.hid (fun u (h : Below w.heap.size w u) => (show RecRed u (arrC t (.slice a0 n c0) ia ic tx) ⟨t, l, ia, ic, tx⟩ from ⟨⟨hi.tree, hi.each⟩, a0, c0, by rw [hi.len], by (have := hi.cap.1; have := hi.len; simp only; omega), hi.cap.2, hi.ids.keep h, fun e => ⟨by (have := (hi.nil e).1; have := hi.len; simp only; omega), (hi.nil e).2⟩⟩))
  have HFIT := Lib.hid (show Rcd.Fit ⟨t, l, ia, ic, tx⟩ from ⟨hi.tree, hi.each⟩)
  have HL40 := Lib.hid (show l.length ≤ 40 by have := hi.len; omega)
  obtain ⟨A1, hA1⟩ : ∃ A, arrC t (.slice a0 n c0) ia ic tx = A := ⟨_, rfl⟩
  have A1S := Lib.hid (show A1.size = 30 by rw [← hA1]; exact arrC_size _ _ _ _ _ hi.tree)
  have I1 := Lib.hid (infoC_arr A1 A1S.out)
  have S1 := Lib.hid (show PS w A1 (w.alloc (.cells A1 28)) from ⟨heap_alloc_new w (.cells A1 28), (Below.refl w.heap.size w).alloc (Nat.le_refl _) (.cells A1 28)⟩)
  have CPP := Lib.hid (fun u (h : PS w A1 u) => Print9_is t a0 n c0 l ia ic tx u (tab.keep h.below).t6 hi.tree (hi.ids.keep h.below) hi.len (by omega) hi.cap.1 hi.each (by omega) (by omega) (by omega) (by omega))
  have CRR := Lib.hid (fun u (h : PS w A1 u) => rRight9 t a0 n c0 l ia ic tx u (tab.keep h.below).t6 hi.tree (hi.ids.keep h.below) hi.len (by omega) hi.cap.1 hi.each (by omega) (by omega) (by omega) (by omega) (by omega))
  have CQ := Lib.hid (fun (s : List UInt8) (hs : s.length ≤ 1000000) xa xn xc u (h : PS w A1 u) (hb : BAt u xa s) (hx : xn = s.length) => Parse9_is xa xn xc s u (tab.keep h.below) hx hb (by omega))
  have CPZ := Lib.hid (fun A c u (h : PS w A1 u) hred hm n1 n2 n3 n4 => print_red A c u (tab.keep h.below).t6 hred hm n1 n2 n3 n4)
  have CA := Lib.hid (fun u (h : PS w A1 u) => awake9 u (tab.keep h.below).t6)
  have HB2 := Lib.hid (fun u (h : PS w A1 u) => hb2.keep h.below)
  have HL2 := Lib.hid hl2
  rw [hA1] at C1 HRED CPP CRR ⊢
  obtain ⟨z, hz0, hzs, hzv, hzb, hz1⟩ := zRec_any
  have ZS := Lib.hid hzs
  have HPL := Lib.hid (show rightR ⟨t, l, ia, ic, tx⟩ = true → (printC hexL (printI Lib.itoa) ⟨t, l, ia, ic, tx⟩).length ≤ 1000000 from fun h => by have := printK_len (c := ⟨t, l, ia, ic, tx⟩) ⟨hi.tree, hi.each⟩ h; unfold printK at this; omega)
  clear hi hr hf tab hA1 f1 f2 f3 hb2 hl2 hno2 hc2 hz0 hzs hzb hz1
  cases hrr : rightR ⟨t, l, ia, ic, tx⟩ with
  | true =>
    have PLL := Lib.hid (HPL.out hrr)
    obtain ⟨PL, hPL⟩ : ∃ x, printC hexL (printI Lib.itoa) ⟨t, l, ia, ic, tx⟩ = x := ⟨_, rfl⟩
    have hpq := parsedR_print HFIT.out hrr
    rw [printR_yes hrr, hPL] at CPP
    rw [hPL] at PLL hpq
    have HPQ := Lib.hid hpq
    simp only at CPP
    rw [hrr] at CRR
    clear hrr hPL hpq HPL
    cases hpm : parseK m with
    | none =>
      obtain ⟨RC, hRC⟩ : ∃ x, rcdZ = x := ⟨_, rfl⟩
      have HRC := Lib.hid (show RC.parents.length ≤ 16 ∧ RC.author.name.length ≤ 200 ∧ RC.author.email.length ≤ 200 ∧ RC.committer.name.length ≤ 200 ∧ RC.committer.email.length ≤ 200 by rw [← hRC]; decide)
      have HPR2 := Lib.hid (show printR RC = ([], 4) by rw [← hRC]; exact printR_no right_zero)
      have CZ := Lib.hid (fun u (h : PS w A1 u) => CQ.out m (by have := HL2.out; omega) a2 n2 c2 u h (HB2.out u h) HL2.out)
      rw [show parsedR m = (RC, 4) by unfold parsedR; rw [hpm, ← hRC]] at CZ
      simp only at CZ
      clear hRC hpm
      go_enter Tryz.func4, Tryz.ntmps4
      go_wp2_with (first
        | (with_reducible refine wpList_load_all 28 (.tmp 2) rfl (by kernel_rfl) w.heap.size A1 28 (0, 0) rfl S1.out.one _ Tryz.underlying28 rfl I1.out ?_)
        | fail)
      refine (C1.out _).mono ?_
      rintro e w2 ⟨rfl, hb2⟩
      have S2 := Lib.hid (S1.out.keep hb2)
      clear hb2 C1 S1
      go_wp2_with (first
        | (with_reducible refine wpList_load_all 28 (.tmp 2) rfl (by kernel_rfl) w.heap.size A1 28 (0, 0) rfl S2.out.one _ Tryz.underlying28 rfl I1.out ?_)
        | fail)
      refine (CPP.out _ S2.out).mono ?_
      rintro e w3 ⟨x, rfl, hx3, hb3⟩
      have S3 := Lib.hid (S2.out.keep hb3)
      obtain ⟨xa, xc, hx, _, _, _⟩ := red_shape hx3
      obtain ⟨xn, hxn⟩ : ∃ x, PL.length = x := ⟨_, rfl⟩
      rw [hxn] at hx
      subst hx
      have CY := CQ.out PL PLL.out xa xn xc w3 S3.out (red_bat9 hx3).1 (red_bat9 hx3).2
      rw [HPQ.out] at CY
      simp only at CY
      clear hb3 hx3 S2 CPP hxn
      go_wp2_with fail
      refine CY.mono ?_
      rintro e w4 ⟨AY, rfl, hy4, hb4⟩
      have S4 := Lib.hid (S3.out.keep hb4)
      have Y4 := Lib.hid hy4
      obtain ⟨ays, ayo⟩ := rec_size hy4
      have AYS := Lib.hid ays; have AYO := Lib.hid ayo
      have IY := Lib.hid (infoC_arr AY ays)
      clear hb4 hy4 S3 ays ayo CY
      go_wp2_with (first
        | (with_reducible refine wpList_store_all rfl 28 (.tmp 7) (.tmp 30) rfl w4.heap.size AY rfl rfl 28 z (heap_alloc_new w4 _) IY.out (AYS.out.trans ZS.out.symm) AYO.out ?_)
        | fail)
      intro w5 hg5 ho5 hs5
      have hb5 := ((Below.refl w4.heap.size w4).alloc (Nat.le_refl _) (.cells z 28)).trans (ho5.below (Nat.le_refl _) (by simp))
      have S5 := Lib.hid (S4.out.keep hb5)
      have Y5 := Lib.hid (Y4.out.keep hb5)
      have KY5 := Lib.hid hg5
      clear hg5 ho5 hs5 hb5 S4 Y4
      generalize w4.heap.size = gy at *
      go_wp2_with fail
      refine (CA.out _ S5.out).mono ?_
      rintro e w6 ⟨rfl, hb6⟩
      have S6 := Lib.hid (S5.out.keep hb6)
      have Y6 := Lib.hid (Y5.out.keep hb6)
      have KY6 := Lib.hid (heap_keep KY5.out hb6)
      clear hb6 S5 Y5 KY5
      go_wp2_with (first
        | (with_reducible refine wpList_load_all 28 (.tmp 2) rfl (by kernel_rfl) w.heap.size A1 28 (0, 0) rfl S6.out.one _ Tryz.underlying28 rfl I1.out ?_)
        | fail)
      refine (CRR.out _ S6.out).mono ?_
      rintro e w7 ⟨rfl, hb7⟩
      have S7 := Lib.hid (S6.out.keep hb7)
      have Y7 := Lib.hid (Y6.out.keep hb7)
      have KY7 := Lib.hid (heap_keep KY6.out hb7)
      clear hb7 S6 Y6 KY6 CRR
      have CRC := record_red AY A1 ⟨t, l, ia, ic, tx⟩ w7 Y7.out (HRED.out _ S7.out.below) (by have := HL40.out; simp only; omega)
      go_wp2_with (first
        | (with_reducible refine wpList_load_all 28 (.tmp 7) rfl (by kernel_rfl) gy AY 28 (0, 0) rfl KY7.out _ Tryz.underlying28 rfl IY.out ?_)
        | (with_reducible refine wpList_load_all 28 (.tmp 2) rfl (by kernel_rfl) w.heap.size A1 28 (0, 0) rfl S7.out.one _ Tryz.underlying28 rfl I1.out ?_)
        | fail)
      refine CRC.mono ?_
      rintro e w8 ⟨rfl, hb8⟩
      have S8 := Lib.hid (S7.out.keep hb8)
      clear hb8 S7 CRC
      go_wp2_with fail
      refine (CZ.out _ S8.out).mono ?_
      rintro e w9 ⟨AZ, rfl, hz9, hb9⟩
      have S9 := Lib.hid (S8.out.keep hb9)
      have Z9 := Lib.hid hz9
      obtain ⟨azs, azo⟩ := rec_size hz9
      have AZS := Lib.hid azs; have AZO := Lib.hid azo
      have IZ := Lib.hid (infoC_arr AZ azs)
      clear hb9 hz9 S8 azs azo
      go_wp2_with (first
        | (with_reducible refine wpList_store_all rfl 28 (.tmp 9) (.tmp 58) rfl w9.heap.size AZ rfl rfl 28 z (heap_alloc_new w9 _) IZ.out (AZS.out.trans ZS.out.symm) AZO.out ?_)
        | fail)
      intro w10 hg10 ho10 hs10
      have hb10 := ((Below.refl w9.heap.size w9).alloc (Nat.le_refl _) (.cells z 28)).trans (ho10.below (Nat.le_refl _) (by simp))
      have S10 := Lib.hid (S9.out.keep hb10)
      have Z10 := Lib.hid (Z9.out.keep hb10)
      have KZ10 := Lib.hid hg10
      clear hg10 ho10 hs10 hb10 S9 Z9
      have CP := CPZ.out AZ RC w10 S10.out Z10.out (by have := HRC.out.1; omega) (by have := HRC.out.2.1; omega) (by have := HRC.out.2.2.1; omega) (by have := HRC.out.2.2.2.1; omega) (by have := HRC.out.2.2.2.2; omega)
      rw [HPR2.out] at CP
      simp only at CP
      go_wp2_with (first
        | (with_reducible refine wpList_load_all 28 (.tmp 9) rfl (by kernel_rfl) w9.heap.size AZ 28 (0, 0) rfl KZ10.out _ Tryz.underlying28 rfl IZ.out ?_)
        | fail)
      refine CP.mono ?_
      rintro e w11 ⟨y, rfl, hy11, hb11⟩
      have S11 := Lib.hid (S10.out.keep hb11)
      obtain ⟨ya, yc, hy, _, _, _⟩ := red_shape hy11
      obtain ⟨yn, hyn⟩ : ∃ x, ([] : List UInt8).length = x := ⟨_, rfl⟩
      rw [hyn] at hy
      subst hy
      clear hb11 hy11 S10 CP hyn
      go_wp2
      go_ret
      exact ⟨rfl, S11.out.below⟩
    | some RC =>
      obtain ⟨q1, q2, q3⟩ := parsed_right hpm
      have HRC := Lib.hid (show RC.parents.length ≤ 16 ∧ RC.author.name.length ≤ 200 ∧ RC.author.email.length ≤ 200 ∧ RC.committer.name.length ≤ 200 ∧ RC.committer.email.length ≤ 200 from ⟨((rightR_iff RC).1 q2).2.1, right_names q2⟩)
      have HPR2 := Lib.hid (show printR RC = (m, 0) by rw [printR_yes q2, q3])
      have CZ := Lib.hid (fun u (h : PS w A1 u) => CQ.out m (by have := HL2.out; omega) a2 n2 c2 u h (HB2.out u h) HL2.out)
      rw [show parsedR m = (RC, 0) by unfold parsedR; rw [hpm]] at CZ
      simp only at CZ
      clear q1 q2 q3 hpm
      go_enter Tryz.func4, Tryz.ntmps4
      go_wp2_with (first
        | (with_reducible refine wpList_load_all 28 (.tmp 2) rfl (by kernel_rfl) w.heap.size A1 28 (0, 0) rfl S1.out.one _ Tryz.underlying28 rfl I1.out ?_)
        | fail)
      refine (C1.out _).mono ?_
      rintro e w2 ⟨rfl, hb2⟩
      have S2 := Lib.hid (S1.out.keep hb2)
      clear hb2 C1 S1
      go_wp2_with (first
        | (with_reducible refine wpList_load_all 28 (.tmp 2) rfl (by kernel_rfl) w.heap.size A1 28 (0, 0) rfl S2.out.one _ Tryz.underlying28 rfl I1.out ?_)
        | fail)
      refine (CPP.out _ S2.out).mono ?_
      rintro e w3 ⟨x, rfl, hx3, hb3⟩
      have S3 := Lib.hid (S2.out.keep hb3)
      obtain ⟨xa, xc, hx, _, _, _⟩ := red_shape hx3
      obtain ⟨xn, hxn⟩ : ∃ x, PL.length = x := ⟨_, rfl⟩
      rw [hxn] at hx
      subst hx
      have CY := CQ.out PL PLL.out xa xn xc w3 S3.out (red_bat9 hx3).1 (red_bat9 hx3).2
      rw [HPQ.out] at CY
      simp only at CY
      clear hb3 hx3 S2 CPP hxn
      go_wp2_with fail
      refine CY.mono ?_
      rintro e w4 ⟨AY, rfl, hy4, hb4⟩
      have S4 := Lib.hid (S3.out.keep hb4)
      have Y4 := Lib.hid hy4
      obtain ⟨ays, ayo⟩ := rec_size hy4
      have AYS := Lib.hid ays; have AYO := Lib.hid ayo
      have IY := Lib.hid (infoC_arr AY ays)
      clear hb4 hy4 S3 ays ayo CY
      go_wp2_with (first
        | (with_reducible refine wpList_store_all rfl 28 (.tmp 7) (.tmp 30) rfl w4.heap.size AY rfl rfl 28 z (heap_alloc_new w4 _) IY.out (AYS.out.trans ZS.out.symm) AYO.out ?_)
        | fail)
      intro w5 hg5 ho5 hs5
      have hb5 := ((Below.refl w4.heap.size w4).alloc (Nat.le_refl _) (.cells z 28)).trans (ho5.below (Nat.le_refl _) (by simp))
      have S5 := Lib.hid (S4.out.keep hb5)
      have Y5 := Lib.hid (Y4.out.keep hb5)
      have KY5 := Lib.hid hg5
      clear hg5 ho5 hs5 hb5 S4 Y4
      generalize w4.heap.size = gy at *
      go_wp2_with fail
      refine (CA.out _ S5.out).mono ?_
      rintro e w6 ⟨rfl, hb6⟩
      have S6 := Lib.hid (S5.out.keep hb6)
      have Y6 := Lib.hid (Y5.out.keep hb6)
      have KY6 := Lib.hid (heap_keep KY5.out hb6)
      clear hb6 S5 Y5 KY5
      go_wp2_with (first
        | (with_reducible refine wpList_load_all 28 (.tmp 2) rfl (by kernel_rfl) w.heap.size A1 28 (0, 0) rfl S6.out.one _ Tryz.underlying28 rfl I1.out ?_)
        | fail)
      refine (CRR.out _ S6.out).mono ?_
      rintro e w7 ⟨rfl, hb7⟩
      have S7 := Lib.hid (S6.out.keep hb7)
      have Y7 := Lib.hid (Y6.out.keep hb7)
      have KY7 := Lib.hid (heap_keep KY6.out hb7)
      clear hb7 S6 Y6 KY6 CRR
      have CRC := record_red AY A1 ⟨t, l, ia, ic, tx⟩ w7 Y7.out (HRED.out _ S7.out.below) (by have := HL40.out; simp only; omega)
      go_wp2_with (first
        | (with_reducible refine wpList_load_all 28 (.tmp 7) rfl (by kernel_rfl) gy AY 28 (0, 0) rfl KY7.out _ Tryz.underlying28 rfl IY.out ?_)
        | (with_reducible refine wpList_load_all 28 (.tmp 2) rfl (by kernel_rfl) w.heap.size A1 28 (0, 0) rfl S7.out.one _ Tryz.underlying28 rfl I1.out ?_)
        | fail)
      refine CRC.mono ?_
      rintro e w8 ⟨rfl, hb8⟩
      have S8 := Lib.hid (S7.out.keep hb8)
      clear hb8 S7 CRC
      go_wp2_with fail
      refine (CZ.out _ S8.out).mono ?_
      rintro e w9 ⟨AZ, rfl, hz9, hb9⟩
      have S9 := Lib.hid (S8.out.keep hb9)
      have Z9 := Lib.hid hz9
      obtain ⟨azs, azo⟩ := rec_size hz9
      have AZS := Lib.hid azs; have AZO := Lib.hid azo
      have IZ := Lib.hid (infoC_arr AZ azs)
      clear hb9 hz9 S8 azs azo
      go_wp2_with (first
        | (with_reducible refine wpList_store_all rfl 28 (.tmp 9) (.tmp 58) rfl w9.heap.size AZ rfl rfl 28 z (heap_alloc_new w9 _) IZ.out (AZS.out.trans ZS.out.symm) AZO.out ?_)
        | fail)
      intro w10 hg10 ho10 hs10
      have hb10 := ((Below.refl w9.heap.size w9).alloc (Nat.le_refl _) (.cells z 28)).trans (ho10.below (Nat.le_refl _) (by simp))
      have S10 := Lib.hid (S9.out.keep hb10)
      have Z10 := Lib.hid (Z9.out.keep hb10)
      have KZ10 := Lib.hid hg10
      clear hg10 ho10 hs10 hb10 S9 Z9
      have CP := CPZ.out AZ RC w10 S10.out Z10.out (by have := HRC.out.1; omega) (by have := HRC.out.2.1; omega) (by have := HRC.out.2.2.1; omega) (by have := HRC.out.2.2.2.1; omega) (by have := HRC.out.2.2.2.2; omega)
      rw [HPR2.out] at CP
      simp only at CP
      go_wp2_with (first
        | (with_reducible refine wpList_load_all 28 (.tmp 9) rfl (by kernel_rfl) w9.heap.size AZ 28 (0, 0) rfl KZ10.out _ Tryz.underlying28 rfl IZ.out ?_)
        | fail)
      refine CP.mono ?_
      rintro e w11 ⟨y, rfl, hy11, hb11⟩
      have S11 := Lib.hid (S10.out.keep hb11)
      obtain ⟨ya, yc, hy, _, _, _⟩ := red_shape hy11
      rw [← HL2.out] at hy
      subst hy
      have CBY := Bytes_same ya a2 n2 n2 yc c2 m w11 (red_bat9 hy11).1 (HB2.out _ S11.out) HL2.out HL2.out
      clear hb11 hy11 S10 CP
      go_wp2_with fail
      refine CBY.mono ?_
      rintro e w12 ⟨rfl, hE⟩
      subst hE
      go_wp2
      go_ret
      exact ⟨rfl, S11.out.below⟩
  | false =>
    obtain ⟨PL, hPL⟩ : ∃ x : List UInt8, [] = x := ⟨_, rfl⟩
    have PLL := Lib.hid (show PL.length ≤ 1000000 by rw [← hPL]; decide)
    have hpq := parsedR_nil
    rw [printR_no hrr, hPL] at CPP
    rw [hPL] at hpq
    have HPQ := Lib.hid hpq
    simp only at CPP
    rw [hrr] at CRR
    clear hrr hPL hpq HPL
    cases hpm : parseK m with
    | none =>
      obtain ⟨RC, hRC⟩ : ∃ x, rcdZ = x := ⟨_, rfl⟩
      have HRC := Lib.hid (show RC.parents.length ≤ 16 ∧ RC.author.name.length ≤ 200 ∧ RC.author.email.length ≤ 200 ∧ RC.committer.name.length ≤ 200 ∧ RC.committer.email.length ≤ 200 by rw [← hRC]; decide)
      have HPR2 := Lib.hid (show printR RC = ([], 4) by rw [← hRC]; exact printR_no right_zero)
      have CZ := Lib.hid (fun u (h : PS w A1 u) => CQ.out m (by have := HL2.out; omega) a2 n2 c2 u h (HB2.out u h) HL2.out)
      rw [show parsedR m = (RC, 4) by unfold parsedR; rw [hpm, ← hRC]] at CZ
      simp only at CZ
      clear hRC hpm
      go_enter Tryz.func4, Tryz.ntmps4
      go_wp2_with (first
        | (with_reducible refine wpList_load_all 28 (.tmp 2) rfl (by kernel_rfl) w.heap.size A1 28 (0, 0) rfl S1.out.one _ Tryz.underlying28 rfl I1.out ?_)
        | fail)
      refine (C1.out _).mono ?_
      rintro e w2 ⟨rfl, hb2⟩
      have S2 := Lib.hid (S1.out.keep hb2)
      clear hb2 C1 S1
      go_wp2_with (first
        | (with_reducible refine wpList_load_all 28 (.tmp 2) rfl (by kernel_rfl) w.heap.size A1 28 (0, 0) rfl S2.out.one _ Tryz.underlying28 rfl I1.out ?_)
        | fail)
      refine (CPP.out _ S2.out).mono ?_
      rintro e w3 ⟨x, rfl, hx3, hb3⟩
      have S3 := Lib.hid (S2.out.keep hb3)
      obtain ⟨xa, xc, hx, _, _, _⟩ := red_shape hx3
      obtain ⟨xn, hxn⟩ : ∃ x, PL.length = x := ⟨_, rfl⟩
      rw [hxn] at hx
      subst hx
      have CY := CQ.out PL PLL.out xa xn xc w3 S3.out (red_bat9 hx3).1 (red_bat9 hx3).2
      rw [HPQ.out] at CY
      simp only at CY
      clear hb3 hx3 S2 CPP hxn
      go_wp2_with fail
      refine CY.mono ?_
      rintro e w4 ⟨AY, rfl, hy4, hb4⟩
      have S4 := Lib.hid (S3.out.keep hb4)
      have Y4 := Lib.hid hy4
      obtain ⟨ays, ayo⟩ := rec_size hy4
      have AYS := Lib.hid ays; have AYO := Lib.hid ayo
      have IY := Lib.hid (infoC_arr AY ays)
      clear hb4 hy4 S3 ays ayo CY
      go_wp2_with (first
        | (with_reducible refine wpList_store_all rfl 28 (.tmp 7) (.tmp 30) rfl w4.heap.size AY rfl rfl 28 z (heap_alloc_new w4 _) IY.out (AYS.out.trans ZS.out.symm) AYO.out ?_)
        | fail)
      intro w5 hg5 ho5 hs5
      have hb5 := ((Below.refl w4.heap.size w4).alloc (Nat.le_refl _) (.cells z 28)).trans (ho5.below (Nat.le_refl _) (by simp))
      have S5 := Lib.hid (S4.out.keep hb5)
      have Y5 := Lib.hid (Y4.out.keep hb5)
      have KY5 := Lib.hid hg5
      clear hg5 ho5 hs5 hb5 S4 Y4
      generalize w4.heap.size = gy at *
      go_wp2_with fail
      refine (CA.out _ S5.out).mono ?_
      rintro e w6 ⟨rfl, hb6⟩
      have S6 := Lib.hid (S5.out.keep hb6)
      have Y6 := Lib.hid (Y5.out.keep hb6)
      have KY6 := Lib.hid (heap_keep KY5.out hb6)
      clear hb6 S5 Y5 KY5
      go_wp2_with (first
        | (with_reducible refine wpList_load_all 28 (.tmp 2) rfl (by kernel_rfl) w.heap.size A1 28 (0, 0) rfl S6.out.one _ Tryz.underlying28 rfl I1.out ?_)
        | fail)
      refine (CRR.out _ S6.out).mono ?_
      rintro e w7 ⟨rfl, hb7⟩
      have S7 := Lib.hid (S6.out.keep hb7)
      have Y7 := Lib.hid (Y6.out.keep hb7)
      have KY7 := Lib.hid (heap_keep KY6.out hb7)
      clear hb7 S6 Y6 KY6 CRR
      have S8 := S7
      obtain ⟨w8, hw8⟩ : ∃ w8, w7 = w8 := ⟨_, rfl⟩
      subst hw8
      go_wp2_with fail
      refine (CZ.out _ S8.out).mono ?_
      rintro e w9 ⟨AZ, rfl, hz9, hb9⟩
      have S9 := Lib.hid (S8.out.keep hb9)
      have Z9 := Lib.hid hz9
      obtain ⟨azs, azo⟩ := rec_size hz9
      have AZS := Lib.hid azs; have AZO := Lib.hid azo
      have IZ := Lib.hid (infoC_arr AZ azs)
      clear hb9 hz9 S8 azs azo
      go_wp2_with (first
        | (with_reducible refine wpList_store_all rfl 28 (.tmp 9) (.tmp 58) rfl w9.heap.size AZ rfl rfl 28 z (heap_alloc_new w9 _) IZ.out (AZS.out.trans ZS.out.symm) AZO.out ?_)
        | fail)
      intro w10 hg10 ho10 hs10
      have hb10 := ((Below.refl w9.heap.size w9).alloc (Nat.le_refl _) (.cells z 28)).trans (ho10.below (Nat.le_refl _) (by simp))
      have S10 := Lib.hid (S9.out.keep hb10)
      have Z10 := Lib.hid (Z9.out.keep hb10)
      have KZ10 := Lib.hid hg10
      clear hg10 ho10 hs10 hb10 S9 Z9
      have CP := CPZ.out AZ RC w10 S10.out Z10.out (by have := HRC.out.1; omega) (by have := HRC.out.2.1; omega) (by have := HRC.out.2.2.1; omega) (by have := HRC.out.2.2.2.1; omega) (by have := HRC.out.2.2.2.2; omega)
      rw [HPR2.out] at CP
      simp only at CP
      go_wp2_with (first
        | (with_reducible refine wpList_load_all 28 (.tmp 9) rfl (by kernel_rfl) w9.heap.size AZ 28 (0, 0) rfl KZ10.out _ Tryz.underlying28 rfl IZ.out ?_)
        | fail)
      refine CP.mono ?_
      rintro e w11 ⟨y, rfl, hy11, hb11⟩
      have S11 := Lib.hid (S10.out.keep hb11)
      obtain ⟨ya, yc, hy, _, _, _⟩ := red_shape hy11
      obtain ⟨yn, hyn⟩ : ∃ x, ([] : List UInt8).length = x := ⟨_, rfl⟩
      rw [hyn] at hy
      subst hy
      clear hb11 hy11 S10 CP hyn
      go_wp2
      go_ret
      exact ⟨rfl, S11.out.below⟩
    | some RC =>
      obtain ⟨q1, q2, q3⟩ := parsed_right hpm
      have HRC := Lib.hid (show RC.parents.length ≤ 16 ∧ RC.author.name.length ≤ 200 ∧ RC.author.email.length ≤ 200 ∧ RC.committer.name.length ≤ 200 ∧ RC.committer.email.length ≤ 200 from ⟨((rightR_iff RC).1 q2).2.1, right_names q2⟩)
      have HPR2 := Lib.hid (show printR RC = (m, 0) by rw [printR_yes q2, q3])
      have CZ := Lib.hid (fun u (h : PS w A1 u) => CQ.out m (by have := HL2.out; omega) a2 n2 c2 u h (HB2.out u h) HL2.out)
      rw [show parsedR m = (RC, 0) by unfold parsedR; rw [hpm]] at CZ
      simp only at CZ
      clear q1 q2 q3 hpm
      go_enter Tryz.func4, Tryz.ntmps4
      go_wp2_with (first
        | (with_reducible refine wpList_load_all 28 (.tmp 2) rfl (by kernel_rfl) w.heap.size A1 28 (0, 0) rfl S1.out.one _ Tryz.underlying28 rfl I1.out ?_)
        | fail)
      refine (C1.out _).mono ?_
      rintro e w2 ⟨rfl, hb2⟩
      have S2 := Lib.hid (S1.out.keep hb2)
      clear hb2 C1 S1
      go_wp2_with (first
        | (with_reducible refine wpList_load_all 28 (.tmp 2) rfl (by kernel_rfl) w.heap.size A1 28 (0, 0) rfl S2.out.one _ Tryz.underlying28 rfl I1.out ?_)
        | fail)
      refine (CPP.out _ S2.out).mono ?_
      rintro e w3 ⟨x, rfl, hx3, hb3⟩
      have S3 := Lib.hid (S2.out.keep hb3)
      obtain ⟨xa, xc, hx, _, _, _⟩ := red_shape hx3
      obtain ⟨xn, hxn⟩ : ∃ x, PL.length = x := ⟨_, rfl⟩
      rw [hxn] at hx
      subst hx
      have CY := CQ.out PL PLL.out xa xn xc w3 S3.out (red_bat9 hx3).1 (red_bat9 hx3).2
      rw [HPQ.out] at CY
      simp only at CY
      clear hb3 hx3 S2 CPP hxn
      go_wp2_with fail
      refine CY.mono ?_
      rintro e w4 ⟨AY, rfl, hy4, hb4⟩
      have S4 := Lib.hid (S3.out.keep hb4)
      have Y4 := Lib.hid hy4
      obtain ⟨ays, ayo⟩ := rec_size hy4
      have AYS := Lib.hid ays; have AYO := Lib.hid ayo
      have IY := Lib.hid (infoC_arr AY ays)
      clear hb4 hy4 S3 ays ayo CY
      go_wp2_with (first
        | (with_reducible refine wpList_store_all rfl 28 (.tmp 7) (.tmp 30) rfl w4.heap.size AY rfl rfl 28 z (heap_alloc_new w4 _) IY.out (AYS.out.trans ZS.out.symm) AYO.out ?_)
        | fail)
      intro w5 hg5 ho5 hs5
      have hb5 := ((Below.refl w4.heap.size w4).alloc (Nat.le_refl _) (.cells z 28)).trans (ho5.below (Nat.le_refl _) (by simp))
      have S5 := Lib.hid (S4.out.keep hb5)
      have Y5 := Lib.hid (Y4.out.keep hb5)
      have KY5 := Lib.hid hg5
      clear hg5 ho5 hs5 hb5 S4 Y4
      generalize w4.heap.size = gy at *
      go_wp2_with fail
      refine (CA.out _ S5.out).mono ?_
      rintro e w6 ⟨rfl, hb6⟩
      have S6 := Lib.hid (S5.out.keep hb6)
      have Y6 := Lib.hid (Y5.out.keep hb6)
      have KY6 := Lib.hid (heap_keep KY5.out hb6)
      clear hb6 S5 Y5 KY5
      go_wp2_with (first
        | (with_reducible refine wpList_load_all 28 (.tmp 2) rfl (by kernel_rfl) w.heap.size A1 28 (0, 0) rfl S6.out.one _ Tryz.underlying28 rfl I1.out ?_)
        | fail)
      refine (CRR.out _ S6.out).mono ?_
      rintro e w7 ⟨rfl, hb7⟩
      have S7 := Lib.hid (S6.out.keep hb7)
      have Y7 := Lib.hid (Y6.out.keep hb7)
      have KY7 := Lib.hid (heap_keep KY6.out hb7)
      clear hb7 S6 Y6 KY6 CRR
      have S8 := S7
      obtain ⟨w8, hw8⟩ : ∃ w8, w7 = w8 := ⟨_, rfl⟩
      subst hw8
      go_wp2_with fail
      refine (CZ.out _ S8.out).mono ?_
      rintro e w9 ⟨AZ, rfl, hz9, hb9⟩
      have S9 := Lib.hid (S8.out.keep hb9)
      have Z9 := Lib.hid hz9
      obtain ⟨azs, azo⟩ := rec_size hz9
      have AZS := Lib.hid azs; have AZO := Lib.hid azo
      have IZ := Lib.hid (infoC_arr AZ azs)
      clear hb9 hz9 S8 azs azo
      go_wp2_with (first
        | (with_reducible refine wpList_store_all rfl 28 (.tmp 9) (.tmp 58) rfl w9.heap.size AZ rfl rfl 28 z (heap_alloc_new w9 _) IZ.out (AZS.out.trans ZS.out.symm) AZO.out ?_)
        | fail)
      intro w10 hg10 ho10 hs10
      have hb10 := ((Below.refl w9.heap.size w9).alloc (Nat.le_refl _) (.cells z 28)).trans (ho10.below (Nat.le_refl _) (by simp))
      have S10 := Lib.hid (S9.out.keep hb10)
      have Z10 := Lib.hid (Z9.out.keep hb10)
      have KZ10 := Lib.hid hg10
      clear hg10 ho10 hs10 hb10 S9 Z9
      have CP := CPZ.out AZ RC w10 S10.out Z10.out (by have := HRC.out.1; omega) (by have := HRC.out.2.1; omega) (by have := HRC.out.2.2.1; omega) (by have := HRC.out.2.2.2.1; omega) (by have := HRC.out.2.2.2.2; omega)
      rw [HPR2.out] at CP
      simp only at CP
      go_wp2_with (first
        | (with_reducible refine wpList_load_all 28 (.tmp 9) rfl (by kernel_rfl) w9.heap.size AZ 28 (0, 0) rfl KZ10.out _ Tryz.underlying28 rfl IZ.out ?_)
        | fail)
      refine CP.mono ?_
      rintro e w11 ⟨y, rfl, hy11, hb11⟩
      have S11 := Lib.hid (S10.out.keep hb11)
      obtain ⟨ya, yc, hy, _, _, _⟩ := red_shape hy11
      rw [← HL2.out] at hy
      subst hy
      have CBY := Bytes_same ya a2 n2 n2 yc c2 m w11 (red_bat9 hy11).1 (HB2.out _ S11.out) HL2.out HL2.out
      clear hb11 hy11 S10 CP
      go_wp2_with fail
      refine CBY.mono ?_
      rintro e w12 ⟨rfl, hE⟩
      subst hE
      go_wp2
      go_ret
      exact ⟨rfl, S11.out.below⟩
theorem walk (w : World) (t : List UInt8) (a0 : Option Addr) (n c0 : Nat) (l : List (List UInt8)) (ia ic : Idt) (tx : List UInt8) (hi : RecIn w t a0 n c0 l ia ic tx) (hr : ia.name.length ≤ reachN ∧ ia.email.length ≤ reachN ∧ ic.name.length ≤ reachN ∧ ic.email.length ≤ reachN)
    (a2 : Option Addr) (n2 c2 : Nat) (m : List UInt8) (hb2 : BAt w a2 m) (hl2 : n2 = m.length) (hno2 : a2 = none → n2 = 0 ∧ c2 = 0) (hc2 : n2 ≤ c2 ∧ c2 ≤ maxLen) (tab : T7 w) :
    Calls Tryz.prog 4 #[.agg (arrC t (.slice a0 n c0) ia ic tx), .slice a2 n2 c2] w fun e w' => e = .returned (.bool true) ∧ Below w.heap.size w w' := by
  cases hf : fewC n ia ic tx with
  | false => exact walk_few w t a0 n c0 l ia ic tx hi hr hf a2 n2 c2 tab
  | true =>
    by_cases h2 : n2 ≤ 4000
    · exact walk_good w t a0 n c0 l ia ic tx hi hr hf a2 n2 c2 m hb2 hl2 hno2 hc2.1 h2 tab
    · exact walk_long w t a0 n c0 l ia ic tx hi hr hf a2 n2 c2 (by omega) tab
end Go.Proofs.YtonkclkopmdahaaGreatDoor.commitBack
