/-
  Layer 4: one deed, with both tapes: what is written. (Made by tools/gentq.py.)
-/
import Derived.Test.YtghncdoophoieaaTq
import Derived.RegionTactic
namespace Go.Proofs.Ytghncdoophoieaa
open Go.RowKit
set_option linter.unusedVariables false

set_option maxHeartbeats 8000000 in
theorem do_write (w0 w : World) (bt br : Nat) (s : Sx) (h : Two w0 w bt br (fun _ => False) s s) (n : Int) (hn63 : n ≤ 9223372036854775807) (pa : Option Addr) (np pc : Nat) (ls : List (List UInt8)) (hp : PartsIn (fun k => k < w0.heap.size) w0 pa ls) (hn : np = ls.length) (hm : np ≤ maxLen) (hok : okParts ls) :
    Calls Try.prog 11 #[.pointer (some ⟨bt, 0, none⟩), .pointer (some ⟨br, 0, none⟩), .agg #[.int .i64 0, .int .i64 n, .slice pa np pc]] w fun e w' => e = .returned (.bool true) ∧ Did w0 bt br s 0 w' := by
  have HOK := Lib.hid hok
  clear hok
  have hb0 := h.bel
  have hp0 := hp.keep hb0
  have hp1 := hp0.keep ((Below.refl _ w).alloc (Nat.le_refl _) (dbox 0 n pa np pc))
  have J := Lib.hid (joined_any _ pa np pc ls _ hp1 hn hm)
  have H := Lib.hid h; have HP0 := Lib.hid hp0; have HN := Lib.hid hn
  unfold maxLen at hm
  clear hp hp0 hp1 h hn
  go_enter Try.func11, Try.ntmps11
  go_wp2_with fail
  refine J.out.mono ?_
  rintro e w1 ⟨b1, h1⟩
  clear J
  rcases h1 with ⟨_, va, he, r1, f1⟩ | ⟨hno, _⟩
  case inr => exact absurd HOK.out hno
  subst he
  obtain ⟨a1, c1, hv, hlc, hcm, _, _⟩ := r1.shape
  obtain ⟨all, hall⟩ : ∃ all, ls.flatten = all := ⟨_, rfl⟩
  have htot := okParts_total HOK.out
  unfold total at htot
  rw [hall] at r1 hv hlc htot
  obtain ⟨L, hL⟩ : ∃ L, all.length = L := ⟨_, rfl⟩
  rw [hL] at hv hlc htot
  subst hv
  unfold maxLen at hcm
  have b01 : Below w.heap.size w w1 := ((Below.refl _ w).alloc (Nat.le_refl _) (dbox 0 n pa np pc)).trans (b1.mono (by simp))
  have hs1 : w.heap.size + 1 ≤ w1.heap.size := by have := b1.size; simpa using this
  have H1 := Lib.hid (H.out.keep b01 (Y := fun k => w.heap.size ≤ k ∧ k < w1.heap.size) (fun k hk => .inr hk))
  have hd0 : w1.heap[w.heap.size]? = some (dbox 0 n pa np pc) := by rw [b1.block _ (by simp)]; exact heap_alloc_new _ _
  have q0 : w1.cell? ⟨w.heap.size, 0, none⟩ = some (.int .i64 0) := (cell_of_row w1 _ 0 _ _ _ hd0).trans rfl
  have q1 : w1.cell? ⟨w.heap.size, 1, none⟩ = some (.int .i64 n) := (cell_of_row w1 _ 1 _ _ _ hd0).trans rfl
  have q2 : w1.cell? ⟨w.heap.size, 2, none⟩ = some (.slice pa np pc) := (cell_of_row w1 _ 2 _ _ _ hd0).trans rfl
  have hx1 : ∀ g, foot (.slice a1 L c1) = some g → w.heap.size ≤ g ∧ g < w1.heap.size := fun g hg => ⟨by have := f1 g hg; simp at this; omega, r1.lt g hg⟩
  have HD0 := Lib.hid hd0; have R1 := Lib.hid r1; have HX1 := Lib.hid hx1; have HLL := Lib.hid hL; have HALL := Lib.hid hall
  clear hd0 r1 f1 hx1 hL hall b1
  have HLE := Lib.hid (show w.heap.size ≤ w1.heap.size by omega)
  obtain ⟨kk, hKL, hKK⟩ : ∃ kk, kk ≤ L ∧ ((np = 0 ∧ kk = 0) ∨ (0 < np ∧ ∃ pb po xa xc, pa = some ⟨pb, po, none⟩ ∧ w1.cell? ⟨pb, po, none⟩ = some (.slice xa kk xc))) := by
    have HPP := HP0.out
    have hnn := HN.out
    by_cases h0 : np = 0
    · exact ⟨0, by omega, .inl ⟨h0, rfl⟩⟩
    · obtain ⟨pb, po, e1, e2, e3, e4⟩ := HPP (by omega)
      obtain ⟨xa, xc, g1, g2, g3, g4⟩ := e4 0 (by omega)
      refine ⟨(ls[0]'(by omega)).length, ?_, .inr ⟨by omega, pb, po, xa, xc, e1, (b01.cell (p := ⟨pb, po, none⟩) e3).trans (by simpa using g1)⟩⟩
      rw [← HLL.out, ← HALL.out]
      exact head_le ls (by omega)
  obtain ⟨a9, ht9, hta9⟩ := slice_tail a1 L c1 kk all HLL.out.symm hKL hlc
  have HTA := Lib.hid hta9
  have HSX := Lib.hid (fun (x : Int) (u : World) (hx : x = kk) => slice_head a1 L c1 kk x hx (by omega) u)
  have lenK : (all.take kk).length = kk := by have := HLL.out; rw [List.length_take]; omega
  obtain ⟨Q, hQ⟩ : ∃ Q, L - kk = Q := ⟨_, rfl⟩
  have lenQ : (all.drop kk).length = Q := by have := HLL.out; rw [List.length_drop]; omega
  have hQb : Q ≤ 1600 := by omega
  have hKb : kk ≤ 1600 := by omega
  obtain ⟨C9, hC9⟩ : ∃ C9, c1 - kk = C9 := ⟨_, rfl⟩
  rw [hQ, hC9] at ht9
  have HTX := Lib.hid ht9
  have LK := Lib.hid lenK; have LQ := Lib.hid lenQ; have HQ := Lib.hid hQ; have HC9 := Lib.hid hC9
  have HEAD : Hid (∀ u, Row u (.slice a1 L c1) all → BAt u a1 (all.take kk) ∧ (a1 = none → kk = 0 ∧ c1 = 0)) := Lib.hid (fun u hr => by
    obtain ⟨r1, _⟩ := Row.cut (n := kk) (by rw [HLL.out]; exact hr) (by rw [HLL.out]; exact hKL)
    obtain ⟨a2, c2, e2, _, _, hb, hno⟩ := r1.shape
    rw [LK.out] at e2 hno
    cases e2
    exact ⟨hb, hno⟩)
  have TAIL : Hid (∀ u, Row u (.slice a1 L c1) all → BAt u a9 (all.drop kk) ∧ (a9 = none → Q = 0 ∧ C9 = 0)) := Lib.hid (fun u hr => by
    obtain ⟨g1, g2⟩ := HTA.out u hr
    rw [HQ.out, HC9.out] at g2
    exact ⟨g1, g2⟩)
  have WHOLE : Hid (∀ u, Row u (.slice a1 L c1) all → BAt u a1 all ∧ (a1 = none → L = 0 ∧ c1 = 0)) := Lib.hid (fun u hr => by
    obtain ⟨a2, c2, e2, _, _, hb, hno⟩ := hr.shape
    rw [HLL.out] at e2 hno
    cases e2
    exact ⟨hb, hno⟩)
  have R1d := R1.out.chg (S := fun _ => False) (Chg.refl _ w1).drew (fun _ _ h => h)
  have C1 := Lib.hid (Own_any a1 kk c1 (all.take kk) 71 w1.drew (HEAD.out _ R1d).1 (HEAD.out _ R1d).2 lenK.symm (by omega))
  have C2 := Lib.hid (fun (u : World) (hr : Row u (.slice a1 L c1) all) => Own_any a9 Q C9 (all.drop kk) 71 u (TAIL.out _ hr).1 (TAIL.out _ hr).2 lenQ.symm (by omega))
  rw [lenK] at C1
  rw [lenQ] at C2
  have H1d := Lib.hid (H1.out.keep (w' := w1.drew) ((Below.refl _ w1).drew) (Y := fun k => w.heap.size ≤ k ∧ k < w1.heap.size) (fun k hk => .inl hk))
  have R1D := Lib.hid R1d
  have HTOT := Lib.hid htot
  clear hta9 ht9 lenK lenQ hQ hC9 R1d htot
  rcases hKK with ⟨rfl, rfl⟩ | ⟨hnp, pb, po, xa, xc, rfl, hpc⟩
  · have hsl := fun u => HSX.out 0 u rfl
    have htl := fun u => HTX.out 0 u rfl
    go_wp2_with fail
    refine wp_region_any (by kernel_rfl) ?_
    change wpAny _ _ _ _ _ _ _ (World.drew _)
    refine wpAny_take (i := 0) (v := .slice a1 L c1) rfl (by kernel_rfl) (by kernel_rfl) (by kernel_rfl) (fun _ _ _ h => h) (Or.inl ⟨by rfl, fun w => by go_simp⟩) ?_
    refine wpAny_take (i := 1) (v := .int .i64 0) rfl (by kernel_rfl) (by kernel_rfl) (by kernel_rfl) (fun _ _ _ h => h) (Or.inl ⟨by rfl, fun w => by go_simp⟩) ?_
    refine wpAny_take (i := 2) (v := .slice a1 0 c1) rfl (by kernel_rfl) (by kernel_rfl) (by kernel_rfl) (fun _ _ _ h => h) (Or.inl ⟨by rfl, fun w => by go_simp⟩) ?_
    refine wpAny_take (i := 4) (v := .slice a1 L c1) rfl (by kernel_rfl) (by kernel_rfl) (by kernel_rfl) (fun _ _ _ h => h) (Or.inl ⟨by rfl, fun w => by go_simp⟩) ?_
    refine wpAny_take (i := 5) (v := .int .i64 0) rfl (by kernel_rfl) (by kernel_rfl) (by kernel_rfl) (fun _ _ _ h => h) (Or.inl ⟨by rfl, fun w => by go_simp⟩) ?_
    refine wpAny_take (i := 6) (v := .slice a9 Q C9) rfl (by kernel_rfl) (by kernel_rfl) (by kernel_rfl) (fun _ _ _ h => h) (Or.inl ⟨by rfl, fun w => by go_simp⟩) ?_
    refine wpAny_ready (rs := [3]) (by kernel_rfl) (by simp) ?_
    refine AllReady.cons rfl (fun K hK => ?_) AllReady.nil
    go_simp
    refine C1.out.mono ?_
    rintro e w2 ⟨rfl, o2, b2⟩
    have b12 : Below w1.heap.size w1 w2 := ((Below.refl w1.heap.size w1).drew).trans b2
    have O2 := Lib.hid (show OwnAt w2 w1.heap.size (all.take 0) 71 from o2)
    have hg2 : w1.heap.size < w2.heap.size := o2.lt
    have R2 := Lib.hid (R1.out.keep (fun g hg => b12.block g (HX1.out g hg).2))
    have C3 := Lib.hid (C2.out w2 R2.out)
    have H2 := Lib.hid (H1.out.keep b12 (Y := fun k => w.heap.size ≤ k ∧ k < w2.heap.size) (fun k hk => by by_cases hx : k < w1.heap.size; exact .inl ⟨hk.1, hx⟩; exact .inr ⟨by omega, hk.2⟩))
    clear o2 b2 C1
    refine hK _ _ ?_
    clear hK K
    refine wpAny_ready (rs := [7]) (by kernel_rfl) (by simp) ?_
    refine AllReady.cons rfl (fun K hK => ?_) AllReady.nil
    go_simp
    refine C3.out.mono ?_
    rintro e w3 ⟨rfl, o3, b3⟩
    have O3 := Lib.hid o3
    have hg3 : w2.heap.size < w3.heap.size := o3.lt
    have O23 := Lib.hid (O2.out.keep b3)
    have R3 := Lib.hid (R2.out.keep (fun g hg => b3.block g (R2.out.lt g hg)))
    have H3 := Lib.hid (H2.out.keep b3 (Y := fun k => w.heap.size ≤ k ∧ k < w3.heap.size) (fun k hk => by by_cases hx : k < w2.heap.size; exact .inl ⟨hk.1, hx⟩; exact .inr ⟨by omega, hk.2⟩))
    clear o3 b3 C3
    refine hK _ _ ?_
    clear hK K
    refine wpAny_ready (rs := [8]) (by kernel_rfl) (by simp) ?_
    refine AllReady.cons rfl (fun K hK => ?_) AllReady.nil
    go_simp
    refine hK _ _ ?_
    clear hK K
    refine wpAny_ready (rs := [9]) (by kernel_rfl) (by simp) ?_
    refine AllReady.cons rfl (fun K hK => ?_) AllReady.nil
    go_simp
    refine hK _ _ ?_
    clear hK K
    refine wpAny_done (by kernel_rfl) ?_ _
    go_wp2_with fail
    generalize hw4 : w3.alloc (.cells #[.slice (some ⟨w1.heap.size, 0, none⟩) 0 (0 + 3), .slice none 0 0, .slice (some ⟨w2.heap.size, 0, none⟩) Q (Q + 3)] 32) = w4
    have b34 : Below w3.heap.size w3 w4 := by subst hw4; exact (Below.refl _ _).alloc (Nat.le_refl _) _
    have h34 : w4.heap.size = w3.heap.size + 1 := by subst hw4; simp
    have hnew : w4.heap[w3.heap.size]? = some (.cells #[.slice (some ⟨w1.heap.size, 0, none⟩) 0 (0 + 3), .slice none 0 0, .slice (some ⟨w2.heap.size, 0, none⟩) Q (Q + 3)] 32 (0, 0)) := by subst hw4; exact heap_alloc_new _ _
    clear hw4
    have OA4 := Lib.hid (O23.out.keep b34)
    have OB4 := Lib.hid (O3.out.keep b34)
    have R4 := Lib.hid (R3.out.keep (fun g hg => b34.block g (R3.out.lt g hg)))
    have HX4 := Lib.hid (show ∀ g, foot (.slice a1 L c1) = some g → w.heap.size ≤ g ∧ g < w4.heap.size from fun g hg => ⟨(HX1.out g hg).1, R4.out.lt g hg⟩)
    have H4 := Lib.hid (H3.out.keep b34 (Y := fun k => w.heap.size ≤ k ∧ k < w4.heap.size) (fun k hk => by by_cases hx : k < w3.heap.size; exact .inl ⟨hk.1, hx⟩; exact .inr ⟨by omega, hk.2⟩))
    have hwle := HLE.out
    have xA : w.heap.size ≤ w1.heap.size ∧ w1.heap.size < w4.heap.size := by omega
    have xB : w.heap.size ≤ w2.heap.size ∧ w2.heap.size < w4.heap.size := by omega
    have xC : w.heap.size ≤ w3.heap.size ∧ w3.heap.size < w4.heap.size := by omega
    have hp4 := parts_three (D := fun k => w.heap.size ≤ k ∧ k < w4.heap.size) OA4.out OB4.out LK.out LQ.out (by omega) hQb hnew xA xB xC
    have XA := Lib.hid xA; have XB := Lib.hid xB
    have C4 := Lib.hid (Two.opT (E := fun e => e = .returned (.int .i64 (errW s all.length))) H4.out (fun v hv hx => tW bt v s w4 hv _ (some ⟨w3.heap.size, 0, none⟩) 3 3 _ hp4 rfl (by decide) (fun k hk => hx k hk) all (by simp)))
    clear hnew hp4 b34 h34 xA xB xC hwle
    refine C4.out.mono ?_
    rintro e w5 ⟨rfl, h5, k5⟩
    have H5 := Lib.hid h5
    have OA5 := Lib.hid (OA4.out.heap (k5.block _ XA.out.2 (fun hx => hx XA.out)))
    have OB5 := Lib.hid (OB4.out.heap (k5.block _ XB.out.2 (fun hx => hx XB.out)))
    have R5 := Lib.hid (R4.out.chg k5 (fun g hg hx => hx (HX4.out g hg)))
    have s45 := k5.size
    clear h5 k5 C4
    obtain ⟨E1, hE1⟩ : ∃ E1, errW s all.length = E1 := ⟨_, rfl⟩
    have HE1 := Lib.hid hE1
    rw [hE1]
    clear hE1
    go_wp2_with fail
    have hR := Two.opR (E := fun e => e = .returned (.int .i64 (errW s all.length))) H5.out (fun v hv hx => rW br v s _ hv a1 L c1 all (WHOLE.out _ R5.out).1 HLL.out.symm (WHOLE.out _ R5.out).2 (by rw [HLL.out]; exact HTOT.out))
    rw [HE1.out] at hR
    refine hR.mono ?_
    rintro e w6 ⟨rfl, h6, k6⟩
    have H6 := Lib.hid h6
    have OA6 := Lib.hid (OA5.out.heap (k6.block _ (Nat.lt_of_lt_of_le XA.out.2 s45) (fun hx => hx XA.out)))
    have OB6 := Lib.hid (OB5.out.heap (k6.block _ (Nat.lt_of_lt_of_le XB.out.2 s45) (fun hx => hx XB.out)))
    have R6 := Lib.hid (R5.out.chg k6 (fun g hg hx => hx (HX4.out g hg)))
    clear h6 k6 hR
    go_wp2_with fail
    refine (Kept_any w1.heap.size 0 0 (0 + 3) c1 a1 (all.take 0) 71 w6 OA6.out (HEAD.out _ R6.out).1 LK.out.symm (by rw [LK.out]) LK.out.symm (by rw [LK.out]; omega)).mono ?_
    rintro e w7 ⟨rfl, b7⟩
    have H7 := Lib.hid (H6.out.keep b7 (Y := fun k => w.heap.size ≤ k ∧ k < w4.heap.size) (fun k hk => .inl hk))
    have OA7 := Lib.hid (OA6.out.keep b7)
    have OB7 := Lib.hid (OB6.out.keep b7)
    have R7 := Lib.hid (R6.out.keep (fun g hg => b7.block g (R6.out.lt g hg)))
    clear b7
    go_wp2_with fail
    refine (Kept_any w2.heap.size Q Q (Q + 3) C9 a9 (all.drop 0) 71 w7 OB7.out (TAIL.out _ R7.out).1 LQ.out.symm (by rw [LQ.out]) LQ.out.symm (by rw [LQ.out]; omega)).mono ?_
    rintro e w8 ⟨rfl, b8⟩
    have H8 := Lib.hid (H7.out.keep b8 (Y := fun k => w.heap.size ≤ k ∧ k < w4.heap.size) (fun k hk => .inl hk))
    have OA8 := Lib.hid (OA7.out.keep b8)
    have OB8 := Lib.hid (OB7.out.keep b8)
    clear b8
    go_wp2_with fail
    have rowA := OA8.out.row
    rw [LK.out] at rowA
    refine (Spoil_row _ _ w8 rowA (by rw [LK.out]; omega)).mono ?_
    rintro e w9 ⟨rfl, k9⟩
    have hw0 := H1.out.bel.size
    have hb1' := Nat.le_trans H.out.bel.size XB.out.1
    have H9a := Lib.hid (H8.out.other k9 (fun k hk => by cases hk; exact ⟨XA.out, hw0⟩))
    have OB9 := Lib.hid (OB8.out.heap (k9.block _ OB8.out.lt (fun hx => by have := Option.some.inj (show some w1.heap.size = some w2.heap.size from hx); omega)))
    clear rowA k9
    go_wp2_with fail
    have rowB := OB9.out.row
    rw [LQ.out] at rowB
    refine (Spoil_row _ _ w9 rowB (by rw [LQ.out]; omega)).mono ?_
    rintro e w10 ⟨rfl, k10⟩
    have H9 := Lib.hid (H9a.out.other k10 (fun k hk => by cases hk; exact ⟨XB.out, hb1'⟩))
    clear rowB k10
    go_wp2
    go_ret
    exact ⟨rfl, nextW s all, H9.out.none, fun first g2 g3 hi => hi.w all⟩
  · have hsl := fun u => HSX.out kk u rfl
    have htl := fun u => HTX.out kk u rfl
    go_wp2_with fail
    refine wp_region_any (by kernel_rfl) ?_
    change wpAny _ _ _ _ _ _ _ (World.drew _)
    refine wpAny_take (i := 0) (v := .slice a1 L c1) rfl (by kernel_rfl) (by kernel_rfl) (by kernel_rfl) (fun _ _ _ h => h) (Or.inl ⟨by rfl, fun w => by go_simp⟩) ?_
    refine wpAny_take (i := 1) (v := .int .i64 kk) rfl (by kernel_rfl) (by kernel_rfl) (by kernel_rfl) (fun _ _ _ h => h) (Or.inl ⟨by rfl, fun w => by go_simp⟩) ?_
    refine wpAny_take (i := 2) (v := .slice a1 kk c1) rfl (by kernel_rfl) (by kernel_rfl) (by kernel_rfl) (fun _ _ _ h => h) (Or.inl ⟨by rfl, fun w => by go_simp⟩) ?_
    refine wpAny_take (i := 4) (v := .slice a1 L c1) rfl (by kernel_rfl) (by kernel_rfl) (by kernel_rfl) (fun _ _ _ h => h) (Or.inl ⟨by rfl, fun w => by go_simp⟩) ?_
    refine wpAny_take (i := 5) (v := .int .i64 kk) rfl (by kernel_rfl) (by kernel_rfl) (by kernel_rfl) (fun _ _ _ h => h) (Or.inl ⟨by rfl, fun w => by go_simp⟩) ?_
    refine wpAny_take (i := 6) (v := .slice a9 Q C9) rfl (by kernel_rfl) (by kernel_rfl) (by kernel_rfl) (fun _ _ _ h => h) (Or.inl ⟨by rfl, fun w => by go_simp⟩) ?_
    refine wpAny_ready (rs := [3]) (by kernel_rfl) (by simp) ?_
    refine AllReady.cons rfl (fun K hK => ?_) AllReady.nil
    go_simp
    refine C1.out.mono ?_
    rintro e w2 ⟨rfl, o2, b2⟩
    have b12 : Below w1.heap.size w1 w2 := ((Below.refl w1.heap.size w1).drew).trans b2
    have O2 := Lib.hid (show OwnAt w2 w1.heap.size (all.take kk) 71 from o2)
    have hg2 : w1.heap.size < w2.heap.size := o2.lt
    have R2 := Lib.hid (R1.out.keep (fun g hg => b12.block g (HX1.out g hg).2))
    have C3 := Lib.hid (C2.out w2 R2.out)
    have H2 := Lib.hid (H1.out.keep b12 (Y := fun k => w.heap.size ≤ k ∧ k < w2.heap.size) (fun k hk => by by_cases hx : k < w1.heap.size; exact .inl ⟨hk.1, hx⟩; exact .inr ⟨by omega, hk.2⟩))
    clear o2 b2 C1
    refine hK _ _ ?_
    clear hK K
    refine wpAny_ready (rs := [7]) (by kernel_rfl) (by simp) ?_
    refine AllReady.cons rfl (fun K hK => ?_) AllReady.nil
    go_simp
    refine C3.out.mono ?_
    rintro e w3 ⟨rfl, o3, b3⟩
    have O3 := Lib.hid o3
    have hg3 : w2.heap.size < w3.heap.size := o3.lt
    have O23 := Lib.hid (O2.out.keep b3)
    have R3 := Lib.hid (R2.out.keep (fun g hg => b3.block g (R2.out.lt g hg)))
    have H3 := Lib.hid (H2.out.keep b3 (Y := fun k => w.heap.size ≤ k ∧ k < w3.heap.size) (fun k hk => by by_cases hx : k < w2.heap.size; exact .inl ⟨hk.1, hx⟩; exact .inr ⟨by omega, hk.2⟩))
    clear o3 b3 C3
    refine hK _ _ ?_
    clear hK K
    refine wpAny_ready (rs := [8]) (by kernel_rfl) (by simp) ?_
    refine AllReady.cons rfl (fun K hK => ?_) AllReady.nil
    go_simp
    refine hK _ _ ?_
    clear hK K
    refine wpAny_ready (rs := [9]) (by kernel_rfl) (by simp) ?_
    refine AllReady.cons rfl (fun K hK => ?_) AllReady.nil
    go_simp
    refine hK _ _ ?_
    clear hK K
    refine wpAny_done (by kernel_rfl) ?_ _
    go_wp2_with fail
    generalize hw4 : w3.alloc (.cells #[.slice (some ⟨w1.heap.size, 0, none⟩) kk (kk + 3), .slice none 0 0, .slice (some ⟨w2.heap.size, 0, none⟩) Q (Q + 3)] 32) = w4
    have b34 : Below w3.heap.size w3 w4 := by subst hw4; exact (Below.refl _ _).alloc (Nat.le_refl _) _
    have h34 : w4.heap.size = w3.heap.size + 1 := by subst hw4; simp
    have hnew : w4.heap[w3.heap.size]? = some (.cells #[.slice (some ⟨w1.heap.size, 0, none⟩) kk (kk + 3), .slice none 0 0, .slice (some ⟨w2.heap.size, 0, none⟩) Q (Q + 3)] 32 (0, 0)) := by subst hw4; exact heap_alloc_new _ _
    clear hw4
    have OA4 := Lib.hid (O23.out.keep b34)
    have OB4 := Lib.hid (O3.out.keep b34)
    have R4 := Lib.hid (R3.out.keep (fun g hg => b34.block g (R3.out.lt g hg)))
    have HX4 := Lib.hid (show ∀ g, foot (.slice a1 L c1) = some g → w.heap.size ≤ g ∧ g < w4.heap.size from fun g hg => ⟨(HX1.out g hg).1, R4.out.lt g hg⟩)
    have H4 := Lib.hid (H3.out.keep b34 (Y := fun k => w.heap.size ≤ k ∧ k < w4.heap.size) (fun k hk => by by_cases hx : k < w3.heap.size; exact .inl ⟨hk.1, hx⟩; exact .inr ⟨by omega, hk.2⟩))
    have hwle := HLE.out
    have xA : w.heap.size ≤ w1.heap.size ∧ w1.heap.size < w4.heap.size := by omega
    have xB : w.heap.size ≤ w2.heap.size ∧ w2.heap.size < w4.heap.size := by omega
    have xC : w.heap.size ≤ w3.heap.size ∧ w3.heap.size < w4.heap.size := by omega
    have hp4 := parts_three (D := fun k => w.heap.size ≤ k ∧ k < w4.heap.size) OA4.out OB4.out LK.out LQ.out (by omega) hQb hnew xA xB xC
    have XA := Lib.hid xA; have XB := Lib.hid xB
    have C4 := Lib.hid (Two.opT (E := fun e => e = .returned (.int .i64 (errW s all.length))) H4.out (fun v hv hx => tW bt v s w4 hv _ (some ⟨w3.heap.size, 0, none⟩) 3 3 _ hp4 rfl (by decide) (fun k hk => hx k hk) all (by simp)))
    clear hnew hp4 b34 h34 xA xB xC hwle
    refine C4.out.mono ?_
    rintro e w5 ⟨rfl, h5, k5⟩
    have H5 := Lib.hid h5
    have OA5 := Lib.hid (OA4.out.heap (k5.block _ XA.out.2 (fun hx => hx XA.out)))
    have OB5 := Lib.hid (OB4.out.heap (k5.block _ XB.out.2 (fun hx => hx XB.out)))
    have R5 := Lib.hid (R4.out.chg k5 (fun g hg hx => hx (HX4.out g hg)))
    have s45 := k5.size
    clear h5 k5 C4
    obtain ⟨E1, hE1⟩ : ∃ E1, errW s all.length = E1 := ⟨_, rfl⟩
    have HE1 := Lib.hid hE1
    rw [hE1]
    clear hE1
    go_wp2_with fail
    have hR := Two.opR (E := fun e => e = .returned (.int .i64 (errW s all.length))) H5.out (fun v hv hx => rW br v s _ hv a1 L c1 all (WHOLE.out _ R5.out).1 HLL.out.symm (WHOLE.out _ R5.out).2 (by rw [HLL.out]; exact HTOT.out))
    rw [HE1.out] at hR
    refine hR.mono ?_
    rintro e w6 ⟨rfl, h6, k6⟩
    have H6 := Lib.hid h6
    have OA6 := Lib.hid (OA5.out.heap (k6.block _ (Nat.lt_of_lt_of_le XA.out.2 s45) (fun hx => hx XA.out)))
    have OB6 := Lib.hid (OB5.out.heap (k6.block _ (Nat.lt_of_lt_of_le XB.out.2 s45) (fun hx => hx XB.out)))
    have R6 := Lib.hid (R5.out.chg k6 (fun g hg hx => hx (HX4.out g hg)))
    clear h6 k6 hR
    go_wp2_with fail
    refine (Kept_any w1.heap.size kk kk (kk + 3) c1 a1 (all.take kk) 71 w6 OA6.out (HEAD.out _ R6.out).1 LK.out.symm (by rw [LK.out]) LK.out.symm (by rw [LK.out]; omega)).mono ?_
    rintro e w7 ⟨rfl, b7⟩
    have H7 := Lib.hid (H6.out.keep b7 (Y := fun k => w.heap.size ≤ k ∧ k < w4.heap.size) (fun k hk => .inl hk))
    have OA7 := Lib.hid (OA6.out.keep b7)
    have OB7 := Lib.hid (OB6.out.keep b7)
    have R7 := Lib.hid (R6.out.keep (fun g hg => b7.block g (R6.out.lt g hg)))
    clear b7
    go_wp2_with fail
    refine (Kept_any w2.heap.size Q Q (Q + 3) C9 a9 (all.drop kk) 71 w7 OB7.out (TAIL.out _ R7.out).1 LQ.out.symm (by rw [LQ.out]) LQ.out.symm (by rw [LQ.out]; omega)).mono ?_
    rintro e w8 ⟨rfl, b8⟩
    have H8 := Lib.hid (H7.out.keep b8 (Y := fun k => w.heap.size ≤ k ∧ k < w4.heap.size) (fun k hk => .inl hk))
    have OA8 := Lib.hid (OA7.out.keep b8)
    have OB8 := Lib.hid (OB7.out.keep b8)
    clear b8
    go_wp2_with fail
    have rowA := OA8.out.row
    rw [LK.out] at rowA
    refine (Spoil_row _ _ w8 rowA (by rw [LK.out]; omega)).mono ?_
    rintro e w9 ⟨rfl, k9⟩
    have hw0 := H1.out.bel.size
    have hb1' := Nat.le_trans H.out.bel.size XB.out.1
    have H9a := Lib.hid (H8.out.other k9 (fun k hk => by cases hk; exact ⟨XA.out, hw0⟩))
    have OB9 := Lib.hid (OB8.out.heap (k9.block _ OB8.out.lt (fun hx => by have := Option.some.inj (show some w1.heap.size = some w2.heap.size from hx); omega)))
    clear rowA k9
    go_wp2_with fail
    have rowB := OB9.out.row
    rw [LQ.out] at rowB
    refine (Spoil_row _ _ w9 rowB (by rw [LQ.out]; omega)).mono ?_
    rintro e w10 ⟨rfl, k10⟩
    have H9 := Lib.hid (H9a.out.other k10 (fun k hk => by cases hk; exact ⟨XB.out, hb1'⟩))
    clear rowB k10
    go_wp2
    go_ret
    exact ⟨rfl, nextW s all, H9.out.none, fun first g2 g3 hi => hi.w all⟩
end Go.Proofs.Ytghncdoophoieaa
