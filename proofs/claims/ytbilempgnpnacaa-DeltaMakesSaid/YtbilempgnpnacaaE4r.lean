/-
  Layer 14, the program: a reader's next edit, where something is left.
-/
import Derived.Test.YtbilempgnpnacaaE4q
namespace Go.Proofs.Ytbilempgnpnacaa
set_option maxRecDepth 20000
open Go.RowKit
set_option linter.unusedVariables false
set_option linter.unusedSimpArgs false

theorem next_plain {r r1 r2 r3 r4 bl : List UInt8} {n1 n2 n3 q1 q2 q3 q4 : Nat} (b1 : q1 = numQ r) (c1 : numQ r = 0 → n1 = wordX r ∧ r1 = r.drop 4)
    (a2 : q1 ≠ 0 → q2 = q1) (b2 : q1 = 0 → q2 = numQ r1) (c2 : q1 = 0 → numQ r1 = 0 → n2 = wordX r1 ∧ r2 = r1.drop 4)
    (a3 : q2 ≠ 0 → q3 = q2) (b3 : q2 = 0 → q3 = numQ r2) (c3 : q2 = 0 → numQ r2 = 0 → n3 = wordX r2 ∧ r3 = r2.drop 4)
    (a4 : q3 ≠ 0 → q4 = q3) (b4 : q3 = 0 → q4 = if r3.length < n3 then 3 else 0) (c4 : q3 = 0 → n3 ≤ r3.length → bl = r3.take n3 ∧ r4 = r3.drop n3) :
    q4 = errQ r ∧ (errQ r = 0 → editQ r = ((n1 : Int), (n2 : Int), bl) ∧ r4 = r.drop (sizeQ r)) := by
  unfold errQ
  by_cases h1 : numQ r = 0
  · obtain ⟨rfl, rfl⟩ := c1 h1
    rw [if_neg (fun h => h h1)]
    have z1 := b1.trans h1
    have b2 := b2 z1
    by_cases h2 : numQ (r.drop 4) = 0
    · obtain ⟨rfl, rfl⟩ := c2 z1 h2
      rw [if_neg (fun h => h h2)]
      have z2 := b2.trans h2
      have b3 := b3 z2
      rw [List.drop_drop] at b3 c3
      by_cases h3 : numQ (r.drop 8) = 0
      · obtain ⟨rfl, rfl⟩ := c3 z2 h3
        rw [if_neg (fun h => h h3)]
        have z3 := b3.trans h3
        have b4 := b4 z3
        rw [List.drop_drop] at b4 c4
        refine ⟨b4, fun h => ?_⟩
        have hle : wordX (r.drop 8) ≤ (r.drop 12).length := by
          by_cases hh : (r.drop 12).length < wordX (r.drop 8)
          · rw [if_pos hh] at h; cases h
          · exact Nat.le_of_not_lt hh
        obtain ⟨rfl, rfl⟩ := c4 z3 hle
        refine ⟨rfl, ?_⟩
        unfold sizeQ
        rw [List.drop_drop]
      · rw [if_pos h3]
        have z3 : q3 ≠ 0 := fun e => h3 (b3.symm.trans e)
        exact ⟨(a4 z3).trans b3, fun h => absurd h h3⟩
    · rw [if_pos h2]
      have z2 : q2 ≠ 0 := fun e => h2 (b2.symm.trans e)
      have e3 := a3 z2
      have z3 : q3 ≠ 0 := by rw [e3]; exact z2
      exact ⟨((a4 z3).trans e3).trans b2, fun h => absurd h h2⟩
  · rw [if_pos h1]
    have z1 : q1 ≠ 0 := fun e => h1 (b1.symm.trans e)
    have e2 := a2 z1
    have z2 : q2 ≠ 0 := by rw [e2]; exact z1
    have e3 := a3 z2
    have z3 : q3 ≠ 0 := by rw [e3]; exact z2
    exact ⟨(((a4 z3).trans e3).trans e2).trans b1, fun h => absurd h h1⟩
theorem zED_put (f t : Int) (v : Value) : ((zED.setIfInBounds 0 (.int .i64 f)).setIfInBounds 1 (.int .i64 t)).setIfInBounds 2 v = arrDl f t v := rfl
set_option maxHeartbeats 16000000 in
theorem next_some {w0 w : World} {g : Nat} {v : Value} {r : List UInt8} (h : RdP w0 w g v r 0) (hr : r ≠ []) (hm : r.length ≤ 1000000) :
    Calls Try.prog 25 #[.pointer (some ⟨g, 0, none⟩)] w fun x w' => ∃ (v' : Value) (r' : List UInt8), RdP w0 w' g v' r' (errQ r) ∧ Off g w w' ∧ (errQ r ≠ 0 → x = .returned (.tuple #[.agg zED, .bool false])) ∧
      (errQ r = 0 → r' = r.drop (sizeQ r) ∧ ∃ a c, x = .returned (.tuple #[.agg (arrDl (editQ r).1 (editQ r).2.1 (.slice a (editQ r).2.2.length c)), .bool true]) ∧ Row w' (.slice a (editQ r).2.2.length c) (editQ r).2.2 ∧ ∀ k, foot (.slice a (editQ r).2.2.length c) = some k → w.heap.size ≤ k) := by
  obtain ⟨z, hz, hzs, hzv, hzb, hz1⟩ := zEdit_any
  have hzz : zED = z := hz.symm
  obtain ⟨av, cv, rfl⟩ := red_form h.red
  have b1 := (Below.refl w.heap.size w).alloc (Nat.le_refl _) (.cells z 34)
  have b2 := b1.alloc b1.size (.cells z 34)
  have e1 : (w.alloc (.cells z 34)).heap.size = w.heap.size + 1 := by simp
  have g1 := (((Below.refl (w.alloc (.cells z 34)).heap.size (w.alloc (.cells z 34))).alloc (Nat.le_refl _) (.cells z 34)).block w.heap.size (by rw [e1]; omega)).trans (heap_alloc_new w _)
  have g2 := heap_alloc_new (w.alloc (.cells z 34)) (.cells z 34)
  rw [e1] at g2
  have S0 := Lib.hid (show NxS w0 w ((w.alloc (.cells z 34)).alloc (.cells z 34)) g (.slice av r.length cv) r 0 zED from ⟨h.keep b2, by rw [hzz]; exact g1, by rw [hzz]; exact g2, off_of b2, lt_of_heap h.cell⟩)
  obtain ⟨c0, -, -, -⟩ := (h.keep b1).cells
  obtain ⟨m, hm2⟩ : ∃ m, r.length = m := ⟨_, rfl⟩
  have hm0 : ((m : Int) == 0) = false := by rw [beq_eq_false_iff_ne]; have := List.length_pos_iff.2 hr; omega
  rw [hm2] at c0 hm S0
  have ZB := Lib.hid hzb; have ZS := Lib.hid hzs; have Z1 := Lib.hid hz1; have IZ := Lib.hid (info_edit z hzs); have HM := Lib.hid hm2; have HZZ := Lib.hid hzz
  clear h b1 b2 hz hzs hzb hz1 hzz g1 g2 e1 hr hm2
  go_enter Try.func25, Try.ntmps25
  go_wp2_with fail
  refine (number_any S0.out.rd).mono ?_
  rintro x w1 ⟨n1, v1, r1, q1, rfl, hrd, hof, hl1, hn1, ha1, hb1, hc1⟩
  have S1 := Lib.hid (S0.out.call hrd hof)
  have F1 := Lib.hid (And.intro hl1 (And.intro hn1 (And.intro (hb1 rfl) (hc1 rfl))))
  have d1 : w1.cell? ⟨w.heap.size + 1, 0, none⟩ = some (.int .i64 0) := (cell_of_row w1 _ 0 _ _ _ S1.out.ed).trans rfl
  have f1 := not_frozen S1.out.ed 0
  clear hrd hof hl1 hn1 ha1 hb1 hc1 c0 S0
  go_wp2_with fail
  refine (number_any (S1.out.put 0 (.int .i64 (n1 : Int))).rd).mono ?_
  rintro x w2 ⟨n2, v2, r2, q2, rfl, hrd, hof, hl1, hn1, ha1, hb1, hc1⟩
  have S2 := Lib.hid ((S1.out.put 0 (.int .i64 (n1 : Int))).call hrd hof)
  have F2 := Lib.hid (And.intro hl1 (And.intro hn1 (And.intro ha1 (And.intro hb1 hc1))))
  have d2 : w2.cell? ⟨w.heap.size + 1, 1, none⟩ = some (.int .i64 0) := (cell_of_row w2 _ 1 _ _ _ S2.out.ed).trans rfl
  have f2 := not_frozen S2.out.ed 1
  clear hrd hof hl1 hn1 ha1 hb1 hc1 d1 f1 S1
  go_wp2_with fail
  refine (number_any (S2.out.put 1 (.int .i64 (n2 : Int))).rd).mono ?_
  rintro x w3 ⟨n3, v3, r3, q3, rfl, hrd, hof, hl1, hn1, ha1, hb1, hc1⟩
  have S3 := Lib.hid ((S2.out.put 1 (.int .i64 (n2 : Int))).call hrd hof)
  have F3 := Lib.hid (And.intro hl1 (And.intro hn1 (And.intro ha1 (And.intro hb1 hc1))))
  clear hrd hof hl1 hn1 ha1 hb1 hc1 d2 f2 S2
  go_wp2_with fail
  refine (take_any S3.out.rd n3).mono ?_
  rintro x w4 ⟨vb, bl, v4, r4, q4, rfl, hred, hrd, hof, hl1, ha1, hb1, hc1⟩
  have S4 := Lib.hid (S3.out.call hrd hof)
  have F4 := Lib.hid (And.intro ha1 (And.intro hb1 hc1))
  have BLE := Lib.hid (show bl.length ≤ 1000000 by
    have := F3.out.1
    have := F2.out.1
    have := F1.out.1
    have := HM.out
    omega)
  obtain ⟨ab, cb, hvb⟩ := red_form hred
  subst hvb
  have RB := Lib.hid (redP (hred.below hrd.below (Nat.le_refl _)))
  clear hrd hof hl1 ha1 hb1 hc1 hred S3
  obtain ⟨bn, hbn⟩ : ∃ bn, bl.length = bn := ⟨_, rfl⟩
  have CC := Lib.hid (bClone_any bl w4 ab bl.length cb RB.out.2.1 rfl RB.out.2.2.1 (by have := BLE.out; omega))
  rw [hbn] at CC ⊢
  go_wp2_with fail
  refine CC.out.mono ?_
  rintro x w5 ⟨v5, rfl, hrw, hft, hbe⟩
  have S5 := Lib.hid (S4.out.call (S4.out.rd.keep hbe) (off_of hbe))
  obtain ⟨a5, c5, hv5, -⟩ := hrw.shape
  rw [hbn] at hv5
  subst hv5
  have RW := Lib.hid hrw
  have FT := Lib.hid (fun k hk => Nat.lt_of_lt_of_le (lt_of_heap S4.out.ed) (hft k hk))
  have d5 : w5.cell? ⟨w.heap.size + 1, 2, none⟩ = some (.slice none 0 0) := (cell_of_row w5 _ 2 _ _ _ S5.out.ed).trans rfl
  have f5 := not_frozen S5.out.ed 2
  have S6 := Lib.hid (S5.out.put 2 (.slice a5 bn c5))
  obtain ⟨-, d6, -, -⟩ := S6.out.rd.cells
  obtain ⟨p1, p2⟩ := next_plain F1.out.2.2.1 F1.out.2.2.2 F2.out.2.2.1 F2.out.2.2.2.1 F2.out.2.2.2.2 F3.out.2.2.1 F3.out.2.2.2.1 F3.out.2.2.2.2 F4.out.1 F4.out.2.1 F4.out.2.2
  rw [p1] at S6 d6
  have RO := Lib.hid (show Row (w5.setCell ⟨w.heap.size + 1, 2, none⟩ (.slice a5 bn c5)) (.slice a5 bn c5) bl from RW.out.keep fun k hk => Below.heap_setCell _ _ _ _ (by have := FT.out k hk; show k ≠ w.heap.size + 1; omega))
  have HP2 := Lib.hid p2; have HBN := Lib.hid hbn
  obtain ⟨E, hE⟩ : ∃ E, arrDl (n1 : Int) (n2 : Int) (.slice a5 bn c5) = E := ⟨_, rfl⟩
  have E1 := Lib.hid (show E.all (·.oneCell') = true by rw [← hE]; exact arrDl_one _ _ _ _ _)
  have E3 := Lib.hid (show E.size = 3 by rw [← hE]; rfl)
  have IE := Lib.hid (info_edit E E3.out)
  have SZ := Lib.hid (show E.size = z.size by rw [E3.out, ZS.out])
  have HE := Lib.hid hE
  have ED := Lib.hid (show (w5.setCell ⟨w.heap.size + 1, 2, none⟩ (.slice a5 bn c5)).heap[w.heap.size + 1]? = some (.cells E 34 (0, 0)) by rw [S6.out.ed, zED_put, hE])
  have RS := Lib.hid (show (w5.setCell ⟨w.heap.size + 1, 2, none⟩ (.slice a5 bn c5)).heap[w.heap.size]? = some (.cells z 34 (0, 0)) by rw [S6.out.res, HZZ.out])
  clear hrw hft hbe CC S4 S5 RB RW F1 F2 F3 F4 p1 p2 hE hbn
  obtain ⟨q, hq⟩ : ∃ q, errQ r = q := ⟨_, rfl⟩
  rw [hq] at S6 d6
  have HQ := Lib.hid hq
  clear hq
  by_cases hz0 : q = 0
  · subst hz0
    go_wp2_with (first
      | (with_reducible refine wpList_load_all 34 (.tmp 4) rfl (by kernel_rfl) (w.heap.size + 1) E 34 (0, 0) rfl ED.out _ Try.underlying34 rfl IE.out ?_)
      | (with_reducible refine wpList_store_all rfl 34 (.tmp 2) (.tmp 30) rfl w.heap.size E rfl rfl 34 z RS.out IE.out SZ.out E1.out ?_; intro w7 hg7 ho7 hs7)
      | fail)
    have hb7 := ho7.below (B := w.heap.size) (Nat.le_refl _) (by have := S6.out.off.size; omega)
    have hlt := S6.out.lt
    have hsz := lt_of_heap ED.out
    refine bodyPost_ret (results_edit Try.results25 _ _ w.heap.size E (0, 0) _ rfl rfl hg7 E3.out) rfl ?_
    obtain ⟨k1, k2⟩ := HP2.out HQ.out
    refine ⟨v4, r4, ?_, ⟨hb7.os.trans S6.out.off.os, hb7.tape.trans S6.out.off.tape, hb7.output.trans S6.out.off.output, Nat.le_trans S6.out.off.size hb7.size, fun j hj hg => (hb7.block j hj).trans (S6.out.off.block j hj hg)⟩, fun h => absurd HQ.out h, fun _ => ⟨k2, a5, c5, ?_, ?_, ?_⟩⟩
    · rw [HQ.out]
      exact ⟨(ho7.block g (by omega) (by omega)).trans S6.out.rd.cell, S6.out.rd.red, S6.out.rd.below.trans (ho7.below (B := w0.heap.size) (by have := S6.out.rd.new; omega) S6.out.rd.below.size), S6.out.rd.new⟩
    · rw [k1]
      simp only
      rw [HBN.out, HE.out]
      rfl
    · rw [k1]
      simp only
      rw [HBN.out]
      exact RO.out.keep fun k hk => ho7.block k (RO.out.lt k hk) (by have := FT.out k hk; omega)
    · rw [k1]
      simp only
      rw [HBN.out]
      exact fun k hk => by have := FT.out k hk; omega
  · have hne : ((q : Int) == 0) = false := by rw [beq_eq_false_iff_ne]; omega
    have hne2 : ((q : Int) != 0) = true := by simp [bne, hne]
    go_wp2_with (first
      | (refine wpList_build_none rfl 34 rfl z ZB.out ?_)
      | (with_reducible refine wpList_store_all rfl 34 (.tmp 2) (.tmp 29) rfl w.heap.size z rfl rfl 34 z RS.out IZ.out rfl Z1.out ?_; intro w7 hg7 ho7 hs7)
      | fail)
    have hb7 := ho7.below (B := w.heap.size) (Nat.le_refl _) (by have := S6.out.off.size; omega)
    have hlt := S6.out.lt
    have hsz := lt_of_heap ED.out
    refine bodyPost_ret (results_edit Try.results25 _ _ w.heap.size z (0, 0) _ rfl rfl hg7 ZS.out) rfl ?_
    refine ⟨v4, r4, ?_, ⟨hb7.os.trans S6.out.off.os, hb7.tape.trans S6.out.off.tape, hb7.output.trans S6.out.off.output, Nat.le_trans S6.out.off.size hb7.size, fun j hj hg => (hb7.block j hj).trans (S6.out.off.block j hj hg)⟩, fun _ => by rw [HZZ.out]; rfl, fun h => absurd (HQ.out.symm.trans h) hz0⟩
    rw [HQ.out]
    exact ⟨(ho7.block g (by omega) (by omega)).trans S6.out.rd.cell, S6.out.rd.red, S6.out.rd.below.trans (ho7.below (B := w0.heap.size) (by have := S6.out.rd.new; omega) S6.out.rd.below.size), S6.out.rd.new⟩
end Go.Proofs.Ytbilempgnpnacaa
