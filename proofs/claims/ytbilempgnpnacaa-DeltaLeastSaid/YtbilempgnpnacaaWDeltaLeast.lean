/-
  Layer 14: the walk of DeltaLeast.
-/
import Derived.Test.YtbilempgnpnacaaE4f
import Derived.Test.YtbilempgnpnacaaHelpB
namespace Go.Proofs.Ytbilempgnpnacaa.deltaLeast
set_option maxRecDepth 20000
open Go.RowKit
set_option linter.unusedVariables false
set_option linter.unusedSimpArgs false

set_option maxHeartbeats 8000000 in
theorem walk_long (w : World) (a1 : Option Addr) (n1 c1 : Nat) (a2 : Option Addr) (n2 c2 : Nat) (m1 : n1 ≤ maxLen) (m2 : n2 ≤ maxLen) (h : 1500 < n1 ∨ 1500 < n2) :
    Calls Try.prog 5 #[.slice a1 n1 c1, .slice a2 n2 c2] w fun e w' => e = .returned (.bool true) ∧ Below w.heap.size w w' := by
  unfold maxLen at m1 m2
  have AW := Lib.hid (awake14 w)
  by_cases h1 : 1500 < n1
  · clear h
    go_enter Try.func5, Try.ntmps5
    go_wp2_with fail
    refine AW.out.mono ?_
    rintro e w1 ⟨rfl, hb⟩
    go_wp2
    go_ret
    exact ⟨rfl, hb⟩
  · have h2 : 1500 < n2 := by omega
    clear h
    go_enter Try.func5, Try.ntmps5
    go_wp2_with fail
    refine AW.out.mono ?_
    rintro e w1 ⟨rfl, hb⟩
    go_wp2
    go_ret
    exact ⟨rfl, hb⟩
set_option maxHeartbeats 16000000 in
theorem walk_same (w : World) (a1 : Option Addr) (n1 c1 : Nat) (a2 : Option Addr) (n2 c2 : Nat) (l : List UInt8) (h1 : BAt w a1 l) (h2 : BAt w a2 l) (e1 : n1 = l.length) (e2 : n2 = l.length) (m1 : n1 ≤ 1500) :
    Calls Try.prog 5 #[.slice a1 n1 c1, .slice a2 n2 c2] w fun e w' => e = .returned (.bool true) ∧ Below w.heap.size w w' := by
  have CM := Lib.hid (make_same a1 a2 n1 n2 c1 c2 l w h1 h2 e1 e2 (by omega))
  have CB := Lib.hid (fun u (hu : Below w.heap.size w u) => Bytes_same a1 a2 n1 n2 c1 c2 l u (h1.keep hu) (h2.keep hu) e1 e2)
  have e12 : n2 = n1 := by omega
  subst e12
  clear h1 h2 e1 e2
  go_enter Try.func5, Try.ntmps5
  go_wp2_with fail
  refine CM.out.mono ?_
  rintro e w1 ⟨rfl, b1⟩
  have B1 := Lib.hid b1
  have AW := Lib.hid (awake14 w1)
  clear b1 CM
  go_wp2_with fail
  refine AW.out.mono ?_
  rintro e w2 ⟨rfl, b2⟩
  have B2 := Lib.hid (B1.out.trans (b2.mono B1.out.size))
  have CB2 := Lib.hid (CB.out w2 B2.out)
  clear b2 AW B1 CB
  go_wp2_with fail
  refine CB2.out.mono ?_
  rintro e w3 ⟨rfl, rfl⟩
  go_wp2_with fail
  go_ret
  exact ⟨rfl, B2.out⟩
/-- A byte's cell. -/
theorem BAt.cell {w : World} {a : Option Addr} {l : List UInt8} (h : BAt w a l) {b o : Nat} (ha : a = some ⟨b, o, none⟩) (k : Nat) (hk : k < l.length) : w.cell? ⟨b, o + k, none⟩ = some (.int .u8 (l.getD k 0).toNat) := by
  obtain ⟨b', o', e, -, hc⟩ := BAt.at h (by omega)
  rw [ha] at e
  cases e
  exact hc k hk
theorem bne_of_beq {x y : Int} (h : (x == y) = false) : (x != y) = true := by simp [bne, h]
theorem u8_bne {x y : UInt8} (h : x ≠ y) : ((x.toNat : Int) == (y.toNat : Int)) = false := by rw [u8_beq]; simpa using h
set_option maxHeartbeats 16000000 in
theorem walk_other (w : World) (a1 : Option Addr) (n1 c1 : Nat) (a2 : Option Addr) (n2 c2 : Nat) (l1 l2 : List UInt8) (h1 : BAt w a1 l1) (h2 : BAt w a2 l2) (e1 : n1 = l1.length) (e2 : n2 = l2.length) (m1 : n1 ≤ 1500) (m2 : n2 ≤ 1500)
    (q1 : n1 ≤ c1) (q2 : n2 ≤ c2) (hno2 : a2 = none → n2 = 0 ∧ c2 = 0) (hne : l1 ≠ l2) :
    Calls Try.prog 5 #[.slice a1 n1 c1, .slice a2 n2 c2] w fun e w' => e = .returned (.bool true) ∧ Below w.heap.size w w' := by
  have CM := Lib.hid (make_other a1 a2 n1 n2 c1 c2 l1 l2 w h1 h2 e1 e2 (by omega) (by omega) q1 q2 hno2 hne)
  have CB := Lib.hid (fun u (hu : Below w.heap.size w u) => by
    have q := Bytes_any a1 a2 n1 n2 c1 c2 l1 l2 u (h1.keep hu) (h2.keep hu) e1 e2
    rw [show (l1 == l2) = false by simpa using hne] at q
    exact q)
  have ML := Lib.hid (show ∀ a c, madeL l1 l2 a c = [⟨fromL l1 l2, ((n1 - tailL l1 l2 : Nat) : Int), .slice a (putL l1 l2).length c, putL l1 l2⟩] from fun a c => by unfold madeL; rw [if_neg hne, e1])
  have LE := make_least l1 l2
  have SO := make_some hne
  have htl := tail_le l1 l2
  rw [← e1] at LE SO htl
  obtain ⟨F, hF⟩ : ∃ F, fromL l1 l2 = F := ⟨_, rfl⟩
  obtain ⟨T, hT⟩ : ∃ T, n1 - tailL l1 l2 = T := ⟨_, rfl⟩
  obtain ⟨B, hB⟩ : ∃ B, putL l1 l2 = B := ⟨_, rfl⟩
  have hFT : F ≤ T := by omega
  have hTn : T ≤ n1 := by omega
  rw [hF, hT, hB] at LE ML
  rw [hF, hT, hB] at SO
  obtain ⟨P, hP⟩ : ∃ P, T - F = P := ⟨_, rfl⟩
  obtain ⟨m, hm⟩ : ∃ m, B.length = m := ⟨_, rfl⟩
  rw [hP, hm] at SO
  rw [hm] at LE
  have HLE := Lib.hid LE
  have HMB := Lib.hid (show m ≤ 1500 by have q := putL_len l1 l2; rw [hB, hm] at q; omega)
  have H1 := Lib.hid (fun u (hu : Below w.heap.size w u) => h1.keep hu)
  have E1 := Lib.hid e1; have HM := Lib.hid hm; have HP := Lib.hid hP
  have s1 := fun u => slice_u8_lh u a1 n1 c1 F T hFT (by omega) F T rfl rfl
  obtain ⟨A1, hA1⟩ : ∃ A, (if c1 = F then a1 else a1.map (·.add F)) = A := ⟨_, rfl⟩
  rw [hA1, hP] at s1
  have HA1 := Lib.hid hA1
  have G1 := Lib.hid (show ∀ b o, A1 = some ⟨b, o, none⟩ → 0 < P → ∃ o', a1 = some ⟨b, o', none⟩ ∧ o = o' + F from fun b o e hp => by
    rw [← hA1, if_neg (by omega)] at e
    obtain ⟨b', o', rfl, -⟩ := BAt.at h1 (by omega)
    simp only [Option.map_some, addr_add] at e
    cases e
    exact ⟨o', rfl, rfl⟩)
  have G2 := Lib.hid (show 0 < P → ∃ b o, A1 = some ⟨b, o, none⟩ from fun hp => by
    rw [← hA1, if_neg (by omega)]
    obtain ⟨b', o', rfl, -⟩ := BAt.at h1 (by omega)
    exact ⟨b', o' + F, by simp only [Option.map_some, addr_add]⟩)
  obtain ⟨z, hz, hzs, hzv, hzb, hz1⟩ := zEdit_any
  have ZS := Lib.hid hzs
  have cF : ¬ ((F : Int) < 0) := by omega
  have cT : ¬ ((T : Int) < (F : Int)) := by omega
  have cN : ¬ ((n1 : Int) < (T : Int)) := by omega
  clear h1 h2 e1 e2 q1 q2 hno2 hne htl hm LE hA1 hF hT hB hz hzs hzb hz1
  go_enter Try.func5, Try.ntmps5
  go_wp2_with fail
  refine CM.out.mono ?_
  rintro e w1 ⟨g, av, cv, rfl, he, b1⟩
  rw [ML.out] at he
  have HE := Lib.hid he
  have B1 := Lib.hid b1
  have AW := Lib.hid (awake14 w1)
  clear b1 he CM
  go_wp2_with fail
  refine AW.out.mono ?_
  rintro e w2 ⟨rfl, b2⟩
  have B2 := Lib.hid (B1.out.trans (b2.mono B1.out.size))
  have HE2 := Lib.hid (HE.out.keep b2)
  have CB2 := Lib.hid (CB.out w2 B2.out)
  clear b2 AW B1 CB HE
  go_wp2_with fail
  refine CB2.out.mono ?_
  rintro e w3 ⟨rfl, rfl⟩
  obtain ⟨E, hE⟩ : ∃ E, arrDl (F : Int) (T : Int) (.slice av m cv) = E := ⟨_, rfl⟩
  have EO := Lib.hid (show E.all (·.oneCell') = true by rw [← hE]; exact arrDl_one _ _ _ _ _)
  have E3 := Lib.hid (show E.size = 3 by rw [← hE]; rfl)
  have IE := Lib.hid (info_edit E E3.out)
  have SZ := Lib.hid (show E.size = z.size by rw [E3.out, ZS.out])
  have RG := Lib.hid (show w2.rangeAt g 0 E.toList by
    have q := HE2.out.1.elem 0 (by simp)
    rw [← hE, ← HM.out]
    exact q)
  have IL := Lib.hid (show (Try.prog.info? 34).map (·.size) = some E.toList.length by rw [Array.length_toList]; exact IE.out)
  have N2 := Lib.hid (heap_alloc_new w2 (.cells z 34))
  have HEQ := Lib.hid hE
  clear hE CB2
  have mP : P ≤ 1500 := by omega
  have mM : m ≤ 1500 := HMB.out
  have hp : (P = 0 ∧ 0 < m) ∨ (0 < P ∧ m = 0) ∨ (0 < P ∧ 0 < m) := by omega
  rcases hp with ⟨hp, g2⟩ | ⟨g2, hp⟩ | ⟨gP, gM⟩
  · have f1 : ((P : Int) == 0) = true := by rw [beq_iff_eq]; omega
    have f3 : (0 : Int) < (P : Int) + (m : Int) := by omega
    go_wp2_with (first
      | (with_reducible refine wpList_load_mid rfl 34 (.tmp 40) rfl g 0 rfl E.toList _ RG.out Try.underlying34 rfl IL.out ?_; rw [Array.toArray_toList])
      | (with_reducible refine wpList_store_all rfl 34 (.tmp 6) (.tmp 41) rfl w2.heap.size E rfl rfl 34 z N2.out IE.out SZ.out EO.out ?_; intro w4 hg4 ho4 hs4; obtain ⟨x0, x1, x2⟩ := edit_cells hg4 HEQ.out; clear hg4 hzv)
      | fail)
    have B4 : Below w2.heap.size w2 w4 := ((Below.refl w2.heap.size w2).alloc (Nat.le_refl _) (.cells z 34)).trans (ho4.below (B := w2.heap.size) (Nat.le_refl _) (by simp))
    have FIN := Lib.hid (B2.out.trans (B4.mono B2.out.size))
    have HB4 : Red w4 (.slice av B.length cv) B := (HE2.out.2 ⟨(F : Int), (T : Int), .slice av B.length cv, B⟩ (by simp)).below B4 (Nat.le_refl _)
    have HA4 := Lib.hid (H1.out w4 FIN.out)
    have HRB := Lib.hid HB4
    clear HB4 B4 ho4 hs4
    go_ret
    exact ⟨by simp, FIN.out⟩
  · have f1 : ((P : Int) == 0) = false := by rw [beq_eq_false_iff_ne]; omega
    have f2 : ((m : Int) == 0) = true := by rw [beq_iff_eq]; omega
    have f3 : (0 : Int) < (P : Int) + (m : Int) := by omega
    go_wp2_with (first
      | (with_reducible refine wpList_load_mid rfl 34 (.tmp 40) rfl g 0 rfl E.toList _ RG.out Try.underlying34 rfl IL.out ?_; rw [Array.toArray_toList])
      | (with_reducible refine wpList_store_all rfl 34 (.tmp 6) (.tmp 41) rfl w2.heap.size E rfl rfl 34 z N2.out IE.out SZ.out EO.out ?_; intro w4 hg4 ho4 hs4; obtain ⟨x0, x1, x2⟩ := edit_cells hg4 HEQ.out; clear hg4 hzv)
      | fail)
    have B4 : Below w2.heap.size w2 w4 := ((Below.refl w2.heap.size w2).alloc (Nat.le_refl _) (.cells z 34)).trans (ho4.below (B := w2.heap.size) (Nat.le_refl _) (by simp))
    have FIN := Lib.hid (B2.out.trans (B4.mono B2.out.size))
    have HB4 : Red w4 (.slice av B.length cv) B := (HE2.out.2 ⟨(F : Int), (T : Int), .slice av B.length cv, B⟩ (by simp)).below B4 (Nat.le_refl _)
    have HA4 := Lib.hid (H1.out w4 FIN.out)
    have HRB := Lib.hid HB4
    clear HB4 B4 ho4 hs4
    go_ret
    exact ⟨by simp, FIN.out⟩
  · have f1 : ((P : Int) == 0) = false := by rw [beq_eq_false_iff_ne]; omega
    have f2 : ((m : Int) == 0) = false := by rw [beq_eq_false_iff_ne]; omega
    go_wp2_with (first
      | (with_reducible refine wpList_load_mid rfl 34 (.tmp 40) rfl g 0 rfl E.toList _ RG.out Try.underlying34 rfl IL.out ?_; rw [Array.toArray_toList])
      | (with_reducible refine wpList_store_all rfl 34 (.tmp 6) (.tmp 41) rfl w2.heap.size E rfl rfl 34 z N2.out IE.out SZ.out EO.out ?_; intro w4 hg4 ho4 hs4; obtain ⟨x0, x1, x2⟩ := edit_cells hg4 HEQ.out; clear hg4 hzv)
      | fail)
    have B4 : Below w2.heap.size w2 w4 := ((Below.refl w2.heap.size w2).alloc (Nat.le_refl _) (.cells z 34)).trans (ho4.below (B := w2.heap.size) (Nat.le_refl _) (by simp))
    have FIN := Lib.hid (B2.out.trans (B4.mono B2.out.size))
    have HB4 : Red w4 (.slice av B.length cv) B := (HE2.out.2 ⟨(F : Int), (T : Int), .slice av B.length cv, B⟩ (by simp)).below B4 (Nat.le_refl _)
    have HA4 := Lib.hid (H1.out w4 FIN.out)
    have HRB := Lib.hid HB4
    clear HB4 B4 ho4 hs4
    obtain ⟨b, o, rfl⟩ := G2.out gP
    obtain ⟨o', rfl, rfl⟩ := G1.out b o rfl gP
    obtain ⟨av', cv', hv, hbat, -⟩ := HRB.out
    have hv' : av = av' ∧ cv = cv' := by simpa using hv
    obtain ⟨rfl, rfl⟩ := hv'
    obtain ⟨bb, oo, rfl, -⟩ := BAt.at hbat (by rw [HM.out]; exact gM)
    obtain ⟨P1, hP1⟩ : ∃ P1, P - 1 = P1 := ⟨_, rfl⟩
    obtain ⟨M1, hM1⟩ : ∃ M1, m - 1 = M1 := ⟨_, rfl⟩
    have i1 : (P : Int) - 1 = (P1 : Int) := by omega
    have i2 : (m : Int) - 1 = (M1 : Int) := by omega
    have y0 := BAt.cell HA4.out rfl F (by rw [← E1.out]; omega)
    have y1 := BAt.cell HA4.out rfl (T - 1) (by rw [← E1.out]; omega)
    have y2 := BAt.cell hbat rfl 0 (by rw [HM.out]; exact gM)
    have y3 := BAt.cell hbat rfl M1 (by rw [HM.out]; omega)
    rw [show o' + (T - 1) = o' + F + P1 by have := HP.out; omega] at y1
    rw [Nat.add_zero] at y2
    obtain ⟨d1, d2⟩ := HLE.out (by have := HP.out; omega) gM
    rw [hM1] at d2
    have d1 := u8_bne d1
    have d2 := u8_bne d2
    have d3 := bne_of_beq d1
    have d4 := bne_of_beq d2
    generalize (((l1.getD F 0).toNat : Nat) : Int) = u0 at *
    generalize (((l1.getD (T - 1) 0).toNat : Nat) : Int) = u1 at *
    generalize (((B.getD 0 0).toNat : Nat) : Int) = u2 at *
    generalize (((B.getD M1 0).toNat : Nat) : Int) = u3 at *
    have jP : P1 < P := by omega
    have jM : M1 < m := by omega
    clear hv hbat hP1 hM1
    go_quiet (fail)
    go_wp2
    go_ret
    exact ⟨by simp [d1, d2], below_drewN FIN.out _⟩
theorem walk (w : World) (a1 : Option Addr) (n1 c1 : Nat) (l1 : List UInt8) (hl1 : n1 = l1.length) (hb1 : BAt w a1 l1) (hno1 : a1 = none → n1 = 0 ∧ c1 = 0) (hc1 : n1 ≤ c1 ∧ c1 ≤ maxLen)
    (a2 : Option Addr) (n2 c2 : Nat) (l2 : List UInt8) (hl2 : n2 = l2.length) (hb2 : BAt w a2 l2) (hno2 : a2 = none → n2 = 0 ∧ c2 = 0) (hc2 : n2 ≤ c2 ∧ c2 ≤ maxLen) :
    Calls Try.prog 5 #[.slice a1 n1 c1, .slice a2 n2 c2] w fun e w' => e = .returned (.bool true) ∧ Below w.heap.size w w' := by
  by_cases hm : 1500 < n1 ∨ 1500 < n2
  · exact walk_long w a1 n1 c1 a2 n2 c2 (by omega) (by omega) hm
  · by_cases he : l1 = l2
    · subst he
      exact walk_same w a1 n1 c1 a2 n2 c2 l1 hb1 hb2 hl1 hl2 (by omega)
    · exact walk_other w a1 n1 c1 a2 n2 c2 l1 l2 hb1 hb2 hl1 hl2 (by omega) (by omega) hc1.1 hc2.1 hno2 he
end Go.Proofs.Ytbilempgnpnacaa.deltaLeast
