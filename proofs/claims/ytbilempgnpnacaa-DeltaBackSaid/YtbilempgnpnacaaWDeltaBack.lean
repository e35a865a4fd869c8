/-
  Layer 14: the walk of DeltaBack.
-/
import Derived.Test.YtbilempgnpnacaaE4f
import Derived.Test.YtbilempgnpnacaaE4k
import Derived.Test.YtbilempgnpnacaaE4t
import Derived.Test.YtbilempgnpnacaaE4v
namespace Go.Proofs.Ytbilempgnpnacaa.deltaBack
set_option maxRecDepth 20000
open Go.RowKit
set_option linter.unusedVariables false
set_option linter.unusedSimpArgs false

set_option maxHeartbeats 8000000 in
theorem walk_long (w : World) (a1 : Option Addr) (n1 c1 : Nat) (a2 : Option Addr) (n2 c2 : Nat) (a3 : Option Addr) (n3 c3 : Nat) (m1 : n1 ≤ maxLen) (m2 : n2 ≤ maxLen) (m3 : n3 ≤ maxLen) (h : 1500 < n1 ∨ (¬ 1500 < n1 ∧ 1500 < n2) ∨ (¬ 1500 < n1 ∧ ¬ 1500 < n2 ∧ 1500 < n3)) :
    Calls Try.prog 4 #[.slice a1 n1 c1, .slice a2 n2 c2, .slice a3 n3 c3] w fun e w' => e = .returned (.bool true) ∧ Below w.heap.size w w' := by
  unfold maxLen at m1 m2 m3
  have AW := Lib.hid (awake14 w)
  rcases h with h1 | ⟨h1, h2⟩ | ⟨h1, h2, h3⟩
  all_goals
    go_enter Try.func4, Try.ntmps4
    go_wp2_with fail
    refine AW.out.mono ?_
    rintro e w1 ⟨rfl, hb⟩
    go_wp2
    go_ret
    exact ⟨rfl, hb⟩
/-- What is made: valid, of few bytes, written as it is, and applied the other text. -/
theorem made_facts (l1 l2 : List UInt8) (a : Option Addr) (c : Nat) (h1 : l1.length ≤ 1500) (h2 : l2.length ≤ 1500) : okE ((madeL l1 l2 a c).map Edc.x) 0 l1.length = true ∧ appE l1 ((madeL l1 l2 a c).map Edc.x) = l2 ∧ sumE ((madeL l1 l2 a c).map Edc.x) ≤ 1500 ∧
    (∀ e ∈ (madeL l1 l2 a c).map Edc.x, plainE e) ∧ (madeL l1 l2 a c).length ≤ 1 := by
  by_cases h : l1 = l2
  · subst h
    have hm : madeL l1 l1 a c = [] := by unfold madeL; rw [if_pos rfl]
    rw [hm]
    exact ⟨rfl, by simp [appE, preE, lastE], Nat.zero_le _, fun e he => (by cases he), Nat.zero_le _⟩
  · have hm : madeL l1 l2 a c = [⟨fromL l1 l2, ((l1.length - tailL l1 l2 : Nat) : Int), .slice a (putL l1 l2).length c, putL l1 l2⟩] := by unfold madeL; rw [if_neg h]
    have hp := putL_len l1 l2
    have ht := tail_le l1 l2
    rw [hm]
    refine ⟨ok_made l1 l2, app_made l1 l2, ?_, fun e he => ?_, Nat.le_refl _⟩
    · simp only [List.map_cons, List.map_nil, sumE, List.sum_cons, List.sum_nil, Edc.x]
      omega
    · rw [List.map_cons, List.map_nil] at he
      rw [List.mem_singleton.1 he]
      exact ⟨⟨fromL l1 l2, l1.length - tailL l1 l2, rfl, rfl, by omega, by omega⟩, by show (putL l1 l2).length ≤ _; omega⟩
set_option maxHeartbeats 16000000 in
theorem walk_main (w : World) (a1 : Option Addr) (n1 c1 : Nat) (l1 : List UInt8) (e1 : n1 = l1.length) (h1 : BAt w a1 l1) (hno1 : a1 = none → n1 = 0 ∧ c1 = 0) (hc1 : n1 ≤ c1 ∧ c1 ≤ maxLen)
    (a2 : Option Addr) (n2 c2 : Nat) (l2 : List UInt8) (e2 : n2 = l2.length) (h2 : BAt w a2 l2) (hno2 : a2 = none → n2 = 0 ∧ c2 = 0) (hc2 : n2 ≤ c2 ∧ c2 ≤ maxLen)
    (a3 : Option Addr) (n3 c3 : Nat) (l3 : List UInt8) (e3 : n3 = l3.length) (h3 : BAt w a3 l3) (hno3 : a3 = none → n3 = 0 ∧ c3 = 0) (hc3 : n3 ≤ c3 ∧ c3 ≤ maxLen) (m1 : n1 ≤ 1500) (m2 : n2 ≤ 1500) (m3 : n3 ≤ 1500) :
    Calls Try.prog 4 #[.slice a1 n1 c1, .slice a2 n2 c2, .slice a3 n3 c3] w fun e w' => e = .returned (.bool true) ∧ Below w.heap.size w w' := by
  have CM := Lib.hid (Make_is a1 a2 n1 n2 c1 c2 l1 l2 w h1 h2 e1 e2 (by omega) (by omega) hc1.1 hc2.1 hno2)
  have H1 := Lib.hid h1; have H2 := Lib.hid h2
  have H3 := Lib.hid (show Red w (.slice a3 n3 c3) l3 from ⟨a3, c3, by rw [e3], h3, by rw [← e3]; exact hno3, by rw [← e3]; exact hc3.1, hc3.2⟩)
  have E1 := Lib.hid e1; have E2 := Lib.hid e2; have E3 := Lib.hid e3
  have HC1 := Lib.hid hc1; have HN1 := Lib.hid hno1
  clear h1 h2 h3 e1 e2 e3 hno1 hno2 hno3 hc1 hc2 hc3
  go_enter Try.func4, Try.ntmps4
  go_wp2_with fail
  refine CM.out.mono ?_
  rintro e w1 ⟨ao, k, av, cv, rfl, hk, hno, he, b1⟩
  obtain ⟨f1, f2, f3, f4, f5⟩ := made_facts l1 l2 av cv (by have := E1.out; omega) (by have := E2.out; omega)
  obtain ⟨L1, hL1⟩ : ∃ L, madeL l1 l2 av cv = L := ⟨_, rfl⟩
  rw [hL1] at hk he f1 f2 f3 f4 f5
  have CA := Apply_is a1 n1 c1 l1 ao k k L1 w1 (H1.out.keep b1) E1.out HC1.out.1 HC1.out.2 HN1.out he hk (by omega) (by omega)
  rw [f1, if_pos rfl, if_pos rfl, f2] at CA
  have CA := Lib.hid CA
  have ED1 := Lib.hid he; have B1 := Lib.hid b1; have HK := Lib.hid hk
  have F := Lib.hid (And.intro f1 (And.intro f2 (And.intro f3 (And.intro f4 f5))))
  clear he b1 hk hno f1 f2 f3 f4 f5 hL1 CM
  go_wp2_with fail
  refine CA.out.mono ?_
  rintro e w2 ⟨vx, rfl, hfr, b2⟩
  obtain ⟨ax, cx, hvx, -⟩ := hfr.block
  rw [← E2.out] at hvx
  subst hvx
  have FR := Lib.hid hfr
  have B2 := Lib.hid (B1.out.trans (b2.mono B1.out.size))
  have ED2 := Lib.hid (ED1.out.keep b2)
  have CP := Lib.hid (Print_is ao k k L1 w2 ED2.out HK.out (by have := F.out.2.2.1; have := F.out.2.2.2.2; have := HK.out; omega))
  clear hfr b2 CA ED1
  go_wp2_with fail
  refine CP.out.mono ?_
  rintro e w3 ⟨vp, rfl, hrow, -, b3⟩
  obtain ⟨ap, cp, hvp, -⟩ := hrow.shape
  have hpl := printE_len (L1.map Edc.x)
  rw [List.length_map] at hpl
  obtain ⟨np, hnp⟩ : ∃ np, (printE (L1.map Edc.x)).length = np := ⟨_, rfl⟩
  rw [hnp] at hvp hpl
  subst hvp
  have B3 := Lib.hid (B2.out.trans (b3.mono B2.out.size))
  have B23 := Lib.hid b3
  have ED3 := Lib.hid (ED2.out.keep b3)
  have PP := parse_print (L1.map Edc.x) F.out.2.2.2.1
  have CQ := Parse_is ap np cp (printE (L1.map Edc.x)) w3 hrow.red (by have := F.out.2.2.1; have := F.out.2.2.2.2; omega)
  have OQ : outQ (printE (L1.map Edc.x)) = L1.map Edc.x := by unfold outQ; rw [PP, if_pos rfl]
  rw [OQ, PP] at CQ
  have CQ := Lib.hid CQ
  clear hrow b3 hpl hnp PP OQ CP ED2
  go_wp2_with fail
  refine CQ.out.mono ?_
  rintro e w4 ⟨am, km, cm, L2, rfl, hkm, hx2, he2, hf2, b4⟩
  have HX2 := Lib.hid hx2; have HKM := Lib.hid hkm; have EF2 := Lib.hid hf2
  have B4 := Lib.hid (B3.out.trans (b4.mono B3.out.size))
  have B24 := Lib.hid (B23.out.trans (b4.mono B23.out.size))
  have ED4 := Lib.hid (ED3.out.keep b4); have EM4 := Lib.hid he2
  have AW := Lib.hid (awake14 w4)
  clear hx2 hkm hf2 b4 he2 CQ ED3
  go_wp2_with fail
  refine AW.out.mono ?_
  rintro e w5 ⟨rfl, b5⟩
  have B5 := Lib.hid (B4.out.trans (b5.mono B4.out.size))
  have B25 := Lib.hid (B24.out.trans (b5.mono B24.out.size))
  have ED5 := Lib.hid (ED4.out.keep b5); have EM5 := Lib.hid (EM4.out.keep b5)
  clear b5 AW B4 B24 ED4 EM4
  have C6 := Lib.hid (by
    have q := redP (FR.out.red)
    exact Bytes_same ax a2 n2 n2 cx c2 l2 w5 (q.2.1.keep B25.out) (H2.out.keep B5.out) E2.out E2.out)
  go_wp2_with fail
  refine C6.out.mono ?_
  rintro e w6 ⟨rfl, rfl⟩
  have C7 := Lib.hid (SameE_any ao am k km k cm L1 L2 w5 ED5.out EM5.out HK.out HKM.out (by have := F.out.2.2.2.2; have := HK.out; omega) HX2.out.symm)
  clear C6
  go_wp2_with fail
  refine C7.out.mono ?_
  rintro e w6 ⟨rfl, b6⟩
  have B6 := Lib.hid (B5.out.trans (b6.mono B5.out.size))
  have B26 := Lib.hid (B25.out.trans (b6.mono B25.out.size))
  have EM6 := Lib.hid (EM5.out.keep b6)
  have C8 := Lib.hid (Spoil_fresh FR.out B26.out (by have := E2.out; omega))
  clear b6 C7 B5 B25 ED5 EM5
  go_wp2_with fail
  refine C8.out.mono ?_
  rintro e w7 ⟨rfl, hc7⟩
  have b7 := B6.out.trans (hc7.below (B := w.heap.size) B6.out.size (fun i _ hi => Nat.le_trans B1.out.size hi.1))
  have B7 := Lib.hid b7
  have EM7 := Lib.hid (EM6.out.chg EF2.out hc7 (fun k hk => Nat.lt_of_lt_of_le hk.2 B23.out.size))
  have CA := Apply_is a1 n1 c1 l1 am km cm L2 w7 (H1.out.keep b7) E1.out HC1.out.1 HC1.out.2 HN1.out EM7.out HKM.out (by
    have q := congrArg List.length HX2.out
    rw [List.length_map, List.length_map] at q
    have := F.out.2.2.2.2
    have := HKM.out
    omega) (by rw [HX2.out]; have := F.out.2.2.1; omega)
  rw [HX2.out, F.out.1, if_pos rfl, if_pos rfl, F.out.2.1] at CA
  have CA := Lib.hid CA
  clear hc7 b7 C8 EM6 B6 B26 B23 FR
  go_wp2_with fail
  refine CA.out.mono ?_
  rintro e w8 ⟨vy, rfl, hfr, b8⟩
  obtain ⟨ay, cy, hvy, -⟩ := hfr.block
  rw [← E2.out] at hvy
  subst hvy
  have B8 := Lib.hid (B7.out.trans (b8.mono B7.out.size))
  have RY := Lib.hid hfr.red
  have CQ := Lib.hid (Parse_is a3 n3 c3 l3 w8 (H3.out.below B8.out (Nat.le_refl _)) (by omega))
  clear hfr b8 CA EM7 B7
  go_wp2_with fail
  refine CQ.out.mono ?_
  rintro e w9 ⟨a9, k9, c9, L3, rfl, hk9, hx9, he9, -, b9⟩
  have B9 := Lib.hid (B8.out.trans (b9.mono B8.out.size))
  have C10 := Lib.hid (by
    have q := redP RY.out
    exact Bytes_same ay a2 n2 n2 cy c2 l2 w9 (q.2.1.keep b9) (H2.out.keep B9.out) E2.out E2.out)
  have HX9 := Lib.hid hx9; have ED9 := Lib.hid he9; have HK9 := Lib.hid hk9
  clear b9 hx9 he9 hk9 CQ RY B8
  obtain ⟨q9, hq9⟩ : ∃ q, (parseQ l3).2 = q := ⟨_, rfl⟩
  rw [hq9]
  have HQ9 := Lib.hid hq9
  clear hq9
  by_cases h0 : q9 = 0
  · subst h0
    have PR := Lib.hid (show printE (L3.map Edc.x) = l3 by
      rw [HX9.out]
      unfold outQ
      rw [if_pos HQ9.out]
      exact print_parse l3 HQ9.out)
    have PL := printE_len (L3.map Edc.x)
    rw [PR.out, List.length_map] at PL
    have CP := Print_is a9 k9 c9 L3 w9 ED9.out HK9.out (by have := HK9.out; have := E3.out; omega)
    rw [PR.out] at CP
    have CP := Lib.hid CP
    clear PL PR
    go_wp2_with fail
    refine C10.out.mono ?_
    rintro e w10 ⟨rfl, rfl⟩
    go_wp2_with fail
    refine CP.out.mono ?_
    rintro e w10 ⟨vp, rfl, hrow, -, b10⟩
    obtain ⟨ap, cp2, hvp, -, -, hbt, -⟩ := hrow.shape
    rw [← E3.out] at hvp
    subst hvp
    have B10 := Lib.hid (B9.out.trans (b10.mono B9.out.size))
    have C11 := Lib.hid (by
      have q := redP (H3.out.below B10.out (Nat.le_refl _))
      exact Bytes_same ap a3 n3 n3 cp2 c3 l3 w10 hbt q.2.1 E3.out E3.out)
    clear hrow hbt b10 CP
    go_wp2_with fail
    refine C11.out.mono ?_
    rintro e w11 ⟨rfl, rfl⟩
    go_wp2
    go_ret
    exact ⟨rfl, B10.out⟩
  · have z1 : ((q9 : Int) == 0) = false := by rw [beq_eq_false_iff_ne]; omega
    have z2 : ((q9 : Int) != 0) = true := by simp [bne, z1]
    go_wp2_with fail
    refine C10.out.mono ?_
    rintro e w10 ⟨rfl, rfl⟩
    go_wp2
    go_ret
    exact ⟨rfl, B9.out⟩
theorem walk (w : World) (a1 : Option Addr) (n1 c1 : Nat) (l1 : List UInt8) (e1 : n1 = l1.length) (h1 : BAt w a1 l1) (hno1 : a1 = none → n1 = 0 ∧ c1 = 0) (hc1 : n1 ≤ c1 ∧ c1 ≤ maxLen)
    (a2 : Option Addr) (n2 c2 : Nat) (l2 : List UInt8) (e2 : n2 = l2.length) (h2 : BAt w a2 l2) (hno2 : a2 = none → n2 = 0 ∧ c2 = 0) (hc2 : n2 ≤ c2 ∧ c2 ≤ maxLen)
    (a3 : Option Addr) (n3 c3 : Nat) (l3 : List UInt8) (e3 : n3 = l3.length) (h3 : BAt w a3 l3) (hno3 : a3 = none → n3 = 0 ∧ c3 = 0) (hc3 : n3 ≤ c3 ∧ c3 ≤ maxLen) :
    Calls Try.prog 4 #[.slice a1 n1 c1, .slice a2 n2 c2, .slice a3 n3 c3] w fun e w' => e = .returned (.bool true) ∧ Below w.heap.size w w' := by
  by_cases m1 : n1 ≤ 1500
  · by_cases m2 : n2 ≤ 1500
    · by_cases m3 : n3 ≤ 1500
      · exact walk_main w a1 n1 c1 l1 e1 h1 hno1 hc1 a2 n2 c2 l2 e2 h2 hno2 hc2 a3 n3 c3 l3 e3 h3 hno3 hc3 m1 m2 m3
      · exact walk_long w a1 n1 c1 a2 n2 c2 a3 n3 c3 (Nat.le_trans hc1.1 hc1.2) (Nat.le_trans hc2.1 hc2.2) (Nat.le_trans hc3.1 hc3.2) (.inr (.inr ⟨by omega, by omega, by omega⟩))
    · exact walk_long w a1 n1 c1 a2 n2 c2 a3 n3 c3 (Nat.le_trans hc1.1 hc1.2) (Nat.le_trans hc2.1 hc2.2) (Nat.le_trans hc3.1 hc3.2) (.inr (.inl ⟨by omega, by omega⟩))
  · exact walk_long w a1 n1 c1 a2 n2 c2 a3 n3 c3 (Nat.le_trans hc1.1 hc1.2) (Nat.le_trans hc2.1 hc2.2) (Nat.le_trans hc3.1 hc3.2) (.inl (by omega))
end Go.Proofs.Ytbilempgnpnacaa.deltaBack
