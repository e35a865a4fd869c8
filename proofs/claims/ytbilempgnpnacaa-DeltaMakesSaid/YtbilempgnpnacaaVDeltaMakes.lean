/-
  Layer 14: the walk of DeltaMakes.
-/
import Derived.Test.YtbilempgnpnacaaE4n
import Derived.Test.YtbilempgnpnacaaE4f
import Derived.Test.YtbilempgnpnacaaE4k
import Derived.Test.YtbilempgnpnacaaE4t
import Derived.Test.YtbilempgnpnacaaE4v
import Derived.Test.YtbilempgnpnacaaE4w
import Derived.Test.YtbilempgnpnacaaE4x
import Derived.Test.YtbilempgnpnacaaE4yq
import Derived.Test.YtbilempgnpnacaaE4z
import Derived.Test.YtbilempgnpnacaaKept
/-
  Layer 14, plain: what bytes are read as is no longer than they.
-/
namespace Go.Proofs.Ytbilempgnpnacaa
open Go
set_option linter.unusedVariables false
set_option linter.unusedSimpArgs false

theorem parseF_len : ∀ (n : Nat) (r : List UInt8), r.length ≤ n → (parseF n r).1.length ≤ r.length
  | 0, r, _ => by rw [parseF]; exact Nat.zero_le _
  | n + 1, r, h => by
    rw [parseF]
    by_cases hr : r = []
    · rw [if_pos hr]; exact Nat.zero_le _
    · rw [if_neg hr]
      by_cases he : errQ r ≠ 0
      · rw [if_pos he]; exact Nat.zero_le _
      · rw [if_neg he]
        have hs := sizeQ_pos r hr
        have ih := parseF_len n (r.drop (sizeQ r)) (by omega)
        show (parseF n (r.drop (sizeQ r))).1.length + 1 ≤ r.length
        omega
theorem outQ_len (r : List UInt8) : (outQ r).length ≤ r.length := by
  obtain ⟨p, hp⟩ : ∃ p, parseQ r = p := ⟨_, rfl⟩
  have h : (parseQ r).1.length ≤ r.length := parseF_len r.length r (Nat.le_refl _)
  unfold outQ
  rw [hp] at h ⊢
  split
  · exact h
  · exact Nat.zero_le _
end Go.Proofs.Ytbilempgnpnacaa
namespace Go.Proofs.Ytbilempgnpnacaa.deltaMakes
set_option maxRecDepth 20000
open Go.RowKit
set_option linter.unusedVariables false
set_option linter.unusedSimpArgs false

theorem made_same (l1 l2 : List UInt8) (a a' : Option Addr) (c c' : Nat) : (madeL l1 l2 a c).map Edc.x = (madeL l1 l2 a' c').map Edc.x ∧ (madeL l1 l2 a c).length ≤ 1 := by
  unfold madeL
  by_cases h : l1 = l2
  · rw [if_pos h, if_pos h]; exact ⟨rfl, Nat.zero_le _⟩
  · rw [if_neg h, if_neg h]; exact ⟨rfl, Nat.le_refl _⟩
theorem rMake_is (a1 a2 : Option Addr) (n1 n2 c1 c2 : Nat) (l1 l2 : List UInt8) (w : World) (h1 : BAt w a1 l1) (h2 : BAt w a2 l2) (e1 : n1 = l1.length) (e2 : n2 = l2.length) (m1 : n1 ≤ 1000000) (m2 : n2 ≤ 1000000)
    (q1 : n1 ≤ c1) (q2 : n2 ≤ c2) (hno2 : a2 = none → n2 = 0 ∧ c2 = 0) :
    Calls Try.prog 16 #[.slice a1 n1 c1, .slice a2 n2 c2] w fun e w' => ∃ ao k a c, e = .returned (.slice ao k k) ∧ k = (madeL l1 l2 a c).length ∧ EdAt w' ao (madeL l1 l2 a c) ∧ Below w.heap.size w w' := by
  by_cases h : l1 = l2
  · subst h
    refine (rmake_same a1 a2 n1 n2 c1 c2 l1 w h1 h2 e1 e2).mono ?_
    rintro e w' ⟨rfl, hb⟩
    have hm : madeL l1 l1 none 0 = [] := by unfold madeL; rw [if_pos rfl]
    exact ⟨none, 0, none, 0, rfl, by rw [hm]; rfl, by rw [hm]; exact ⟨RowAt.nil _ _, fun e he => (by cases he)⟩, hb⟩
  · refine (rmake_other a1 a2 n1 n2 c1 c2 l1 l2 w h1 h2 e1 e2 m1 m2 q1 q2 hno2 h).mono ?_
    rintro e w' ⟨g, a, c, rfl, he, hb⟩
    exact ⟨_, 1, a, c, rfl, by unfold madeL; rw [if_neg h]; rfl, he, hb⟩
set_option maxHeartbeats 8000000 in
theorem walk_long (w : World) (a1 : Option Addr) (n1 c1 : Nat) (a2 : Option Addr) (n2 c2 : Nat) (a3 : Option Addr) (n3 c3 : Nat) (l : List Edc) (a4 : Option Addr) (n4 c4 : Nat) (m1 : n1 ≤ maxLen) (m2 : n2 ≤ maxLen) (m4 : n4 ≤ maxLen)
    (h3 : EdAt w a3 l) (e3 : n3 = l.length) (m3 : n3 ≤ maxLen) (hr : ∀ e ∈ l, e.b.length ≤ 1000000000000000)
    (h : 1500 < n1 ∨ (¬ 1500 < n1 ∧ 1500 < n2) ∨ (¬ 1500 < n1 ∧ ¬ 1500 < n2 ∧ fewE (l.map Edc.x) = false) ∨ (¬ 1500 < n1 ∧ ¬ 1500 < n2 ∧ fewE (l.map Edc.x) = true ∧ 1500 < n4)) :
    Calls Try.prog 3 #[.slice a1 n1 c1, .slice a2 n2 c2, .slice a3 n3 c3, .slice a4 n4 c4] w fun e w' => e = .returned (.bool true) ∧ Below w.heap.size w w' := by
  have FW := Lib.hid (few_is a3 n3 c3 l w h3 e3 m3 hr)
  unfold maxLen at m1 m2 m4
  have AW := Lib.hid (awake14 w)
  clear h3 e3 m3 hr
  rcases h with h1 | ⟨h1, h2⟩ | ⟨h1, h2, h3⟩ | ⟨h1, h2, h3, h4⟩
  · clear FW
    go_enter Try.func3, Try.ntmps3
    go_wp2_with fail
    refine AW.out.mono ?_
    rintro e w1 ⟨rfl, hb⟩
    go_wp2
    go_ret
    exact ⟨rfl, hb⟩
  · clear FW
    go_enter Try.func3, Try.ntmps3
    go_wp2_with fail
    refine AW.out.mono ?_
    rintro e w1 ⟨rfl, hb⟩
    go_wp2
    go_ret
    exact ⟨rfl, hb⟩
  · rw [h3] at FW
    clear h3
    go_enter Try.func3, Try.ntmps3
    go_wp2_with fail
    refine FW.out.mono ?_
    rintro e w1 ⟨rfl, rfl⟩
    go_wp2_with fail
    refine AW.out.mono ?_
    rintro e w2 ⟨rfl, hb⟩
    go_wp2
    go_ret
    exact ⟨rfl, hb⟩
  · rw [h3] at FW
    clear h3
    go_enter Try.func3, Try.ntmps3
    go_wp2_with fail
    refine FW.out.mono ?_
    rintro e w1 ⟨rfl, rfl⟩
    go_wp2_with fail
    refine AW.out.mono ?_
    rintro e w2 ⟨rfl, hb⟩
    go_wp2
    go_ret
    exact ⟨rfl, hb⟩
set_option maxHeartbeats 32000000 in
theorem walk_main (w0 : World) (a1 : Option Addr) (n1 c1 : Nat) (l1 : List UInt8) (e1 : n1 = l1.length) (h1 : BAt w0 a1 l1) (hno1 : a1 = none → n1 = 0 ∧ c1 = 0) (hc1 : n1 ≤ c1 ∧ c1 ≤ maxLen)
    (a2 : Option Addr) (n2 c2 : Nat) (l2 : List UInt8) (e2 : n2 = l2.length) (h2 : BAt w0 a2 l2) (hno2 : a2 = none → n2 = 0 ∧ c2 = 0) (hc2 : n2 ≤ c2 ∧ c2 ≤ maxLen)
    (a3 : Option Addr) (n3 c3 : Nat) (l : List Edc) (e3 : n3 = l.length) (h3 : EdAt w0 a3 l) (m3 : n3 ≤ maxLen) (hr : ∀ e ∈ l, e.b.length ≤ 1000000000000000)
    (a4 : Option Addr) (n4 c4 : Nat) (l4 : List UInt8) (e4 : n4 = l4.length) (h4 : BAt w0 a4 l4) (hno4 : a4 = none → n4 = 0 ∧ c4 = 0) (hc4 : n4 ≤ c4 ∧ c4 ≤ maxLen) (m1 : n1 ≤ 1500) (m2 : n2 ≤ 1500) (m4 : n4 ≤ 1500) (hf : fewE (l.map Edc.x) = true) :
    Calls Try.prog 3 #[.slice a1 n1 c1, .slice a2 n2 c2, .slice a3 n3 c3, .slice a4 n4 c4] w0 fun e w' => e = .returned (.bool true) ∧ Below w0.heap.size w0 w' := by
  have FW := few_is a3 n3 c3 l w0 h3 e3 m3 hr
  rw [hf] at FW
  have FW := Lib.hid FW
  have hfe := hf
  unfold fewE at hfe
  simp only [Bool.and_eq_true, decide_eq_true_eq, List.length_map] at hfe
  have N60 := Lib.hid (show n3 < 60 by omega)
  have S30 := Lib.hid hfe.2
  have H1 := Lib.hid h1; have H2 := Lib.hid h2; have H3 := Lib.hid h3
  have H4 := Lib.hid (show Red w0 (.slice a4 n4 c4) l4 from ⟨a4, c4, by rw [e4], h4, by rw [← e4]; exact hno4, by rw [← e4]; exact hc4.1, hc4.2⟩)
  have L4 := Lib.hid (show l4.length ≤ 1500 by omega)
  have E1 := Lib.hid e1; have E2 := Lib.hid e2; have E3 := Lib.hid e3
  have HN1 := Lib.hid hno1; have HN2 := Lib.hid hno2; have HC1 := Lib.hid hc1; have HC2 := Lib.hid hc2
  have C1 := Own_any a1 n1 c1 l1 71 w0 h1 hno1 e1 (by omega)
  rw [← e1] at C1
  have C1 := Lib.hid C1
  clear h1 h2 h3 h4 e1 e2 e3 e4 hno1 hno2 hno4 hc1 hc2 hc4 hf hfe hr m3
  go_enter Try.func3, Try.ntmps3
  go_wp2_with fail
  refine FW.out.mono ?_
  rintro e w' ⟨rfl, rfl⟩
  clear FW
  go_wp2_with fail
  refine C1.out.mono ?_
  rintro e w1 ⟨rfl, ho, b⟩
  obtain ⟨g1, hg1⟩ : ∃ g, w'.heap.size = g := ⟨_, rfl⟩
  have O1 := Lib.hid (show OwnAt w1 g1 l1 71 by rw [← hg1]; exact ho)
  have B := Lib.hid b
  rw [hg1]
  have C2 := Own_any a2 n2 c2 l2 71 w1 (H2.out.keep b) HN2.out E2.out (by have := E2.out; omega)
  rw [← E2.out] at C2
  have C2 := Lib.hid C2
  clear ho b hg1 C1
  go_wp2_with fail
  refine C2.out.mono ?_
  rintro e w2 ⟨rfl, ho, b⟩
  obtain ⟨g2, hg2⟩ : ∃ g, w1.heap.size = g := ⟨_, rfl⟩
  have O2 := Lib.hid (show OwnAt w2 g2 l2 71 by rw [← hg2]; exact ho)
  rw [hg2]
  have B := Lib.hid (B.out.trans (b.mono B.out.size))
  have O1 := Lib.hid (O1.out.keep b)
  clear ho b hg2 C2
  have CA := Lib.hid (Apply_is (some ⟨g1, 0, none⟩) n1 (n1 + 3) l1 a3 n3 c3 l w2 O1.out.bat E1.out (by omega) (by unfold maxLen; omega) (fun h => by cases h) (H3.out.keep B.out) E3.out (by have := N60.out; omega) (by have := S30.out; omega))
  obtain ⟨ER, hER⟩ : ∃ ER : Int, (if okE (l.map Edc.x) 0 l1.length = true then (0 : Int) else 11) = ER := ⟨_, rfl⟩
  obtain ⟨U, hU⟩ : ∃ U : List UInt8, (if okE (l.map Edc.x) 0 l1.length = true then appE l1 (l.map Edc.x) else []) = U := ⟨_, rfl⟩
  obtain ⟨NU, hNU⟩ : ∃ NU, U.length = NU := ⟨_, rfl⟩
  rw [hER, hU] at CA
  have HER := Lib.hid hER; have HU := Lib.hid hU; have HNU := Lib.hid hNU
  clear hER hU hNU
  go_wp2_with fail
  refine CA.out.mono ?_
  rintro e w3 ⟨vu, rfl, hfr, b⟩
  obtain ⟨au, cu, hvu, -⟩ := hfr.block
  rw [HNU.out] at hvu
  subst hvu
  have RU := Lib.hid hfr.red
  have B := Lib.hid (B.out.trans (b.mono B.out.size))
  have O1 := Lib.hid (O1.out.keep b)
  have O2 := Lib.hid (O2.out.keep b)
  clear hfr b CA
  have CR := rApply_is a1 n1 c1 l1 a3 n3 c3 l w3 (H1.out.keep B.out) E1.out HC1.out.1 HC1.out.2 HN1.out (H3.out.keep B.out) E3.out (by have := N60.out; omega) (by have := S30.out; omega)
  rw [HER.out, HU.out] at CR
  have CR := Lib.hid CR
  go_wp2_with fail
  refine CR.out.mono ?_
  rintro e w4 ⟨vv, rfl, hrow, b⟩
  obtain ⟨av, cv, hvv, -⟩ := hrow.shape
  rw [HNU.out] at hvv
  subst hvv
  have RV := Lib.hid hrow.red
  have B := Lib.hid (B.out.trans (b.mono B.out.size))
  have O1 := Lib.hid (O1.out.keep b)
  have O2 := Lib.hid (O2.out.keep b)
  have RU := Lib.hid (RU.out.below b (Nat.le_refl _))
  clear hrow b CR
  obtain ⟨EP, hEP⟩ : ∃ EP : Int, (((parseQ l4).2 : Nat) : Int) = EP := ⟨_, rfl⟩
  have CP := Parse_is a4 n4 c4 l4 w4 (H4.out.below B.out (Nat.le_refl _)) (by omega)
  rw [hEP] at CP
  have CP := Lib.hid CP; have HEP := Lib.hid hEP
  clear hEP
  go_wp2_with fail
  refine CP.out.mono ?_
  rintro e w5 ⟨ap, kp, cp, LP, rfl, hkp, hxp, hep, -, b⟩
  have KP := Lib.hid hkp; have XP := Lib.hid hxp; have EDP := Lib.hid hep
  have B := Lib.hid (B.out.trans (b.mono B.out.size))
  have O1 := Lib.hid (O1.out.keep b)
  have O2 := Lib.hid (O2.out.keep b)
  have RU := Lib.hid (RU.out.below b (Nat.le_refl _))
  have RV := Lib.hid (RV.out.below b (Nat.le_refl _))
  clear hkp hxp hep b CP
  have CQ := rParse_is a4 n4 c4 l4 w5 (H4.out.below B.out (Nat.le_refl _)) (by omega)
  rw [HEP.out] at CQ
  have CQ := Lib.hid CQ
  go_wp2_with fail
  refine CQ.out.mono ?_
  rintro e w6 ⟨aq, kq, cq, LQ, rfl, hkq, hxq, heq, b⟩
  have KQ := Lib.hid hkq; have XQ := Lib.hid hxq; have EDQ := Lib.hid heq
  have B := Lib.hid (B.out.trans (b.mono B.out.size))
  have O1 := Lib.hid (O1.out.keep b)
  have O2 := Lib.hid (O2.out.keep b)
  have RU := Lib.hid (RU.out.below b (Nat.le_refl _))
  have RV := Lib.hid (RV.out.below b (Nat.le_refl _))
  have EDP := Lib.hid (EDP.out.keep b)
  clear hkq hxq heq b CQ
  have AW := Lib.hid (awake14 w6)
  go_wp2_with fail
  refine AW.out.mono ?_
  rintro e w7 ⟨rfl, b⟩
  have B := Lib.hid (B.out.trans (b.mono B.out.size))
  have O1 := Lib.hid (O1.out.keep b)
  have O2 := Lib.hid (O2.out.keep b)
  have RU := Lib.hid (RU.out.below b (Nat.le_refl _))
  have RV := Lib.hid (RV.out.below b (Nat.le_refl _))
  have EDP := Lib.hid (EDP.out.keep b)
  have EDQ := Lib.hid (EDQ.out.keep b)
  clear b AW
  have CM := Lib.hid (Make_is (some ⟨g1, 0, none⟩) (some ⟨g2, 0, none⟩) n1 n2 (n1 + 3) (n2 + 3) l1 l2 w7 O1.out.bat O2.out.bat E1.out E2.out (by omega) (by omega) (by omega) (by omega) (fun h => by cases h))
  go_wp2_with fail
  refine CM.out.mono ?_
  rintro e w8 ⟨am, km, avm, cvm, rfl, hkm, -, hem, b⟩
  have KM := Lib.hid hkm; have EDM := Lib.hid hem
  have B := Lib.hid (B.out.trans (b.mono B.out.size))
  have O1 := Lib.hid (O1.out.keep b)
  have O2 := Lib.hid (O2.out.keep b)
  have RU := Lib.hid (RU.out.below b (Nat.le_refl _))
  have RV := Lib.hid (RV.out.below b (Nat.le_refl _))
  have EDP := Lib.hid (EDP.out.keep b)
  have EDQ := Lib.hid (EDQ.out.keep b)
  clear hkm hem b CM
  have CN := Lib.hid (rMake_is a1 a2 n1 n2 c1 c2 l1 l2 w8 (H1.out.keep B.out) (H2.out.keep B.out) E1.out E2.out (by omega) (by omega) HC1.out.1 HC2.out.1 HN2.out)
  go_wp2_with fail
  refine CN.out.mono ?_
  rintro e w9 ⟨an, kn, avn, cvn, rfl, hkn, hen, b⟩
  have KN := Lib.hid hkn; have EDN := Lib.hid hen
  have B := Lib.hid (B.out.trans (b.mono B.out.size))
  have O1 := Lib.hid (O1.out.keep b)
  have O2 := Lib.hid (O2.out.keep b)
  have RU := Lib.hid (RU.out.below b (Nat.le_refl _))
  have RV := Lib.hid (RV.out.below b (Nat.le_refl _))
  have EDP := Lib.hid (EDP.out.keep b)
  have EDQ := Lib.hid (EDQ.out.keep b)
  have EDM := Lib.hid (EDM.out.keep b)
  clear hkn hen b CN
  have CS := Lib.hid (SameE_any am an km kn km kn _ _ w9 EDM.out EDN.out KM.out KN.out (by have := (made_same l1 l2 avm avn cvm cvn).2; have := KM.out; omega) (made_same l1 l2 avm avn cvm cvn).1)
  go_wp2_with fail
  refine CS.out.mono ?_
  rintro e w10 ⟨rfl, b⟩
  have B := Lib.hid (B.out.trans (b.mono B.out.size))
  have O1 := Lib.hid (O1.out.keep b)
  have O2 := Lib.hid (O2.out.keep b)
  have RU := Lib.hid (RU.out.below b (Nat.le_refl _))
  have RV := Lib.hid (RV.out.below b (Nat.le_refl _))
  have EDP := Lib.hid (EDP.out.keep b)
  have EDQ := Lib.hid (EDQ.out.keep b)
  clear b CS
  have CB := Lib.hid (by
    have q1 := redP RU.out
    have q2 := redP RV.out
    exact Bytes_same au av NU NU cu cv U w10 q1.2.1 q2.2.1 q1.1 q2.1)
  go_wp2_with fail
  refine CB.out.mono ?_
  rintro e w11 ⟨rfl, rfl⟩
  have CP := Lib.hid (Print_is a3 n3 c3 l w10 (H3.out.keep B.out) E3.out (by have := N60.out; have := S30.out; omega))
  clear CB
  go_wp2_with fail
  refine CP.out.mono ?_
  rintro e w11 ⟨vp, rfl, hrow, -, b⟩
  obtain ⟨app, cpp, hvp, -⟩ := hrow.shape
  obtain ⟨NP, hNP⟩ : ∃ NP, (printE (l.map Edc.x)).length = NP := ⟨_, rfl⟩
  rw [hNP] at hvp
  subst hvp
  have RP := Lib.hid hrow.red; have HNP := Lib.hid hNP
  have B := Lib.hid (B.out.trans (b.mono B.out.size))
  have O1 := Lib.hid (O1.out.keep b)
  have O2 := Lib.hid (O2.out.keep b)
  have EDP := Lib.hid (EDP.out.keep b)
  have EDQ := Lib.hid (EDQ.out.keep b)
  clear hrow b hNP CP
  have CQ := Lib.hid (rPrint_is a3 n3 c3 l w11 (H3.out.keep B.out) E3.out (by have := N60.out; have := S30.out; omega))
  go_wp2_with fail
  refine CQ.out.mono ?_
  rintro e w12 ⟨vq, rfl, hrow, -, b⟩
  obtain ⟨aqq, cqq, hvq, -⟩ := hrow.shape
  rw [HNP.out] at hvq
  subst hvq
  have RQ := Lib.hid hrow.red
  have B := Lib.hid (B.out.trans (b.mono B.out.size))
  have O1 := Lib.hid (O1.out.keep b)
  have O2 := Lib.hid (O2.out.keep b)
  have EDP := Lib.hid (EDP.out.keep b)
  have EDQ := Lib.hid (EDQ.out.keep b)
  have RP := Lib.hid (RP.out.below b (Nat.le_refl _))
  clear hrow b CQ
  have CB := Lib.hid (by
    have q1 := redP RP.out
    have q2 := redP RQ.out
    exact Bytes_same app aqq NP NP cpp cqq _ w12 q1.2.1 q2.2.1 q1.1 q2.1)
  go_wp2_with fail
  refine CB.out.mono ?_
  rintro e w13 ⟨rfl, rfl⟩
  have KPB := Lib.hid (show kp ≤ 1000000 by
    have q := congrArg List.length XP.out
    rw [List.length_map] at q
    have q2 := outQ_len l4
    have := L4.out
    have := KP.out
    omega)
  have CS := Lib.hid (SameE_any ap aq kp kq cp cq LP LQ w12 EDP.out EDQ.out KP.out KQ.out KPB.out (XP.out.trans XQ.out.symm))
  clear CB
  go_wp2_with fail
  refine CS.out.mono ?_
  rintro e w13 ⟨rfl, b⟩
  have B := Lib.hid (B.out.trans (b.mono B.out.size))
  have O1 := Lib.hid (O1.out.keep b)
  have O2 := Lib.hid (O2.out.keep b)
  clear b CS
  have CK := Lib.hid (Kept_any g1 n1 n1 (n1 + 3) c1 a1 l1 71 w13 O1.out (H1.out.keep B.out) E1.out (by have := E1.out; omega) E1.out (by have := E1.out; omega))
  go_wp2_with fail
  refine CK.out.mono ?_
  rintro e w14 ⟨rfl, b⟩
  have B := Lib.hid (B.out.trans (b.mono B.out.size))
  have O1 := Lib.hid (O1.out.keep b)
  have O2 := Lib.hid (O2.out.keep b)
  clear b CK
  have CK := Lib.hid (Kept_any g2 n2 n2 (n2 + 3) c2 a2 l2 71 w14 O2.out (H2.out.keep B.out) E2.out (by have := E2.out; omega) E2.out (by have := E2.out; omega))
  go_wp2_with fail
  refine CK.out.mono ?_
  rintro e w15 ⟨rfl, b⟩
  have B := Lib.hid (B.out.trans (b.mono B.out.size))
  go_wp2
  go_ret
  exact ⟨rfl, B.out⟩
theorem walk (w : World) (a1 : Option Addr) (n1 c1 : Nat) (l1 : List UInt8) (e1 : n1 = l1.length) (h1 : BAt w a1 l1) (hno1 : a1 = none → n1 = 0 ∧ c1 = 0) (hc1 : n1 ≤ c1 ∧ c1 ≤ maxLen)
    (a2 : Option Addr) (n2 c2 : Nat) (l2 : List UInt8) (e2 : n2 = l2.length) (h2 : BAt w a2 l2) (hno2 : a2 = none → n2 = 0 ∧ c2 = 0) (hc2 : n2 ≤ c2 ∧ c2 ≤ maxLen)
    (a3 : Option Addr) (n3 c3 : Nat) (l : List Edc) (e3 : n3 = l.length) (h3 : EdAt w a3 l) (hc3 : n3 ≤ c3 ∧ c3 ≤ maxLen) (hr : ∀ e ∈ l, e.b.length ≤ 1000000000000000)
    (a4 : Option Addr) (n4 c4 : Nat) (l4 : List UInt8) (e4 : n4 = l4.length) (h4 : BAt w a4 l4) (hno4 : a4 = none → n4 = 0 ∧ c4 = 0) (hc4 : n4 ≤ c4 ∧ c4 ≤ maxLen) :
    Calls Try.prog 3 #[.slice a1 n1 c1, .slice a2 n2 c2, .slice a3 n3 c3, .slice a4 n4 c4] w fun e w' => e = .returned (.bool true) ∧ Below w.heap.size w w' := by
  have k := walk_long w a1 n1 c1 a2 n2 c2 a3 n3 c3 l a4 n4 c4 (Nat.le_trans hc1.1 hc1.2) (Nat.le_trans hc2.1 hc2.2) (Nat.le_trans hc4.1 hc4.2) h3 e3 (Nat.le_trans hc3.1 hc3.2) hr
  by_cases m1 : 1500 < n1
  · exact k (.inl m1)
  · by_cases m2 : 1500 < n2
    · exact k (.inr (.inl ⟨m1, m2⟩))
    · cases hf : fewE (l.map Edc.x) with
      | false => exact k (.inr (.inr (.inl ⟨m1, m2, hf⟩)))
      | true =>
        by_cases m4 : 1500 < n4
        · exact k (.inr (.inr (.inr ⟨m1, m2, hf, m4⟩)))
        · exact walk_main w a1 n1 c1 l1 e1 h1 hno1 hc1 a2 n2 c2 l2 e2 h2 hno2 hc2 a3 n3 c3 l e3 h3 (Nat.le_trans hc3.1 hc3.2) hr a4 n4 c4 l4 e4 h4 hno4 hc4 (by omega) (by omega) (by omega) hf
end Go.Proofs.Ytbilempgnpnacaa.deltaMakes
