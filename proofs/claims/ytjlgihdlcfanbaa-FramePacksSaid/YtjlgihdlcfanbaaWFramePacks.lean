/-
  The walk of FramePacks, over the contracts.
-/
import Derived.Test.YtjlgihdlcfanbaaFz
import Derived.Test.YtjlgihdlcfanbaaKept
namespace Go.Proofs.Ytjlgihdlcfanbaa.framePacks
open Go.RowKit
set_option linter.unusedVariables false
set_option linter.unusedSimpArgs false

theorem own_same {w w' : World} {g : Nat} {l : List UInt8} {f : Int} (h : OwnAt w g l f) (hk : w'.heap[g]? = w.heap[g]?) : OwnAt w' g l f := by
  refine ⟨h.1, ?_⟩
  rcases h.2 with ⟨h', _⟩ | ⟨g', cap', cur, h', hb', hg, r⟩
  · simp at h'
  · refine .inr ⟨g', cap', cur, h', hb', ?_, r⟩
    simp only [Value.slice.injEq, Option.some.injEq, Addr.mk.injEq, and_true, true_and] at h'
    obtain ⟨rfl, rfl⟩ := h'
    exact hk.trans hg
set_option maxHeartbeats 8000000 in
theorem walk (w : World) (x0 : Int) (lo0 : -9223372036854775808 ≤ x0) (hi0 : x0 ≤ 9223372036854775807) (a1 : Option Addr) (n1 c1 : Nat) (l : List UInt8) (hl : n1 = l.length) (hb : BAt w a1 l) (hno : a1 = none → n1 = 0 ∧ c1 = 0) (hc : n1 ≤ c1 ∧ c1 ≤ maxLen)
    (a2 : Option Addr) (n2 c2 : Nat) (m : List UInt8) (hl2 : n2 = m.length) (hbm : BAt w a2 m) (hno2 : a2 = none → n2 = 0 ∧ c2 = 0) (hcm : n2 ≤ c2 ∧ c2 ≤ maxLen) :
    Calls Try.prog 3 #[.int .i64 x0, .slice a1 n1 c1, .slice a2 n2 c2] w fun e w' => e = .returned (.bool true) ∧ Below w.heap.size w w' := by
  obtain ⟨hc1, hc2⟩ := hc
  obtain ⟨hd1, hd2⟩ := hcm
  have hm1 : n1 ≤ 9223372036854775807 := by unfold maxLen at hc2; omega
  have hm2 : n2 ≤ 9223372036854775807 := by unfold maxLen at hd2; omega
  by_cases hs : 1500 < n1 ∨ 2000 < n2
  · clear hb hno hl hbm hno2 hl2 hc1 hc2 hd1 hd2
    by_cases hs1 : 1500 < n1
    · have hs2 : (1500 : Int) < (n1 : Int) := by omega
      clear hs
      go_enter Try.func3, Try.ntmps3
      go_wp2_with fail
      refine (awake5 _).mono ?_
      rintro e w1 ⟨rfl, hb1⟩
      go_wp2
      go_ret
      exact ⟨rfl, hb1⟩
    · have hs2 : ¬ ((1500 : Int) < (n1 : Int)) := by omega
      have hs3 : (2000 : Int) < (n2 : Int) := by omega
      clear hs
      go_enter Try.func3, Try.ntmps3
      go_wp2_with fail
      refine (awake5 _).mono ?_
      rintro e w1 ⟨rfl, hb1⟩
      go_wp2
      go_ret
      exact ⟨rfl, hb1⟩
  · have hs2 : n1 ≤ 1500 := by omega
    have hs3 : n2 ≤ 2000 := by omega
    have ht1 : ¬ ((1500 : Int) < (n1 : Int)) := by omega
    have ht2 : ¬ ((2000 : Int) < (n2 : Int)) := by omega
    have C1 := Lib.hid (Own_any a1 n1 c1 l 71 w hb hno hl (by omega))
    have HL := Lib.hid hl; have HB := Lib.hid hb; have HNO := Lib.hid hno
    have HL2 := Lib.hid hl2; have HB2 := Lib.hid hbm; have HNO2 := Lib.hid hno2
    have HC1 := Lib.hid (And.intro hc1 hc2); have HD1 := Lib.hid (And.intro hd1 hd2)
    have HM1 := Lib.hid (show n1 + 3 ≤ maxLen by unfold maxLen; omega)
    have HM2 := Lib.hid (show n2 + 3 ≤ maxLen by unfold maxLen; omega)
    have H40 := Lib.hid (show l.length ≤ 1099511627776 by omega)
    have H41 := Lib.hid (show m.length ≤ 1099511627776 by omega)
    clear hb hno hl hc2 hbm hno2 hl2 hs hd2 hc1 hd1 hm1 hm2
    go_enter Try.func3, Try.ntmps3
    go_wp2_with fail
    refine C1.out.mono ?_
    rintro e w1 ⟨rfl, ho1, hb1⟩
    have C2 := Lib.hid (Own_any a2 n2 c2 m 71 w1 (HB2.out.below hb1 (Nat.le_refl _)) HNO2.out HL2.out H41.out)
    have HO1 := Lib.hid ho1
    rw [← HL.out]
    clear C1 ho1
    go_wp2_with fail
    refine C2.out.mono ?_
    rintro e w2 ⟨rfl, ho2, hb2⟩
    have hb02 := hb1.trans (hb2.mono hb1.size)
    have ho1 := HO1.out.keep hb2
    have hlt1 := ho1.lt
    have hlt2 := ho2.lt
    have hne : w.heap.size < w1.heap.size := HO1.out.lt
    rw [← HL2.out]
    generalize w1.heap.size = g2 at ho2 hlt2 hne ⊢
    have C3 := Lib.hid (Pack_any x0 (some ⟨w.heap.size, 0, none⟩) n1 (n1 + 3) l w2 HL.out ho1.bat (fun h => by cases h) (by omega) HM1.out)
    have HO1 := Lib.hid ho1; have HO2 := Lib.hid ho2
    clear C2 hb1 hb2 ho1 ho2
    go_wp2_with fail
    refine C3.out.mono ?_
    rintro e w3 ⟨v3, rfl, hr3, _, hb3⟩
    have hb03 := hb02.trans (hb3.mono hb02.size)
    have HO1 := Lib.hid (HO1.out.keep hb3); have HO2 := Lib.hid (HO2.out.keep hb3)
    have C4 := Lib.hid (rPack_any x0 a1 n1 c1 l w3 HL.out (HB.out.below hb03 (Nat.le_refl _)) HNO.out HC1.out.1 HC1.out.2)
    obtain ⟨PE, hPE⟩ : ∃ PE, packE x0 n1 = PE := ⟨_, rfl⟩
    obtain ⟨PR, hPR⟩ : ∃ PR, packR x0 l = PR := ⟨_, rfl⟩
    rw [hPE, hPR] at C4
    rw [hPR] at hr3
    rw [hPE]
    have hPRl : PR.length ≤ n1 + 14 := by rw [← hPR, HL.out]; exact packR_len _ _
    obtain ⟨a3, c3, hv3, _, _, hbat3, _⟩ := hr3.shape
    subst hv3
    obtain ⟨RL, hRL⟩ : ∃ RL, PR.length = RL := ⟨_, rfl⟩
    rw [hRL] at hPRl ⊢
    have HRL := Lib.hid hRL
    have HB3 := Lib.hid hbat3
    clear C3 hb3 hb02 hr3 hbat3 hPE hPR hRL
    go_wp2_with fail
    refine C4.out.mono ?_
    rintro e w4 ⟨v4, rfl, hr4, _, hb4⟩
    have hb04 := hb03.trans (hb4.mono hb03.size)
    have HO1 := Lib.hid (HO1.out.keep hb4); have HO2 := Lib.hid (HO2.out.keep hb4)
    have HB3 := Lib.hid (HB3.out.keep hb4)
    obtain ⟨a4, c4, hv4, _, _, hbat4, _⟩ := hr4.shape
    subst hv4
    rw [HRL.out]
    have HB4 := Lib.hid hbat4
    have C5 := Lib.hid (Take_any (some ⟨g2, 0, none⟩) n2 (n2 + 3) m w4 HL2.out HO2.out.bat (by omega) HM2.out)
    obtain ⟨TK, hTK⟩ : ∃ x : Int, ((takeK m : Nat) : Int) = x := ⟨_, rfl⟩
    obtain ⟨TN, hTN⟩ : ∃ x : Int, ((takeN m : Nat) : Int) = x := ⟨_, rfl⟩
    obtain ⟨TE, hTE⟩ : ∃ x : Int, ((takeE m : Nat) : Int) = x := ⟨_, rfl⟩
    have HTK := Lib.hid hTK; have HTN := Lib.hid hTN; have HTE := Lib.hid hTE
    rw [hTK, hTN, hTE] at C5
    clear C4 hb4 hb03 hr4 hbat4 hTK hTN hTE
    go_wp2_with fail
    refine C5.out.mono ?_
    rintro e w5 ⟨v5, rfl, hr5, hf5, hb5⟩
    have hb05 := hb04.trans (hb5.mono hb04.size)
    have hlt14 : w.heap.size < w4.heap.size := HO1.out.lt
    have hlt24 : g2 < w4.heap.size := HO2.out.lt
    have HO1 := Lib.hid (HO1.out.keep hb5); have HO2 := Lib.hid (HO2.out.keep hb5)
    have HB3 := Lib.hid (HB3.out.keep hb5); have HB4 := Lib.hid (HB4.out.keep hb5)
    have C6 := Lib.hid (rTake_any a2 n2 c2 m w5 HL2.out (HB2.out.below hb05 (Nat.le_refl _)) HD1.out.1 HD1.out.2)
    rw [HTK.out, HTN.out, HTE.out] at C6
    have htp := takeP_len m
    obtain ⟨TP, hTP⟩ : ∃ x, takeP m = x := ⟨_, rfl⟩
    rw [hTP] at hr5 htp C6
    obtain ⟨a5, c5, hv5, _, _, hbat5, _⟩ := hr5.shape
    subst hv5
    obtain ⟨TL, hTL⟩ : ∃ x, TP.length = x := ⟨_, rfl⟩
    have HTL := Lib.hid hTL
    rw [hTL] at htp hr5 hf5 ⊢
    have HR5 := Lib.hid hr5; have HF5 := Lib.hid hf5; have HB5 := Lib.hid hbat5
    clear C5 hb5 hb04 hr5 hf5 hbat5 hTP hTL
    go_wp2_with fail
    refine C6.out.mono ?_
    rintro e w6 ⟨v6, rfl, hr6, _, hb6⟩
    have hb06 := hb05.trans (hb6.mono hb05.size)
    have HO1 := Lib.hid (HO1.out.keep hb6); have HO2 := Lib.hid (HO2.out.keep hb6)
    have HB3 := Lib.hid (HB3.out.keep hb6); have HB4 := Lib.hid (HB4.out.keep hb6); have HB5 := Lib.hid (HB5.out.keep hb6)
    have HR5 := Lib.hid (HR5.out.below hb6)
    obtain ⟨a6, c6, hv6, _, _, hbat6, _⟩ := hr6.shape
    subst hv6
    rw [HTL.out]
    have HB6 := Lib.hid hbat6
    clear C6 hb6 hb05 hr6 hbat6
    go_wp2_with fail
    refine (awake5 _).mono ?_
    rintro e w7 ⟨rfl, hb7⟩
    have hb07 := hb06.trans (hb7.mono hb06.size)
    have HO1 := Lib.hid (HO1.out.keep hb7); have HO2 := Lib.hid (HO2.out.keep hb7)
    have HR5 := Lib.hid (HR5.out.below hb7)
    have G1 := Lib.hid (Bytes_same a3 a4 RL RL c3 c4 PR w7 (HB3.out.keep hb7) (HB4.out.keep hb7) HRL.out.symm HRL.out.symm)
    have G2 := Lib.hid (Bytes_same a5 a6 TL TL c5 c6 TP w7 (HB5.out.keep hb7) (HB6.out.keep hb7) HTL.out.symm HTL.out.symm)
    have S := Lib.hid (Spoil_row _ _ w7 HR5.out (by rw [HTL.out]; omega))
    clear hb7 hb06 HB3 HB4 HB5 HB6
    go_wp2_with fail
    refine G1.out.mono ?_
    rintro e w8 ⟨rfl, rfl⟩
    go_wp2_with fail
    refine G2.out.mono ?_
    rintro e w8 ⟨rfl, rfl⟩
    go_wp2_with fail
    refine S.out.mono ?_
    rintro e w9 ⟨rfl, hch⟩
    have hfn1 : ¬ (foot (.slice a5 TL c5) = some w.heap.size) := fun h => by have := HF5.out _ h; omega
    have hfn2 : ¬ (foot (.slice a5 TL c5) = some g2) := fun h => by have := HF5.out _ h; omega
    have HO1 := Lib.hid (own_same HO1.out (hch.block _ HO1.out.lt hfn1))
    have HO2 := Lib.hid (own_same HO2.out (hch.block _ HO2.out.lt hfn2))
    have hb79 : Below w.heap.size w7 w9 := hch.below hb07.size (fun i _ hi => by have := HF5.out i hi; omega)
    have hb09 := hb07.trans hb79
    have K1 := Lib.hid (Kept_any w.heap.size n1 n1 (n1 + 3) c1 a1 l 71 w9 HO1.out (HB.out.below hb09 (Nat.le_refl _)) HL.out (by rw [HL.out]) HL.out H40.out)
    clear G1 G2 S hch hb79 hb07 HR5 HF5 hfn1 hfn2
    go_wp2_with fail
    refine K1.out.mono ?_
    rintro e w10 ⟨rfl, hb10⟩
    have hb010 := hb09.trans (hb10.mono hb09.size)
    have K2 := Lib.hid (Kept_any g2 n2 n2 (n2 + 3) c2 a2 m 71 w10 (HO2.out.keep hb10) (HB2.out.below hb010 (Nat.le_refl _)) HL2.out (by rw [HL2.out]) HL2.out H41.out)
    clear K1 hb10 hb09
    go_wp2_with fail
    refine K2.out.mono ?_
    rintro e w11 ⟨rfl, hb11⟩
    have hb011 := hb010.trans (hb11.mono hb010.size)
    clear K2 hb11 hb010
    go_wp2
    go_ret
    exact ⟨rfl, hb011⟩
end Go.Proofs.Ytjlgihdlcfanbaa.framePacks
