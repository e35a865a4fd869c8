/-
  The walk of FrameCut, over the contracts.
-/
import Derived.Test.YtjlgihdlcfanbaaFz
namespace Go.Proofs.Ytjlgihdlcfanbaa.frameCut
open Go.RowKit
set_option linter.unusedVariables false
set_option linter.unusedSimpArgs false

set_option maxHeartbeats 8000000 in
theorem walk (w : World) (x0 : Int) (lo0 : -9223372036854775808 ≤ x0) (hi0 : x0 ≤ 9223372036854775807) (a1 : Option Addr) (n1 c1 : Nat) (l : List UInt8) (hl : n1 = l.length) (hb : BAt w a1 l) (hno : a1 = none → n1 = 0 ∧ c1 = 0) (hc : n1 ≤ c1 ∧ c1 ≤ maxLen)
    (a2 : Option Addr) (n2 c2 : Nat) (m : List UInt8) (hl2 : n2 = m.length) (hbm : BAt w a2 m) (hno2 : a2 = none → n2 = 0 ∧ c2 = 0) (hcm : n2 ≤ c2 ∧ c2 ≤ maxLen) (x3 : Int) (lo3 : -9223372036854775808 ≤ x3) (hi3 : x3 ≤ 9223372036854775807) :
    Calls Try.prog 5 #[.int .i64 x0, .slice a1 n1 c1, .slice a2 n2 c2, .int .i64 x3] w fun e w' => e = .returned (.bool true) ∧ Below w.heap.size w w' := by
  obtain ⟨hc1, hc2⟩ := hc
  obtain ⟨hd1, hd2⟩ := hcm
  have hm1 : n1 ≤ 9223372036854775807 := by unfold maxLen at hc2; omega
  have hm2 : n2 ≤ 9223372036854775807 := by unfold maxLen at hd2; omega
  by_cases hs : 1000 < n1 ∨ 100 < n2
  · clear hb hno hl hbm hno2 hl2 hc1 hc2 hd1 hd2
    by_cases hs1 : 1000 < n1
    · have hs2 : (1000 : Int) < (n1 : Int) := by omega
      clear hs
      go_enter Try.func5, Try.ntmps5
      go_wp2_with fail
      refine (awake5 _).mono ?_
      rintro e w1 ⟨rfl, hb1⟩
      go_wp2
      go_ret
      exact ⟨rfl, hb1⟩
    · have hs2 : ¬ ((1000 : Int) < (n1 : Int)) := by omega
      have hs3 : (100 : Int) < (n2 : Int) := by omega
      clear hs
      go_enter Try.func5, Try.ntmps5
      go_wp2_with fail
      refine (awake5 _).mono ?_
      rintro e w1 ⟨rfl, hb1⟩
      go_wp2
      go_ret
      exact ⟨rfl, hb1⟩
  · obtain ⟨k, hk⟩ : ∃ k : Nat, x0 % 256 = (k : Int) := Int.eq_ofNat_of_zero_le (by omega)
    have hand : bits BinOp.and IntKind.i64 x0 255 = (k : Int) := by rw [i64_and255, hk]
    have hk2 : k ≤ 255 := by omega
    have hs2 : n1 ≤ 1000 := by omega
    have hs3 : n2 ≤ 100 := by omega
    have ht1 : ¬ ((1000 : Int) < (n1 : Int)) := by omega
    have ht2 : ¬ ((100 : Int) < (n2 : Int)) := by omega
    have C := Lib.hid (Pack_ok k a1 n1 c1 l w hk2 hl hb hno hc1 (by omega))
    have HL := Lib.hid hl; have HB := Lib.hid hb; have HNO := Lib.hid hno
    have HL2 := Lib.hid hl2; have HB2 := Lib.hid hbm; have HNO2 := Lib.hid hno2
    have HPK := Lib.hid (take_pack k l m (by omega) (by omega))
    have HCT := Lib.hid (take_cut k l (by omega))
    have hPl := packL_len k l
    rw [← hl] at hPl
    clear hb hno hl hk hk2 hc2 hbm hno2 hl2 hs hd1 hd2
    generalize packL k l = P at C HPK HCT hPl
    obtain ⟨L, hL⟩ : ∃ L, P.length = L := ⟨_, rfl⟩
    have hLn : n1 + 14 = L := by omega
    have HLL := Lib.hid hL; have HLN := Lib.hid hLn
    have hLI : (n1 : Int) + 14 = (L : Int) := by omega
    have hL14 : 14 ≤ L := by omega
    clear hPl hL hLn
    go_enter Try.func5, Try.ntmps5
    go_wp2_with fail
    refine C.out.mono ?_
    rintro e w1 ⟨v, rfl, hr, hf, hb1⟩
    obtain ⟨g, c, rfl, hc1', hc2', hg, _⟩ := hr.cells (by rw [HLL.out]; omega)
    rw [HLL.out] at hc1' hr ⊢
    have HR := Lib.hid hr
    clear C hr hf
    go_wp2_with fail
    refine (awake5 _).mono ?_
    rintro e w2 ⟨rfl, hb2⟩
    have hb02 := hb1.trans (hb2.mono hb1.size)
    have hr2 := HR.out.below hb2
    have HR2 := Lib.hid hr2
    have hsh : BAt w2 (some ⟨g, 0, none⟩) P := by
      obtain ⟨a, c', e, _, _, hb, _⟩ := hr2.shape
      cases e
      exact hb
    have CC := Lib.hid (CopyBytes_any P w2 (some ⟨g, 0, none⟩) L c hsh HLL.out.symm (fun h => by cases h) (by rw [HLL.out]; have := HLN.out; omega))
    have HSH := Lib.hid hsh; have HC1 := Lib.hid hc1'; have HC2 := Lib.hid hc2'
    clear hb1 hb2 HR hr2 hsh hc2' hg
    go_wp2_with fail
    refine CC.out.mono ?_
    rintro e w3 ⟨v3, rfl, hr3, hf3, hb3⟩
    have hb03 := hb02.trans (hb3.mono hb02.size)
    have HR3 := Lib.hid hr3
    have HB3 := Lib.hid (HB2.out.below hb03 (Nat.le_refl _))
    have HF3 := Lib.hid hf3; have HBB := Lib.hid hb3
    obtain ⟨a3, c3, hv3, _, _, _, _⟩ := hr3.shape
    subst hv3
    rw [HLL.out] at HR3 HF3 ⊢
    have HLEN := Lib.hid (show P.length + m.length ≤ 1099511627776 by rw [HLL.out, ← HL2.out]; have := HLN.out; omega)
    clear hr3 hf3 hb3 CC
    go_wp2_with (first
      | (at_builtin; refine wpList_append_row rfl (.tmp 52) (.tmp 53) rfl _ rfl P m HR3.out a2 n2 c2 rfl HB3.out HL2.out HNO2.out HLEN.out ?_)
      | fail)
    intro v4 w4 hap
    have hb4 := hap.below HBB.out HF3.out HBB.out.size
    have hb04 := hb02.trans (hb4.mono hb02.size)
    have hr4 := hap.1
    obtain ⟨a4, c4, hv4, hlc4, hcm4, hbat4, _⟩ := hr4.shape
    subst hv4
    have D := Lib.hid (Take_any a4 (P ++ m).length c4 (P ++ m) w4 rfl hbat4 hlc4 hcm4)
    rw [HPK.out.1, HPK.out.2.1, HPK.out.2.2.1, HPK.out.2.2.2, ← HL.out, HLN.out] at D
    have HSH4 := Lib.hid (HSH.out.keep hb4)
    generalize (P ++ m).length = Q at D hlc4
    clear hap hr4 hbat4 hcm4 HR3 HB3 HF3 HLEN hb03 HBB HSH
    go_wp2_with fail
    refine D.out.mono ?_
    rintro e w5 ⟨v5, rfl, hr5, hf5, hb5⟩
    obtain ⟨a5, c5, rfl, _, _, hbat5, _⟩ := hr5.shape
    have hb05 := hb04.trans (hb5.mono hb04.size)
    have HB5 := Lib.hid hbat5
    have HSH5 := HSH4.out.keep hb5
    obtain ⟨u, hu⟩ : ∃ u, IntKind.u64.wrap x3 = u := ⟨_, rfl⟩
    have hu0 : 0 ≤ u := by rw [← hu, IntKind.wrap_u64]; omega
    obtain ⟨r, hr1⟩ : ∃ r : Nat, u.tmod (L : Int) = (r : Int) := by
      rw [IntWalk.rem_in u _ hu0]
      exact Int.eq_ofNat_of_zero_le (Int.emod_nonneg _ (by omega))
    have hr2 : u % (L : Int) = (r : Int) := by rw [← IntWalk.rem_in u _ hu0]; exact hr1
    have hr3 : r < L := by
      have := Int.emod_lt_of_pos u (show 0 < (L : Int) by omega)
      omega
    have hrl : (P.take r).length = r := by rw [List.length_take, HLL.out]; omega
    have hE3 : takeE (P.take r) = 3 := HCT.out r (by rw [← HL.out, HLN.out]; exact hr3)
    have hsl := fun u => slice_head (some ⟨g, 0, none⟩) L c r r rfl (by omega) u
    have F := Lib.hid (Take_any (some ⟨g, 0, none⟩) r c (P.take r) w5 hrl.symm (HSH5.first r (by rw [HLL.out]; omega)) (by omega) HC2.out)
    rw [hE3] at F
    have HR13 := Lib.hid hr3
    clear D hr5 hf5 hb5 hbat5 hb04 hrl hE3 HSH5 HSH4
    go_wp2_with fail
    refine F.out.mono ?_
    rintro e w6 ⟨v6, rfl, hr6, _, hb6⟩
    obtain ⟨a6, c6, rfl, _, _, _, _⟩ := hr6.shape
    have hb06 := hb05.trans (hb6.mono hb05.size)
    have G := Lib.hid (Bytes_same a5 a1 n1 n1 c5 c1 l w6 (HB5.out.keep hb6) (HB.out.below hb06 (Nat.le_refl _)) HL.out HL.out)
    rw [← HL.out]
    clear F hr6 hb6 hb05 hsl
    go_wp2_with fail
    refine G.out.mono ?_
    rintro e w7 ⟨rfl, rfl⟩
    clear G
    go_wp2
    go_ret
    exact ⟨rfl, hb06⟩
end Go.Proofs.Ytjlgihdlcfanbaa.frameCut
