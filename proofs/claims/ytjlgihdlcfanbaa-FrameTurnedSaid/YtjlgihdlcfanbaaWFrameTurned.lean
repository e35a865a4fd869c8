/-
  The walk of FrameTurned, over the contracts.
-/
import Derived.Test.YtjlgihdlcfanbaaFz
namespace Go.Proofs.Ytjlgihdlcfanbaa.frameTurned
open Go.RowKit
set_option linter.unusedVariables false
set_option linter.unusedSimpArgs false

set_option maxHeartbeats 8000000 in
theorem walk (w : World) (x0 : Int) (lo0 : -9223372036854775808 ≤ x0) (hi0 : x0 ≤ 9223372036854775807) (a1 : Option Addr) (n1 c1 : Nat) (l : List UInt8) (hl : n1 = l.length) (hb : BAt w a1 l) (hno : a1 = none → n1 = 0 ∧ c1 = 0) (hc : n1 ≤ c1 ∧ c1 ≤ maxLen)
    (x2 : Int) (lo2 : -9223372036854775808 ≤ x2) (hi2 : x2 ≤ 9223372036854775807) :
    Calls Try.prog 7 #[.int .i64 x0, .slice a1 n1 c1, .int .i64 x2] w fun e w' => e = .returned (.bool true) ∧ Below w.heap.size w w' := by
  obtain ⟨hc1, hc2⟩ := hc
  by_cases hs : 600 < n1
  · unfold maxLen at hc2
    clear hb hno hl
    have hs2 : (600 : Int) < (n1 : Int) := by omega
    go_enter Try.func7, Try.ntmps7
    go_wp2_with fail
    refine (awake5 _).mono ?_
    rintro e w1 ⟨rfl, hb1⟩
    go_wp2
    go_ret
    exact ⟨rfl, hb1⟩
  · obtain ⟨k, hk⟩ : ∃ k : Nat, x0 % 256 = (k : Int) := Int.eq_ofNat_of_zero_le (by omega)
    have hand : bits BinOp.and IntKind.i64 x0 255 = (k : Int) := by rw [i64_and255, hk]
    have hk2 : k ≤ 255 := by omega
    have HK2 := Lib.hid hk2
    have hs2 : ¬ ((600 : Int) < (n1 : Int)) := by omega
    have C := Lib.hid (rPack_ok k a1 n1 c1 l w hk2 hl hb hno hc1 (by omega))
    have HL := Lib.hid hl; have HB := Lib.hid hb; have HNO := Lib.hid hno
    clear hb hno hl hk hk2 hc2
    go_enter Try.func7, Try.ntmps7
    go_wp2_with fail
    refine C.out.mono ?_
    rintro e w1 ⟨v, rfl, hr, hf, hb1⟩
    obtain ⟨P, hP⟩ : ∃ P, packL k l = P := ⟨_, rfl⟩
    rw [hP] at hr
    have hPl : P.length = n1 + 14 := by rw [← hP, packL_len, HL.out]
    obtain ⟨g, c, rfl, hc1', hc2', hg, hcell⟩ := hr.cells (by rw [hPl]; omega)
    obtain ⟨L, hL⟩ : ∃ L, P.length = L := ⟨_, rfl⟩
    have hg2 := hf g (by
      obtain ⟨c', rfl⟩ : ∃ c', c = c' + 1 := ⟨c - 1, by omega⟩
      rfl)
    have hL1 : 14 ≤ L := by omega
    have hL2 : L ≤ 614 := by omega
    obtain ⟨u, hu⟩ : ∃ u, IntKind.u64.wrap x2 = u := ⟨_, rfl⟩
    have hu0 : 0 ≤ u := by rw [← hu, IntKind.wrap_u64]; omega
    obtain ⟨r, hr1⟩ : ∃ r : Nat, u.tmod (8 * (L : Int)) = (r : Int) := by
      rw [IntWalk.rem_in u _ hu0]
      exact Int.eq_ofNat_of_zero_le (Int.emod_nonneg _ (by omega))
    have hr2 : u % (8 * (L : Int)) = (r : Int) := by rw [← IntWalk.rem_in u _ hu0]; exact hr1
    have hr3 : r < 8 * L := by
      have := Int.emod_lt_of_pos u (show 0 < 8 * (L : Int) by omega)
      omega
    obtain ⟨q, hq⟩ : ∃ q, r / 8 = q := ⟨_, rfl⟩
    have hqL : q < L := by omega
    obtain ⟨m, hm⟩ : ∃ m, r % 8 = m := ⟨_, rfl⟩
    have hm8 : m < 8 := by omega
    have hq1 : (r : Int) / 8 = (q : Int) := by omega
    have hm1 : (r : Int) % 8 = (m : Int) := by omega
    have hq2 : (r : Int).tdiv 8 = (q : Int) := by rw [Int.tdiv_eq_ediv_of_nonneg (by omega)]; exact hq1
    have hm2 : (r : Int).tmod 8 = (m : Int) := by rw [Int.tmod_eq_emod_of_nonneg (by omega)]; exact hm1
    rw [hL] at hr hc1' ⊢
    have cq := hcell q (by omega)
    obtain ⟨y, hy⟩ : ∃ y : Int, ((P.getD q 0).toNat : Int) = y := ⟨_, rfl⟩
    rw [hy] at cq
    have fq := (hL ▸ hr : Row w1 (.slice (some ⟨g, 0, none⟩) L c) P).free (by omega) q
    have HR := Lib.hid hr; have HLL := Lib.hid hL
    clear hr hf C hcell hP hPl hq hm hL hy
    go_wp2_with fail
    obtain ⟨z, hz⟩ := xor_u8 y (2 ^ m % 256)
    rw [hz]
    have hrow : Row w1 (.slice (some ⟨g, 0, none⟩) P.length c) P := by rw [HLL.out]; exact HR.out
    have hr2 := hrow.setAt q (by rw [HLL.out]; exact hqL) z
    rw [HLL.out] at hr2
    have hb2 : Below w.heap.size w (w1.setCell ⟨g, q, none⟩ (.int .u8 z.toNat)) := hb1.setCell (p := ⟨g, q, none⟩) hg2 _
    have hlP : (P.set q z).length = L := by rw [List.length_set]; exact HLL.out
    generalize w1.setCell ⟨g, q, none⟩ (.int .u8 (z.toNat : Int)) = w2 at hr2 hb2 ⊢
    generalize P.set q z = P2 at hr2 hlP
    have hsh : BAt w2 (some ⟨g, 0, none⟩) P2 := by
      obtain ⟨a, c', e, _, _, hb, _⟩ := hr2.shape
      cases e
      exact hb
    have C1 := Lib.hid (Take_any (some ⟨g, 0, none⟩) L c P2 w2 hlP.symm hsh (by rw [← HLL.out]; rw [HLL.out]; exact hc1') hc2')
    have HLP := Lib.hid hlP; have HSH := Lib.hid hsh
    have HC1 := Lib.hid hc1'; have HC2 := Lib.hid hc2'
    have htp := takeP_len P2
    clear hz hrow hr2 hlP hsh HR HLL cq fq hc1' hc2' hb1 hu0 hr1 hr3 hq1 hm1 hq2 hm2 hm8 hqL
    obtain ⟨TK, hTK⟩ : ∃ x : Int, ((takeK P2 : Nat) : Int) = x := ⟨_, rfl⟩
    obtain ⟨TN, hTN⟩ : ∃ x : Int, ((takeN P2 : Nat) : Int) = x := ⟨_, rfl⟩
    obtain ⟨TE, hTE⟩ : ∃ x : Int, ((takeE P2 : Nat) : Int) = x := ⟨_, rfl⟩
    rw [hTK, hTN, hTE] at C1
    have HTK := Lib.hid hTK; have HTN := Lib.hid hTN; have HTE := Lib.hid hTE
    clear hTK hTN hTE
    refine C1.out.mono ?_
    rintro e w3 ⟨v3, rfl, hr3, hf3, hb3⟩
    obtain ⟨a3, c3, rfl, _, _, hbat3, _⟩ := hr3.shape
    have hb03 := hb2.trans (hb3.mono hb2.size)
    have C2 := Lib.hid (rTake_any (some ⟨g, 0, none⟩) L c P2 w3 HLP.out.symm (HSH.out.keep hb3) HC1.out HC2.out)
    rw [HTK.out, HTN.out, HTE.out] at C2
    have HB3 := Lib.hid hbat3
    clear hr3 hf3 hb3 hbat3 C1 hb2 HSH
    obtain ⟨TP, hTP⟩ : ∃ x, takeP P2 = x := ⟨_, rfl⟩
    rw [hTP] at htp HB3 C2 ⊢
    obtain ⟨TL, hTL⟩ : ∃ x, TP.length = x := ⟨_, rfl⟩
    rw [hTL] at htp ⊢
    have HTL := Lib.hid hTL
    clear hTP hTL
    go_wp2_with fail
    refine C2.out.mono ?_
    rintro e w4 ⟨v4, rfl, hr4, hf4, hb4⟩
    obtain ⟨a4, c4, rfl, _, _, hbat4, _⟩ := hr4.shape
    have hb04 := hb03.trans (hb4.mono hb03.size)
    have HB3b := Lib.hid (HB3.out.keep hb4)
    have HB4 := Lib.hid hbat4
    rw [HTL.out]
    clear hr4 hf4 hb4 hbat4 C2 hb03 HB3
    go_wp2_with fail
    refine (awake5 _).mono ?_
    rintro e w5 ⟨rfl, hb5⟩
    have hb05 := hb04.trans (hb5.mono hb04.size)
    have C3 := Lib.hid (Bytes_same a3 a4 TL TL c3 c4 TP w5 (HB3b.out.keep hb5) (HB4.out.keep hb5) HTL.out.symm HTL.out.symm)
    clear hb5 hb04 HB3b HB4
    go_wp2_with fail
    refine C3.out.mono ?_
    rintro e w6 ⟨rfl, rfl⟩
    clear C3
    go_wp2
    go_ret
    exact ⟨rfl, hb05⟩
end Go.Proofs.Ytjlgihdlcfanbaa.frameTurned
