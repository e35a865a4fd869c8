/-
  The law CommitParents: its walk.
-/
import Derived.Test.YtonkclkopmdahaaDoorFu11
namespace Go.Proofs.YtonkclkopmdahaaDoor.commitParents
set_option maxRecDepth 20000
open Go.RowKit
set_option linter.unusedVariables false
set_option linter.unusedSimpArgs false

theorem red_shapeP {w : World} {v : Value} {l : List UInt8} (h : Red w v l) : ∃ a c, v = .slice a l.length c ∧ (a = none → l.length = 0 ∧ c = 0) ∧ l.length ≤ c ∧ c ≤ maxLen := by
  obtain ⟨a, c, hv, hb, h1, h2, h3⟩ := h
  exact ⟨a, c, hv, h1, h2, h3⟩
set_option maxHeartbeats 64000000 in
theorem walk (w : World) (x : Int) (h0 : -9223372036854775808 ≤ x) (h1 : x ≤ 9223372036854775807) (zb tb : Bool) (tab : T6 w) :
    Calls Tryd.prog 3 #[.int .i64 x, .bool zb, .bool tb] w fun e w' => e = .returned (.bool true) ∧ Below w.heap.size w w' := by
  obtain ⟨v, hv⟩ : ∃ v, IntKind.u64.wrap x = v := ⟨_, rfl⟩
  have hv0 : 0 ≤ v := by rw [← hv, IntKind.wrap_u64]; omega
  obtain ⟨n, hn⟩ : ∃ n : Nat, v.tmod 19 = (n : Int) := by
    rw [Int.tmod_eq_emod_of_nonneg hv0]
    exact ⟨(v % 19).toNat, by omega⟩
  have hn18 : n ≤ 18 := by rw [Int.tmod_eq_emod_of_nonneg hv0] at hn; omega
  have k4 : IntKind.i64.wrap (n : Int) = (n : Int) := IntWalk.i64_in _ (by omega)
  have k5 : IntKind.u64.wrap (n : Int) = (n : Int) := by rw [IntKind.wrap_u64]; omega
  obtain ⟨b16, hb16⟩ : ∃ b, decide ((n : Int) ≤ 16) = b := ⟨_, rfl⟩
  have HB16 := Lib.hid (show decide (n ≤ 16) = b16 by rw [← hb16]; exact decide_eq_decide.2 (by omega))
  have CA := Lib.hid (fun u (hu : Below w.heap.size w u) => awake9 u (tab.keep hu))
  have CP := Lib.hid (fun (ps : List (List UInt8)) (hpi : ∀ i ∈ ps, i.length = 20) (hl : ps.length ≤ 18) pa pn pc u (hu : Below w.heap.size w u) (hi : IdsAt u pa ps) (hpn : pn = ps.length) (hc : pn ≤ pc) => Print9_is oneD pa pn pc ps whoA whoA [] u (tab.keep hu) rfl hi hpn (by omega) hc hpi (by decide) (by decide) (by decide) (by decide))
  have CR := Lib.hid (fun (ps : List (List UInt8)) (hpi : ∀ i ∈ ps, i.length = 20) (hl : ps.length ≤ 18) pa pn pc u (hu : Below w.heap.size w u) (hi : IdsAt u pa ps) (hpn : pn = ps.length) (hc : pn ≤ pc) => Right9_is oneD pa pn pc ps whoA whoA [] u (tab.keep hu) rfl hi hpn (by omega) hc hpi (by decide) (by decide) (by decide) (by decide))
  have b24 := built_who; have b26 := built_oneD; have b29 := built_rec3
  obtain ⟨zi, hzi0, hzis, hziv, hzib, hzi1⟩ := zIdt_any
  obtain ⟨zr, hzr0, hzrs, hzrv, hzrb, hzr1⟩ := zRec_any
  obtain ⟨zd, hzd0, hzds, hzdv, hzdb, hzd1⟩ := zId_any
  have ZIS := Lib.hid hzis; have ZRS := Lib.hid hzrs; have ZD0 := Lib.hid hzd0; have ZDB := Lib.hid hzdb
  have S24 := Lib.hid (show (cellsT whoA).toArray.size = 4 from rfl)
  have O24 := Lib.hid (cellsT_one whoA)
  obtain ⟨A24, h24⟩ : ∃ A, (cellsT whoA).toArray = A := ⟨_, rfl⟩
  obtain ⟨A26, h26⟩ : ∃ A, arrD oneD = A := ⟨_, rfl⟩
  obtain ⟨A29, h29⟩ : ∃ A, arrC oneD (.slice none 0 0) whoA whoA [] = A := ⟨_, rfl⟩
  have S29 := Lib.hid (show A29.size = 30 by rw [← h29]; exact arrC_size _ _ _ _ _ rfl)
  have O29 := Lib.hid (show A29.all (·.oneCell') = true by rw [← h29]; exact arrC_one _ _ _ _ _ _ _)
  have H29 := Lib.hid h29
  rw [h24] at b24 b29 S24 O24
  rw [h26] at b26 b29
  rw [h29] at b29
  have B24 := Lib.hid b24; have B26 := Lib.hid b26; have B29 := Lib.hid b29
  have I24 := Lib.hid (show (Tryd.prog.info? 24).map (·.size) = some A24.size by rw [S24.out]; exact infoT)
  have I29 := Lib.hid (infoC_arr A29 S29.out)
  clear b24 b26 b29 h24 h26 h29 hzi0 hzis hzib hzi1 hzr0 hzrs hzrb hzr1 hzd0 hzds hzdb hzd1 tab h0 h1 hv0
  go_enter Tryd.func3, Tryd.ntmps3
  go_wp2_with (first
    | (refine wpList_build_two rfl 24 0 1 _ _ rfl (.string ⟨#[65]⟩) (.string ⟨#[97]⟩) rfl rfl _ B24.out ?_)
    | (with_reducible refine wpList_store_all rfl 24 (.tmp 7) (.tmp 17) rfl w.heap.size A24 rfl rfl 24 zi (heap_alloc_new w _) I24.out (S24.out.trans ZIS.out.symm) O24.out ?_)
    | fail)
  intro w2 hg2 ho2 hs2
  have BA2 := Lib.hid (((Below.refl w.heap.size w).alloc (Nat.le_refl _) (.cells zi 24)).trans (ho2.below (Nat.le_refl _) (by simp)))
  have HG2 := Lib.hid hg2
  clear hg2 ho2 hs2
  go_wp2_with (first
    | (refine wpList_build_one rfl 26 0 _ rfl (.int .u8 1) rfl _ B26.out ?_)
    | (with_reducible refine wpList_load_all 24 (.tmp 7) rfl (by kernel_rfl) w.heap.size A24 24 (0, 0) rfl HG2.out _ Tryd.underlying24 rfl I24.out ?_)
    | (refine wpList_build_three rfl 29 0 2 3 _ _ _ rfl (.agg A26) (.agg A24) (.agg A24) rfl rfl rfl _ B29.out ?_)
    | (with_reducible refine wpList_store_all rfl 29 (.tmp 8) (.tmp 21) rfl w2.heap.size A29 rfl rfl 29 zr (heap_alloc_new w2 _) I29.out (S29.out.trans ZRS.out.symm) O29.out ?_)
    | fail)
  intro w3 hg3 ho3 hs3
  have BA3 := Lib.hid (BA2.out.trans ((((Below.refl w2.heap.size w2).alloc (Nat.le_refl _) (.cells zr 29)).trans (ho3.below (Nat.le_refl _) (by simp))).mono BA2.out.size))
  have C3 := Lib.hid (show RcBlk w3 w2.heap.size oneD (.slice none 0 0) whoA whoA [] by unfold RcBlk; rw [H29.out]; exact hg3)
  have LT3 := Lib.hid (show w2.heap.size < w3.heap.size from lt_of_heap hg3)
  have LEW := Lib.hid BA2.out.size
  clear hg3 ho3 hs3 HG2
  generalize w2.heap.size = g at *
  go_wp2_with fail
  go_loopw [9] (fun v9 wr => ∃ (i : Nat) (pv : Value), i ≤ n ∧ v9 = .int .i64 i ∧ RcBlk wr g oneD pv whoA whoA [] ∧ OwnD w3.heap.size pv (idsN i) wr ∧ Below w.heap.size w wr ∧ w3.heap.size ≤ wr.heap.size) (fun v9 _ => n - (intOf v9).toNat)
  case atStart => exact ⟨0, _, Nat.zero_le _, rfl, C3.out, ownD_nil _ _, BA3.out, Nat.le_refl _⟩
  case round =>
    obtain ⟨i, pv, hi, rfl, hc, hown, hbr, hse⟩ := hrel
    have CR0 := Lib.hid hc; have OWR := Lib.hid hown; have BR := Lib.hid hbr; have SR := Lib.hid hse
    clear hc hown hbr hse
    by_cases hlt : i < n
    · have HIDS := Lib.hid (idsN_succ i)
      have HLEN := Lib.hid (idsN_len i)
      have hbi := built_idN (i + 1) (by omega)
      obtain ⟨Y, hY⟩ : ∃ Y, arrD (idN (i + 1)) = Y := ⟨_, rfl⟩
      have HYS := Lib.hid (show Y.size = 20 by rw [← hY]; exact arrD_size _ rfl)
      have HY := Lib.hid hY
      rw [hY] at hbi
      rw [show ((i + 1 : Nat) : Int) = (i : Int) + 1 by omega] at hbi
      have BI := Lib.hid hbi
      obtain ⟨pa, pcap, hpv, _, _, _, _⟩ := ownD_ids OWR.out (idsN_each i)
      rw [HLEN.out] at hpv
      subst hpv
      have e1 : IntKind.i64.wrap ((i : Int) + 1) = ((i + 1 : Nat) : Int) := by rw [IntKind.wrap_i64]; omega
      have e2 : IntKind.u8.wrap ((i + 1 : Nat) : Int) = ((i + 1 : Nat) : Int) := by rw [IntKind.wrap_u8]; omega
      have e3 : IntKind.u8.wrap ((i : Int) + 1) = ((i + 1 : Nat) : Int) := by rw [IntKind.wrap_u8]; omega
      have p20 : wr.cell? ⟨g, 20, none⟩ = some (.slice pa i pcap) := (recAt_of (t := oneD) rfl (show RcBlk wr g oneD (.slice pa i pcap) whoA whoA [] from CR0.out)).parents
      have hb5 := (Below.refl wr.heap.size wr).alloc (Nat.le_refl _) (.cells Y 26)
      have BJ := Lib.hid (BR.out.trans (hb5.mono BR.out.size))
      have CJ := Lib.hid (heap_keep CR0.out hb5)
      have OWJ := Lib.hid (ownD_below OWR.out hb5)
      have SJ := Lib.hid (Nat.le_trans SR.out hb5.size)
      clear hbi hY hb5
      go_wp2_with (first
        | (refine wpList_build_one rfl 26 0 _ rfl (.int .u8 ((i : Int) + 1)) rfl _ BI.out ?_)
        | (with_reducible refine wpList_build_idD rfl (.tmp 32) rfl Y HYS.out rfl ?_)
        | (at_builtin; refine wpList_append_idD rfl _ _ rfl w3.heap.size _ (idsN i) (idN (i + 1)) wr.heap.size Y HY.out.symm rfl rfl (heap_alloc_new wr _) rfl OWJ.out (by rw [HLEN.out]; omega) SJ.out ?_)
        | fail)
      intro v6 w6 o6 g6
      obtain ⟨pa6, pcap6, hv6, _, _, _, _⟩ := ownD_ids o6 (by rw [← HIDS.out]; exact idsN_each _)
      obtain ⟨pn6, hpn6⟩ : ∃ pn6, (idsN i ++ [idN (i + 1)]).length = pn6 := ⟨_, rfl⟩
      rw [hpn6] at hv6
      subst hv6
      clear hpn6
      have hb6 := (Below.refl w3.heap.size (wr.alloc (.cells Y 26))).grown g6 SJ.out (fun j hj => (OWJ.out.lt j hj).1)
      have C6 := Lib.hid ((hb6.block g LT3.out).trans CJ.out)
      have B6 := Lib.hid (BJ.out.trans (hb6.mono (by have := LT3.out; have := LEW.out; omega)))
      have S6 := Lib.hid (Nat.le_trans SJ.out hb6.size)
      have O6 := Lib.hid o6
      have q20 : w6.cell? ⟨g, 20, none⟩ = some (.slice pa i pcap) := (recAt_of (t := oneD) rfl (show RcBlk w6 g oneD (.slice pa i pcap) whoA whoA [] from C6.out)).parents
      have z20 := not_frozen (show w6.heap[g]? = _ from C6.out) 20
      clear hb6 o6 g6 p20
      have F6 := Lib.hid (offb_set w6 g 20 (.slice pa6 pn6 pcap6))
      have C7 := Lib.hid (rcb_parents (v' := .slice pa6 pn6 pcap6) (show RcBlk w6 g oneD (.slice pa i pcap) whoA whoA [] from C6.out) rfl)
      have B7 := Lib.hid (B6.out.trans (F6.out.below (B := w.heap.size) LEW.out B6.out.size))
      have O7 := Lib.hid (show OwnD w3.heap.size (.slice pa6 pn6 pcap6) (idsN (i + 1)) _ from by rw [HIDS.out]; exact ownDb_off O6.out F6.out LT3.out)
      have S7 := Lib.hid (Nat.le_trans S6.out F6.out.size)
      go_wp2
      go_roundw
      case rel => exact ⟨i + 1, _, by omega, by go_num, C7.out, O7.out, B7.out, S7.out⟩
      case measure => simp [intOf]; omega
    · obtain rfl : i = n := by omega
      obtain ⟨pa, pcap, hpv, hpc, _, _, _⟩ := ownD_ids OWR.out (idsN_each i)
      have HPC := Lib.hid hpc
      rw [idsN_len] at hpv HPC
      subst hpv
      have OW0 := Lib.hid (show OwnD w3.heap.size (.slice pa i pcap) (idsN i) wr from OWR.out)
      have HL0 := Lib.hid (idsN_len i)
      have HE0 := Lib.hid (idsN_each i)
      have p20 : wr.cell? ⟨g, 20, none⟩ = some (.slice pa i pcap) := (recAt_of (t := oneD) rfl (show RcBlk wr g oneD (.slice pa i pcap) whoA whoA [] from CR0.out)).parents
      clear hpc OWR SR
      cases zb with
      | false =>
        cases tb with
        | false =>
          obtain ⟨ps, hps⟩ : ∃ ps, idsN i = ps := ⟨_, rfl⟩
          have OWU := OW0; have HPL := HL0; have HPE := HE0; have CU := CR0; have BU := BR
          rw [hps] at OWU HPL HPE
          obtain ⟨wu, hwu⟩ : ∃ wu, wu = wr := ⟨_, rfl⟩
          subst hwu
          obtain ⟨R, hR0⟩ : ∃ R, R = b16 := ⟨_, rfl⟩
          subst hR0
          have HR := Lib.hid (show (decide (i ≤ 16) && parentsR ps) = R by rw [← hps, HB16.out, show parentsR (idsN i) = true from parents_few ⟨i, by omega⟩, Bool.and_true])
          clear hps HB16
          obtain ⟨hid9, hpa9⟩ : IdsAt wu pa ps ∧ i ≤ pcap := by
            obtain ⟨pa2, cap2, hv2, q1, q2, q3, q4⟩ := ownD_ids OWU.out HPE.out
            rw [HPL.out] at hv2
            cases hv2
            exact ⟨q3, HPC.out⟩
          have CP9 := CP.out ps HPE.out (by rw [HPL.out]; omega) pa i pcap wu BU.out hid9 HPL.out.symm hpa9
          have HRR := Lib.hid (show rightR ⟨oneD, ps, whoA, whoA, []⟩ = R from by rw [right_par, HPL.out, HR.out])
          have CR9 := Lib.hid (fun u (hu : Below wu.heap.size wu u) => CR.out ps HPE.out (by rw [HPL.out]; omega) pa i pcap u (BU.out.trans (hu.mono BU.out.size)) (hid9.keep hu) HPL.out.symm hpa9)
          rw [HRR.out] at CR9
          obtain ⟨A, hA⟩ : ∃ A, arrC oneD (.slice pa i pcap) whoA whoA [] = A := ⟨_, rfl⟩
          have IA := Lib.hid (infoC_arr A (by rw [← hA]; exact arrC_size _ _ _ _ _ rfl))
          have KA := Lib.hid (show wu.heap[g]? = some (.cells A 29 (0, 0)) by rw [← hA]; exact CU.out)
          rw [hA] at CP9 CR9
          clear hA hid9 hpa9
          cases R with
          | true =>
            have HPR := Lib.hid (show (printR ⟨oneD, ps, whoA, whoA, []⟩).2 = 0 from by unfold printR; rw [HRR.out]; rfl)
            rw [HPR.out] at CP9
            go_wp2_with (first
              | (with_reducible refine wpList_load_all 29 (.tmp 8) rfl (by kernel_rfl) g A 29 (0, 0) rfl KA.out _ Tryd.underlying29 rfl IA.out ?_)
              | fail)
            refine CP9.mono ?_
            rintro e w10 ⟨v9, rfl, hr10, hb10⟩
            obtain ⟨ra, rc, rfl, _, _, _⟩ := red_shapeP hr10
            have B10 := Lib.hid (BU.out.trans (hb10.mono BU.out.size))
            have D10 := Lib.hid hb10
            have K10 := Lib.hid (heap_keep KA.out hb10)
            clear hr10 hb10 CP9
            go_wp2_with fail
            refine (CA.out _ B10.out).mono ?_
            rintro e w11 ⟨rfl, hb11⟩
            have B11 := Lib.hid (B10.out.trans (hb11.mono B10.out.size))
            have D11 := Lib.hid (D10.out.trans (hb11.mono D10.out.size))
            have K11 := Lib.hid (heap_keep K10.out hb11)
            clear hb11
            go_wp2_with (first
              | (with_reducible refine wpList_load_all 29 (.tmp 8) rfl (by kernel_rfl) g A 29 (0, 0) rfl K11.out _ Tryd.underlying29 rfl IA.out ?_)
              | fail)
            refine (CR9.out _ D11.out).mono ?_
            rintro e w12 ⟨rfl, hb12⟩
            have B12 := Lib.hid (B11.out.trans (hb12.mono B11.out.size))
            clear hb12
            go_wp2
            go_ret
            exact ⟨rfl, B12.out⟩
          | false =>
            have HPR := Lib.hid (show (printR ⟨oneD, ps, whoA, whoA, []⟩).2 = 4 from by unfold printR; rw [HRR.out]; rfl)
            rw [HPR.out] at CP9
            go_wp2_with (first
              | (with_reducible refine wpList_load_all 29 (.tmp 8) rfl (by kernel_rfl) g A 29 (0, 0) rfl KA.out _ Tryd.underlying29 rfl IA.out ?_)
              | fail)
            refine CP9.mono ?_
            rintro e w10 ⟨v9, rfl, hr10, hb10⟩
            obtain ⟨ra, rc, rfl, _, _, _⟩ := red_shapeP hr10
            have B10 := Lib.hid (BU.out.trans (hb10.mono BU.out.size))
            have D10 := Lib.hid hb10
            have K10 := Lib.hid (heap_keep KA.out hb10)
            clear hr10 hb10 CP9
            go_wp2_with fail
            refine (CA.out _ B10.out).mono ?_
            rintro e w11 ⟨rfl, hb11⟩
            have B11 := Lib.hid (B10.out.trans (hb11.mono B10.out.size))
            have D11 := Lib.hid (D10.out.trans (hb11.mono D10.out.size))
            have K11 := Lib.hid (heap_keep K10.out hb11)
            clear hb11
            go_wp2_with (first
              | (with_reducible refine wpList_load_all 29 (.tmp 8) rfl (by kernel_rfl) g A 29 (0, 0) rfl K11.out _ Tryd.underlying29 rfl IA.out ?_)
              | fail)
            refine (CR9.out _ D11.out).mono ?_
            rintro e w12 ⟨rfl, hb12⟩
            have B12 := Lib.hid (B11.out.trans (hb12.mono B11.out.size))
            clear hb12
            go_wp2
            go_ret
            exact ⟨rfl, B12.out⟩
        | true =>
          by_cases ht : 1 < i
          case neg =>
            have gt1 : ¬ (i : Int) > 1 := by omega
            obtain ⟨ps, hps⟩ : ∃ ps, idsN i = ps := ⟨_, rfl⟩
            have OWU := OW0; have HPL := HL0; have HPE := HE0; have CU := CR0; have BU := BR
            rw [hps] at OWU HPL HPE
            obtain ⟨wu, hwu⟩ : ∃ wu, wu = wr := ⟨_, rfl⟩
            subst hwu
            obtain ⟨R, hR0⟩ : ∃ R, R = b16 := ⟨_, rfl⟩
            subst hR0
            have HR := Lib.hid (show (decide (i ≤ 16) && parentsR ps) = R by rw [← hps, HB16.out, show parentsR (idsN i) = true from parents_few ⟨i, by omega⟩, Bool.and_true])
            clear hps HB16
            obtain ⟨hid9, hpa9⟩ : IdsAt wu pa ps ∧ i ≤ pcap := by
              obtain ⟨pa2, cap2, hv2, q1, q2, q3, q4⟩ := ownD_ids OWU.out HPE.out
              rw [HPL.out] at hv2
              cases hv2
              exact ⟨q3, HPC.out⟩
            have CP9 := CP.out ps HPE.out (by rw [HPL.out]; omega) pa i pcap wu BU.out hid9 HPL.out.symm hpa9
            have HRR := Lib.hid (show rightR ⟨oneD, ps, whoA, whoA, []⟩ = R from by rw [right_par, HPL.out, HR.out])
            have CR9 := Lib.hid (fun u (hu : Below wu.heap.size wu u) => CR.out ps HPE.out (by rw [HPL.out]; omega) pa i pcap u (BU.out.trans (hu.mono BU.out.size)) (hid9.keep hu) HPL.out.symm hpa9)
            rw [HRR.out] at CR9
            obtain ⟨A, hA⟩ : ∃ A, arrC oneD (.slice pa i pcap) whoA whoA [] = A := ⟨_, rfl⟩
            have IA := Lib.hid (infoC_arr A (by rw [← hA]; exact arrC_size _ _ _ _ _ rfl))
            have KA := Lib.hid (show wu.heap[g]? = some (.cells A 29 (0, 0)) by rw [← hA]; exact CU.out)
            rw [hA] at CP9 CR9
            clear hA hid9 hpa9
            cases R with
            | true =>
              have HPR := Lib.hid (show (printR ⟨oneD, ps, whoA, whoA, []⟩).2 = 0 from by unfold printR; rw [HRR.out]; rfl)
              rw [HPR.out] at CP9
              go_wp2_with (first
                | (with_reducible refine wpList_load_all 29 (.tmp 8) rfl (by kernel_rfl) g A 29 (0, 0) rfl KA.out _ Tryd.underlying29 rfl IA.out ?_)
                | fail)
              refine CP9.mono ?_
              rintro e w10 ⟨v9, rfl, hr10, hb10⟩
              obtain ⟨ra, rc, rfl, _, _, _⟩ := red_shapeP hr10
              have B10 := Lib.hid (BU.out.trans (hb10.mono BU.out.size))
              have D10 := Lib.hid hb10
              have K10 := Lib.hid (heap_keep KA.out hb10)
              clear hr10 hb10 CP9
              go_wp2_with fail
              refine (CA.out _ B10.out).mono ?_
              rintro e w11 ⟨rfl, hb11⟩
              have B11 := Lib.hid (B10.out.trans (hb11.mono B10.out.size))
              have D11 := Lib.hid (D10.out.trans (hb11.mono D10.out.size))
              have K11 := Lib.hid (heap_keep K10.out hb11)
              clear hb11
              go_wp2_with (first
                | (with_reducible refine wpList_load_all 29 (.tmp 8) rfl (by kernel_rfl) g A 29 (0, 0) rfl K11.out _ Tryd.underlying29 rfl IA.out ?_)
                | fail)
              refine (CR9.out _ D11.out).mono ?_
              rintro e w12 ⟨rfl, hb12⟩
              have B12 := Lib.hid (B11.out.trans (hb12.mono B11.out.size))
              clear hb12
              go_wp2
              go_ret
              exact ⟨rfl, B12.out⟩
            | false =>
              have HPR := Lib.hid (show (printR ⟨oneD, ps, whoA, whoA, []⟩).2 = 4 from by unfold printR; rw [HRR.out]; rfl)
              rw [HPR.out] at CP9
              go_wp2_with (first
                | (with_reducible refine wpList_load_all 29 (.tmp 8) rfl (by kernel_rfl) g A 29 (0, 0) rfl KA.out _ Tryd.underlying29 rfl IA.out ?_)
                | fail)
              refine CP9.mono ?_
              rintro e w10 ⟨v9, rfl, hr10, hb10⟩
              obtain ⟨ra, rc, rfl, _, _, _⟩ := red_shapeP hr10
              have B10 := Lib.hid (BU.out.trans (hb10.mono BU.out.size))
              have D10 := Lib.hid hb10
              have K10 := Lib.hid (heap_keep KA.out hb10)
              clear hr10 hb10 CP9
              go_wp2_with fail
              refine (CA.out _ B10.out).mono ?_
              rintro e w11 ⟨rfl, hb11⟩
              have B11 := Lib.hid (B10.out.trans (hb11.mono B10.out.size))
              have D11 := Lib.hid (D10.out.trans (hb11.mono D10.out.size))
              have K11 := Lib.hid (heap_keep K10.out hb11)
              clear hb11
              go_wp2_with (first
                | (with_reducible refine wpList_load_all 29 (.tmp 8) rfl (by kernel_rfl) g A 29 (0, 0) rfl K11.out _ Tryd.underlying29 rfl IA.out ?_)
                | fail)
              refine (CR9.out _ D11.out).mono ?_
              rintro e w12 ⟨rfl, hb12⟩
              have B12 := Lib.hid (B11.out.trans (hb12.mono B11.out.size))
              clear hb12
              go_wp2
              go_ret
              exact ⟨rfl, B12.out⟩
          have gt1 : (i : Int) > 1 := by omega
          obtain ⟨gr, pc0, hpv0, hgb, _⟩ := ownD_some OW0.out (by rw [HL0.out]; omega)
          rw [HL0.out] at hpv0
          cases hpv0
          have HGB := Lib.hid hgb
          clear hgb
          obtain ⟨l1, hl1⟩ : ∃ l1, l1 = idsN i := ⟨_, rfl⟩
          have OWL := Lib.hid (show OwnD w3.heap.size (.slice (some ⟨gr, 0, none⟩) l1.length pcap) l1 wr by rw [hl1, HL0.out]; exact OW0.out)
          have HLL := Lib.hid (show l1.length = i by rw [hl1]; exact HL0.out)
          have HLE := Lib.hid (show ∀ q ∈ l1, q.length = 20 by rw [hl1]; exact HE0.out)
          have CT := Lib.hid (show RcBlk wr g oneD (.slice (some ⟨gr, 0, none⟩) i pcap) whoA whoA [] from CR0.out)
          have BT := Lib.hid (show Below w.heap.size w wr from BR.out)
          obtain ⟨w8, hw8⟩ : ∃ w8, w8 = wr := ⟨_, rfl⟩
          subst hw8
          clear hl1
          obtain ⟨y, hy⟩ : ∃ y, l1[1]'(by rw [HLL.out]; exact ht) = y := ⟨_, rfl⟩
          have hy20 : y.length = 20 := HLE.out y (by rw [← hy]; exact List.getElem_mem _)
          have HY20 := Lib.hid hy20
          have HPT := Lib.hid (show parentsR (l1.set 0 y) = false by rw [← hy]; exact parents_twice (by rw [HLL.out]; exact ht))
          have RY := Lib.hid (own_one OWL.out HLE.out (by rw [HLL.out]; exact ht) y hy)
          have RY2 := Lib.hid (fun (u : World) (hu : OwnD w3.heap.size (.slice (some ⟨gr, 0, none⟩) l1.length pcap) (l1.set 0 y) u) => own_one hu (set_idsD HLE.out 0 HY20.out) (by rw [List.length_set, HLL.out]; exact ht) y (by rw [List.getElem_set_ne (by decide)]; exact hy))
          have LTG := Lib.hid (show gr < w8.heap.size from own_ltD OWL.out)
          have GNE := Lib.hid (show g ≠ gr by have := HGB.out; have := LT3.out; omega)
          have hz : 0 < i := by omega
          have LY := Lib.hid (show (Tryd.prog.info? 26).map (·.size) = some (cellsD y).length by rw [cellsD_len y hy20]; exact infoD_n)
          have LCY := Lib.hid (cellsD_len y hy20)
          clear hy hy20
          go_wp2_with fail
          refine wp_region_held_drew (S := fun u => u.cell? ⟨g, 20, none⟩ = some (.slice (some ⟨gr, 0, none⟩) i pcap) ∧ u.rangeAt gr 20 (cellsD y)) (by kernel_rfl) (show w8.drew.cell? ⟨g, 20, none⟩ = _ ∧ w8.drew.rangeAt gr 20 (cellsD y) from ⟨p20, RY.out⟩) (fun hHeld => ?_)
          refine wpAnyH_take (i := 0) (v := ?hv0) rfl (by kernel_rfl) (by kernel_rfl) (by kernel_rfl) (fun _ _ _ h => h) (Or.inl ⟨by kernel_rfl, ?hy0⟩) hHeld ?_
          case hy0 => intro u hu; go_simp; try with_reducible rfl
          try simp only [Act.put, List.setIfInBounds_toArray, List.set_cons_zero, List.set_cons_succ]
          refine wpAnyH_take (i := 1) (v := .slice (some ⟨gr, 0, none⟩) i pcap) rfl (by kernel_rfl) (by kernel_rfl) (by kernel_rfl) (fun _ _ _ h => h) (Or.inl ⟨by kernel_rfl, ?hy1x⟩) hHeld ?_
          case hy1x => intro u hu; have q := hu.1; go_simp
          try simp only [Act.put, List.setIfInBounds_toArray, List.set_cons_zero, List.set_cons_succ]
          refine wpAnyH_take (i := 2) (v := ?hv2) rfl (by kernel_rfl) (by kernel_rfl) (by kernel_rfl) (fun _ _ _ h => h) (Or.inl ⟨by kernel_rfl, ?hy2⟩) hHeld ?_
          case hy2 => intro u hu; go_simp; try with_reducible rfl
          try simp only [Act.put, List.setIfInBounds_toArray, List.set_cons_zero, List.set_cons_succ]
          refine wpAnyH_take (i := 3) (v := .slice (some ⟨gr, 0, none⟩) i pcap) rfl (by kernel_rfl) (by kernel_rfl) (by kernel_rfl) (fun _ _ _ h => h) (Or.inl ⟨by kernel_rfl, ?hy3x⟩) hHeld ?_
          case hy3x => intro u hu; have q := hu.1; go_simp
          try simp only [Act.put, List.setIfInBounds_toArray, List.set_cons_zero, List.set_cons_succ]
          refine wpAnyH_take (i := 4) (v := ?hv4) rfl (by kernel_rfl) (by kernel_rfl) (by kernel_rfl) (fun _ _ _ h => h) (Or.inl ⟨by kernel_rfl, ?hy4⟩) hHeld ?_
          case hy4 => intro u hu; go_simp; try with_reducible rfl
          try simp only [Act.put, List.setIfInBounds_toArray, List.set_cons_zero, List.set_cons_succ]
          refine wpAnyH_take (i := 5) rfl (by kernel_rfl) (by kernel_rfl) (by kernel_rfl) (fun _ _ _ h => h) (yieldsIf_load_mid (by kernel_rfl) 26 (.tmp 58) (by kernel_rfl) gr 20 (by kernel_rfl) (cellsD y) _ (fun u hu => hu.2) Tryd.underlying26 rfl LY.out) hHeld ?_
          try simp only [Act.put, List.setIfInBounds_toArray, List.set_cons_zero, List.set_cons_succ]
          refine wpAnyH_take (i := 6) (v := ?hv6) rfl (by kernel_rfl) (by kernel_rfl) (by kernel_rfl) (fun _ _ _ h => h) (Or.inl ⟨by kernel_rfl, ?hy6⟩) hHeld ?_
          case hy6 => intro u hu; go_simp; try with_reducible rfl
          try simp only [Act.put, List.setIfInBounds_toArray, List.set_cons_zero, List.set_cons_succ]
          refine wpAnyH_ready (rs := [7]) (by kernel_rfl) (by simp) ?_
          refine AllReadyH.cons rfl (fun K hK => ?_) AllReadyH.nil
          go_simp
          rw [if_pos LCY.out]
          obtain ⟨w9, hrun, how, hgr⟩ := run_store_idD (w := w8.drew) w3.heap.size gr pcap 0 l1 HLE.out y (by rw [HLL.out]; omega) HY20.out (ownD_below OWL.out (Below.refl _ w8).drew)
          rw [Nat.zero_mul] at hrun
          rw [hrun]
          simp only [Result.andThen_ok, Oper.upon]
          have hb9 : Below w.heap.size w w9 := BT.out.drew.grown hgr BT.out.size (by intro k hk; cases hk; have := HGB.out; have := LT3.out; have := LEW.out; omega)
          have hc9 : RcBlk w9 g oneD (.slice (some ⟨gr, 0, none⟩) i pcap) whoA whoA [] := (hgr.block g (lt_of_heap CT.out) (fun e => GNE.out (Option.some.inj e))).trans CT.out
          have OW9 := Lib.hid how
          have CT9 := Lib.hid hc9
          have BT9 := Lib.hid hb9
          have hH : w9.cell? ⟨g, 20, none⟩ = some (.slice (some ⟨gr, 0, none⟩) i pcap) ∧ w9.rangeAt gr 20 (cellsD y) := ⟨(recAt_of (t := oneD) rfl hc9).parents, RY2.out w9 how⟩
          clear hrun how hgr hb9 hc9 hHeld
          refine hK.out _ _ hH (fun hHeld => ?_)
          clear hK K
          try simp only [Act.put, List.getElem_toArray, List.getElem_cons_succ, List.getElem_cons_zero, List.setIfInBounds_toArray, List.set_cons_zero, List.set_cons_succ]
          refine wpAnyH_done (by kernel_rfl) ?_ _
          clear hHeld
          obtain ⟨ps, hps⟩ : ∃ ps, ps = l1.set 0 y := ⟨_, rfl⟩
          obtain ⟨pa, hpa0⟩ : ∃ pa : Option Addr, pa = some ⟨gr, 0, none⟩ := ⟨_, rfl⟩
          obtain ⟨wu, hwu⟩ : ∃ wu, wu = w9 := ⟨_, rfl⟩
          subst hwu
          have OWU := Lib.hid (show OwnD w3.heap.size (.slice pa i pcap) ps wu from by have h := OW9.out; rw [HLL.out] at h; rw [hps, hpa0]; exact h)
          have HPL := Lib.hid (show ps.length = i by rw [hps, List.length_set, HLL.out])
          have HPE := Lib.hid (show ∀ q ∈ ps, q.length = 20 by rw [hps]; exact set_idsD HLE.out 0 HY20.out)
          have CU := Lib.hid (show RcBlk wu g oneD (.slice pa i pcap) whoA whoA [] by rw [hpa0]; exact CT9.out)
          have BU := BT9
          obtain ⟨R, hR0⟩ : ∃ R, R = false := ⟨_, rfl⟩
          have HRF := Lib.hid hR0
          have HR := Lib.hid (show (decide (i ≤ 16) && parentsR ps) = R by rw [hps, HPT.out, Bool.and_false, hR0])
          have HPA0 := Lib.hid hpa0
          clear hR0 hps hpa0 p20
          obtain ⟨hid9, hpa9⟩ : IdsAt wu pa ps ∧ i ≤ pcap := by
            obtain ⟨pa2, cap2, hv2, q1, q2, q3, q4⟩ := ownD_ids OWU.out HPE.out
            rw [HPL.out] at hv2
            cases hv2
            exact ⟨q3, HPC.out⟩
          have CP9 := CP.out ps HPE.out (by rw [HPL.out]; omega) pa i pcap wu BU.out hid9 HPL.out.symm hpa9
          have HRR := Lib.hid (show rightR ⟨oneD, ps, whoA, whoA, []⟩ = R from by rw [right_par, HPL.out, HR.out])
          have CR9 := Lib.hid (fun u (hu : Below wu.heap.size wu u) => CR.out ps HPE.out (by rw [HPL.out]; omega) pa i pcap u (BU.out.trans (hu.mono BU.out.size)) (hid9.keep hu) HPL.out.symm hpa9)
          rw [HRR.out] at CR9
          obtain ⟨A, hA⟩ : ∃ A, arrC oneD (.slice pa i pcap) whoA whoA [] = A := ⟨_, rfl⟩
          have IA := Lib.hid (infoC_arr A (by rw [← hA]; exact arrC_size _ _ _ _ _ rfl))
          have KA := Lib.hid (show wu.heap[g]? = some (.cells A 29 (0, 0)) by rw [← hA]; exact CU.out)
          rw [hA] at CP9 CR9
          clear hA hid9 hpa9
          have hRF := HRF.out
          subst hRF
          have HPR := Lib.hid (show (printR ⟨oneD, ps, whoA, whoA, []⟩).2 = 4 from by unfold printR; rw [HRR.out]; rfl)
          rw [HPR.out] at CP9
          go_wp2_with (first
            | (with_reducible refine wpList_load_all 29 (.tmp 8) rfl (by kernel_rfl) g A 29 (0, 0) rfl KA.out _ Tryd.underlying29 rfl IA.out ?_)
            | fail)
          refine CP9.mono ?_
          rintro e w10 ⟨v9, rfl, hr10, hb10⟩
          obtain ⟨ra, rc, rfl, _, _, _⟩ := red_shapeP hr10
          have B10 := Lib.hid (BU.out.trans (hb10.mono BU.out.size))
          have D10 := Lib.hid hb10
          have K10 := Lib.hid (heap_keep KA.out hb10)
          clear hr10 hb10 CP9
          go_wp2_with fail
          refine (CA.out _ B10.out).mono ?_
          rintro e w11 ⟨rfl, hb11⟩
          have B11 := Lib.hid (B10.out.trans (hb11.mono B10.out.size))
          have D11 := Lib.hid (D10.out.trans (hb11.mono D10.out.size))
          have K11 := Lib.hid (heap_keep K10.out hb11)
          clear hb11
          go_wp2_with (first
            | (with_reducible refine wpList_load_all 29 (.tmp 8) rfl (by kernel_rfl) g A 29 (0, 0) rfl K11.out _ Tryd.underlying29 rfl IA.out ?_)
            | fail)
          refine (CR9.out _ D11.out).mono ?_
          rintro e w12 ⟨rfl, hb12⟩
          have B12 := Lib.hid (B11.out.trans (hb12.mono B11.out.size))
          clear hb12
          go_wp2
          go_ret
          exact ⟨rfl, B12.out⟩
      | true =>
        by_cases hz : 0 < i
        case neg =>
          have gz : ¬ (i : Int) > 0 := by omega
          have gt1 : ¬ (i : Int) > 1 := by omega
          cases tb with
          | false =>
            obtain ⟨ps, hps⟩ : ∃ ps, idsN i = ps := ⟨_, rfl⟩
            have OWU := OW0; have HPL := HL0; have HPE := HE0; have CU := CR0; have BU := BR
            rw [hps] at OWU HPL HPE
            obtain ⟨wu, hwu⟩ : ∃ wu, wu = wr := ⟨_, rfl⟩
            subst hwu
            obtain ⟨R, hR0⟩ : ∃ R, R = b16 := ⟨_, rfl⟩
            subst hR0
            have HR := Lib.hid (show (decide (i ≤ 16) && parentsR ps) = R by rw [← hps, HB16.out, show parentsR (idsN i) = true from parents_few ⟨i, by omega⟩, Bool.and_true])
            clear hps HB16
            obtain ⟨hid9, hpa9⟩ : IdsAt wu pa ps ∧ i ≤ pcap := by
              obtain ⟨pa2, cap2, hv2, q1, q2, q3, q4⟩ := ownD_ids OWU.out HPE.out
              rw [HPL.out] at hv2
              cases hv2
              exact ⟨q3, HPC.out⟩
            have CP9 := CP.out ps HPE.out (by rw [HPL.out]; omega) pa i pcap wu BU.out hid9 HPL.out.symm hpa9
            have HRR := Lib.hid (show rightR ⟨oneD, ps, whoA, whoA, []⟩ = R from by rw [right_par, HPL.out, HR.out])
            have CR9 := Lib.hid (fun u (hu : Below wu.heap.size wu u) => CR.out ps HPE.out (by rw [HPL.out]; omega) pa i pcap u (BU.out.trans (hu.mono BU.out.size)) (hid9.keep hu) HPL.out.symm hpa9)
            rw [HRR.out] at CR9
            obtain ⟨A, hA⟩ : ∃ A, arrC oneD (.slice pa i pcap) whoA whoA [] = A := ⟨_, rfl⟩
            have IA := Lib.hid (infoC_arr A (by rw [← hA]; exact arrC_size _ _ _ _ _ rfl))
            have KA := Lib.hid (show wu.heap[g]? = some (.cells A 29 (0, 0)) by rw [← hA]; exact CU.out)
            rw [hA] at CP9 CR9
            clear hA hid9 hpa9
            cases R with
            | true =>
              have HPR := Lib.hid (show (printR ⟨oneD, ps, whoA, whoA, []⟩).2 = 0 from by unfold printR; rw [HRR.out]; rfl)
              rw [HPR.out] at CP9
              go_wp2_with (first
                | (with_reducible refine wpList_load_all 29 (.tmp 8) rfl (by kernel_rfl) g A 29 (0, 0) rfl KA.out _ Tryd.underlying29 rfl IA.out ?_)
                | fail)
              refine CP9.mono ?_
              rintro e w10 ⟨v9, rfl, hr10, hb10⟩
              obtain ⟨ra, rc, rfl, _, _, _⟩ := red_shapeP hr10
              have B10 := Lib.hid (BU.out.trans (hb10.mono BU.out.size))
              have D10 := Lib.hid hb10
              have K10 := Lib.hid (heap_keep KA.out hb10)
              clear hr10 hb10 CP9
              go_wp2_with fail
              refine (CA.out _ B10.out).mono ?_
              rintro e w11 ⟨rfl, hb11⟩
              have B11 := Lib.hid (B10.out.trans (hb11.mono B10.out.size))
              have D11 := Lib.hid (D10.out.trans (hb11.mono D10.out.size))
              have K11 := Lib.hid (heap_keep K10.out hb11)
              clear hb11
              go_wp2_with (first
                | (with_reducible refine wpList_load_all 29 (.tmp 8) rfl (by kernel_rfl) g A 29 (0, 0) rfl K11.out _ Tryd.underlying29 rfl IA.out ?_)
                | fail)
              refine (CR9.out _ D11.out).mono ?_
              rintro e w12 ⟨rfl, hb12⟩
              have B12 := Lib.hid (B11.out.trans (hb12.mono B11.out.size))
              clear hb12
              go_wp2
              go_ret
              exact ⟨rfl, B12.out⟩
            | false =>
              have HPR := Lib.hid (show (printR ⟨oneD, ps, whoA, whoA, []⟩).2 = 4 from by unfold printR; rw [HRR.out]; rfl)
              rw [HPR.out] at CP9
              go_wp2_with (first
                | (with_reducible refine wpList_load_all 29 (.tmp 8) rfl (by kernel_rfl) g A 29 (0, 0) rfl KA.out _ Tryd.underlying29 rfl IA.out ?_)
                | fail)
              refine CP9.mono ?_
              rintro e w10 ⟨v9, rfl, hr10, hb10⟩
              obtain ⟨ra, rc, rfl, _, _, _⟩ := red_shapeP hr10
              have B10 := Lib.hid (BU.out.trans (hb10.mono BU.out.size))
              have D10 := Lib.hid hb10
              have K10 := Lib.hid (heap_keep KA.out hb10)
              clear hr10 hb10 CP9
              go_wp2_with fail
              refine (CA.out _ B10.out).mono ?_
              rintro e w11 ⟨rfl, hb11⟩
              have B11 := Lib.hid (B10.out.trans (hb11.mono B10.out.size))
              have D11 := Lib.hid (D10.out.trans (hb11.mono D10.out.size))
              have K11 := Lib.hid (heap_keep K10.out hb11)
              clear hb11
              go_wp2_with (first
                | (with_reducible refine wpList_load_all 29 (.tmp 8) rfl (by kernel_rfl) g A 29 (0, 0) rfl K11.out _ Tryd.underlying29 rfl IA.out ?_)
                | fail)
              refine (CR9.out _ D11.out).mono ?_
              rintro e w12 ⟨rfl, hb12⟩
              have B12 := Lib.hid (B11.out.trans (hb12.mono B11.out.size))
              clear hb12
              go_wp2
              go_ret
              exact ⟨rfl, B12.out⟩
          | true =>
            obtain ⟨ps, hps⟩ : ∃ ps, idsN i = ps := ⟨_, rfl⟩
            have OWU := OW0; have HPL := HL0; have HPE := HE0; have CU := CR0; have BU := BR
            rw [hps] at OWU HPL HPE
            obtain ⟨wu, hwu⟩ : ∃ wu, wu = wr := ⟨_, rfl⟩
            subst hwu
            obtain ⟨R, hR0⟩ : ∃ R, R = b16 := ⟨_, rfl⟩
            subst hR0
            have HR := Lib.hid (show (decide (i ≤ 16) && parentsR ps) = R by rw [← hps, HB16.out, show parentsR (idsN i) = true from parents_few ⟨i, by omega⟩, Bool.and_true])
            clear hps HB16
            obtain ⟨hid9, hpa9⟩ : IdsAt wu pa ps ∧ i ≤ pcap := by
              obtain ⟨pa2, cap2, hv2, q1, q2, q3, q4⟩ := ownD_ids OWU.out HPE.out
              rw [HPL.out] at hv2
              cases hv2
              exact ⟨q3, HPC.out⟩
            have CP9 := CP.out ps HPE.out (by rw [HPL.out]; omega) pa i pcap wu BU.out hid9 HPL.out.symm hpa9
            have HRR := Lib.hid (show rightR ⟨oneD, ps, whoA, whoA, []⟩ = R from by rw [right_par, HPL.out, HR.out])
            have CR9 := Lib.hid (fun u (hu : Below wu.heap.size wu u) => CR.out ps HPE.out (by rw [HPL.out]; omega) pa i pcap u (BU.out.trans (hu.mono BU.out.size)) (hid9.keep hu) HPL.out.symm hpa9)
            rw [HRR.out] at CR9
            obtain ⟨A, hA⟩ : ∃ A, arrC oneD (.slice pa i pcap) whoA whoA [] = A := ⟨_, rfl⟩
            have IA := Lib.hid (infoC_arr A (by rw [← hA]; exact arrC_size _ _ _ _ _ rfl))
            have KA := Lib.hid (show wu.heap[g]? = some (.cells A 29 (0, 0)) by rw [← hA]; exact CU.out)
            rw [hA] at CP9 CR9
            clear hA hid9 hpa9
            cases R with
            | true =>
              have HPR := Lib.hid (show (printR ⟨oneD, ps, whoA, whoA, []⟩).2 = 0 from by unfold printR; rw [HRR.out]; rfl)
              rw [HPR.out] at CP9
              go_wp2_with (first
                | (with_reducible refine wpList_load_all 29 (.tmp 8) rfl (by kernel_rfl) g A 29 (0, 0) rfl KA.out _ Tryd.underlying29 rfl IA.out ?_)
                | fail)
              refine CP9.mono ?_
              rintro e w10 ⟨v9, rfl, hr10, hb10⟩
              obtain ⟨ra, rc, rfl, _, _, _⟩ := red_shapeP hr10
              have B10 := Lib.hid (BU.out.trans (hb10.mono BU.out.size))
              have D10 := Lib.hid hb10
              have K10 := Lib.hid (heap_keep KA.out hb10)
              clear hr10 hb10 CP9
              go_wp2_with fail
              refine (CA.out _ B10.out).mono ?_
              rintro e w11 ⟨rfl, hb11⟩
              have B11 := Lib.hid (B10.out.trans (hb11.mono B10.out.size))
              have D11 := Lib.hid (D10.out.trans (hb11.mono D10.out.size))
              have K11 := Lib.hid (heap_keep K10.out hb11)
              clear hb11
              go_wp2_with (first
                | (with_reducible refine wpList_load_all 29 (.tmp 8) rfl (by kernel_rfl) g A 29 (0, 0) rfl K11.out _ Tryd.underlying29 rfl IA.out ?_)
                | fail)
              refine (CR9.out _ D11.out).mono ?_
              rintro e w12 ⟨rfl, hb12⟩
              have B12 := Lib.hid (B11.out.trans (hb12.mono B11.out.size))
              clear hb12
              go_wp2
              go_ret
              exact ⟨rfl, B12.out⟩
            | false =>
              have HPR := Lib.hid (show (printR ⟨oneD, ps, whoA, whoA, []⟩).2 = 4 from by unfold printR; rw [HRR.out]; rfl)
              rw [HPR.out] at CP9
              go_wp2_with (first
                | (with_reducible refine wpList_load_all 29 (.tmp 8) rfl (by kernel_rfl) g A 29 (0, 0) rfl KA.out _ Tryd.underlying29 rfl IA.out ?_)
                | fail)
              refine CP9.mono ?_
              rintro e w10 ⟨v9, rfl, hr10, hb10⟩
              obtain ⟨ra, rc, rfl, _, _, _⟩ := red_shapeP hr10
              have B10 := Lib.hid (BU.out.trans (hb10.mono BU.out.size))
              have D10 := Lib.hid hb10
              have K10 := Lib.hid (heap_keep KA.out hb10)
              clear hr10 hb10 CP9
              go_wp2_with fail
              refine (CA.out _ B10.out).mono ?_
              rintro e w11 ⟨rfl, hb11⟩
              have B11 := Lib.hid (B10.out.trans (hb11.mono B10.out.size))
              have D11 := Lib.hid (D10.out.trans (hb11.mono D10.out.size))
              have K11 := Lib.hid (heap_keep K10.out hb11)
              clear hb11
              go_wp2_with (first
                | (with_reducible refine wpList_load_all 29 (.tmp 8) rfl (by kernel_rfl) g A 29 (0, 0) rfl K11.out _ Tryd.underlying29 rfl IA.out ?_)
                | fail)
              refine (CR9.out _ D11.out).mono ?_
              rintro e w12 ⟨rfl, hb12⟩
              have B12 := Lib.hid (B11.out.trans (hb12.mono B11.out.size))
              clear hb12
              go_wp2
              go_ret
              exact ⟨rfl, B12.out⟩
        have gz : (i : Int) > 0 := by omega
        obtain ⟨gr, pc0, hpv0, hgb, _⟩ := ownD_some OW0.out (by rw [HL0.out]; omega)
        rw [HL0.out] at hpv0
        cases hpv0
        have e1 : IntKind.i64.wrap ((i : Int) - 1) = ((i - 1 : Nat) : Int) := by rw [IntKind.wrap_i64]; omega
        have e1b : (i : Int) - 1 = ((i - 1 : Nat) : Int) := by omega
        have OW0L := Lib.hid (show OwnD w3.heap.size (.slice (some ⟨gr, 0, none⟩) (idsN i).length pcap) (idsN i) wr by rw [HL0.out]; exact OW0.out)
        have gi1 : ((i - 1 : Nat) : Int) < (i : Int) := by omega
        go_wp2_with (first
          | (refine wpList_build_none rfl 26 rfl _ ZDB.out ?_)
          | (refine wpList_store_idD rfl (.tmp 48) (.tmp 47) rfl w3.heap.size gr pcap (i - 1) _ (idsN i) HE0.out idZ zd ZD0.out ?hof rfl rfl (by rw [HL0.out]; omega) rfl OW0L.out ?_)
          | fail)
        case hof => rfl
        intro w7 hw7 hg7
        have LI := Lib.hid (show (idsN i).set (i - 1) idZ = (idsN i).set (i - 1) idZ from rfl)
        obtain ⟨ps1, hps1⟩ : ∃ ps1, ps1 = (idsN i).set (i - 1) idZ := ⟨_, rfl⟩
        have HL1 := Lib.hid (show ps1.length = i by rw [hps1, List.length_set, HL0.out])
        have HE1 := Lib.hid (show ∀ q ∈ ps1, q.length = 20 by rw [hps1]; exact set_idsD HE0.out _ rfl)
        have HP1 := Lib.hid (show parentsR ps1 = false by rw [hps1]; exact parents_zero _ (by rw [HL0.out]; omega))
        have OW1 := Lib.hid (show OwnD w3.heap.size (.slice (some ⟨gr, 0, none⟩) i pcap) ps1 w7 from by have h := hw7; rw [HL0.out] at h; rw [hps1]; exact h)
        have C1 := Lib.hid (show RcBlk w7 g oneD (.slice (some ⟨gr, 0, none⟩) i pcap) whoA whoA [] from (hg7.block g (lt_of_heap CR0.out) (by have := LT3.out; intro e; cases e; omega)).trans CR0.out)
        have BW1 := Lib.hid (BR.out.grown hg7 BR.out.size (by intro k hk; cases hk; have := LT3.out; have := LEW.out; omega))
        have HGB := Lib.hid hgb
        clear hw7 hg7 hps1 hgb p20 OW0L LI
        have p20 : w7.cell? ⟨g, 20, none⟩ = some (.slice (some ⟨gr, 0, none⟩) i pcap) := (recAt_of (t := oneD) rfl C1.out).parents
        cases tb with
        | false =>
          obtain ⟨ps, hps⟩ : ∃ ps, ps = ps1 := ⟨_, rfl⟩
          subst hps
          have OWU := OW1; have HPL := HL1; have HPE := HE1; have CU := C1; have BU := BW1
          obtain ⟨wu, hwu⟩ : ∃ wu, wu = w7 := ⟨_, rfl⟩
          subst hwu
          obtain ⟨pa, hpa0⟩ : ∃ pa : Option Addr, pa = some ⟨gr, 0, none⟩ := ⟨_, rfl⟩
          have HPA0 := Lib.hid hpa0
          rw [← hpa0] at OWU CU p20
          clear hpa0
          obtain ⟨R, hR0⟩ : ∃ R, R = false := ⟨_, rfl⟩
          have HRF := Lib.hid hR0
          have HR := Lib.hid (show (decide (i ≤ 16) && parentsR ps) = R by rw [HP1.out, Bool.and_false, hR0])
          clear hR0
          obtain ⟨hid9, hpa9⟩ : IdsAt wu pa ps ∧ i ≤ pcap := by
            obtain ⟨pa2, cap2, hv2, q1, q2, q3, q4⟩ := ownD_ids OWU.out HPE.out
            rw [HPL.out] at hv2
            cases hv2
            exact ⟨q3, HPC.out⟩
          have CP9 := CP.out ps HPE.out (by rw [HPL.out]; omega) pa i pcap wu BU.out hid9 HPL.out.symm hpa9
          have HRR := Lib.hid (show rightR ⟨oneD, ps, whoA, whoA, []⟩ = R from by rw [right_par, HPL.out, HR.out])
          have CR9 := Lib.hid (fun u (hu : Below wu.heap.size wu u) => CR.out ps HPE.out (by rw [HPL.out]; omega) pa i pcap u (BU.out.trans (hu.mono BU.out.size)) (hid9.keep hu) HPL.out.symm hpa9)
          rw [HRR.out] at CR9
          obtain ⟨A, hA⟩ : ∃ A, arrC oneD (.slice pa i pcap) whoA whoA [] = A := ⟨_, rfl⟩
          have IA := Lib.hid (infoC_arr A (by rw [← hA]; exact arrC_size _ _ _ _ _ rfl))
          have KA := Lib.hid (show wu.heap[g]? = some (.cells A 29 (0, 0)) by rw [← hA]; exact CU.out)
          rw [hA] at CP9 CR9
          clear hA hid9 hpa9
          have hRF := HRF.out
          subst hRF
          have HPR := Lib.hid (show (printR ⟨oneD, ps, whoA, whoA, []⟩).2 = 4 from by unfold printR; rw [HRR.out]; rfl)
          rw [HPR.out] at CP9
          go_wp2_with (first
            | (with_reducible refine wpList_load_all 29 (.tmp 8) rfl (by kernel_rfl) g A 29 (0, 0) rfl KA.out _ Tryd.underlying29 rfl IA.out ?_)
            | fail)
          refine CP9.mono ?_
          rintro e w10 ⟨v9, rfl, hr10, hb10⟩
          obtain ⟨ra, rc, rfl, _, _, _⟩ := red_shapeP hr10
          have B10 := Lib.hid (BU.out.trans (hb10.mono BU.out.size))
          have D10 := Lib.hid hb10
          have K10 := Lib.hid (heap_keep KA.out hb10)
          clear hr10 hb10 CP9
          go_wp2_with fail
          refine (CA.out _ B10.out).mono ?_
          rintro e w11 ⟨rfl, hb11⟩
          have B11 := Lib.hid (B10.out.trans (hb11.mono B10.out.size))
          have D11 := Lib.hid (D10.out.trans (hb11.mono D10.out.size))
          have K11 := Lib.hid (heap_keep K10.out hb11)
          clear hb11
          go_wp2_with (first
            | (with_reducible refine wpList_load_all 29 (.tmp 8) rfl (by kernel_rfl) g A 29 (0, 0) rfl K11.out _ Tryd.underlying29 rfl IA.out ?_)
            | fail)
          refine (CR9.out _ D11.out).mono ?_
          rintro e w12 ⟨rfl, hb12⟩
          have B12 := Lib.hid (B11.out.trans (hb12.mono B11.out.size))
          clear hb12
          go_wp2
          go_ret
          exact ⟨rfl, B12.out⟩
        | true =>
          by_cases ht : 1 < i
          case neg =>
            have gt1 : ¬ (i : Int) > 1 := by omega
            obtain ⟨ps, hps⟩ : ∃ ps, ps = ps1 := ⟨_, rfl⟩
            subst hps
            have OWU := OW1; have HPL := HL1; have HPE := HE1; have CU := C1; have BU := BW1
            obtain ⟨wu, hwu⟩ : ∃ wu, wu = w7 := ⟨_, rfl⟩
            subst hwu
            obtain ⟨pa, hpa0⟩ : ∃ pa : Option Addr, pa = some ⟨gr, 0, none⟩ := ⟨_, rfl⟩
            have HPA0 := Lib.hid hpa0
            rw [← hpa0] at OWU CU p20
            clear hpa0
            obtain ⟨R, hR0⟩ : ∃ R, R = false := ⟨_, rfl⟩
            have HRF := Lib.hid hR0
            have HR := Lib.hid (show (decide (i ≤ 16) && parentsR ps) = R by rw [HP1.out, Bool.and_false, hR0])
            clear hR0
            obtain ⟨hid9, hpa9⟩ : IdsAt wu pa ps ∧ i ≤ pcap := by
              obtain ⟨pa2, cap2, hv2, q1, q2, q3, q4⟩ := ownD_ids OWU.out HPE.out
              rw [HPL.out] at hv2
              cases hv2
              exact ⟨q3, HPC.out⟩
            have CP9 := CP.out ps HPE.out (by rw [HPL.out]; omega) pa i pcap wu BU.out hid9 HPL.out.symm hpa9
            have HRR := Lib.hid (show rightR ⟨oneD, ps, whoA, whoA, []⟩ = R from by rw [right_par, HPL.out, HR.out])
            have CR9 := Lib.hid (fun u (hu : Below wu.heap.size wu u) => CR.out ps HPE.out (by rw [HPL.out]; omega) pa i pcap u (BU.out.trans (hu.mono BU.out.size)) (hid9.keep hu) HPL.out.symm hpa9)
            rw [HRR.out] at CR9
            obtain ⟨A, hA⟩ : ∃ A, arrC oneD (.slice pa i pcap) whoA whoA [] = A := ⟨_, rfl⟩
            have IA := Lib.hid (infoC_arr A (by rw [← hA]; exact arrC_size _ _ _ _ _ rfl))
            have KA := Lib.hid (show wu.heap[g]? = some (.cells A 29 (0, 0)) by rw [← hA]; exact CU.out)
            rw [hA] at CP9 CR9
            clear hA hid9 hpa9
            have hRF := HRF.out
            subst hRF
            have HPR := Lib.hid (show (printR ⟨oneD, ps, whoA, whoA, []⟩).2 = 4 from by unfold printR; rw [HRR.out]; rfl)
            rw [HPR.out] at CP9
            go_wp2_with (first
              | (with_reducible refine wpList_load_all 29 (.tmp 8) rfl (by kernel_rfl) g A 29 (0, 0) rfl KA.out _ Tryd.underlying29 rfl IA.out ?_)
              | fail)
            refine CP9.mono ?_
            rintro e w10 ⟨v9, rfl, hr10, hb10⟩
            obtain ⟨ra, rc, rfl, _, _, _⟩ := red_shapeP hr10
            have B10 := Lib.hid (BU.out.trans (hb10.mono BU.out.size))
            have D10 := Lib.hid hb10
            have K10 := Lib.hid (heap_keep KA.out hb10)
            clear hr10 hb10 CP9
            go_wp2_with fail
            refine (CA.out _ B10.out).mono ?_
            rintro e w11 ⟨rfl, hb11⟩
            have B11 := Lib.hid (B10.out.trans (hb11.mono B10.out.size))
            have D11 := Lib.hid (D10.out.trans (hb11.mono D10.out.size))
            have K11 := Lib.hid (heap_keep K10.out hb11)
            clear hb11
            go_wp2_with (first
              | (with_reducible refine wpList_load_all 29 (.tmp 8) rfl (by kernel_rfl) g A 29 (0, 0) rfl K11.out _ Tryd.underlying29 rfl IA.out ?_)
              | fail)
            refine (CR9.out _ D11.out).mono ?_
            rintro e w12 ⟨rfl, hb12⟩
            have B12 := Lib.hid (B11.out.trans (hb12.mono B11.out.size))
            clear hb12
            go_wp2
            go_ret
            exact ⟨rfl, B12.out⟩
          have gt1 : (i : Int) > 1 := by omega
          obtain ⟨l1, hl1⟩ : ∃ l1, l1 = ps1 := ⟨_, rfl⟩
          have OWL := Lib.hid (show OwnD w3.heap.size (.slice (some ⟨gr, 0, none⟩) l1.length pcap) l1 w7 by rw [hl1, HL1.out]; exact OW1.out)
          have HLL := Lib.hid (show l1.length = i by rw [hl1]; exact HL1.out)
          have HLE := Lib.hid (show ∀ q ∈ l1, q.length = 20 by rw [hl1]; exact HE1.out)
          have CT := Lib.hid (show RcBlk w7 g oneD (.slice (some ⟨gr, 0, none⟩) i pcap) whoA whoA [] from C1.out)
          have BT := Lib.hid (show Below w.heap.size w w7 from BW1.out)
          obtain ⟨w8, hw8⟩ : ∃ w8, w8 = w7 := ⟨_, rfl⟩
          subst hw8
          clear hl1
          obtain ⟨y, hy⟩ : ∃ y, l1[1]'(by rw [HLL.out]; exact ht) = y := ⟨_, rfl⟩
          have hy20 : y.length = 20 := HLE.out y (by rw [← hy]; exact List.getElem_mem _)
          have HY20 := Lib.hid hy20
          have HPT := Lib.hid (show parentsR (l1.set 0 y) = false by rw [← hy]; exact parents_twice (by rw [HLL.out]; exact ht))
          have RY := Lib.hid (own_one OWL.out HLE.out (by rw [HLL.out]; exact ht) y hy)
          have RY2 := Lib.hid (fun (u : World) (hu : OwnD w3.heap.size (.slice (some ⟨gr, 0, none⟩) l1.length pcap) (l1.set 0 y) u) => own_one hu (set_idsD HLE.out 0 HY20.out) (by rw [List.length_set, HLL.out]; exact ht) y (by rw [List.getElem_set_ne (by decide)]; exact hy))
          have LTG := Lib.hid (show gr < w8.heap.size from own_ltD OWL.out)
          have GNE := Lib.hid (show g ≠ gr by have := HGB.out; have := LT3.out; omega)
          have hz : 0 < i := by omega
          have LY := Lib.hid (show (Tryd.prog.info? 26).map (·.size) = some (cellsD y).length by rw [cellsD_len y hy20]; exact infoD_n)
          have LCY := Lib.hid (cellsD_len y hy20)
          clear hy hy20
          go_wp2_with fail
          refine wp_region_held_drew (S := fun u => u.cell? ⟨g, 20, none⟩ = some (.slice (some ⟨gr, 0, none⟩) i pcap) ∧ u.rangeAt gr 20 (cellsD y)) (by kernel_rfl) (show w8.drew.cell? ⟨g, 20, none⟩ = _ ∧ w8.drew.rangeAt gr 20 (cellsD y) from ⟨p20, RY.out⟩) (fun hHeld => ?_)
          refine wpAnyH_take (i := 0) (v := ?kv0) rfl (by kernel_rfl) (by kernel_rfl) (by kernel_rfl) (fun _ _ _ h => h) (Or.inl ⟨by kernel_rfl, ?ky0⟩) hHeld ?_
          case ky0 => intro u hu; go_simp; try with_reducible rfl
          try simp only [Act.put, List.setIfInBounds_toArray, List.set_cons_zero, List.set_cons_succ]
          refine wpAnyH_take (i := 1) (v := .slice (some ⟨gr, 0, none⟩) i pcap) rfl (by kernel_rfl) (by kernel_rfl) (by kernel_rfl) (fun _ _ _ h => h) (Or.inl ⟨by kernel_rfl, ?hy1x⟩) hHeld ?_
          case hy1x => intro u hu; have q := hu.1; go_simp
          try simp only [Act.put, List.setIfInBounds_toArray, List.set_cons_zero, List.set_cons_succ]
          refine wpAnyH_take (i := 2) (v := ?kv2) rfl (by kernel_rfl) (by kernel_rfl) (by kernel_rfl) (fun _ _ _ h => h) (Or.inl ⟨by kernel_rfl, ?ky2⟩) hHeld ?_
          case ky2 => intro u hu; go_simp; try with_reducible rfl
          try simp only [Act.put, List.setIfInBounds_toArray, List.set_cons_zero, List.set_cons_succ]
          refine wpAnyH_take (i := 3) (v := .slice (some ⟨gr, 0, none⟩) i pcap) rfl (by kernel_rfl) (by kernel_rfl) (by kernel_rfl) (fun _ _ _ h => h) (Or.inl ⟨by kernel_rfl, ?hy3x⟩) hHeld ?_
          case hy3x => intro u hu; have q := hu.1; go_simp
          try simp only [Act.put, List.setIfInBounds_toArray, List.set_cons_zero, List.set_cons_succ]
          refine wpAnyH_take (i := 4) (v := ?kv4) rfl (by kernel_rfl) (by kernel_rfl) (by kernel_rfl) (fun _ _ _ h => h) (Or.inl ⟨by kernel_rfl, ?ky4⟩) hHeld ?_
          case ky4 => intro u hu; go_simp; try with_reducible rfl
          try simp only [Act.put, List.setIfInBounds_toArray, List.set_cons_zero, List.set_cons_succ]
          refine wpAnyH_take (i := 5) rfl (by kernel_rfl) (by kernel_rfl) (by kernel_rfl) (fun _ _ _ h => h) (yieldsIf_load_mid (by kernel_rfl) 26 (.tmp 58) (by kernel_rfl) gr 20 (by kernel_rfl) (cellsD y) _ (fun u hu => hu.2) Tryd.underlying26 rfl LY.out) hHeld ?_
          try simp only [Act.put, List.setIfInBounds_toArray, List.set_cons_zero, List.set_cons_succ]
          refine wpAnyH_take (i := 6) (v := ?kv6) rfl (by kernel_rfl) (by kernel_rfl) (by kernel_rfl) (fun _ _ _ h => h) (Or.inl ⟨by kernel_rfl, ?ky6⟩) hHeld ?_
          case ky6 => intro u hu; go_simp; try with_reducible rfl
          try simp only [Act.put, List.setIfInBounds_toArray, List.set_cons_zero, List.set_cons_succ]
          refine wpAnyH_ready (rs := [7]) (by kernel_rfl) (by simp) ?_
          refine AllReadyH.cons rfl (fun K hK => ?_) AllReadyH.nil
          go_simp
          rw [if_pos LCY.out]
          obtain ⟨w9, hrun, how, hgr⟩ := run_store_idD (w := w8.drew) w3.heap.size gr pcap 0 l1 HLE.out y (by rw [HLL.out]; omega) HY20.out (ownD_below OWL.out (Below.refl _ w8).drew)
          rw [Nat.zero_mul] at hrun
          rw [hrun]
          simp only [Result.andThen_ok, Oper.upon]
          have hb9 : Below w.heap.size w w9 := BT.out.drew.grown hgr BT.out.size (by intro k hk; cases hk; have := HGB.out; have := LT3.out; have := LEW.out; omega)
          have hc9 : RcBlk w9 g oneD (.slice (some ⟨gr, 0, none⟩) i pcap) whoA whoA [] := (hgr.block g (lt_of_heap CT.out) (fun e => GNE.out (Option.some.inj e))).trans CT.out
          have OW9 := Lib.hid how
          have CT9 := Lib.hid hc9
          have BT9 := Lib.hid hb9
          have hH : w9.cell? ⟨g, 20, none⟩ = some (.slice (some ⟨gr, 0, none⟩) i pcap) ∧ w9.rangeAt gr 20 (cellsD y) := ⟨(recAt_of (t := oneD) rfl hc9).parents, RY2.out w9 how⟩
          clear hrun how hgr hb9 hc9 hHeld
          refine hK.out _ _ hH (fun hHeld => ?_)
          clear hK K
          try simp only [Act.put, List.getElem_toArray, List.getElem_cons_succ, List.getElem_cons_zero, List.setIfInBounds_toArray, List.set_cons_zero, List.set_cons_succ]
          refine wpAnyH_done (by kernel_rfl) ?_ _
          clear hHeld
          obtain ⟨ps, hps⟩ : ∃ ps, ps = l1.set 0 y := ⟨_, rfl⟩
          obtain ⟨pa, hpa0⟩ : ∃ pa : Option Addr, pa = some ⟨gr, 0, none⟩ := ⟨_, rfl⟩
          obtain ⟨wu, hwu⟩ : ∃ wu, wu = w9 := ⟨_, rfl⟩
          subst hwu
          have OWU := Lib.hid (show OwnD w3.heap.size (.slice pa i pcap) ps wu from by have h := OW9.out; rw [HLL.out] at h; rw [hps, hpa0]; exact h)
          have HPL := Lib.hid (show ps.length = i by rw [hps, List.length_set, HLL.out])
          have HPE := Lib.hid (show ∀ q ∈ ps, q.length = 20 by rw [hps]; exact set_idsD HLE.out 0 HY20.out)
          have CU := Lib.hid (show RcBlk wu g oneD (.slice pa i pcap) whoA whoA [] by rw [hpa0]; exact CT9.out)
          have BU := BT9
          obtain ⟨R, hR0⟩ : ∃ R, R = false := ⟨_, rfl⟩
          have HRF := Lib.hid hR0
          have HR := Lib.hid (show (decide (i ≤ 16) && parentsR ps) = R by rw [hps, HPT.out, Bool.and_false, hR0])
          have HPA0 := Lib.hid hpa0
          clear hR0 hps hpa0 p20
          obtain ⟨hid9, hpa9⟩ : IdsAt wu pa ps ∧ i ≤ pcap := by
            obtain ⟨pa2, cap2, hv2, q1, q2, q3, q4⟩ := ownD_ids OWU.out HPE.out
            rw [HPL.out] at hv2
            cases hv2
            exact ⟨q3, HPC.out⟩
          have CP9 := CP.out ps HPE.out (by rw [HPL.out]; omega) pa i pcap wu BU.out hid9 HPL.out.symm hpa9
          have HRR := Lib.hid (show rightR ⟨oneD, ps, whoA, whoA, []⟩ = R from by rw [right_par, HPL.out, HR.out])
          have CR9 := Lib.hid (fun u (hu : Below wu.heap.size wu u) => CR.out ps HPE.out (by rw [HPL.out]; omega) pa i pcap u (BU.out.trans (hu.mono BU.out.size)) (hid9.keep hu) HPL.out.symm hpa9)
          rw [HRR.out] at CR9
          obtain ⟨A, hA⟩ : ∃ A, arrC oneD (.slice pa i pcap) whoA whoA [] = A := ⟨_, rfl⟩
          have IA := Lib.hid (infoC_arr A (by rw [← hA]; exact arrC_size _ _ _ _ _ rfl))
          have KA := Lib.hid (show wu.heap[g]? = some (.cells A 29 (0, 0)) by rw [← hA]; exact CU.out)
          rw [hA] at CP9 CR9
          clear hA hid9 hpa9
          have hRF := HRF.out
          subst hRF
          have HPR := Lib.hid (show (printR ⟨oneD, ps, whoA, whoA, []⟩).2 = 4 from by unfold printR; rw [HRR.out]; rfl)
          rw [HPR.out] at CP9
          go_wp2_with (first
            | (with_reducible refine wpList_load_all 29 (.tmp 8) rfl (by kernel_rfl) g A 29 (0, 0) rfl KA.out _ Tryd.underlying29 rfl IA.out ?_)
            | fail)
          refine CP9.mono ?_
          rintro e w10 ⟨v9, rfl, hr10, hb10⟩
          obtain ⟨ra, rc, rfl, _, _, _⟩ := red_shapeP hr10
          have B10 := Lib.hid (BU.out.trans (hb10.mono BU.out.size))
          have D10 := Lib.hid hb10
          have K10 := Lib.hid (heap_keep KA.out hb10)
          clear hr10 hb10 CP9
          go_wp2_with fail
          refine (CA.out _ B10.out).mono ?_
          rintro e w11 ⟨rfl, hb11⟩
          have B11 := Lib.hid (B10.out.trans (hb11.mono B10.out.size))
          have D11 := Lib.hid (D10.out.trans (hb11.mono D10.out.size))
          have K11 := Lib.hid (heap_keep K10.out hb11)
          clear hb11
          go_wp2_with (first
            | (with_reducible refine wpList_load_all 29 (.tmp 8) rfl (by kernel_rfl) g A 29 (0, 0) rfl K11.out _ Tryd.underlying29 rfl IA.out ?_)
            | fail)
          refine (CR9.out _ D11.out).mono ?_
          rintro e w12 ⟨rfl, hb12⟩
          have B12 := Lib.hid (B11.out.trans (hb12.mono B11.out.size))
          clear hb12
          go_wp2
          go_ret
          exact ⟨rfl, B12.out⟩
end Go.Proofs.YtonkclkopmdahaaDoor.commitParents
