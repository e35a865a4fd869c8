/-
  The law GraphLine: its walk.
-/
import Derived.Test.YtajmgjhknmkfpaaUz
namespace Go.Proofs.Ytajmgjhknmkfpaa.graphLine
set_option maxRecDepth 20000
open Go.RowKit
set_option linter.unusedVariables false
set_option linter.unusedSimpArgs false

set_option maxRecDepth 100000 in
set_option maxHeartbeats 16000000 in
theorem lidP_is (m : Nat) (hm : m < 100) (u : World) :
    Calls Try.prog 29 #[.int .i64 (m : Int)] u fun e w' => e = .returned (.agg (arrD (lid m))) ∧ Below u.heap.size u w' := by
  have e1 : IntKind.i64.wrap ((m : Int) + 1) = (m : Int) + 1 := IntWalk.i64_in _ (by omega)
  have e2 : IntKind.u8.wrap ((m : Int) + 1) = (m : Int) + 1 := by rw [IntKind.wrap_u8]; omega
  have hb : Try.prog.built 32 [(0, .int .u8 ((m : Int) + 1))] = some (arrD (lid m)) := by
    have h := built_idB (UInt8.ofNat (m + 1))
    have e : (UInt8.ofNat (m + 1)).toNat = m + 1 := by rw [UInt8.toNat_ofNat']; exact Nat.mod_eq_of_lt (by omega)
    rw [e] at h
    exact h
  obtain ⟨A, hA⟩ : ∃ A, arrD (lid m) = A := ⟨_, rfl⟩
  rw [hA] at hb ⊢
  have hsz : A.size = 20 := by rw [← hA]; exact arrD_size _ (lid_len m)
  have hone : A.all (·.oneCell') = true := by rw [← hA]; exact cellsD_one _
  obtain ⟨z, hz0, hzs, hzv, hzb, hz1⟩ := zId_any
  have IA := Lib.hid (infoD_arr A hsz)
  have HS := Lib.hid hsz; have HO := Lib.hid hone; have HZ := Lib.hid hzs; have HB := Lib.hid hb
  clear hA hsz hone hzs hb hz0 hzb hz1
  go_enter Try.func29, Try.ntmps29
  go_wp2_with (first
    | (with_reducible refine wpList_build_W 32 0 _ rfl (by kernel_rfl) (.int .u8 ((m : Int) + 1)) rfl A HB.out ?_)
    | (with_reducible refine wpList_store_all rfl 32 (.tmp 2) (.tmp 6) rfl u.heap.size A rfl rfl 32 z (heap_alloc_new u _) IA.out (HS.out.trans HZ.out.symm) HO.out ?_)
    | fail)
  intro w2 hg2 ho2 hs2
  have BA := Lib.hid (((Below.refl u.heap.size u).alloc (Nat.le_refl _) (.cells z 32)).trans (ho2.below (Nat.le_refl _) (by simp)))
  have HG := Lib.hid hg2
  clear hg2 ho2 hs2
  go_wp2_with fail
  exact bodyPost_ret (results_cell_row Try.results29 _ _ u.heap.size _ A _ _ rfl HG.out Try.underlying32 rfl IA.out) rfl ⟨rfl, BA.out⟩
/-- An operation whose guard holds is carried out. -/
theorem stepG {P : Program} {o : Oper} {ops : Array Oper} {a : Act} {w : World} {K : Act → World → Prop} {Q : Exit → Act → World → Prop} (hw : Region.wanted o (yielded ops a.tmps) = true) (h : o.wp P a w K Q) : if Region.wanted o (yielded ops a.tmps) = true then o.wp P a w K Q else K (a.put o.dst undef) w := by
  rw [if_pos hw]
  exact h
theorem cloG_each {L : List Gn} {ids : List (List UInt8)} (G : GoodG L) : ∀ i ∈ cloG L ids, i.length = 20 := by
  intro i h
  obtain ⟨k, h1, _⟩ := (thoseG_mem G).1 h
  obtain ⟨hk, rfl⟩ := atG_some h1
  exact G.len _ (List.getElem_mem hk)
/-- What a number that came in is made into. -/
theorem uint_rem (x : Int) (m : Nat) (hm : 0 < m) (hm2 : m ≤ 1000) : ∃ r : Nat, r < m ∧ (IntKind.u64.wrap x).tmod (m : Int) = (r : Int) := by
  have h0 : 0 ≤ IntKind.u64.wrap x := by rw [IntKind.wrap_u64]; omega
  rw [Int.tmod_eq_emod_of_nonneg h0]
  have h1 := Int.emod_nonneg (IntKind.u64.wrap x) (show (m : Int) ≠ 0 by omega)
  have h2 := Int.emod_lt_of_pos (IntKind.u64.wrap x) (show (0 : Int) < m by omega)
  exact ⟨((IntKind.u64.wrap x) % (m : Int)).toNat, by omega, by omega⟩
set_option maxRecDepth 100000 in
set_option maxHeartbeats 16000000 in
theorem walk (w : World) (x0 : Int) (lo0 : -9223372036854775808 ≤ x0) (hi0 : x0 ≤ 9223372036854775807) (x1 : Int) (lo1 : -9223372036854775808 ≤ x1) (hi1 : x1 ≤ 9223372036854775807) (x2 : Int) (lo2 : -9223372036854775808 ≤ x2) (hi2 : x2 ≤ 9223372036854775807) :
    Calls Try.prog 6 #[.int .i64 x0, .int .i64 x1, .int .i64 x2] w fun e w' => e = .returned (.bool true) ∧ Below w.heap.size w w' := by
  obtain ⟨n0, hn0, en0⟩ := uint_rem x0 40 (by decide) (by decide)
  obtain ⟨n, hn, hn1, hn40⟩ : ∃ n : Nat, n0 + 1 = n ∧ 1 ≤ n ∧ n ≤ 40 := ⟨_, rfl, by omega, by omega⟩
  have E0 : wrap64 (1 + wrap64 ((IntKind.u64.wrap x0).tmod 40)) = (n : Int) := by
    rw [show ((IntKind.u64.wrap x0).tmod 40) = (n0 : Int) from en0, IntWalk.wrap64_in (n0 : Int) (by omega)]
    rw [IntWalk.wrap64_in (1 + (n0 : Int)) (by omega)]
    omega
  obtain ⟨i, hi, ei⟩ := uint_rem x1 n (by omega) (by omega)
  obtain ⟨k, hk, ek⟩ := uint_rem x2 n (by omega) (by omega)
  have c2 : IntKind.u64.wrap (n : Int) = (n : Int) := by rw [IntKind.wrap_u64]; omega
  have c3 : wrap64 (i : Int) = (i : Int) := IntWalk.wrap64_in _ (by omega)
  have c4 : wrap64 (k : Int) = (k : Int) := IntWalk.wrap64_in _ (by omega)
  have nz : ¬ (n : Int) = 0 := by omega
  go_enter Try.func6, Try.ntmps6
  obtain ⟨v1, ev1⟩ : ∃ v, IntKind.u64.wrap x1 = v := ⟨_, rfl⟩
  obtain ⟨v2, ev2⟩ : ∃ v, IntKind.u64.wrap x2 = v := ⟨_, rfl⟩
  rw [ev1] at ei
  rw [ev2] at ek
  clear hn en0 hn0
  go_wp2_with fail
  rw [E0]
  refine rgB _ (fun hHeld => ?_)
  refine tkW 0 rfl hHeld ?_
  refine tkV 1 rfl (.int .u64 v1) (fun u hu => by go_simp) hHeld ?_
  refine tkW 2 rfl hHeld ?_
  refine tkV 3 rfl (.int .u64 (n : Int)) (fun u hu => by go_simp) hHeld ?_
  refine tkV 4 rfl (.int .u64 (i : Int)) (fun u hu => by go_simp; omega) hHeld ?_
  refine tkV 5 rfl (.int .i64 (i : Int)) (fun u hu => by go_simp; exact IntWalk.i64_in _ (by omega)) hHeld ?_
  refine tkW 6 rfl hHeld ?_
  refine tkV 7 rfl (.int .u64 v2) (fun u hu => by go_simp) hHeld ?_
  refine tkW 8 rfl hHeld ?_
  refine tkV 9 rfl (.int .u64 (n : Int)) (fun u hu => by go_simp) hHeld ?_
  refine tkV 10 rfl (.int .u64 (k : Int)) (fun u hu => by go_simp; omega) hHeld ?_
  refine tkV 11 rfl (.int .i64 (k : Int)) (fun u hu => by go_simp; exact IntWalk.i64_in _ (by omega)) hHeld ?_
  refine tkW 12 rfl hHeld ?_
  refine tkW 13 rfl hHeld ?_
  try simp only [Act.put, List.getElem_toArray, List.getElem_cons_succ, List.getElem_cons_zero, lsA, lsZ, lsS]
  refine wpAnyH_done (by kernel_rfl) ?_ _
  clear hHeld ev1 ev2 ei ek E0 c2 c3 c4 nz lo0 hi0 lo1 hi1 lo2 hi2
  obtain ⟨W, hW⟩ : ∃ W, w.drew = W := ⟨_, rfl⟩
  have bW : Below w.heap.size w W := by rw [← hW]; exact (Below.refl _ _).drew
  rw [hW]
  clear hW
  have CN := Lib.hid (newP_is W)
  have G0 := GraphP.new (fun q => q = W.heap.size) W rfl
  have b0 := (Below.refl W.heap.size W).alloc (Nat.le_refl _) (.cells #[.slice none 0 0, .map none] 57)
  obtain ⟨w0, hw0⟩ : ∃ w0, W.alloc (.cells #[.slice none 0 0, .map none] 57) = w0 := ⟨_, rfl⟩
  rw [hw0] at CN G0 b0
  have hg0 := G0.lt
  obtain ⟨g, hg⟩ : ∃ g, W.heap.size = g := ⟨_, rfl⟩
  have HGW := Lib.hid (show w.heap.size ≤ g by rw [← hg]; exact bW.size)
  rw [hg] at CN G0 hg0
  have BZ := Lib.hid (bW.trans (b0.mono bW.size)); have GZ := Lib.hid G0; have GL := Lib.hid hg0
  clear hg G0 b0 hg0 bW hw0
  go_wp2_with fail
  refine CN.out.mono ?_
  rintro e w1 ⟨rfl, rfl⟩
  clear CN
  have CA := Lib.hid (awake12 w1)
  go_wp2_with fail
  refine CA.out.mono ?_
  rintro e w2 ⟨rfl, hb2⟩
  have B2 := Lib.hid (BZ.out.trans (hb2.mono BZ.out.size))
  have G2 := Lib.hid (GZ.out.below hb2)
  have L2 := Lib.hid (show g < w2.heap.size by have := GL.out; have := hb2.size; omega)
  clear hb2 CA BZ GZ GL
  go_wp2_with fail
  go_loopw [9, 10] (fun v9 v10 wr => ∃ (m : Nat) (S : Nat → Prop), m ≤ n ∧ v9 = .int .i64 m ∧ GraphP S wr g (lineG m) ∧ (∀ q, S q → w.heap.size ≤ q ∧ q < wr.heap.size) ∧ Below w.heap.size w wr) (fun v9 _ _ => n - (intOf v9).toNat)
  case atStart => exact ⟨0, _, Nat.zero_le _, rfl, G2.out, fun q hq => by rw [hq]; exact ⟨HGW.out, L2.out⟩, B2.out⟩
  case round =>
    obtain ⟨m, S, hm, rfl, hgr, hS, hbr⟩ := hrel
    have GR := Lib.hid hgr; have HS := Lib.hid hS; have BR := Lib.hid hbr
    clear hgr hS hbr B2 G2
    by_cases hlt : m < n
    · have CADD := Lib.hid (fun (u : World) (hu : Below wr.heap.size wr u) (ao : Option Addr) (c : Nat) (hr : RowAt rowI u ao (pps m)) =>
        addP_is (GR.out.below hu) (fun q hq => Nat.lt_of_lt_of_le (HS.out q hq).2 hu.size) (lid m) (lid_len m) ao (pps m).length c (pps m) hr rfl (by unfold pps; split <;> simp) (pps_each m) (by rw [lineG_len]; omega) lineG_few)
      rw [lineG_add (show m ≤ 49 by omega)] at CADD
      obtain ⟨B, hB⟩ : ∃ B, arrD (lid m) = B := ⟨_, rfl⟩
      have CLB := Lib.hid (lidP_is m (by omega))
      rw [hB] at CADD CLB
      clear hB
      by_cases hz : m = 0
      · subst hz
        have CAD := Lib.hid (fun u hu => CADD.out u hu none 0 (RowAt.nil _ _))
        rw [show (pps 0).length = 0 from rfl] at CAD
        clear CADD
        go_wp2_with fail
        refine (CLB.out wr).mono ?_
        rintro e w3 ⟨rfl, hb3⟩
        have B3 := Lib.hid (BR.out.trans (hb3.mono BR.out.size))
        have C3 := Lib.hid (CAD.out w3 hb3)
        have L3 := Lib.hid hb3.size
        clear hb3 CAD CLB
        go_wp2_with fail
        refine C3.out.mono ?_
        rintro e w4 ⟨rfl, hg4, hc4⟩
        have G4 := Lib.hid hg4; have K4 := Lib.hid hc4
        clear hg4 hc4 C3
        go_wp2_with fail
        go_roundw
        case rel =>
          have hs4 := K4.out.size
          refine ⟨1, _, by omega, by go_num, G4.out, fun q hq => ?_, B3.out.trans (K4.out.below B3.out.size (fun q _ hq => (HS.out q hq).1))⟩
          have h1 := B3.out.size
          have h2 := L3.out
          rcases hq with hq | hq
          · have := HS.out q hq; omega
          · omega
        case measure => simp [intOf]; omega
      · have ep : pps m = [lid (m - 1)] := by unfold pps; rw [if_neg hz]
        obtain ⟨A, hA⟩ : ∃ A, arrD (lid (m - 1)) = A := ⟨_, rfl⟩
        have SA := Lib.hid (show A.size = 20 by rw [← hA]; exact arrD_size _ (lid_len _))
        have CLA := Lib.hid (lidP_is (m - 1) (by omega))
        rw [hA, show ((m - 1 : Nat) : Int) = (m : Int) - 1 by omega] at CLA
        have CAD := Lib.hid (fun (u : World) (hu : Below wr.heap.size wr u) (v : World) (hv : Below (u.alloc (.cells A 32)).heap.size (u.alloc (.cells A 32)) v) (huv : Below wr.heap.size wr v) => CADD.out v huv (some ⟨u.heap.size, 0, none⟩) 1 (by rw [ep]; exact RowAt.keep (one_row hA) hv))
        rw [show (pps m).length = 1 by rw [ep]; rfl] at CAD
        clear CADD hA ep
        go_wp2_with fail
        refine (CLA.out wr).mono ?_
        rintro e w3 ⟨rfl, hb3⟩
        have b4 := hb3.alloc hb3.size (.cells A 32)
        obtain ⟨w3a, hw3a⟩ : ∃ w3a, w3.alloc (.cells A 32) = w3a := ⟨_, rfl⟩
        have CLB2 := Lib.hid (CLB.out w3a)
        have CAD2 := Lib.hid (fun v hv huv => CAD.out w3 hb3 v (by rw [hw3a]; exact hv) huv)
        rw [hw3a] at b4
        have H3A := Lib.hid b4; have W3A := Lib.hid hw3a
        clear hb3 CAD CLA CLB b4 hw3a
        go_wp2_with (first
          | (with_reducible refine wpList_row_W (.tmp 46) rfl (by kernel_rfl) A SA.out rfl ?_)
          | fail)
        rw [W3A.out]
        refine CLB2.out.mono ?_
        rintro e w5 ⟨rfl, hb5⟩
        have h35 := H3A.out.trans (hb5.mono H3A.out.size)
        have B3 := Lib.hid (BR.out.trans (h35.mono BR.out.size))
        have C3 := Lib.hid (CAD2.out w5 hb5 h35)
        have L3 := Lib.hid h35.size
        clear hb5 h35 CAD2 CLB2 W3A H3A
        go_wp2_with fail
        refine C3.out.mono ?_
        rintro e w4 ⟨rfl, hg4, hc4⟩
        have G4 := Lib.hid hg4; have K4 := Lib.hid hc4
        clear hg4 hc4 C3
        go_wp2_with fail
        go_roundw
        case rel =>
          have hs4 := K4.out.size
          refine ⟨m + 1, _, by omega, by go_num, G4.out, fun q hq => ?_, B3.out.trans (K4.out.below B3.out.size (fun q _ hq => (HS.out q hq).1))⟩
          have h1 := B3.out.size
          have h2 := L3.out
          rcases hq with hq | hq
          · have := HS.out q hq; omega
          · omega
        case measure => simp [intOf]; omega
    · obtain rfl : m = n := by omega
      have GW := Lib.hid (headsP_is GR.out (by rw [lineG_len]; omega) lineG_few)
      rw [lineG_heads (by omega) (by omega)] at GW
      go_wp2_with fail
      refine GW.out.mono ?_
      rintro e w5 ⟨v, rfl, hv, hb5⟩
      obtain ⟨ah, ch, rfl, hch1, hch2, hrow, hno, had⟩ := ownR_shape goodI (rowI_own.2 hv) (fun x hx => by rw [List.mem_singleton.1 hx]; exact lid_len _)
      obtain ⟨hb, ho, rfl, hlt5⟩ := hrow.some (by simp)
      obtain ⟨hbk, -, -⟩ := had _ rfl
      have RH := hrow.elem 0 (by simp)
      rw [Nat.zero_mul, Nat.add_zero, List.getElem_cons_zero] at RH
      have c1h : [lid (m - 1)].length = 1 := rfl
      rw [c1h] at hch1 ⊢
      obtain ⟨H, hH0⟩ : ∃ H, arrD (lid (m - 1)) = H := ⟨_, rfl⟩
      have RH5 := Lib.hid (show w5.rangeAt hb ho H.toList by rw [← hH0]; exact RH)
      have HLA := Lib.hid (show (Try.prog.info? 32).map (·.size) = some H.toList.length by rw [← hH0, Array.length_toList, arrD_size _ (lid_len _)]; exact infoD_n)
      have HBK := Lib.hid hbk; have HLT := Lib.hid hlt5
      have G5 := Lib.hid (GR.out.below hb5)
      have B5 := Lib.hid (BR.out.trans (hb5.mono BR.out.size))
      have S5 := Lib.hid hb5.size
      have HCH := Lib.hid hch1
      clear hv hb5 hch1 hch2 hrow hno had hlt5 hbk RH c1h GW
      obtain ⟨I, hI⟩ : ∃ I, arrD (lid i) = I := ⟨_, rfl⟩
      obtain ⟨J, hJ⟩ : ∃ J, arrD (lid k) = J := ⟨_, rfl⟩
      obtain ⟨N, hN⟩ : ∃ N, arrD (lid m) = N := ⟨_, rfl⟩
      obtain ⟨M, hM⟩ : ∃ M, arrD (lid (m + 1)) = M := ⟨_, rfl⟩
      obtain ⟨bb, hbb⟩ : ∃ bb, decide (k ≤ i) = bb := ⟨_, rfl⟩
      have cli := lidP_is i (by omega)
      have clj := lidP_is k (by omega)
      have cln := lidP_is m (by omega)
      have clm := lidP_is (m + 1) (by omega)
      have clh := lidP_is (m - 1) (by omega)
      rw [hI] at cli; rw [hJ] at clj; rw [hN] at cln
      rw [hM, show ((m + 1 : Nat) : Int) = (m : Int) + 1 by omega] at clm
      rw [hH0, show ((m - 1 : Nat) : Int) = (m : Int) - 1 by omega] at clh
      have CLI := Lib.hid cli; have CLJ := Lib.hid clj; have CLN := Lib.hid cln; have CLM := Lib.hid clm; have CLH := Lib.hid clh
      have ccom := fun (u : World) (hu : Below w5.heap.size w5 u) => comesP_is (G5.out.below hu) (by rw [lineG_len]; omega) lineG_few (lid i) (lid k) (lid_len i) (lid_len k)
      rw [lineG_comes (by omega) hi hk, hI, hJ, hbb] at ccom
      have CCOM := Lib.hid ccom
      have cclo := fun (u : World) (hu : Below w5.heap.size w5 u) => closureP_any (GOps.of (G5.out.below (hu.alloc hu.size (.cells I 32))) (by rw [lineG_len]; omega) lineG_few) (some ⟨u.heap.size, 0, none⟩) 1 1 [lid i] (one_row hI) rfl (by decide) (fun x hx => by rw [List.mem_singleton.1 hx]; exact lid_len _)
      have CCLO := Lib.hid cclo
      have cad := fun (T : Nat → Prop) (u : World) (hg : GraphP T u g (lineG m)) (hT : ∀ q, T q → q < u.heap.size) => addP_is (hg.below ((Below.refl u.heap.size u).alloc (Nat.le_refl _) (.cells N 32))) (fun q hq => Nat.lt_of_lt_of_le (hT q hq) (by simp)) (lid i) (lid_len i) (some ⟨u.heap.size, 0, none⟩) 1 1 [lid m] (one_row hN) rfl (by decide) (fun x hx => by rw [List.mem_singleton.1 hx]; exact lid_len _) (by rw [lineG_len]; omega) lineG_few
      rw [lineG_twice (by omega) hi, hI] at cad
      have cae := fun (T : Nat → Prop) (u : World) (hg : GraphP T u g (lineG m)) (hT : ∀ q, T q → q < u.heap.size) => addP_is (hg.below ((Below.refl u.heap.size u).alloc (Nat.le_refl _) (.cells M 32))) (fun q hq => Nat.lt_of_lt_of_le (hT q hq) (by simp)) (lid m) (lid_len m) (some ⟨u.heap.size, 0, none⟩) 1 1 [lid (m + 1)] (one_row hM) rfl (by decide) (fun x hx => by rw [List.mem_singleton.1 hx]; exact lid_len _) (by rw [lineG_len]; omega) lineG_few
      rw [lineG_none (by omega), hN] at cae
      have CAD := Lib.hid cad; have CAE := Lib.hid cae
      have SI := Lib.hid (show I.size = 20 by rw [← hI]; exact arrD_size _ (lid_len _))
      have SN := Lib.hid (show N.size = 20 by rw [← hN]; exact arrD_size _ (lid_len _))
      have SM := Lib.hid (show M.size = 20 by rw [← hM]; exact arrD_size _ (lid_len _))
      have HEQ := Lib.hid (fun (u : World) => (by have q := eql_arrD (lid (m - 1)) (lid (m - 1)) (lid_len _) (lid_len _) u; rw [eqD_same, hH0] at q; exact q : (binOp .eql 32 (.agg H) (.agg H)).run Try.prog u = .ok (.bool true) u))
      have HBB := Lib.hid hbb
      have RL := Lib.hid (fun u (hu : Chg S w5 u) => (show u.rangeAt hb ho H.toList from fun j v hv => by
        rw [← RH5.out j v hv]
        exact World.cell?_of_block (w := w5) (a := ⟨hb, ho + j, none⟩) (hu.block hb HLT.out (fun hs => by have h8 : hb < wr.heap.size := (HS.out _ hs).2; have h9 : wr.heap.size ≤ hb := HBK.out; omega))))
      have HB0 := Lib.hid ((Below.refl w5.heap.size w5).drew)
      have HCL := Lib.hid (lineG_clo (n := m) (by omega) hi)
      have HCE := Lib.hid (cloG_each (ids := [lid i]) (lineG_good (n := m) (by omega)))
      clear cli clj cln clm clh ccom cclo cad cae hI hJ hN hM hH0 hbb
      go_wp2_with fail
      simp only [List.append_eq, List.cons_append, List.nil_append]
      refine wp_region_held_drew (S := fun u => Chg S w5 u) (by kernel_rfl) (Chg.refl _ _).drew (fun hHeld => ?_)
      refine tkW 0 rfl hHeld ?_
      refine tkW 1 rfl hHeld ?_
      refine tkW 2 rfl hHeld ?_
      refine tkW 4 rfl hHeld ?_
      refine tkW 5 rfl hHeld ?_
      refine tkW 8 rfl hHeld ?_
      refine tkW 9 rfl hHeld ?_
      refine tkV 10 rfl (.bool bb) (fun u hu => by go_simp; first | done | exact HBB.out) hHeld ?_
      refine rdH 3 rfl (fun K hK => ?_)
      go_simp
      refine (CLI.out _).mono ?_
      rintro e u1 ⟨rfl, h1⟩
      have HB1 := Lib.hid (HB0.out.trans (h1.mono HB0.out.size))
      have hH := Chg.of_below (S := S) HB1.out
      clear hHeld h1
      refine hK.out _ _ hH (fun hHeld => ?_)
      clear hK K
      try simp only [Act.put, List.setIfInBounds_toArray, List.set_cons_zero, List.set_cons_succ]
      refine rdH 6 rfl (fun K hK => ?_)
      go_simp
      refine (CLJ.out _).mono ?_
      rintro e u2 ⟨rfl, h1⟩
      have HB2 := Lib.hid (HB1.out.trans (h1.mono HB1.out.size))
      have hH := Chg.of_below (S := S) HB2.out
      clear hHeld h1
      refine hK.out _ _ hH (fun hHeld => ?_)
      clear hK K
      try simp only [Act.put, List.setIfInBounds_toArray, List.set_cons_zero, List.set_cons_succ]
      refine rdH 7 rfl (fun K hK => ?_)
      go_simp
      refine (CCOM.out _ HB2.out).mono ?_
      rintro e u3 ⟨rfl, h1⟩
      have HB3 := Lib.hid (HB2.out.trans (h1.mono HB2.out.size))
      have hH := Chg.of_below (S := S) HB3.out
      clear hHeld h1
      refine hK.out _ _ hH (fun hHeld => ?_)
      clear hK K
      try simp only [Act.put, List.setIfInBounds_toArray, List.set_cons_zero, List.set_cons_succ]
      refine tkV 11 rfl (.bool true) (fun u hu => by go_simp) hHeld ?_
      refine tkW 12 rfl hHeld ?_
      refine tkW 13 rfl hHeld ?_
      refine tkW 14 rfl hHeld ?_
      refine tkW 15 rfl hHeld ?_
      refine tkW 20 rfl hHeld ?_
      refine tkV 21 rfl (.int .i64 ((i : Int) + 1)) (fun u hu => by go_simp; first | done | exact IntWalk.i64_in _ (by omega)) hHeld ?_
      refine rdH 16 rfl (fun K hK => ?_)
      go_simp
      refine (CLI.out _).mono ?_
      rintro e u4 ⟨rfl, h1⟩
      have HB4 := Lib.hid (HB3.out.trans (h1.mono HB3.out.size))
      have hH := Chg.of_below (S := S) HB4.out
      clear hHeld h1
      refine hK.out _ _ hH (fun hHeld => ?_)
      clear hK K
      try simp only [Act.put, List.setIfInBounds_toArray, List.set_cons_zero, List.set_cons_succ]
      have C5 := Lib.hid (CCLO.out _ HB4.out)
      have hb5 := HB4.out.alloc HB4.out.size (.cells I 32)
      obtain ⟨u5, hu5⟩ : ∃ u5, u4.alloc (.cells I 32) = u5 := ⟨_, rfl⟩
      rw [hu5] at C5 hb5
      have HB5 := Lib.hid hb5
      have hH := Chg.of_below (S := S) hb5
      have HU5 := Lib.hid hu5
      clear hHeld hb5 hu5
      refine rdH 17 rfl (fun K hK => ?_)
      refine stepG (by kernel_rfl) (wp_build_oneR goodI (.tmp 73) rfl I SI.out rfl ?_)
      rw [show (u4.alloc (.cells I rowI.ty)) = u5 from HU5.out]
      refine hK.out _ _ hH (fun hHeld => ?_)
      clear hK K
      refine rdH 18 rfl (fun K hK => ?_)
      go_simp
      refine C5.out.mono ?_
      rintro e u6 ⟨v6, rfl, hv6, h1⟩
      obtain ⟨a6, c6, hv6, -⟩ := ownD_ids hv6 HCE.out
      rw [HCL.out] at hv6
      subst hv6
      have HB6 := Lib.hid (HB5.out.trans (h1.mono HB5.out.size))
      have hH := Chg.of_below (S := S) HB6.out
      clear hHeld h1
      refine hK.out _ _ hH (fun hHeld => ?_)
      clear hK K
      try simp only [Act.put, List.setIfInBounds_toArray, List.set_cons_zero, List.set_cons_succ]
      refine tkW 19 rfl hHeld ?_
      refine tkV 22 rfl (.bool true) (fun u hu => by go_simp) hHeld ?_
      refine tkW 23 rfl hHeld ?_
      refine tkW 24 rfl hHeld ?_
      refine tkW 25 rfl hHeld ?_
      refine tkW 26 rfl hHeld ?_
      refine tkW 27 rfl hHeld ?_
      refine tkW 28 rfl hHeld ?_
      refine tkW 29 rfl hHeld ?_
      refine tkW 30 rfl hHeld ?_
      refine tkV 31 rfl (.pointer (some ⟨hb, ho, none⟩)) (fun u hu => by go_simp) hHeld ?_
      refine tkH 32 rfl (yieldsIf_load_mid (by kernel_rfl) 32 (.tmp 88) (by kernel_rfl) hb ho (by kernel_rfl) H.toList _ (fun u hu => RL.out u hu) Try.underlying32 rfl HLA.out) hHeld ?_
      refine tkW 33 rfl hHeld ?_
      refine tkW 34 rfl hHeld ?_
      refine tkV 35 rfl (.int .i64 ((m : Int) - 1)) (fun u hu => by go_simp; first | done | exact IntWalk.i64_in _ (by omega)) hHeld ?_
      refine rdH 36 rfl (fun K hK => ?_)
      go_simp
      refine (CLH.out _).mono ?_
      rintro e u7 ⟨rfl, h1⟩
      have HB7 := Lib.hid (HB6.out.trans (h1.mono HB6.out.size))
      have hH := Chg.of_below (S := S) HB7.out
      clear hHeld h1
      refine hK.out _ _ hH (fun hHeld => ?_)
      clear hK K
      try simp only [Act.put, List.setIfInBounds_toArray, List.set_cons_zero, List.set_cons_succ]
      refine tkV 37 rfl (.bool true) (fun u hu => by have q := HEQ.out; clear hu; go_simp) hHeld ?_
      refine tkW 38 rfl hHeld ?_
      refine tkW 39 rfl hHeld ?_
      refine tkW 40 rfl hHeld ?_
      refine tkW 41 rfl hHeld ?_
      refine tkW 42 rfl hHeld ?_
      refine tkW 44 rfl hHeld ?_
      refine tkW 45 rfl hHeld ?_
      refine rdH 43 rfl (fun K hK => ?_)
      go_simp
      refine (CLI.out _).mono ?_
      rintro e u8 ⟨rfl, h1⟩
      have HB8 := Lib.hid (HB7.out.trans (h1.mono HB7.out.size))
      have hH := Chg.of_below (S := S) HB8.out
      clear hHeld h1
      refine hK.out _ _ hH (fun hHeld => ?_)
      clear hK K
      try simp only [Act.put, List.setIfInBounds_toArray, List.set_cons_zero, List.set_cons_succ]
      refine rdH 46 rfl (fun K hK => ?_)
      go_simp
      refine (CLN.out _).mono ?_
      rintro e u9 ⟨rfl, h1⟩
      have HB9 := Lib.hid (HB8.out.trans (h1.mono HB8.out.size))
      have hH := Chg.of_below (S := S) HB9.out
      clear hHeld h1
      refine hK.out _ _ hH (fun hHeld => ?_)
      clear hK K
      try simp only [Act.put, List.setIfInBounds_toArray, List.set_cons_zero, List.set_cons_succ]
      have C10 := Lib.hid (CAD.out S u9 (G5.out.below HB9.out) (fun q hq => Nat.lt_of_lt_of_le (HS.out q hq).2 (Nat.le_trans S5.out HB9.out.size)))
      have hb10 := HB9.out.alloc HB9.out.size (.cells N 32)
      obtain ⟨u10, hu10⟩ : ∃ u10, u9.alloc (.cells N 32) = u10 := ⟨_, rfl⟩
      rw [hu10] at C10 hb10
      have HB10 := Lib.hid hb10
      have hH := Chg.of_below (S := S) hb10
      have HU10 := Lib.hid hu10
      clear hHeld hb10 hu10
      refine rdH 47 rfl (fun K hK => ?_)
      refine stepG (by kernel_rfl) (wp_build_oneR goodI (.tmp 103) rfl N SN.out rfl ?_)
      rw [show (u9.alloc (.cells N rowI.ty)) = u10 from HU10.out]
      refine hK.out _ _ hH (fun hHeld => ?_)
      clear hK K
      refine rdH 48 rfl (fun K hK => ?_)
      go_simp
      refine C10.out.mono ?_
      rintro e u11 ⟨rfl, hg11, hc11⟩
      have G11 := Lib.hid hg11
      have C11 := Lib.hid ((Chg.of_below (S := S) HB10.out).trans hc11)
      have hH := C11.out
      have Z11 := Lib.hid hc11.size
      clear hHeld hg11 hc11
      refine hK.out _ _ hH (fun hHeld => ?_)
      clear hK K
      try simp only [Act.put, List.setIfInBounds_toArray, List.set_cons_zero, List.set_cons_succ]
      refine tkW 49 rfl hHeld ?_
      refine tkW 50 rfl hHeld ?_
      refine tkW 51 rfl hHeld ?_
      refine tkW 52 rfl hHeld ?_
      refine tkW 53 rfl hHeld ?_
      refine tkW 54 rfl hHeld ?_
      refine tkW 56 rfl hHeld ?_
      refine tkW 57 rfl hHeld ?_
      refine tkV 58 rfl (.int .i64 ((m : Int) + 1)) (fun u hu => by go_simp; first | done | exact IntWalk.i64_in _ (by omega)) hHeld ?_
      refine rdH 55 rfl (fun K hK => ?_)
      go_simp
      refine (CLN.out _).mono ?_
      rintro e u12 ⟨rfl, h1⟩
      have G12 := Lib.hid (G11.out.below h1)
      have C12 := Lib.hid (C11.out.trans (Chg.of_below (S := S) h1))
      have hH := C12.out
      have Z12 := Lib.hid h1.size
      clear hHeld h1
      refine hK.out _ _ hH (fun hHeld => ?_)
      clear hK K
      try simp only [Act.put, List.setIfInBounds_toArray, List.set_cons_zero, List.set_cons_succ]
      refine rdH 59 rfl (fun K hK => ?_)
      go_simp
      refine (CLM.out _).mono ?_
      rintro e u13 ⟨rfl, h1⟩
      have G13 := Lib.hid (G12.out.below h1)
      have C13 := Lib.hid (C12.out.trans (Chg.of_below (S := S) h1))
      have hH := C13.out
      have Z13 := Lib.hid (Nat.le_trans Z12.out h1.size)
      clear hHeld h1
      refine hK.out _ _ hH (fun hHeld => ?_)
      clear hK K
      try simp only [Act.put, List.setIfInBounds_toArray, List.set_cons_zero, List.set_cons_succ]
      have C14 := Lib.hid (CAE.out _ u13 G13.out (fun q hq => by have h1 := Z11.out; have h2 := Z13.out; have h3 := HB10.out.size; have h4 := S5.out; rcases hq with hq | hq; have := (HS.out q hq).2; omega; omega))
      have hb14 := (Below.refl u13.heap.size u13).alloc (Nat.le_refl _) (.cells M 32)
      obtain ⟨u14, hu14⟩ : ∃ u14, u13.alloc (.cells M 32) = u14 := ⟨_, rfl⟩
      rw [hu14] at C14 hb14
      have K14 := Lib.hid (C13.out.trans (Chg.of_below (S := S) hb14))
      have hH := K14.out
      have HU14 := Lib.hid hu14
      clear hHeld hb14 hu14
      refine rdH 60 rfl (fun K hK => ?_)
      refine stepG (by kernel_rfl) (wp_build_oneR goodI (.tmp 116) rfl M SM.out rfl ?_)
      rw [show (u13.alloc (.cells M rowI.ty)) = u14 from HU14.out]
      refine hK.out _ _ hH (fun hHeld => ?_)
      clear hK K
      refine rdH 61 rfl (fun K hK => ?_)
      go_simp
      refine C14.out.mono ?_
      rintro e u15 ⟨rfl, -, hc15⟩
      have K15 := Lib.hid (K14.out.more hc15 (fun q hq hs => by have h3 := HB10.out.size; rcases hs with hs | hs; exact hs; omega))
      have hH := K15.out
      clear hHeld hc15
      refine hK.out _ _ hH (fun hHeld => ?_)
      clear hK K
      try simp only [Act.put, List.setIfInBounds_toArray, List.set_cons_zero, List.set_cons_succ]
      refine tkW 62 rfl hHeld ?_
      refine tkW 63 rfl hHeld ?_
      refine tkW 64 rfl hHeld ?_
      try simp only [Act.put, List.getElem_toArray, List.getElem_cons_succ, List.getElem_cons_zero, lsA, lsZ, lsS]
      refine wpAnyH_done (by kernel_rfl) ?_ _
      have BE := Lib.hid (B5.out.trans (hHeld.below B5.out.size (fun q _ hq => (HS.out q hq).1)))
      clear hHeld
      go_wp2
      go_ret
      exact ⟨rfl, BE.out⟩
end Go.Proofs.Ytajmgjhknmkfpaa.graphLine
