/-
  The law GraphOrder: its walk.
-/
import Derived.Test.YtajmgjhknmkfpaaLa
namespace Go.Proofs.Ytajmgjhknmkfpaa.graphOrder
set_option maxRecDepth 20000
open Go.RowKit
set_option linter.unusedVariables false
set_option linter.unusedSimpArgs false

set_option maxRecDepth 100000 in
set_option maxHeartbeats 16000000 in
theorem walk (w : World) (a0 : Option Addr) (n c0 : Nat) (l : List Ln) (hl : n = l.length) (hr : RowAt rowL w a0 l) (hno : a0 = none → n = 0 ∧ c0 = 0) (hc : n ≤ c0 ∧ c0 ≤ maxLen) (he : ∀ e ∈ l, LnIn w e) :
    Calls Try.prog 4 #[.slice a0 n c0] w fun e w' => e = .returned (.bool true) ∧ Below w.heap.size w w' := by
  have HL := Lib.hid hl; have HR := Lib.hid hr; have HE := Lib.hid he
  have hnc := hc.1
  clear hl hr he hno hc
  have CN := Lib.hid (newP_is w)
  have G0 := GraphP.new (fun q => q = w.heap.size) w rfl
  have b0 := (Below.refl w.heap.size w).alloc (Nat.le_refl _) (.cells #[.slice none 0 0, .map none] 57)
  obtain ⟨w0, hw0⟩ : ∃ w0, w.alloc (.cells #[.slice none 0 0, .map none] 57) = w0 := ⟨_, rfl⟩
  rw [hw0] at CN G0 b0
  have hg0 := G0.lt
  obtain ⟨g, hg⟩ : ∃ g, w.heap.size = g := ⟨_, rfl⟩
  have HGW := Lib.hid (show w.heap.size ≤ g by rw [← hg]; exact Nat.le_refl _)
  rw [hg] at CN G0 hg0
  have BZ := Lib.hid b0; have GZ := Lib.hid G0; have GL := Lib.hid hg0
  clear hg G0 b0 hg0 hw0
  go_enter Try.func4, Try.ntmps4
  go_wp2_with fail
  refine CN.out.mono ?_
  rintro e w1 ⟨rfl, rfl⟩
  clear CN
  have CA := Lib.hid (awake12 w1)
  go_wp2_with fail
  refine CA.out.mono ?_
  rintro e w2 ⟨rfl, hb2⟩
  have B2 := Lib.hid (BZ.out.trans (hb2.mono BZ.out.size))
  have G2 := Lib.hid (GZ.out.below hb2)
  have L2 := Lib.hid (show g < w2.heap.size by have := GL.out; have := hb2.size; omega)
  clear hb2 CA BZ GZ GL
  go_wp2_with fail
  go_loopw [4] (fun v4 wr => ∃ (k : Nat) (L : List Gn) (S : Nat → Prop), k ≤ n ∧ k ≤ 25 ∧ v4 = .int .i64 k ∧ GraphP S wr g L ∧ (∀ q, S q → w.heap.size ≤ q ∧ q < wr.heap.size) ∧ L.length ≤ k ∧ (∀ j, (plAt L j).length ≤ 10) ∧ Below w.heap.size w wr) (fun v4 _ => 25 - (intOf v4).toNat)
  case atStart => exact ⟨0, [], _, Nat.zero_le _, Nat.zero_le _, rfl, G2.out, fun q hq => by rw [hq]; exact ⟨HGW.out, L2.out⟩, Nat.le_refl _, fun j => by simp [plAt], B2.out⟩
  case round =>
    obtain ⟨k, L, S, hkn, hk25, rfl, hgr, hS, hLk, hfew, hbr⟩ := hrel
    have GR := Lib.hid hgr; have HS := Lib.hid hS; have BR := Lib.hid hbr; have FEW := Lib.hid hfew
    clear hgr hS hbr hfew B2 G2
    by_cases hlt : k < n ∧ k < 25
    · have hkl : k < l.length := by rw [← HL.out]; exact hlt.1
      obtain ⟨b, o, rfl, hbl⟩ := HR.out.some (by omega)
      obtain ⟨e, hee⟩ : ∃ e, l[k] = e := ⟨_, rfl⟩
      have hin := HE.out e (by rw [← hee]; exact List.getElem_mem _)
      have re := HR.out.elem k hkl
      rw [hee] at re
      have re : w.rangeAt b (o + k * 21) (cellsL e) := re
      have RE := Lib.hid (fun u (hu : Below w.heap.size w u) => (fun j v hv => (hu.cell (p := ⟨b, o + k * 21 + j, none⟩) hbl).trans (re j v hv) : u.rangeAt b (o + k * 21) (cellsL e)))
      obtain ⟨pa, pc, hev, hpr, hpn, hpc1, hpc2, -⟩ := hin.red
      have RV := Lib.hid (fun u (hu : Below w.heap.size w u) => (by have q := nodeL_v hin.ok (RE.out u hu); rw [hev] at q; exact q : u.cell? ⟨b, o + k * 21 + 20, none⟩ = some (.slice pa e.ps.length pc)))
      have PR := Lib.hid hpr; have EACH := Lib.hid hin.each; have HID := Lib.hid hin.ok.1
      obtain ⟨np, hnp⟩ : ∃ np, e.ps.length = np := ⟨_, rfl⟩
      rw [hnp] at RV hpc1
      have NP := Lib.hid hnp
      have d0 := RV.out wr BR.out
      obtain ⟨hk1, hk2⟩ := hlt
      clear re hin hev hpr hpn hpc2 hnp hee hbl hkl
      by_cases hfp : np ≤ 10
      · have cadd := addP_is (GR.out.below (Below.refl wr.heap.size wr).drew) (fun q hq => (HS.out q hq).2) e.id HID.out pa np pc e.ps (PR.out.keep (BR.out.trans ((Below.refl wr.heap.size wr).drew.mono BR.out.size))) NP.out.symm (by omega) EACH.out (by omega) (fun j => Nat.le_trans (FEW.out j) (by decide))
        obtain ⟨er, her⟩ : ∃ er, (addG L e.id e.ps).1 = er := ⟨_, rfl⟩
        obtain ⟨L', hL'⟩ : ∃ L', (addG L e.id e.ps).2 = L' := ⟨_, rfl⟩
        have LEN := Lib.hid (show L'.length ≤ k + 1 by rw [← hL']; have := (addG_len L e.id e.ps).2; omega)
        have FEW' := Lib.hid (show ∀ j, (plAt L' j).length ≤ 10 by rw [← hL']; exact addG_few FEW.out (by rw [NP.out]; exact hfp))
        obtain ⟨A, hA⟩ : ∃ A, arrD e.id = A := ⟨_, rfl⟩
        rw [her, hL', hA] at cadd
        have CADD := Lib.hid cadd
        have RI := Lib.hid (fun u (hu : Chg S wr u) => nodeL_id (RE.out u (BR.out.trans (hu.below BR.out.size (fun q _ hq => (HS.out q hq).1)))))
        have RW := Lib.hid (fun u (hu : Chg S wr u) => RV.out u (BR.out.trans (hu.below BR.out.size (fun q _ hq => (HS.out q hq).1))))
        have LI := Lib.hid (show (Try.prog.info? 32).map (·.size) = some (cellsD e.id).length by rw [cellsD_len _ HID.out]; exact infoD_n)
        have ea : (cellsD e.id).toArray = A := hA
        have EA := Lib.hid ea
        clear cadd her hL' hA ea
        generalize cellsD e.id = ce at *
        go_wp2_with fail
        refine wp_region_held_drew (S := fun u => Chg S wr u) (by kernel_rfl) (Chg.refl _ _).drew (fun hHeld => ?_)
        refine tkW 0 rfl hHeld ?_
        refine tkW 1 rfl hHeld ?_
        refine tkW 2 rfl hHeld ?_
        refine tkW 3 rfl hHeld ?_
        refine tkW 4 rfl hHeld ?_
        refine tkH 5 rfl (yieldsIf_load_mid (by kernel_rfl) 32 (.tmp 39) (by kernel_rfl) b (o + k * 21) (by kernel_rfl) ce _ (fun u hu => RI.out u hu) Try.underlying32 rfl LI.out) hHeld ?_
        refine tkW 6 rfl hHeld ?_
        refine tkW 7 rfl hHeld ?_
        refine tkW 8 rfl hHeld ?_
        refine tkW 9 rfl hHeld ?_
        refine tkV 10 rfl (.slice pa np pc) (fun u hu => by have q := RW.out u hu; go_simp) hHeld ?_
        refine rdH 11 rfl (fun K hK => ?_)
        go_simp
        rw [EA.out]
        refine CADD.out.mono ?_
        rintro e u1 ⟨rfl, hg1, hc1⟩
        have G1 := Lib.hid hg1
        have hH := hHeld.trans hc1
        clear hHeld hg1 hc1
        refine hK.out _ _ hH (fun hHeld => ?_)
        clear hK K
        try simp only [Act.put, List.setIfInBounds_toArray, List.set_cons_zero, List.set_cons_succ]
        try simp only [Act.put, List.getElem_toArray, List.getElem_cons_succ, List.getElem_cons_zero, lsA, lsZ, lsS]
        refine wpAnyH_done (by kernel_rfl) ?_ _
        have HH := Lib.hid hHeld
        clear hHeld d0
        go_wp2_with fail
        go_roundw
        case rel => exact ⟨k + 1, L', _, by omega, by omega, by go_num, G1.out, fun q hq => by have h1 := HH.out.size; have h2 := BR.out.size; rcases hq with hq | hq; have := HS.out q hq; omega; exact ⟨Nat.le_trans h2 hq.1, hq.2⟩, LEN.out, FEW'.out, BR.out.trans (HH.out.below BR.out.size (fun q _ hq => (HS.out q hq).1))⟩
        case measure => simp [intOf]; omega
      · go_wp2_with fail
        go_roundw
        case rel => exact ⟨k + 1, L, S, by omega, by omega, by go_num, GR.out, HS.out, by omega, FEW.out, BR.out⟩
        case measure => simp [intOf]; omega
    · have CI := Lib.hid (idsP_is GR.out (by omega))
      rcases (show ¬ k < n ∨ (k < n ∧ k = 25) by omega) with h1 | ⟨h1, h2⟩
      all_goals
        go_wp2_with fail
        refine CI.out.mono ?_
        rintro e w5 ⟨v5, rfl, hv5, hb5⟩
        have GD := Lib.hid GR.out.good
        obtain ⟨a5, c5, rfl, h5c, h5m, h5r, -⟩ := ownD_ids hv5 (idsG_each GD.out)
        rw [idsG_len] at h5c ⊢
        obtain ⟨N, hN⟩ : ∃ N, L.length = N := ⟨_, rfl⟩
        have hN25 : N ≤ 25 := by omega
        rw [hN] at h5c ⊢
        have HN := Lib.hid hN; have R5 := Lib.hid h5r
        have G5 := Lib.hid (GR.out.below hb5)
        have B5 := Lib.hid (BR.out.trans (hb5.mono BR.out.size))
        clear hv5 hb5 h5m h5r hN CI GR BR HS
        go_wp2_with fail
        go_loopw [6] (fun v6 wi => ∃ i : Nat, i ≤ N ∧ v6 = .int .i64 i ∧ Below w5.heap.size w5 wi) (fun v6 _ => N - (intOf v6).toNat)
        case atStart => exact ⟨0, Nat.zero_le _, rfl, Below.refl _ _⟩
        case round =>
          obtain ⟨i, hi, rfl, hbi⟩ := hrel
          have BI := Lib.hid hbi
          clear hbi
          rename World => wi
          by_cases hlt : i < N
          · have hiL : i < L.length := by rw [HN.out]; exact hlt
            have hx20 := idAt_len GD.out hiL
            obtain ⟨b5, o5, rfl, hb5⟩ := (rowI_ids.2 R5.out).some (by rw [idsG_len]; omega)
            have rx := (rowI_ids.2 R5.out).elem i (by rw [idsG_len]; exact hiL)
            rw [idsG_get] at rx
            have rx : w5.rangeAt b5 (o5 + i * 20) (cellsD (idAt L i)) := rx
            have RX := Lib.hid (fun u (hu : Below w5.heap.size w5 u) => (show u.rangeAt b5 (o5 + i * 20) (cellsD (idAt L i)) from fun j v hv => (hu.cell (p := ⟨b5, o5 + i * 20 + j, none⟩) hb5).trans (rx j v hv)))
            have LX := Lib.hid (show (Try.prog.info? 32).map (·.size) = some (cellsD (idAt L i)).length by rw [cellsD_len _ hx20]; exact infoD_n)
            have hfew : ∀ j, (plAt L j).length ≤ 1000 := fun j => Nat.le_trans (FEW.out j) (by decide)
            have hLK : L.length ≤ 1000 := by omega
            have cself := fun u (hu : Below w5.heap.size w5 u) => comesP_is (G5.out.below hu) hLK hfew (idAt L i) (idAt L i) hx20 hx20
            rw [up_self GD.out hiL] at cself
            have cpar := fun u (hu : Below w5.heap.size w5 u) => parentsP_is (G5.out.below hu) (Nat.le_trans hLK (by decide)) hfew (idAt L i) hx20
            rw [parG_at GD.out hiL] at cpar
            have cone : ∀ q, q ∈ plAt L i → ∀ u, Below w5.heap.size w5 u → Calls Try.prog 26 #[.pointer (some ⟨g, 0, none⟩), .agg (arrD (idAt L i)), .agg (arrD (idAt L q))] u fun e w' => e = .returned (.bool true) ∧ Below u.heap.size u w' := fun q hq u hu =>
              up_one GD.out hiL hq ▸ comesP_is (G5.out.below hu) hLK hfew (idAt L i) (idAt L q) hx20 (idAt_len GD.out (low_lt GD.out q hq))
            have ctwo : ∀ q, q ∈ plAt L i → ∀ r, r ∈ plAt L q → ∀ u, Below w5.heap.size w5 u → Calls Try.prog 26 #[.pointer (some ⟨g, 0, none⟩), .agg (arrD (idAt L i)), .agg (arrD (idAt L r))] u fun e w' => e = .returned (.bool true) ∧ Below u.heap.size u w' := fun q hq r hr u hu =>
              up_two GD.out hiL hq hr ▸ comesP_is (G5.out.below hu) hLK hfew (idAt L i) (idAt L r) hx20 (idAt_len GD.out (low_lt GD.out r hr))
            have cin : ∀ q, q ∈ plAt L i → ∀ u, Below w5.heap.size w5 u → Calls Try.prog 28 #[.slice (some ⟨b5, o5, none⟩) i c5, .agg (arrD (idAt L q))] u fun e w' => e = .returned (.bool true) ∧ Below u.heap.size u w' := fun q hq u hu =>
              among_up GD.out hiL hq ▸ InIds_some b5 o5 c5 i ((idsG L).take i) (idAt L q) u (by rw [List.length_take, idsG_len]; omega) (by omega) (Nat.lt_of_lt_of_le hb5 hu.size) (by
                intro k hk j v hv
                obtain ⟨g', o', e', h1', h2'⟩ := ((R5.out.keep hu).take i) (by rw [List.length_take, idsG_len]; have := GD.out.low i q hq; omega)
                cases e'
                exact h2' k hk j v hv) (fun x hx => idsG_each GD.out x (List.mem_of_mem_take hx)) (idAt_len GD.out (low_lt GD.out q hq))
            have CIN := Lib.hid cin
            obtain ⟨X, hX⟩ : ∃ X, arrD (idAt L i) = X := ⟨_, rfl⟩
            rw [hX] at cself cpar cone ctwo
            have CSELF := Lib.hid cself; have CPAR := Lib.hid cpar; have CONE := Lib.hid cone; have CTWO := Lib.hid ctwo
            clear cself cpar cone ctwo cin hfew hLK
            have ex : (cellsD (idAt L i)).toArray = X := hX
            have EX := Lib.hid ex
            have CP := Lib.hid (CPAR.out wi BI.out)
            have rx5 : wi.rangeAt b5 (o5 + i * 20) (cellsD (idAt L i)) := RX.out wi BI.out
            have RXI := Lib.hid rx5
            clear rx hX hx20 ex rx5
            generalize cellsD (idAt L i) = cx at *
            go_wp2_with (first
              | (with_reducible refine wpList_load_midD 32 (.tmp 58) rfl (by kernel_rfl) b5 (o5 + i * 20) rfl cx _ RXI.out Try.underlying32 rfl LX.out ?_; rw [EX.out])
              | fail)
            refine CP.out.mono ?_
            rintro e w7 ⟨v7, rfl, hv7, hb7⟩
            obtain ⟨a7, c7, rfl, h7c, h7m, h7r, -⟩ := ownD_ids hv7 (psOf_each GD.out i)
            rw [psOf_len] at h7c ⊢
            obtain ⟨p, hp⟩ : ∃ p, (plAt L i).length = p := ⟨_, rfl⟩
            have hp10 : p ≤ 10 := by rw [← hp]; exact FEW.out i
            rw [hp] at h7c ⊢
            have HP := Lib.hid hp; have R7 := Lib.hid h7r
            have B7 := Lib.hid (BI.out.trans (hb7.mono BI.out.size))
            clear hv7 hb7 h7m h7r hp CP RXI
            go_wp2_with fail
            go_loopw [8] (fun v8 wk => ∃ k : Nat, k ≤ p ∧ v8 = .int .i64 k ∧ Below w7.heap.size w7 wk) (fun v8 _ => p - (intOf v8).toNat)
            case atStart => exact ⟨0, Nat.zero_le _, rfl, Below.refl _ _⟩
            case round =>
              obtain ⟨k, hk, rfl, hbk⟩ := hrel
              have BK := Lib.hid hbk
              clear hbk
              rename World => wk
              by_cases hkp : k < p
              · have hkl : k < (plAt L i).length := by rw [HP.out]; exact hkp
                obtain ⟨b7, o7, rfl, hb7⟩ := (rowI_ids.2 R7.out).some (by rw [psOf_len]; omega)
                have ry := (rowI_ids.2 R7.out).elem k (by rw [psOf_len]; exact hkl)
                rw [psOf_get hkl] at ry
                obtain ⟨q, hq⟩ : ∃ q, (plAt L i)[k] = q := ⟨_, rfl⟩
                rw [hq] at ry
                have hqm : q ∈ plAt L i := by rw [← hq]; exact List.getElem_mem _
                have hqL := low_lt GD.out q hqm
                have hqi := GD.out.low i q hqm
                have hy20 := idAt_len GD.out hqL
                have ry : w7.rangeAt b7 (o7 + k * 20) (cellsD (idAt L q)) := ry
                have RY := Lib.hid (fun u (hu : Below wk.heap.size wk u) => (show u.rangeAt b7 (o7 + k * 20) (cellsD (idAt L q)) from fun j v hv => ((BK.out.trans (hu.mono BK.out.size)).cell (p := ⟨b7, o7 + k * 20 + j, none⟩) hb7).trans (ry j v hv)))
                have LY := Lib.hid (show (Try.prog.info? 32).map (·.size) = some (cellsD (idAt L q)).length by rw [cellsD_len _ hy20]; exact infoD_n)
                have BK7 := Lib.hid (B7.out.trans (BK.out.mono B7.out.size))
                have RXK := Lib.hid (fun u (hu : Below wk.heap.size wk u) => RX.out u (BK7.out.trans (hu.mono BK7.out.size)))
                have cone := fun u (hu : Below wk.heap.size wk u) => CONE.out q hqm u (BK7.out.trans (hu.mono BK7.out.size))
                have cin := fun u (hu : Below wk.heap.size wk u) => CIN.out q hqm u (BK7.out.trans (hu.mono BK7.out.size))
                have hfew : ∀ j, (plAt L j).length ≤ 1000 := fun j => Nat.le_trans (FEW.out j) (by decide)
                have cpar := fun u (hu : Below wk.heap.size wk u) => parentsP_is (G5.out.below (BK7.out.trans (hu.mono BK7.out.size))) (by omega) hfew (idAt L q) hy20
                rw [parG_at GD.out hqL] at cpar
                have CTQ := Lib.hid (CTWO.out q hqm)
                obtain ⟨Y, hY⟩ : ∃ Y, arrD (idAt L q) = Y := ⟨_, rfl⟩
                rw [hY] at cone cin cpar
                have CO := Lib.hid cone; have CN := Lib.hid cin; have CQ := Lib.hid cpar
                have ey : (cellsD (idAt L q)).toArray = Y := hY
                have EY := Lib.hid ey
                have HQM := Lib.hid hqm
                have hqi' : 0 < i := by omega
                have hic : i ≤ c5 := by omega
                clear ry hY hy20 ey cone cin cpar hfew hq hqL hqi hqm
                generalize cellsD (idAt L q) = cy at *
                go_wp2_with fail
                refine rgB _ (fun hHeld => ?_)
                refine tkW 0 rfl hHeld ?_
                refine tkW 1 rfl hHeld ?_
                refine tkV 2 rfl (.slice (some ⟨b5, o5, none⟩) i c5) (fun u hu => by go_simp) hHeld ?_
                refine tkW 3 rfl hHeld ?_
                refine tkW 4 rfl hHeld ?_
                refine tkW 5 rfl hHeld ?_
                refine tkH 6 rfl (yieldsIf_load_mid (by kernel_rfl) 32 (.tmp 72) (by kernel_rfl) b7 (o7 + k * 20) (by kernel_rfl) cy _ (fun u hu => RY.out u hu) Try.underlying32 rfl LY.out) hHeld ?_
                refine rdH 7 rfl (fun K hK => ?_)
                go_simp
                rw [EY.out]
                refine (CN.out _ hHeld).mono ?_
                rintro e u1 ⟨rfl, h1⟩
                have hH := hHeld.trans (h1.mono hHeld.size)
                clear hHeld h1
                refine hK.out _ _ hH (fun hHeld => ?_)
                clear hK K
                try simp only [Act.put, List.setIfInBounds_toArray, List.set_cons_zero, List.set_cons_succ]
                refine tkW 8 rfl hHeld ?_
                refine tkW 9 rfl hHeld ?_
                refine tkW 10 rfl hHeld ?_
                refine tkW 11 rfl hHeld ?_
                refine tkW 12 rfl hHeld ?_
                refine tkW 13 rfl hHeld ?_
                refine tkH 14 rfl (yieldsIf_load_mid (by kernel_rfl) 32 (.tmp 80) (by kernel_rfl) b5 (o5 + i * 20) (by kernel_rfl) cx _ (fun u hu => RXK.out u hu) Try.underlying32 rfl LX.out) hHeld ?_
                refine tkW 15 rfl hHeld ?_
                refine tkW 16 rfl hHeld ?_
                refine tkW 17 rfl hHeld ?_
                refine tkH 18 rfl (yieldsIf_load_mid (by kernel_rfl) 32 (.tmp 84) (by kernel_rfl) b7 (o7 + k * 20) (by kernel_rfl) cy _ (fun u hu => RY.out u hu) Try.underlying32 rfl LY.out) hHeld ?_
                refine rdH 19 rfl (fun K hK => ?_)
                go_simp
                rw [EX.out, EY.out]
                refine (CO.out _ hHeld).mono ?_
                rintro e u2 ⟨rfl, h1⟩
                have hH := hHeld.trans (h1.mono hHeld.size)
                clear hHeld h1
                refine hK.out _ _ hH (fun hHeld => ?_)
                clear hK K
                try simp only [Act.put, List.setIfInBounds_toArray, List.set_cons_zero, List.set_cons_succ]
                refine tkW 20 rfl hHeld ?_
                refine tkW 21 rfl hHeld ?_
                try simp only [Act.put, List.getElem_toArray, List.getElem_cons_succ, List.getElem_cons_zero, lsA, lsZ, lsS]
                refine wpAnyH_done (by kernel_rfl) ?_ _
                have BM := Lib.hid (BK7.out.trans (hHeld.mono BK7.out.size))
                have ry2 := RY.out u2 hHeld
                have RYM := Lib.hid (show u2.rangeAt b7 (o7 + k * 20) cy from ry2)
                have CQM := Lib.hid (CQ.out u2 hHeld)
                have K2 := Lib.hid (BK.out.trans (hHeld.mono BK.out.size))
                clear hHeld ry2 RXK CO CN CQ RY BK7
                go_wp2_with (first
                  | (with_reducible refine wpList_load_midD 32 (.tmp 92) rfl (by kernel_rfl) b7 (o7 + k * 20) rfl cy _ RYM.out Try.underlying32 rfl LY.out ?_; rw [EY.out])
                  | fail)
                refine CQM.out.mono ?_
                rintro e w9 ⟨v9, rfl, hv9, hb9⟩
                obtain ⟨a9, c9, rfl, h9c, h9m, h9r, -⟩ := ownD_ids hv9 (psOf_each GD.out q)
                rw [psOf_len] at h9c ⊢
                obtain ⟨s, hs⟩ : ∃ s, (plAt L q).length = s := ⟨_, rfl⟩
                have hs10 : s ≤ 10 := by rw [← hs]; exact FEW.out q
                rw [hs] at h9c ⊢
                have HSL := Lib.hid hs; have R9 := Lib.hid h9r
                have B9 := Lib.hid (BM.out.trans (hb9.mono BM.out.size))
                have K9 := Lib.hid (K2.out.trans (hb9.mono K2.out.size))
                clear hv9 hb9 h9m h9r hs CQM RYM K2 BM
                go_wp2_with fail
                go_loopw [10] (fun v10 wm => ∃ m : Nat, m ≤ s ∧ v10 = .int .i64 m ∧ Below w9.heap.size w9 wm) (fun v10 _ => s - (intOf v10).toNat)
                case atStart => exact ⟨0, Nat.zero_le _, rfl, Below.refl _ _⟩
                case round =>
                  obtain ⟨m, hm, rfl, hbm⟩ := hrel
                  have BM := Lib.hid hbm
                  clear hbm
                  rename World => wm
                  have BM5 := Lib.hid (B9.out.trans (BM.out.mono B9.out.size))
                  by_cases hms : m < s
                  · have hml : m < (plAt L q).length := by rw [HSL.out]; exact hms
                    obtain ⟨b9, o9, rfl, hb9⟩ := (rowI_ids.2 R9.out).some (by rw [psOf_len]; omega)
                    have rz := (rowI_ids.2 R9.out).elem m (by rw [psOf_len]; exact hml)
                    rw [psOf_get hml] at rz
                    obtain ⟨r, hr⟩ : ∃ r, (plAt L q)[m] = r := ⟨_, rfl⟩
                    rw [hr] at rz
                    have hrm : r ∈ plAt L q := by rw [← hr]; exact List.getElem_mem _
                    have hz20 := idAt_len GD.out (low_lt GD.out r hrm)
                    have rz : w9.rangeAt b9 (o9 + m * 20) (cellsD (idAt L r)) := rz
                    have RZ := Lib.hid (fun u (hu : Below wm.heap.size wm u) => (show u.rangeAt b9 (o9 + m * 20) (cellsD (idAt L r)) from fun j v hv => ((BM.out.trans (hu.mono BM.out.size)).cell (p := ⟨b9, o9 + m * 20 + j, none⟩) hb9).trans (rz j v hv)))
                    have LZ := Lib.hid (show (Try.prog.info? 32).map (·.size) = some (cellsD (idAt L r)).length by rw [cellsD_len _ hz20]; exact infoD_n)
                    have RXM := Lib.hid (fun u (hu : Below wm.heap.size wm u) => RX.out u (BM5.out.trans (hu.mono BM5.out.size)))
                    have ctwo := fun u (hu : Below wm.heap.size wm u) => CTQ.out r hrm u (BM5.out.trans (hu.mono BM5.out.size))
                    obtain ⟨Z, hZ⟩ : ∃ Z, arrD (idAt L r) = Z := ⟨_, rfl⟩
                    rw [hZ] at ctwo
                    have CT := Lib.hid ctwo
                    have ez : (cellsD (idAt L r)).toArray = Z := hZ
                    have EZ := Lib.hid ez
                    clear rz hZ hz20 ez ctwo hr hrm
                    generalize cellsD (idAt L r) = cz at *
                    go_wp2_with fail
                    refine rgB _ (fun hHeld => ?_)
                    refine tkW 0 rfl hHeld ?_
                    refine tkW 1 rfl hHeld ?_
                    refine tkW 2 rfl hHeld ?_
                    refine tkW 3 rfl hHeld ?_
                    refine tkH 4 rfl (yieldsIf_load_mid (by kernel_rfl) 32 (.tmp 104) (by kernel_rfl) b5 (o5 + i * 20) (by kernel_rfl) cx _ (fun u hu => RXM.out u hu) Try.underlying32 rfl LX.out) hHeld ?_
                    refine tkW 5 rfl hHeld ?_
                    refine tkW 6 rfl hHeld ?_
                    refine tkW 7 rfl hHeld ?_
                    refine tkH 8 rfl (yieldsIf_load_mid (by kernel_rfl) 32 (.tmp 108) (by kernel_rfl) b9 (o9 + m * 20) (by kernel_rfl) cz _ (fun u hu => RZ.out u hu) Try.underlying32 rfl LZ.out) hHeld ?_
                    refine rdH 9 rfl (fun K hK => ?_)
                    go_simp
                    rw [EX.out, EZ.out]
                    refine (CT.out _ hHeld).mono ?_
                    rintro e u3 ⟨rfl, h1⟩
                    have hH := hHeld.trans (h1.mono hHeld.size)
                    clear hHeld h1
                    refine hK.out _ _ hH (fun hHeld => ?_)
                    clear hK K
                    try simp only [Act.put, List.setIfInBounds_toArray, List.set_cons_zero, List.set_cons_succ]
                    refine tkW 10 rfl hHeld ?_
                    try simp only [Act.put, List.getElem_toArray, List.getElem_cons_succ, List.getElem_cons_zero, lsA, lsZ, lsS]
                    refine wpAnyH_done (by kernel_rfl) ?_ _
                    have BF := Lib.hid (BM.out.trans (hHeld.mono BM.out.size))
                    clear hHeld
                    go_wp2_with fail
                    go_roundw
                    case rel => exact ⟨m + 1, by omega, by go_num, BF.out⟩
                    case measure => simp [intOf]; omega
                  · obtain rfl : m = s := by omega
                    have BF := Lib.hid (K9.out.trans (BM.out.mono K9.out.size))
                    go_wp2_with fail
                    go_roundw
                    case rel => exact ⟨k + 1, by omega, by go_num, BF.out⟩
                    case measure => simp [intOf]; omega
              · obtain rfl : k = p := by omega
                have BE := Lib.hid (B7.out.trans (BK.out.mono B7.out.size))
                have RXE := Lib.hid (fun u (hu : Below wk.heap.size wk u) => RX.out u (BE.out.trans (hu.mono BE.out.size)))
                have CS := Lib.hid (fun u (hu : Below wk.heap.size wk u) => CSELF.out u (BE.out.trans (hu.mono BE.out.size)))
                go_wp2_with fail
                refine rgB _ (fun hHeld => ?_)
                refine tkW 0 rfl hHeld ?_
                refine tkW 1 rfl hHeld ?_
                refine tkW 2 rfl hHeld ?_
                refine tkW 3 rfl hHeld ?_
                refine tkH 4 rfl (yieldsIf_load_mid (by kernel_rfl) 32 (.tmp 115) (by kernel_rfl) b5 (o5 + i * 20) (by kernel_rfl) cx _ (fun u hu => RXE.out u hu) Try.underlying32 rfl LX.out) hHeld ?_
                refine tkW 5 rfl hHeld ?_
                refine tkW 6 rfl hHeld ?_
                refine tkW 7 rfl hHeld ?_
                refine tkH 8 rfl (yieldsIf_load_mid (by kernel_rfl) 32 (.tmp 119) (by kernel_rfl) b5 (o5 + i * 20) (by kernel_rfl) cx _ (fun u hu => RXE.out u hu) Try.underlying32 rfl LX.out) hHeld ?_
                refine rdH 9 rfl (fun K hK => ?_)
                go_simp
                rw [EX.out]
                refine (CS.out _ hHeld).mono ?_
                rintro e u1 ⟨rfl, h1⟩
                have hH := hHeld.trans (h1.mono hHeld.size)
                clear hHeld h1
                refine hK.out _ _ hH (fun hHeld => ?_)
                clear hK K
                try simp only [Act.put, List.setIfInBounds_toArray, List.set_cons_zero, List.set_cons_succ]
                refine tkW 10 rfl hHeld ?_
                try simp only [Act.put, List.getElem_toArray, List.getElem_cons_succ, List.getElem_cons_zero, lsA, lsZ, lsS]
                refine wpAnyH_done (by kernel_rfl) ?_ _
                have BF := Lib.hid (BE.out.trans (hHeld.mono BE.out.size))
                clear hHeld
                go_wp2_with fail
                go_roundw
                case rel => exact ⟨i + 1, by omega, by go_num, BF.out⟩
                case measure => simp [intOf]; omega
          · obtain rfl : i = N := by omega
            have hfew : ∀ j, (plAt L j).length ≤ 1000 := fun j => Nat.le_trans (FEW.out j) (by decide)
            have CH := Lib.hid (headsP_is (G5.out.below BI.out) (by omega) hfew)
            have CC := Lib.hid (fun u (hu : Below w5.heap.size w5 u) => closureP_any (GOps.of (G5.out.below hu) (by omega) hfew))
            have B6 := Lib.hid (B5.out.trans (BI.out.mono B5.out.size))
            clear hfew
            go_wp2_with fail
            refine CH.out.mono ?_
            rintro e w8 ⟨v8, rfl, hv8, hb8⟩
            obtain ⟨a8, c8, rfl, h8c, h8m, h8r, -⟩ := ownD_ids hv8 (heads_each GD.out)
            have I8 := Lib.hid (BI.out.trans (hb8.mono BI.out.size))
            have C8 := Lib.hid (CC.out w8 I8.out a8 (headsG L).length c8 (headsG L) (rowI_ids.2 h8r) rfl (heads_few (by omega)) (heads_each GD.out))
            rw [heads_all GD.out] at C8
            have B8 := Lib.hid (B6.out.trans (hb8.mono B6.out.size))
            clear hv8 hb8 h8c h8m h8r CH CC
            generalize (headsG L).length = nh at *
            go_wp2_with fail
            refine C8.out.mono ?_
            rintro e w9 ⟨v9, rfl, hv9, hb9⟩
            obtain ⟨a9, c9, rfl, h9c, h9m, h9r, -⟩ := ownD_ids hv9 (idsG_each GD.out)
            have I9 := Lib.hid (I8.out.trans (hb9.mono I8.out.size))
            have C9 := Lib.hid (PlainIds_any a9 a5 i c9 c5 (idsG L) w9 h9r (R5.out.keep I9.out) (by rw [idsG_len, HN.out]) (by omega) (idsG_each GD.out))
            have B9 := Lib.hid (B8.out.trans (hb9.mono B8.out.size))
            rw [idsG_len, HN.out]
            clear hv9 hb9 h9c h9m h9r C8
            go_wp2_with fail
            refine C9.out.mono ?_
            rintro e w10 ⟨rfl, hb10⟩
            have BX := Lib.hid (B9.out.trans (hb10.mono B9.out.size))
            clear hb10 C9
            go_wp2_with fail
            go_ret
            exact ⟨rfl, BX.out⟩
end Go.Proofs.Ytajmgjhknmkfpaa.graphOrder
