/-
  Layer 12, the document: Closure.
-/
import Derived.Test.YtajmgjhknmkfpaaRfx
namespace Go.Proofs.Ytajmgjhknmkfpaa
set_option maxRecDepth 20000
open Go.RowKit
set_option linter.unusedVariables false
set_option linter.unusedSimpArgs false

theorem onG_marked {s : List Bool} {l : List Nat} {k : Nat} (hl : ∀ p ∈ l, p < s.length) (h : onG s k = true) : onG (markL s l) k = true := (onG_mark s l k hl).2 (.inl h)
theorem markL_take {s : List Bool} {l : List Nat} {i : Nat} (hi : i < l.length) : markL s (l.take (i + 1)) = (markL s (l.take i)).set l[i] true := by
  rw [List.take_add_one, List.getElem?_eq_getElem hi, Option.toList_some, markL_snoc]
set_option maxRecDepth 100000 in
set_option maxHeartbeats 16000000 in
theorem closureR_is {w : World} {q : Nat} {L : List Gn} {a : Option Addr} {c : Nat} {E : List Enn} (h : LookR w q L a c E) (hm : L.length ≤ 1000) (hfew : ∀ k, (plAt L k).length ≤ 1000)
    (ao : Option Addr) (ni ci : Nat) (ids : List (List UInt8)) (hr : IdsAt w ao ids) (hni : ni = ids.length) (hmi : ni ≤ 1000000) (hid : ∀ i ∈ ids, i.length = 20) :
    Calls Try.prog 23 #[.pointer (some ⟨q, 0, none⟩), .slice ao ni ci] w fun e w' => ∃ v, e = .returned v ∧ OwnD w.heap.size v (cloG L ids) w' ∧ Below w.heap.size w w' := by
  have LK := Lib.hid h
  have hcap := h.cap
  have FEW := Lib.hid hfew
  have d0 := h.cell
  have BACK := Lib.hid (backR_is h.good ids)
  obtain ⟨FIN, hFIN⟩ : ∃ F, closedG L (ids.filterMap (atG L)) = F := ⟨_, rfl⟩
  have CLO := Lib.hid (show cloG L ids = thoseG L (onG FIN) by unfold cloG; rw [hFIN])
  rw [hFIN] at BACK
  obtain ⟨Sf, hSf⟩ : ∃ Sf : Nat → Bool, (fun k => ids.contains (idAt L k)) = Sf := ⟨_, rfl⟩
  have SF := Lib.hid (fun k => (show ids.contains (idAt L k) = Sf k by rw [← hSf]))
  rw [hSf] at BACK
  obtain ⟨n, hn⟩ : ∃ n, L.length = n := ⟨_, rfl⟩
  have HN := Lib.hid hn; have CIN := Lib.hid (fun (y : List UInt8) (hy : y.length = 20) u (hu : Below w.heap.size w u) => InIds_is ao ni ci ids y u (hr.keep hu) hni hmi hid hy)
  rw [hn] at hcap hm d0 BACK
  clear h hn hfew hFIN hSf hr hid hni hmi
  obtain ⟨ib, hib, hbz, hbs, hbb⟩ := infoB_all
  go_enter Try.func23, Try.ntmps23
  go_wp2_with (first
    | (at_make; refine wpList_make_full _ rfl _ _ 73 rfl 0 4 ib (.bool false) 1 Try.underlying73 hib hbz hbs _ _ _ _ n rfl rfl rfl rfl (by rw [hbb]; omega) (by unfold maxLen; omega) (Nat.zero_le _) ?_; intro w2 ho2 hg2; have M2 := Lib.hid (marks_new ho2); have B2 := Lib.hid ((Below.refl w.heap.size w).grown hg2 (Nat.le_refl _) (fun k h => by cases h)); clear ho2 hg2; obtain ⟨m, hm'⟩ : ∃ m, w.heap.size = m := ⟨_, rfl⟩; have HM := Lib.hid hm'; rw [hm'] at M2 ⊢; clear hm'; have d2 : w2.cell? ⟨q, 0, none⟩ = some (.slice a n c) := (B2.out.cell (p := ⟨q, 0, none⟩) (lt_of_heap LK.out.blk)).trans d0; clear d0)
    | fail)
  clear hib hbz hbs hbb
  go_loopw [6] (fun v6 wr => ∃ (K : Nat) (s : List Bool), K ≤ n ∧ v6 = .int .i64 ((K : Int) - 1) ∧ MarksAt wr m n s ∧ backR L Sf K s = FIN ∧ Below w.heap.size w wr) (fun v6 _ => (intOf v6 + 1).toNat)
  case atStart => exact ⟨n, _, Nat.le_refl _, rfl, M2.out, BACK.out, B2.out⟩
  case round =>
    clear d2 M2 B2
    obtain ⟨K, s, hK, rfl, hms, hbk, hbr⟩ := hrel
    have MS := Lib.hid hms; have BK := Lib.hid hbk; have BR := Lib.hid hbr
    have d0 := (LK.out.below hbr).cell
    rw [HN.out] at d0
    clear hms hbk hbr
    by_cases hlt : 0 < K
    · obtain ⟨k, rfl⟩ : ∃ k, K = k + 1 := ⟨K - 1, by omega⟩
      rw [show (((k + 1 : Nat) : Int) - 1) = (k : Int) by omega]
      have hkn : k < n := by omega
      have hkL : k < L.length := by rw [HN.out]; exact hkn
      obtain ⟨b, o, pa, pc, rfl, hbl, hid, d1, hpr, -, -⟩ := (LK.out.below BR.out).node hkL
      obtain ⟨pl, hpl⟩ : ∃ pl, (plAt L k).length = pl := ⟨_, rfl⟩
      have hpl3 : pl ≤ 1000 := by rw [← hpl]; exact FEW.out k
      rw [hpl] at d1
      have PL := Lib.hid hpl; have PR := Lib.hid hpr
      have hy20 := idAt_len LK.out.good hkL
      have cin := CIN.out (idAt L k) hy20 wr BR.out
      rw [SF.out k] at cin
      obtain ⟨y, hy⟩ : ∃ y, idAt L k = y := ⟨_, rfl⟩
      rw [hy] at hid hy20 cin
      obtain ⟨Y, hY⟩ : ∃ Y, arrD y = Y := ⟨_, rfl⟩
      have LY := Lib.hid (show (Try.prog.info? 32).map (·.size) = some (cellsD y).length by rw [cellsD_len y hy20]; exact infoD_n)
      have EA := Lib.hid (show (cellsD y).toArray = Y from hY)
      rw [hY] at cin
      have CI := Lib.hid cin; have RY := Lib.hid hid
      obtain ⟨sk, hsk⟩ : ∃ b, Sf k = b := ⟨_, rfl⟩
      obtain ⟨b1, hb1⟩ : ∃ b, onG s k = b := ⟨_, rfl⟩
      obtain ⟨bb, hbb⟩ : ∃ b, (onG s k || Sf k) = b := ⟨_, rfl⟩
      obtain ⟨s1, hs1⟩ : ∃ s1, s.set k bb = s1 := ⟨_, rfl⟩
      have STEP := Lib.hid (show stepR L Sf s k = stepG L s1 k by unfold stepR; rw [hbb, hs1])
      have c1 := MS.out.cell hkn
      have f1 := MS.out.frozen k
      rw [hb1] at c1
      have ST := Lib.hid (fun (u : World) (hu : MarksAt u m n s) => (show MarksAt (u.setCell ⟨m, k, none⟩ (.bool bb)) m n s1 by rw [← hs1]; exact hu.set k bb))
      have ONK := Lib.hid (show onG s1 k = bb by rw [← hs1, onG_set s k k bb (by rw [MS.out.1]; exact hkn), if_pos rfl])
      have LEN := Lib.hid (show s1.length = n by rw [← hs1, List.length_set]; exact MS.out.1)
      rw [hb1, hsk] at hbb
      rw [hsk] at CI
      have BKK := Lib.hid (show backR L Sf k (stepG L s1 k) = FIN by rw [← STEP.out]; exact BK.out)
      have LOW := Lib.hid (fun p (hp : p ∈ plAt L k) => low_lt LK.out.good (k := k) p hp)
      have g1 : (k : Int) < (n : Int) := by omega
      have GB := Lib.hid (show w.heap.size ≤ m by rw [HM.out]; exact Nat.le_refl _)
      have HKL := Lib.hid hkL
      clear hid hpr hpl hy hy20 hY cin hb1 hsk hs1 BK STEP hkL
      generalize cellsD y = cy at *
      cases b1
      case' true =>
        have HBB := Lib.hid (show bb = true by rw [← hbb]; rfl)
        clear hbb
        go_wp2_with fail
        have M1 := ST.out wr MS.out
        rw [HBB.out] at M1
        have M1 := Lib.hid M1
        obtain ⟨W1, hW1⟩ : ∃ W1, wr.setCell ⟨m, k, none⟩ (.bool true) = W1 := ⟨_, rfl⟩
        have B1 := Lib.hid (show Below w.heap.size w W1 by rw [← hW1]; exact BR.out.setCell (p := ⟨m, k, none⟩) GB.out (.bool true))
        rw [hW1] at M1 ⊢
        clear hW1 c1 f1 d1 d0 ST HBB
      case' false =>
        have HBB := Lib.hid (show bb = sk by rw [← hbb]; rfl)
        clear hbb
        go_wp2_with (first
          | (with_reducible refine wpList_load_midD 32 (.tmp 40) rfl (by kernel_rfl) b (o + k * 21) rfl cy _ RY.out Try.underlying32 rfl LY.out ?_; rw [EA.out])
          | fail)
        refine CI.out.mono ?_
        rintro e u1 ⟨rfl, hu1⟩
        have MU := Lib.hid (MS.out.below hu1)
        have BU := Lib.hid (BR.out.trans (hu1.mono BR.out.size))
        have c2 := MU.out.cell hkn
        have f2 := MU.out.frozen k
        clear hu1 c1 f1 d1 d0
        go_wp2_with fail
        have M1 := ST.out u1 MU.out
        rw [HBB.out] at M1
        have M1 := Lib.hid M1
        obtain ⟨W1, hW1⟩ : ∃ W1, u1.setCell ⟨m, k, none⟩ (.bool sk) = W1 := ⟨_, rfl⟩
        have B1 := Lib.hid (show Below w.heap.size w W1 by rw [← hW1]; exact BU.out.setCell (p := ⟨m, k, none⟩) GB.out (.bool sk))
        rw [hW1] at M1 ⊢
        clear hW1 c2 f2 ST MU BU HBB
      all_goals
        clear CI RY PR EA LY MS BR
        go_wp2_with fail
        go_loopw [7] (fun v7 wi => ∃ i : Nat, i ≤ pl ∧ v7 = .int .i64 i ∧ (bb = false → i = 0) ∧ MarksAt wi m n (markL s1 ((plAt L k).take i)) ∧ Below w.heap.size w wi) (fun v7 _ => pl - (intOf v7).toNat)
        case atStart => exact ⟨0, Nat.zero_le _, rfl, fun _ => rfl, M1.out, B1.out⟩
        case round =>
          obtain ⟨i, hi, rfl, hbf, hmi, hbi⟩ := hrel
          clear M1 B1
          have MI := Lib.hid hmi; have BI := Lib.hid hbi; have HBF := Lib.hid hbf
          clear hmi hbi hbf
          rename World => wi
          have d0 := (LK.out.below BI.out).cell
          rw [HN.out] at d0
          obtain ⟨b', o', qa, qc, hbo, hbl2, -, d1, hr, -, -⟩ := (LK.out.below BI.out).node HKL.out
          simp only [Option.some.injEq, Addr.mk.injEq, and_true] at hbo
          obtain ⟨rfl, rfl⟩ := hbo
          rw [PL.out] at d1
          have HR := Lib.hid hr
          have LOWT := Lib.hid (fun p (hp : p ∈ (plAt L k).take i) => (show p < s1.length by rw [LEN.out, ← HN.out]; exact LOW.out p (List.mem_of_mem_take hp)))
          have c1 := MI.out.cell hkn
          have f1 := MI.out.frozen k
          rw [show onG (markL s1 ((plAt L k).take i)) k = bb from by
            cases hb : bb with
            | false => rw [HBF.out hb]; rw [← hb]; exact ONK.out
            | true => exact onG_marked LOWT.out (ONK.out.trans hb)] at c1
          clear hr
          cases hb : bb
          case false =>
            rw [hb] at c1 ONK
            have HI0 := Lib.hid (HBF.out hb)
            have FINK := Lib.hid (show stepG L s1 k = markL s1 ((plAt L k).take i) by unfold stepG; rw [ONK.out, HI0.out]; rfl)
            go_wp2_with fail
            go_roundw
            case rel => exact ⟨k, _, by omega, by go_num, MI.out, by rw [← FINK.out]; exact BKK.out, BI.out⟩
            case measure => first | (simp [intOf]; done) | (simp [intOf]; omega)
          case true =>
            rw [hb] at c1 ONK
            by_cases hip : i < pl
            · have hil : i < (plAt L k).length := by rw [PL.out]; exact hip
              obtain ⟨pb, po, rfl, hpb⟩ := (rowI_ids.2 HR.out).some (by rw [psOf_len]; omega)
              have rz := (rowI_ids.2 HR.out).elem i (by rw [psOf_len]; exact hil)
              rw [psOf_get hil] at rz
              obtain ⟨p, hp⟩ : ∃ p, (plAt L k)[i] = p := ⟨_, rfl⟩
              rw [hp] at rz
              have hpm : p ∈ plAt L k := by rw [← hp]; exact List.getElem_mem _
              have hpL := LOW.out p hpm
              have hz20 := idAt_len LK.out.good hpL
              have cat := atR_is (LK.out.below BI.out) (by rw [HN.out]; omega) (idAt L p) hz20
              rw [show atV L (idAt L p) = (p : Int) by unfold atV; rw [atG_is LK.out.good hpL (idAt_lt hpL).symm]] at cat
              have hpn : p < n := by rw [← HN.out]; exact hpL
              have g2 : (p : Int) < (n : Int) := by omega
              have NXT := Lib.hid (show markL s1 ((plAt L k).take (i + 1)) = (markL s1 ((plAt L k).take i)).set p true by rw [markL_take hil, hp])
              obtain ⟨z, hz⟩ : ∃ z, idAt L p = z := ⟨_, rfl⟩
              rw [hz] at rz hz20 cat
              obtain ⟨Z, hZ⟩ : ∃ Z, arrD z = Z := ⟨_, rfl⟩
              have LZ := Lib.hid (show (Try.prog.info? 32).map (·.size) = some (cellsD z).length by rw [cellsD_len z hz20]; exact infoD_n)
              have EZ := Lib.hid (show (cellsD z).toArray = Z from hZ)
              rw [hZ] at cat
              have CAT := Lib.hid cat
              have rz : wi.rangeAt pb (po + i * 20) (cellsD z) := rz
              have RZ := Lib.hid rz
              clear rz cat hz hz20 hZ hp hpm hpL
              generalize cellsD z = cz at *
              go_wp2_with (first
                | (with_reducible refine wpList_load_midD 32 (.tmp 75) rfl (by kernel_rfl) pb (po + i * 20) rfl cz _ RZ.out Try.underlying32 rfl LZ.out ?_; rw [EZ.out])
                | fail)
              refine CAT.out.mono ?_
              rintro e u1 ⟨rfl, hu1⟩
              have MU := Lib.hid (MI.out.below hu1)
              have BU := Lib.hid (BI.out.trans (hu1.mono BI.out.size))
              have c2 := MU.out.cell hpn
              have f2 := MU.out.frozen p
              clear hu1 c1 f1 d1 d0
              go_wp2_with fail
              go_roundw
              case rel => exact ⟨i + 1, by omega, by go_num, by simp [hb], by rw [NXT.out]; exact MU.out.set p true, BU.out.setCell (p := ⟨m, p, none⟩) GB.out (.bool true)⟩
              case measure => simp [intOf]; omega
            · obtain rfl : i = pl := by omega
              have FINK := Lib.hid (show stepG L s1 k = markL s1 ((plAt L k).take i) by unfold stepG; rw [ONK.out, ← PL.out, List.take_length]; rfl)
              go_wp2_with fail
              go_roundw
              case rel => exact ⟨k, _, by omega, by go_num, MI.out, by rw [← FINK.out]; exact BKK.out, BI.out⟩
              case measure => first | (simp [intOf]; done) | (simp [intOf]; omega)
    · obtain rfl : K = 0 := by omega
      rw [show (((0 : Nat) : Int) - 1) = -1 by omega]
      obtain rfl : s = FIN := BK.out
      obtain ⟨B6, hB6⟩ : ∃ B6, wr.heap.size = B6 := ⟨_, rfl⟩
      have hm6 : m < B6 := by rw [← hB6]; exact MS.out.lt
      have HW6 := Lib.hid (show w.heap.size ≤ B6 by rw [← hB6]; exact BR.out.size)
      have HB6 := Lib.hid (show B6 ≤ wr.heap.size by rw [hB6]; exact Nat.le_refl _)
      clear hB6
      go_wp2_with fail
      go_loopw [8, 9] (fun v t wi => ∃ k : Nat, k ≤ n ∧ t = .int .i64 k ∧ OwnD B6 v (((List.range k).filter (onG s)).map (idAt L)) wi ∧ MarksAt wi m n s ∧ Below w.heap.size w wi ∧ B6 ≤ wi.heap.size) (fun _ t _ => n - (intOf t).toNat)
      case atStart => exact ⟨0, Nat.zero_le _, rfl, ownD_nil _ _, MS.out, BR.out, HB6.out⟩
      case round =>
        clear d0
        obtain ⟨k, hk, rfl, how, hmi, hbi, hsi⟩ := hrel
        have HO := Lib.hid how; have MI := Lib.hid hmi; have BI := Lib.hid hbi; have SI := Lib.hid hsi
        clear how hmi hbi hsi MS BR
        rename World => wi
        have d0 := (LK.out.below BI.out).cell
        rw [HN.out] at d0
        by_cases hkn : k < n
        · have hkL : k < L.length := by rw [HN.out]; exact hkn
          obtain ⟨b, o, pa, pc, rfl, hbl, hid, -, -, -, -⟩ := (LK.out.below BI.out).node hkL
          have c1 := MI.out.cell hkn
          have ST := Lib.hid (those_step L (onG s) k)
          obtain ⟨y, hy⟩ : ∃ y, idAt L k = y := ⟨_, rfl⟩
          have HY20 := Lib.hid (show y.length = 20 by rw [← hy]; exact idAt_len LK.out.good hkL)
          rw [hy] at hid ST
          have RY := Lib.hid hid
          obtain ⟨Y, hY⟩ : ∃ Y, arrD y = Y := ⟨_, rfl⟩
          have HY := Lib.hid hY
          have HYS := Lib.hid (show Y.size = 20 by rw [← hY]; exact arrD_size y HY20.out)
          have LY := Lib.hid (show (Try.prog.info? 32).map (·.size) = some (cellsD y).length by rw [cellsD_len y HY20.out]; exact infoD_n)
          have EA := Lib.hid (show (cellsD y).toArray = Y from hY)
          have g1 : (k : Int) < (n : Int) := by omega
          obtain ⟨bv, hbv⟩ : ∃ bv, onG s k = bv := ⟨_, rfl⟩
          rw [hbv] at c1 ST
          clear hid hy hY hkL hbv
          generalize cellsD y = cy at *
          cases bv with
          | false =>
            go_wp2_with fail
            go_roundw
            case rel => exact ⟨k + 1, by omega, by go_num, by rw [ST.out]; simpa using HO.out, MI.out, BI.out, SI.out⟩
            case measure => simp [intOf]; omega
          | true =>
            have LL := Lib.hid (show (((List.range k).filter (onG s)).map (idAt L)).length ≤ 1000000000 by
              rw [List.length_map]
              have := List.length_filter_le (onG s) (List.range k)
              rw [List.length_range] at this
              omega)
            have b4 := (Below.refl wi.heap.size wi).alloc (Nat.le_refl _) (.cells Y 32)
            have HO4 := Lib.hid (ownD_below HO.out b4)
            have B4 := Lib.hid (BI.out.trans (b4.mono BI.out.size))
            have S4 := Lib.hid (Nat.le_trans SI.out b4.size)
            have M4 := Lib.hid (MI.out.below b4)
            clear b4
            go_wp2_with (first
              | (with_reducible refine wpList_load_midD 32 (.tmp 99) rfl (by kernel_rfl) b (o + k * 21) rfl cy _ RY.out Try.underlying32 rfl LY.out ?_; rw [EA.out])
              | (with_reducible refine wpList_build_idD rfl (.tmp 100) rfl Y HYS.out rfl ?_)
              | (at_builtin; refine wpList_append_idD rfl _ _ rfl B6 _ (((List.range k).filter (onG s)).map (idAt L)) y wi.heap.size Y HY.out.symm rfl rfl (heap_alloc_new wi _) HY20.out HO4.out LL.out S4.out ?_)
              | fail)
            intro v6 w6 o6 g6
            have b6 := (Below.refl B6 _).grown g6 S4.out (fun j hj => (HO4.out.lt j hj).1)
            have B7 := Lib.hid (B4.out.trans (b6.mono HW6.out))
            have M7 := Lib.hid (M4.out.keep (b6.block m hm6))
            have S7 := Lib.hid (Nat.le_trans S4.out b6.size)
            have O7 := Lib.hid (show OwnD B6 v6 (((List.range (k + 1)).filter (onG s)).map (idAt L)) w6 by rw [ST.out]; simpa using o6)
            clear o6 g6 b6
            go_wp2
            go_roundw
            case rel => exact ⟨k + 1, by omega, by go_num, O7.out, M7.out, B7.out, S7.out⟩
            case measure => simp [intOf]; omega
        · obtain rfl : k = n := by omega
          have HE := Lib.hid (show OwnD w.heap.size _ (cloG L ids) wi by
            rw [CLO.out]
            have q := HO.out
            rw [← HN.out] at q
            exact ownR_mono (R := rowI) q HW6.out)
          go_wp2
          go_ret
          exact ⟨_, rfl, HE.out, BI.out⟩
end Go.Proofs.Ytajmgjhknmkfpaa
