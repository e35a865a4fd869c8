/-
  The law ObjectsKinds: its walk.
-/
import Derived.Test.YtpelehhmdcjikaaGreatDoorFu22
import Derived.Test.YtpelehhmdcjikaaGreatDoorFu29
import Derived.Test.YtpelehhmdcjikaaGreatDoorFu23
import Derived.Test.YtpelehhmdcjikaaGreatDoorFu25
namespace Go.Proofs.YtpelehhmdcjikaaGreatDoor.objectsKinds
set_option maxRecDepth 20000
open Go.RowKit
set_option linter.unusedVariables false
set_option linter.unusedSimpArgs false
set_option maxHeartbeats 4000000 in
theorem walk_long (w : World) (k : Int) (a : Option Addr) (n c : Nat) (h : 500 < n) (i : List UInt8) (tab : T10 w) :
    Calls Tryz.prog 5 #[.int .i64 k, .slice a n c, .agg (arrD i)] w fun e w' => e = .returned (.bool true) ∧ Below w.heap.size w w' := by
  have g1 : (n : Int) > 500 := by omega
  have b1 := (Below.refl w.heap.size w).alloc (Nat.le_refl _) (.cells (arrD i) 24)
  generalize arrD i = A at b1 ⊢
  have CN := Lib.hid (fun u => new_is u)
  have B1 := Lib.hid b1
  have b2 := b1.alloc b1.size (.cells #[.map none] 66)
  have CA := Lib.hid (awake10 _ (tab.keep b2).pow)
  have CA2 := Lib.hid (fun u (hu : Below w.heap.size w u) => awake10 u (tab.keep hu).pow)
  have B2 := Lib.hid b2
  clear b1 b2 tab h
  go_enter Tryz.func5, Tryz.ntmps5
  go_wp2_with fail
  refine (CN.out _).mono ?_
  rintro e w1 ⟨rfl, rfl⟩
  go_wp2_with fail
  refine CA.out.mono ?_
  rintro e w2 ⟨rfl, hb2⟩
  have HB2 := Lib.hid (B2.out.trans (hb2.mono B2.out.size))
  clear hb2 CA
  go_wp2_with fail
  refine (CA2.out _ HB2.out).mono ?_
  rintro e w3 ⟨rfl, hb3⟩
  have HB3 := Lib.hid (HB2.out.trans (hb3.mono HB2.out.size))
  clear hb3
  go_wp2
  go_ret
  exact ⟨rfl, HB3.out⟩
theorem ten_blob (c : Cel) : ((ofS (some c) 1).2 == 10) = (c.kind != 1) := by
  by_cases h : c.kind = 1
  · rw [ofS_some h, h]; rfl
  · rw [ofS_other h]
    simp [h]
theorem ten_tree (c : Cel) (p : List Itm) (e : Int) (h : TreeS (some c) p e) : (e == 10) = (c.kind != 2) := by
  unfold TreeS at h
  by_cases hk : c.kind = 2
  · rw [ofS_some hk, if_pos rfl] at h
    rw [hk]
    rcases h with ⟨-, -, rfl⟩ | ⟨-, rfl, -⟩ | ⟨-, rfl, -⟩ <;> rfl
  · rw [ofS_other hk, if_neg (by decide)] at h
    rw [h.2]
    simp [hk]
theorem ten_commit (c : Cel) : ((comS (some c)).2 == 10) = (c.kind != 3) := by
  unfold comS
  by_cases hk : c.kind = 3
  · rw [ofS_some hk, if_pos rfl, hk]
    unfold parsedR
    cases parseK c.body <;> rfl
  · rw [ofS_other hk, if_neg (by decide)]
    simp [hk]
set_option maxHeartbeats 64000000 in
theorem walk_good (w : World) (k : Int) (a : Option Addr) (n c : Nat) (l : List UInt8) (hb : BAt w a l) (hl : n = l.length) (hno : a = none → n = 0 ∧ c = 0) (hc : n ≤ c ∧ c ≤ maxLen) (h : n ≤ 500) (i : List UInt8) (hi : i.length = 20) (tab : T10 w) :
    Calls Tryz.prog 5 #[.int .i64 k, .slice a n c, .agg (arrD i)] w fun e w' => e = .returned (.bool true) ∧ Below w.heap.size w w' := by
  have rd : Red w (.slice a n c) l := ⟨a, c, by rw [hl], hb, by rw [← hl]; exact hno, by rw [← hl]; exact hc.1, hc.2⟩
  have g1 : ¬ (n : Int) > 500 := by omega
  obtain ⟨v, hv⟩ : ∃ v, IntKind.u64.wrap k = v := ⟨_, rfl⟩
  have hv0 : 0 ≤ v := by rw [← hv, IntKind.wrap_u64]; omega
  obtain ⟨r, hr⟩ : ∃ r : Nat, v.tmod 3 = (r : Int) := by
    rw [Int.tmod_eq_emod_of_nonneg hv0]
    exact ⟨(v % 3).toNat, by omega⟩
  have hr3 : r < 3 := by rw [Int.tmod_eq_emod_of_nonneg hv0] at hr; omega
  have k4 : IntKind.i64.wrap (r : Int) = (r : Int) := IntWalk.i64_in _ (by omega)
  have k5 : IntKind.u64.wrap (r : Int) = (r : Int) := by rw [IntKind.wrap_u64]; omega
  obtain ⟨kd, hkd⟩ : ∃ kd : Int, 1 + (r : Int) = kd := ⟨_, rfl⟩
  have k6 : IntKind.i64.wrap (1 + (r : Int)) = kd := by rw [← hkd]; exact IntWalk.i64_in _ (by omega)
  have hkO : kindO kd := by unfold kindO; omega
  have he : (printO kd l).2 = 0 := by rw [printO_ok kd l hkO (by omega)]
  have sl := sumO_len he
  have hpm : putM [] kd l = ([⟨sumO kd l, kd, l⟩], sumO kd l, 0) := by
    unfold putM
    rw [if_pos he]
    rfl
  obtain ⟨b1, hb1⟩ : ∃ b, (kd != 1) = b := ⟨_, rfl⟩
  obtain ⟨b2, hb2⟩ : ∃ b, (kd != 2) = b := ⟨_, rfl⟩
  obtain ⟨b3, hb3⟩ : ∃ b, (kd != 3) = b := ⟨_, rfl⟩
  have T1 := ten_blob ⟨sumO kd l, kd, l⟩
  have T2 := Lib.hid (fun p e h => (ten_tree ⟨sumO kd l, kd, l⟩ p e h).trans hb2)
  have T3 := ten_commit ⟨sumO kd l, kd, l⟩
  simp only [hb1] at T1
  simp only [hb3] at T3
  obtain ⟨fe, hfe⟩ : ∃ fe, (ofS (some ⟨sumO kd l, kd, l⟩) 1).2 = fe := ⟨_, rfl⟩
  obtain ⟨ge, hge⟩ : ∃ ge, (comS (some ⟨sumO kd l, kd, l⟩)).2 = ge := ⟨_, rfl⟩
  rw [hfe] at T1
  rw [hge] at T3
  have hgm : getM [⟨sumO kd l, kd, l⟩] (sumO kd l) = some ⟨sumO kd l, kd, l⟩ := by simp [getM]
  have hle : ∀ j c, getM [⟨sumO kd l, kd, l⟩] j = some c → c.body.length ≤ 65536 := fun j c hc => by
    have := (getM_some hc).1
    simp at this
    rw [this]
    show l.length ≤ 65536
    omega
  obtain ⟨A1, hA1⟩ : ∃ A, arrD i = A := ⟨_, rfl⟩
  obtain ⟨I, hI⟩ : ∃ I, arrD (sumO kd l) = I := ⟨_, rfl⟩
  have sA : A1.size = 20 := by rw [← hA1]; exact arrD_size i hi
  have IA := Lib.hid (show (Tryz.prog.info? 24).map (·.size) = some A1.size from by rw [sA]; exact infoD_n)
  have IS := Lib.hid (show I.size = 20 by rw [← hI]; exact arrD_size _ sl)
  have IO := Lib.hid (show I.all (·.oneCell') = true by rw [← hI]; exact arrD_one _)
  have II := Lib.hid (show (Tryz.prog.info? 24).map (·.size) = some I.size from by rw [IS.out]; exact infoD_n)
  obtain ⟨z, hz0, hzs, hzv, hzb, hz1⟩ := zId_any
  obtain ⟨rz, hr0, hrs, hrv, hrb, hr1⟩ := zRec_any
  have ZS := Lib.hid hzs; have RS := Lib.hid hrs
  have bx := (Below.refl w.heap.size w).alloc (Nat.le_refl _) (.cells A1 24)
  have h01 := heap_alloc_new w (.cells A1 24)
  obtain ⟨w0, hw0⟩ : ∃ w0, w.alloc (.cells A1 24) = w0 := ⟨_, rfl⟩
  rw [hw0] at bx h01
  have CN := Lib.hid (new_is w0)
  have by1 := bx.alloc bx.size (.cells #[.map none] 66)
  have s1 := StoreP.new (fun j => j = w0.heap.size) w0 rfl
  have h11 := (((Below.refl w0.heap.size w0).alloc (Nat.le_refl _) (.cells #[.map none] 66)).block w.heap.size (lt_of_heap h01)).trans h01
  obtain ⟨w1, hw1⟩ : ∃ w1, w0.alloc (.cells #[.map none] 66) = w1 := ⟨_, rfl⟩
  rw [hw1] at by1 s1 h11
  have B1 := Lib.hid by1; have S1 := Lib.hid s1; have H11 := Lib.hid h11; have BX := Lib.hid bx.size; have BX1 := Lib.hid (Nat.succ_le_of_lt (lt_of_heap h01))
  have CA := Lib.hid (awake10 w1 (tab.keep by1).pow)
  have TB := Lib.hid tab; have RD := Lib.hid rd; have HPM := Lib.hid hpm; have HGM := Lib.hid hgm; have HLE := Lib.hid hle; have SL := Lib.hid sl; have HI := Lib.hid hI; have HA := Lib.hid hA1; have KI := Lib.hid hi; have HFE := Lib.hid hfe; have HGE := Lib.hid hge
  rw [hA1]
  clear rd hb hl hno hc h hv0 hr3 hkd hkO he sl hpm hgm hle sA hz0 hzs hzb hz1 hr0 hrs hrb hr1 bx h01 by1 s1 h11 tab hI hA1 hi hfe hge
  go_enter Tryz.func5, Tryz.ntmps5
  go_wp2_with fail
  refine CN.out.mono ?_
  rintro e w1' ⟨rfl, rfl⟩
  go_wp2_with fail
  refine CA.out.mono ?_
  rintro e w2 ⟨rfl, hb12⟩
  have HB2 := Lib.hid (B1.out.trans (hb12.mono B1.out.size))
  have S2 := Lib.hid (S1.out.below hb12)
  have H21 := Lib.hid ((hb12.block w.heap.size (lt_of_heap H11.out)).trans H11.out)
  have CP := PutP_is S2.out kd (.slice a n c) l (RD.out.below HB2.out (Nat.le_refl _)) (TB.out.keep HB2.out).pow (by simp)
  rw [HPM.out] at CP
  simp only at CP
  rw [HI.out] at CP
  have CP := Lib.hid CP
  clear hb12 CA hw0 hw1
  go_wp2_with fail
  refine CP.out.mono ?_
  rintro e w3 ⟨rfl, hS3, hC3⟩
  have c23 : Below w0.heap.size w2 w3 := hC3.below (Nat.le_trans (Nat.le_of_lt S2.out.lt) (Nat.le_refl _)) (fun j _ hj => Nat.le_of_eq hj.symm)
  have HB3 := Lib.hid (HB2.out.trans (c23.mono BX.out))
  have H31 := Lib.hid ((c23.block w.heap.size (Nat.lt_of_lt_of_le (Nat.lt_succ_self _) BX1.out)).trans H21.out)
  have S3 := Lib.hid hS3
  clear c23 hS3 hC3 CP
  go_wp2_with (first
    | (with_reducible refine wpList_store_all rfl 24 (.tmp 8) (.tmp 40) rfl w3.heap.size I rfl rfl 24 z (heap_alloc_new w3 _) II.out (IS.out.trans ZS.out.symm) IO.out ?_)
    | fail)
  intro w4 r4 off4 sz4
  have b34 : Below w3.heap.size w3 w4 := ((Below.refl w3.heap.size w3).alloc (Nat.le_refl _) (.cells z 24)).trans (off4.below (Nat.le_refl _) (by simp))
  have HB34 := Lib.hid b34
  have H41 := Lib.hid ((b34.block w.heap.size (lt_of_heap H31.out)).trans H31.out)
  have R4 := Lib.hid r4
  clear b34 r4 off4 sz4
  have CBl := BlobP_is (S3.out.below HB34.out) (sumO kd l) SL.out (HLE.out _)
  rw [HGM.out, HI.out, HFE.out] at CBl
  have CBl := Lib.hid CBl
  go_wp2_with (first
    | (with_reducible refine wpList_load_all 24 (.tmp 8) rfl (by kernel_rfl) w3.heap.size I 24 (0, 0) rfl R4.out _ Tryz.underlying24 rfl II.out ?_)
    | fail)
  refine CBl.out.mono ?_
  rintro e w5 ⟨v5, rfl, -, -, hb5⟩
  have HB35 := Lib.hid (HB34.out.trans (hb5.mono HB34.out.size))
  have H51 := Lib.hid ((hb5.block w.heap.size (lt_of_heap H41.out)).trans H41.out)
  have R5 := Lib.hid ((hb5.block w3.heap.size (lt_of_heap R4.out)).trans R4.out)
  clear hb5 CBl
  have CTr := TreeP_is (S3.out.below HB35.out) (sumO kd l) SL.out (TB.out.keep (HB3.out.trans (HB35.out.mono HB3.out.size))).q
  rw [HGM.out, HI.out] at CTr
  have CTr := Lib.hid CTr
  go_wp2_with (first
    | (with_reducible refine wpList_load_all 24 (.tmp 8) rfl (by kernel_rfl) w3.heap.size I 24 (0, 0) rfl R5.out _ Tryz.underlying24 rfl II.out ?_)
    | fail)
  refine CTr.out.mono ?_
  rintro e w6 ⟨v6, p6, te, rfl, -, ht6, hb6⟩
  have T2' := T2.out p6 te ht6
  have HB36 := Lib.hid (HB35.out.trans (hb6.mono HB35.out.size))
  have H61 := Lib.hid ((hb6.block w.heap.size (lt_of_heap H51.out)).trans H51.out)
  have R6 := Lib.hid ((hb6.block w3.heap.size (lt_of_heap R5.out)).trans R5.out)
  clear hb6 CTr ht6
  have CCo := CommitP_is (S3.out.below HB36.out) (sumO kd l) SL.out (HLE.out _) (TB.out.keep (HB3.out.trans (HB36.out.mono HB3.out.size))).t7
  rw [HGM.out, HI.out, HGE.out] at CCo
  have CCo := Lib.hid CCo
  go_wp2_with (first
    | (with_reducible refine wpList_load_all 24 (.tmp 8) rfl (by kernel_rfl) w3.heap.size I 24 (0, 0) rfl R6.out _ Tryz.underlying24 rfl II.out ?_)
    | fail)
  refine CCo.out.mono ?_
  rintro e w7 ⟨A, rfl, hp7, hb7⟩
  have HB37 := Lib.hid (HB36.out.trans (hb7.mono HB36.out.size))
  have H71 := Lib.hid ((hb7.block w.heap.size (lt_of_heap H61.out)).trans H61.out)
  have R7 := Lib.hid ((hb7.block w3.heap.size (lt_of_heap R6.out)).trans R6.out)
  have AS := Lib.hid (show A.size = 30 by obtain ⟨hf, pa, cap, e, -⟩ := hp7; rw [e]; exact arrC_size _ _ _ _ _ hf.tree)
  have AO := Lib.hid (show A.all (·.oneCell') = true by obtain ⟨hf, pa, cap, e, -⟩ := hp7; rw [e]; exact arrC_one _ _ _ _ _ _ _)
  have AI := Lib.hid (show (Tryz.prog.info? 54).map (·.size) = some A.size from by rw [AS.out]; exact infoC)
  clear hb7 CCo hp7
  go_wp2_with (first
    | (with_reducible refine wpList_store_all rfl 54 (.tmp 14) (.tmp 60) rfl w7.heap.size A rfl rfl 54 rz (heap_alloc_new w7 _) AI.out (AS.out.trans RS.out.symm) AO.out ?_)
    | fail)
  intro w8 r8 off8 sz8
  have b78 : Below w7.heap.size w7 w8 := ((Below.refl w7.heap.size w7).alloc (Nat.le_refl _) (.cells rz 54)).trans (off8.below (Nat.le_refl _) (by simp))
  have HB38 := Lib.hid (HB37.out.trans (b78.mono HB37.out.size))
  have H81 := Lib.hid ((b78.block w.heap.size (lt_of_heap H71.out)).trans H71.out)
  have R8 := Lib.hid ((b78.block w3.heap.size (lt_of_heap R7.out)).trans R7.out)
  clear r8 off8 sz8 b78
  have EQ := fun u => (by
    have q := eql_arrD i (sumO kd l) KI.out SL.out u
    rw [HA.out, HI.out] at q
    exact q : (binOp .eql 24 (.agg A1) (.agg I)).run Tryz.prog u = .ok (.bool (eqD i (sumO kd l))) u)
  obtain ⟨q, hq⟩ : ∃ q, eqD i (sumO kd l) = q := ⟨_, rfl⟩
  rw [hq] at EQ
  have HQ := Lib.hid hq
  clear hq
  cases q with
  | true =>
    go_wp2_with (first
      | (with_reducible refine wpList_load_all 24 (.tmp 5) rfl (by kernel_rfl) w.heap.size A1 24 (0, 0) rfl H81.out _ Tryz.underlying24 rfl IA.out ?_)
      | (with_reducible refine wpList_load_all 24 (.tmp 8) rfl (by kernel_rfl) w3.heap.size I 24 (0, 0) rfl R8.out _ Tryz.underlying24 rfl II.out ?_)
      | fail)
    go_ret
    exact ⟨rfl, HB3.out.trans (HB38.out.mono HB3.out.size)⟩
  | false =>
    have hgn : getM [⟨sumO kd l, kd, l⟩] i = none := by
      have hne : i ≠ sumO kd l := fun e => by have q := HQ.out; rw [e, eqD_same] at q; cases q
      unfold getM
      rw [List.find?_cons]
      have hf : (sumO kd l == i) = false := beq_false_of_ne (fun e => hne e.symm)
      simp [hf]
    have CB2 := BlobP_is (S3.out.below HB38.out) i KI.out (HLE.out _)
    rw [hgn, HA.out] at CB2
    have CB2 := Lib.hid CB2
    have HGN := Lib.hid hgn
    clear hgn
    go_wp2_with (first
      | (with_reducible refine wpList_load_all 24 (.tmp 5) rfl (by kernel_rfl) w.heap.size A1 24 (0, 0) rfl H81.out _ Tryz.underlying24 rfl IA.out ?_)
      | (with_reducible refine wpList_load_all 24 (.tmp 8) rfl (by kernel_rfl) w3.heap.size I 24 (0, 0) rfl R8.out _ Tryz.underlying24 rfl II.out ?_)
      | fail)
    refine CB2.out.mono ?_
    rintro e w9 ⟨v9, rfl, -, -, hb9⟩
    have HB39 := Lib.hid (HB38.out.trans (hb9.mono HB38.out.size))
    have H91 := Lib.hid ((hb9.block w.heap.size (lt_of_heap H81.out)).trans H81.out)
    clear hb9 CB2
    have CT2 := TreeP_is (S3.out.below HB39.out) i KI.out (TB.out.keep (HB3.out.trans (HB39.out.mono HB3.out.size))).q
    rw [HGN.out, HA.out] at CT2
    have CT2 := Lib.hid CT2
    rw [show (ofS none 1).2 = 6 from rfl]
    go_wp2_with (first
      | (with_reducible refine wpList_load_all 24 (.tmp 5) rfl (by kernel_rfl) w.heap.size A1 24 (0, 0) rfl H91.out _ Tryz.underlying24 rfl IA.out ?_)
      | fail)
    refine CT2.out.mono ?_
    rintro e w10 ⟨v10, p10, e10, rfl, -, ht10, hb10⟩
    obtain ⟨-, rfl⟩ : p10 = [] ∧ e10 = 6 := ht10
    have HB40 := Lib.hid (HB39.out.trans (hb10.mono HB39.out.size))
    have H10 := Lib.hid ((hb10.block w.heap.size (lt_of_heap H91.out)).trans H91.out)
    clear hb10 CT2
    have CC2 := CommitP_is (S3.out.below HB40.out) i KI.out (HLE.out _) (TB.out.keep (HB3.out.trans (HB40.out.mono HB3.out.size))).t7
    rw [HGN.out, HA.out] at CC2
    have CC2 := Lib.hid CC2
    go_wp2_with (first
      | (with_reducible refine wpList_load_all 24 (.tmp 5) rfl (by kernel_rfl) w.heap.size A1 24 (0, 0) rfl H10.out _ Tryz.underlying24 rfl IA.out ?_)
      | fail)
    refine CC2.out.mono ?_
    rintro e w11 ⟨A11, rfl, -, hb11⟩
    have HB41 := Lib.hid (HB40.out.trans (hb11.mono HB40.out.size))
    clear hb11 CC2
    rw [show (comS none).2 = 6 from rfl]
    go_wp2
    go_ret
    exact ⟨rfl, HB3.out.trans (HB41.out.mono HB3.out.size)⟩
theorem walk (w : World) (k : Int) (h0 : -9223372036854775808 ≤ k) (h1 : k ≤ 9223372036854775807) (a : Option Addr) (n c : Nat) (l : List UInt8) (hb : BAt w a l) (hl : n = l.length) (hno : a = none → n = 0 ∧ c = 0) (hc : n ≤ c ∧ c ≤ maxLen) (i : List UInt8) (hi : i.length = 20) (tab : T10 w) :
    Calls Tryz.prog 5 #[.int .i64 k, .slice a n c, .agg (arrD i)] w fun e w' => e = .returned (.bool true) ∧ Below w.heap.size w w' := by
  by_cases h : n ≤ 500
  · exact walk_good w k a n c l hb hl hno hc h i hi tab
  · exact walk_long w k a n c (by omega) i tab
end Go.Proofs.YtpelehhmdcjikaaGreatDoor.objectsKinds
