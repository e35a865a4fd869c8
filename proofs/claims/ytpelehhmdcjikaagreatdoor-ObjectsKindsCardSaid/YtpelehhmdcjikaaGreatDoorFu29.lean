/-
  Texts that belong together, one behind the other.
-/
import Derived.Test.YtpelehhmdcjikaaGreatDoorFu09
import Derived.Test.YtpelehhmdcjikaaGreatDoorFu28
import Derived.Test.YtpelehhmdcjikaaGreatDoorFu21
import Derived.Test.YtpelehhmdcjikaaGreatDoorFu20
/-
  Layer 10, the document's answers: the bytes of a blob, the items of a tree.
-/
namespace Go.Proofs.YtpelehhmdcjikaaGreatDoor
set_option maxRecDepth 20000
open Go.RowKit
set_option linter.unusedVariables false
set_option linter.unusedSimpArgs false
/-- What a tree's items are, and what is answered. -/
def TreeS (o : Option Cel) (p : List Itm) (err : Int) : Prop := if (ofS o 2).2 = 0 then ParsedT (ofS o 2).1 p err else p = [] ∧ err = (ofS o 2).2
end Go.Proofs.YtpelehhmdcjikaaGreatDoor

/-
  Layer 10, the program: Tree and Commit.
-/
namespace Go.Proofs.YtpelehhmdcjikaaGreatDoor
set_option maxRecDepth 20000
open Go.RowKit
set_option linter.unusedVariables false
set_option linter.unusedSimpArgs false
set_option maxHeartbeats 16000000 in
theorem TreeP_is {S : Nat → Prop} {w : World} {g : Nat} {M : List Cel} (h : StoreP S w g M) (i : List UInt8) (hi : i.length = 20) (tab : QTab w) :
    Calls Tryz.prog 19 #[.pointer (some ⟨g, 0, none⟩), .agg (arrD i)] w fun e w' => ∃ v p err, e = .returned (.tuple #[v, .int .i64 err]) ∧ RedI w' v p ∧ TreeS (getM M i) p err ∧ Below w.heap.size w w' := by
  obtain ⟨A1, hA1⟩ : ∃ A, arrD i = A := ⟨_, rfl⟩
  have sA : A1.size = 20 := by rw [← hA1]; exact arrD_size i hi
  have b1 : Below w.heap.size w (w.alloc (.cells A1 24)) := (Below.refl w.heap.size w).alloc (Nat.le_refl _) (.cells A1 24)
  have H1 := Lib.hid (heap_alloc_new w (.cells A1 24)); have B1 := Lib.hid b1
  have IA := Lib.hid (show (Tryz.prog.info? 24).map (·.size) = some A1.size from by rw [sA]; exact infoD_n)
  have CO := Lib.hid (fun u (hu : Below w.heap.size w u) => bodyP_is (h.below hu) i hi 2)
  have TB := Lib.hid tab
  unfold TreeS
  rw [hA1] at CO ⊢
  obtain ⟨r, hr⟩ : ∃ r, ofS (getM M i) 2 = r := ⟨_, rfl⟩
  rw [hr] at CO ⊢
  obtain ⟨bs, er⟩ := r
  simp only at CO ⊢
  clear h b1 sA hr tab
  by_cases he : er = 0
  · subst he
    go_enter Tryz.func19, Tryz.ntmps19
    go_wp2_with (first
      | (with_reducible refine wpList_load_all 24 (.tmp 3) rfl (by kernel_rfl) w.heap.size A1 24 (0, 0) rfl H1.out _ Tryz.underlying24 rfl IA.out ?_)
      | fail)
    refine (CO.out _ B1.out).mono ?_
    rintro e w3 ⟨v, rfl, ⟨va, vc, rfl, hba, -, hvc, -, -⟩, hb3⟩
    have HB3 := Lib.hid (B1.out.trans (hb3.mono B1.out.size))
    have CP := Lib.hid (pParse_is va bs.length vc bs w3 rfl hba (TB.out.below HB3.out))
    clear hb3 CO hba hvc
    obtain ⟨n, hn⟩ : ∃ n, bs.length = n := ⟨_, rfl⟩
    rw [hn] at CP
    rw [hn]
    go_wp2_with fail
    refine CP.out.mono ?_
    rintro e w4 ⟨v, p, err, rfl, hp, hpt, hb4⟩
    have HB4 := Lib.hid (HB3.out.trans (hb4.mono HB3.out.size))
    have HP := Lib.hid hp; have HPT := Lib.hid hpt
    clear hb4 CP hp hpt
    go_wp2
    go_ret2
    exact ⟨_, p, err, rfl, HP.out, HPT.out, HB4.out⟩
  · go_enter Tryz.func19, Tryz.ntmps19
    go_wp2_with (first
      | (with_reducible refine wpList_load_all 24 (.tmp 3) rfl (by kernel_rfl) w.heap.size A1 24 (0, 0) rfl H1.out _ Tryz.underlying24 rfl IA.out ?_)
      | fail)
    refine (CO.out _ B1.out).mono ?_
    rintro e w3 ⟨v, rfl, hr, hb3⟩
    have HB3 := Lib.hid (B1.out.trans (hb3.mono B1.out.size))
    clear hb3 CO hr
    go_wp2
    go_ret2
    exact ⟨_, [], er, rfl, RedI.none _, ⟨rfl, rfl⟩, HB3.out⟩
set_option maxHeartbeats 16000000 in
theorem CommitP_is {S : Nat → Prop} {w : World} {g : Nat} {M : List Cel} (h : StoreP S w g M) (i : List UInt8) (hi : i.length = 20) (hb : ∀ c, getM M i = some c → c.body.length ≤ 65536) (tab : T7 w) :
    Calls Tryz.prog 20 #[.pointer (some ⟨g, 0, none⟩), .agg (arrD i)] w fun e w' => ∃ A, e = .returned (.tuple #[.agg A, .int .i64 (comS (getM M i)).2]) ∧ RecRed w' A (comS (getM M i)).1 ∧ Below w.heap.size w w' := by
  obtain ⟨A1, hA1⟩ : ∃ A, arrD i = A := ⟨_, rfl⟩
  have sA : A1.size = 20 := by rw [← hA1]; exact arrD_size i hi
  have b1 : Below w.heap.size w (w.alloc (.cells A1 24)) := (Below.refl w.heap.size w).alloc (Nat.le_refl _) (.cells A1 24)
  obtain ⟨z, hz0, hzs, hzv, hzb, hz1⟩ := zRec_any
  have b2 := b1.alloc b1.size (.cells z 54)
  have hs1 : (w.alloc (.cells A1 24)).heap.size = w.heap.size + 1 := by simp
  have h02 := heap_alloc_new (w.alloc (.cells A1 24)) (.cells z 54)
  have h01 := (((Below.refl (w.alloc (.cells A1 24)).heap.size (w.alloc (.cells A1 24))).alloc (Nat.le_refl _) (.cells z 54)).block w.heap.size (by simp)).trans (heap_alloc_new w (.cells A1 24))
  rw [hs1] at h02
  have H1 := Lib.hid h01; have H2 := Lib.hid h02; have B2 := Lib.hid b2
  have IA := Lib.hid (show (Tryz.prog.info? 24).map (·.size) = some A1.size from by rw [sA]; exact infoD_n)
  have IZ := Lib.hid (show (Tryz.prog.info? 54).map (·.size) = some z.size from by rw [hzs]; exact infoC)
  have ZB := Lib.hid hzb; have Z1 := Lib.hid hz1; have Z0 := Lib.hid hz0; have ZS := Lib.hid hzs
  have CO := Lib.hid (fun u (hu : Below w.heap.size w u) => bodyP_is (h.below hu) i hi 3)
  have TB := Lib.hid tab
  have OL := Lib.hid (ofS_len (k := 3) hb)
  unfold comS
  rw [hA1] at CO ⊢
  obtain ⟨r, hr⟩ : ∃ r, ofS (getM M i) 3 = r := ⟨_, rfl⟩
  rw [hr] at CO OL ⊢
  obtain ⟨bs, er⟩ := r
  simp only at CO OL ⊢
  clear h b1 b2 h01 h02 hs1 sA hr tab hzb hz1 hz0 hzs hb
  by_cases he : er = 0
  · subst he
    go_enter Tryz.func20, Tryz.ntmps20
    go_wp2_with (first
      | (with_reducible refine wpList_load_all 24 (.tmp 3) rfl (by kernel_rfl) w.heap.size A1 24 (0, 0) rfl H1.out _ Tryz.underlying24 rfl IA.out ?_)
      | fail)
    refine (CO.out _ B2.out).mono ?_
    rintro e w3 ⟨v, rfl, ⟨va, vc, rfl, hba, -, hvc, -, -⟩, hb3⟩
    have HB3 := Lib.hid (B2.out.trans (hb3.mono B2.out.size))
    have H3 := Lib.hid ((hb3.block (w.heap.size + 1) (lt_of_heap H2.out)).trans H2.out)
    have CP := Lib.hid (Parse9_is va bs.length vc bs w3 (TB.out.keep HB3.out) rfl hba (Nat.le_trans OL.out (by omega)))
    clear hb3 CO hba hvc
    obtain ⟨n, hn⟩ : ∃ n, bs.length = n := ⟨_, rfl⟩
    rw [hn] at CP
    rw [hn]
    go_wp2_with fail
    refine CP.out.mono ?_
    rintro e w4 ⟨A, rfl, hp, hb4⟩
    have HB4 := Lib.hid (HB3.out.trans (hb4.mono HB3.out.size))
    have H4 := Lib.hid ((hb4.block (w.heap.size + 1) (lt_of_heap H3.out)).trans H3.out)
    have HP := Lib.hid hp
    have AS := Lib.hid (show A.size = 30 by obtain ⟨hf, pa, cap, e, -⟩ := hp; rw [e]; exact arrC_size _ _ _ _ _ hf.tree)
    have AO := Lib.hid (show A.all (·.oneCell') = true by obtain ⟨hf, pa, cap, e, -⟩ := hp; rw [e]; exact arrC_one _ _ _ _ _ _ _)
    have AI := Lib.hid (show (Tryz.prog.info? 54).map (·.size) = some A.size from by rw [AS.out]; exact infoC)
    clear hb4 CP hp
    go_wp2_with (first
      | (with_reducible refine wpList_store_all rfl 54 (.tmp 4) (.tmp 20) rfl (w.heap.size + 1) A rfl rfl 54 z H4.out AI.out (AS.out.trans ZS.out.symm) AO.out ?_)
      | fail)
    intro w5 r5 off5 sz5
    have HB5 := Lib.hid (HB4.out.trans (off5.below (Nat.le_succ _) HB4.out.size))
    have HP5 := Lib.hid (HP.out.off (parsed_parents bs) (by rw [← Z0.out]; exact H4.out) off5)
    go_wp2
    exact bodyPost_ret (results_rec Tryz.results20 _ _ (w.heap.size + 1) A (0, 0) _ rfl rfl r5 AS.out) rfl ⟨A, rfl, HP5.out, HB5.out⟩
  · go_enter Tryz.func20, Tryz.ntmps20
    go_wp2_with (first
      | (with_reducible refine wpList_load_all 24 (.tmp 3) rfl (by kernel_rfl) w.heap.size A1 24 (0, 0) rfl H1.out _ Tryz.underlying24 rfl IA.out ?_)
      | fail)
    refine (CO.out _ B2.out).mono ?_
    rintro e w3 ⟨v, rfl, hr, hb3⟩
    have HB3 := Lib.hid (B2.out.trans (hb3.mono B2.out.size))
    have H3 := Lib.hid ((hb3.block (w.heap.size + 1) (lt_of_heap H2.out)).trans H2.out)
    clear hb3 CO hr
    go_wp2_with (first
      | (refine wpList_build_none rfl 54 rfl z ZB.out ?_)
      | (with_reducible refine wpList_store_all rfl 54 (.tmp 4) (.tmp 16) rfl (w.heap.size + 1) z rfl rfl 54 z H3.out IZ.out rfl Z1.out ?_)
      | fail)
    intro w5 r5 off5 sz5
    have HB5 := Lib.hid (HB3.out.trans (off5.below (Nat.le_succ _) HB3.out.size))
    go_wp2
    exact bodyPost_ret (results_rec Tryz.results20 _ _ (w.heap.size + 1) z (0, 0) _ rfl rfl r5 ZS.out) rfl ⟨z, rfl, by rw [Z0.out]; exact recRed_zero _, HB5.out⟩
end Go.Proofs.YtpelehhmdcjikaaGreatDoor
