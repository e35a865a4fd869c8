/-
  The law FlatDeep: its walk.
-/
import Derived.Test.YtnohonjjfjppoaaGreatDoorFu33
import Derived.Test.YtnohonjjfjppoaaGreatDoorFu34
namespace Go.Proofs.YtnohonjjfjppoaaGreatDoor.flatDeep
set_option maxRecDepth 20000
open Go.RowKit
set_option linter.unusedVariables false
set_option linter.unusedSimpArgs false
theorem ds_next : ∀ n, dsF n ++ [100, 47] = dsF (n + 1)
  | 0 => rfl
  | n + 1 => by
    have := ds_next n
    simp only [dsF, List.cons_append] at this ⊢
    rw [this]
theorem ds_len : ∀ n, (dsF n).length = 2 * n
  | 0 => rfl
  | n + 1 => by simp only [dsF, List.length_cons, ds_len n]; omega
def filD (r : Nat) : Fil := ⟨dsF r ++ [102], 2, one5⟩
theorem sound_yes (r : Nat) (h : r < 16) : soundF (filD r) = true := by
  show (decide ((1 : Int) ≤ 2) && decide ((2 : Int) ≤ 3) && pathL (dsF r ++ [102]) && !(one5 == zeroId)) = true
  rw [pathD r h]
  decide
theorem sound_no (r : Nat) (h : r < 19) (h2 : 16 ≤ r) : soundF (filD r) = false := by
  show (decide ((1 : Int) ≤ 2) && decide ((2 : Int) ≤ 3) && pathL (dsF r ++ [102]) && !(one5 == zeroId)) = false
  rw [pathD_no r h h2]
  decide
theorem wr_yes (r : Nat) (h : r < 16) : wrF putM [] [filD r] = (chC leafD idsD (r + 1), idsD.getD r [], 0) := wr_chain goodD (n := r) h (sound_yes r h) (by decide)
theorem wr_no (r : Nat) (h : r < 19) (h2 : 16 ≤ r) : wrF putM [] [filD r] = ([], zeroId, 11) := by
  unfold wrF
  rw [if_neg (by rw [rightF_not (sound_no r h h2)]; decide)]
theorem rd_yes (r : Nat) (h : r < 16) : Rd (chC leafD idsD (r + 1)) (idsD.getD r []) [] (some (filD r)) 0 :=
  rd_chain goodD (n := r) h r (Nat.le_refl _) [] (fun j hj => by simpa using pathD_dir j (by omega)) (pathD r h)
theorem eq_zero (A : Array Value) (hA : arrD zeroId = A) (w : World) : (binOp .eql 27 (.agg A) (.agg A)).run Tryz.prog w = .ok (.bool true) w := by
  have := eql_idv w zeroId zeroId rfl rfl
  rw [show idv zeroId = .agg A by rw [← hA]; rfl] at this
  rw [this]
  rfl
theorem built_filF (f : Fil) (h : f.id.length = 20) : Tryz.prog.built 29 [(0, .string ⟨f.path.toArray⟩), (1, .int .i64 f.mode), (2, .agg (arrD f.id))] = some (arrF f) := built_fil f.mode ⟨f.path.toArray⟩ f.id h
set_option maxHeartbeats 64000000 in
theorem walk (w : World) (n : Int) (hn0 : -9223372036854775808 ≤ n) (hn1 : n ≤ 9223372036854775807) (tab : T13 w) :
    Calls Tryz.prog 7 #[.int .i64 n] w fun e w' => e = .returned (.bool true) ∧ Below w.heap.size w w' := by
  clear hn0 hn1
  obtain ⟨v, hv⟩ : ∃ v, IntKind.u64.wrap n = v := ⟨_, rfl⟩
  have hv0 : 0 ≤ v := by rw [← hv, IntKind.wrap_u64]; omega
  obtain ⟨r, hr⟩ : ∃ r : Nat, v.tmod 19 = (r : Int) := by
    rw [Int.tmod_eq_emod_of_nonneg hv0]
    exact ⟨(v % 19).toNat, by omega⟩
  have hr3 : r < 19 := by rw [Int.tmod_eq_emod_of_nonneg hv0] at hr; omega
  have k4 : IntKind.i64.wrap (r : Int) = (r : Int) := IntWalk.i64_in _ (by omega)
  have k5 : IntKind.u64.wrap (r : Int) = (r : Int) := by rw [IntKind.wrap_u64]; omega
  have hrL : (r : Int) ≤ 18 := by omega
  obtain ⟨zd, hzd, hzds, hzdv, hzdb, hzd1⟩ := zId_any
  obtain ⟨A5, hA5⟩ : ∃ A, arrD one5 = A := ⟨_, rfl⟩
  have BI := Lib.hid (show Tryz.prog.built 27 [(0, .int .u8 5)] = some A5 by rw [← hA5]; exact built_id1 5)
  obtain ⟨sp, hsp⟩ : ∃ s : ByteArray, ⟨(dsF r ++ [102]).toArray⟩ = s := ⟨_, rfl⟩
  obtain ⟨AF, hAF⟩ : ∃ A, arrF (filD r) = A := ⟨_, rfl⟩
  have BF0 := built_filF (filD r) rfl
  rw [show (filD r).mode = 2 from rfl, show (filD r).id = one5 from rfl, show (filD r).path = dsF r ++ [102] from rfl, hA5, hsp, hAF] at BF0
  have BF := Lib.hid BF0
  clear BF0
  have SF := Lib.hid (show AF.size = rowF.size by rw [← hAF]; exact arrF_size (filD r) rfl)
  have b1 := (Below.refl w.heap.size w).alloc (Nat.le_refl _) (.cells AF rowF.ty)
  have h1 := heap_alloc_new w (.cells AF rowF.ty)
  obtain ⟨w1, hw1⟩ : ∃ w1, w.alloc (.cells AF rowF.ty) = w1 := ⟨_, rfl⟩
  have z1 : w1.heap.size = w.heap.size + 1 := by rw [← hw1]; simp
  rw [hw1] at b1 h1
  have CN := Lib.hid (new_is w1)
  have b2 := (Below.refl w1.heap.size w1).alloc (Nat.le_refl _) (.cells #[.map none] 66)
  have s2 := StoreP.new (fun j => j = w1.heap.size) w1 rfl
  obtain ⟨w2, hw2⟩ : ∃ w2, w1.alloc (.cells #[.map none] 66) = w2 := ⟨_, rfl⟩
  rw [hw2] at b2 s2
  have hat1 : FilesAt w1 (some ⟨w.heap.size, 0, none⟩) [filD r] := rowR_one (x := filD r) goodF (h1.trans (by rw [← hAF]; rfl))
  have hat2 := hat1.keep b2
  have CW := write_one tab (b1.trans (b2.mono b1.size)) (by omega) s2 hat2 (by omega) rfl (by show (dsF r ++ [102]).length ≤ 1000; rw [List.length_append, ds_len]; simp; omega)
  have rid := wrF_id [] [filD r]
  obtain ⟨R, hR⟩ : ∃ R, wrF putM [] [filD r] = R := ⟨_, rfl⟩
  rw [hR] at CW rid
  obtain ⟨RM, RI, RE⟩ := R
  simp only at CW rid
  obtain ⟨AD, hAD⟩ : ∃ A, arrD RI = A := ⟨_, rfl⟩
  rw [hAD] at CW
  have SZ := Lib.hid (show AD.size = 20 by rw [← hAD]; exact arrD_size _ rid)
  have OD := Lib.hid (show AD.all (·.oneCell') = true by rw [← hAD]; exact arrD_one _)
  have ID := Lib.hid (show (Tryz.prog.info? 27).map (·.size) = some AD.size by rw [SZ.out]; exact info29)
  have HR := Lib.hid hR; have HAD := Lib.hid hAD
  have ad := fun (i : Nat) (hi : i < r) w => add_lists (P := Tryz.prog) w (dsF i) [100, 47] (by rw [ds_len]; simp; omega)
  have ad2 := fun w => add_lists (P := Tryz.prog) w (dsF r) [102] (by rw [ds_len]; simp; omega)
  rw [hsp] at ad2
  have AD1 := Lib.hid ad; have CW := Lib.hid CW; have B2 := Lib.hid (b1.trans (b2.mono b1.size)); have HZ := Lib.hid hzds; have HZD := Lib.hid hzd; have TB := Lib.hid tab; have HAT2 := Lib.hid hat2; have R3 := Lib.hid hr3; have Z1 := Lib.hid z1
  clear hzd hzds hzd1 b1 h1 b2 s2 hat1 hat2 hA5 hAF tab ad hsp hv0 hR hAD rid
  go_enter Tryz.func7, Tryz.ntmps7
  go_wp2_with fail
  go_loopw [3, 4] (fun v3 v4 wr => ∃ i : Nat, i ≤ r ∧ v4 = .int .i64 i ∧ v3 = .string ⟨(dsF i).toArray⟩ ∧ w = wr) (fun _ v4 _ => r - (intOf v4).toNat)
  case atStart => exact ⟨0, Nat.zero_le _, rfl, rfl, rfl⟩
  case round =>
    obtain ⟨i, hi, rfl, rfl, rfl⟩ := hrel
    by_cases hlt : i < r
    · have ad := AD1.out i hlt
      rw [ds_next] at ad
      go_wp2
      go_roundw
      case rel => exact ⟨i + 1, by omega, by go_num, rfl, trivial⟩
      case measure => simp [intOf]; omega
    · obtain rfl : i = r := by omega
      clear AD1 hlt hi
      go_wp2_with (first
        | (refine wpList_build_one rfl 27 0 _ rfl _ rfl A5 BI.out ?_)
        | (refine wpList_build_three rfl 29 0 1 2 _ _ _ rfl _ _ _ rfl rfl rfl AF BF.out ?_)
        | (with_reducible refine wpList_build_oneR goodF rfl (.tmp 25) rfl AF SF.out rfl ?_)
        | fail)
      refine CN.out.mono ?_
      rintro e9 w1' ⟨rfl, rfl⟩
      rw [hw2]
      clear hw1 hw2 CN z1
      go_wp2_with fail
      refine CW.out.mono ?_
      rintro e9 w3 ⟨rfl, h3, c3⟩
      have B3 := Lib.hid (B2.out.trans (c3.below B2.out.size (fun j _ q => by have := Z1.out; omega)))
      have HAT3 := Lib.hid (HAT2.out.same c3.size (fun ad had => by cases had; exact c3.block _ (by have := B2.out.size; have := HAT2.out.lt (by simp); exact this) (by have := Z1.out; show w.heap.size ≠ _; omega)))
      have H3 := Lib.hid h3
      clear h3 c3 CW
      go_wp2_with (first
        | (with_reducible refine wpList_store_all rfl 27 (.tmp 7) (.tmp 32) rfl w3.heap.size AD rfl rfl 27 zd (heap_alloc_new _ _) ID.out (SZ.out.trans HZ.out.symm) OD.out ?_)
        | fail)
      intro w4 r4 off4 sz4
      have b4 : Below w3.heap.size w3 w4 := ((Below.refl w3.heap.size w3).alloc (Nat.le_refl _) (.cells zd 27)).trans (off4.below (Nat.le_refl _) (by simp))
      have B4 := Lib.hid (B3.out.trans (b4.mono B3.out.size))
      have H4 := Lib.hid (H3.out.below b4)
      have HAT4 := Lib.hid (HAT3.out.keep b4)
      have R4 := Lib.hid r4
      have CA := Lib.hid (fun u (hu : Below w4.heap.size w4 u) => awake13 u (TB.out.keep (B4.out.trans (hu.mono B4.out.size))))
      clear r4 off4 sz4 b4
      by_cases h16 : i < 16
      · have hr := HR.out.symm.trans (wr_yes i h16)
        have e1 := Prod.mk.inj hr
        have e2 := Prod.mk.inj e1.2
        have hRE : RE = 0 := e2.2
        subst hRE
        have H4C := H4.out
        rw [e1.1] at H4C
        have CR := Read_is (i := RI) (r := some (filD i)) (e := 0) TB.out H4C B4.out (by rw [e2.1]; exact (goodD.each i h16).1) (by rw [e2.1]; exact notE_D i h16) (by rw [e2.1]; exact rd_yes i h16)
        rw [HAD.out] at CR
        have CR := Lib.hid CR
        have CIL := Lib.hid (fun u (hu : Below w4.heap.size w4 u) => ids_few (H4.out.below hu) (by rw [e1.1]; simp [chC]; omega))
        have HML := Lib.hid (show RM.length = i + 1 by rw [e1.1]; simp [chC])
        have g16 : ¬ ((i : Int) + 1 > 16) := by omega
        clear hr e1 e2 H4C
        go_wp2_with (first
          | (with_reducible refine wpList_load_all 27 (.tmp 7) rfl (by kernel_rfl) w3.heap.size AD 27 (0, 0) rfl R4.out _ Tryz.underlying27 rfl ID.out ?_)
          | fail)
        refine CR.out.mono ?_
        rintro e9 w5 ⟨v, rfl, hr, b5⟩
        obtain ⟨bb, oo, cc, rfl, -, -, hat, hbb⟩ := read_one hr rfl
        have HATX := Lib.hid hat; have B5 := Lib.hid b5
        clear hr b5 hat hbb CR
        go_wp2_with fail
        refine (CA.out w5 B5.out).mono ?_
        rintro e9 w6 ⟨rfl, b6⟩
        have CP := Lib.hid (PlainFil_any (some ⟨bb, oo, none⟩) (some ⟨w.heap.size, 0, none⟩) 1 cc 1 [filD i] w6 (HATX.out.keep b6) ((HAT4.out.keep B5.out).keep b6) rfl (by decide) (fun x hx => by rw [List.mem_singleton.1 hx]; rfl))
        have B6 := Lib.hid (B5.out.trans (b6.mono B5.out.size))
        clear b6 CA
        go_wp2_with fail
        refine CP.out.mono ?_
        rintro e9 w7 ⟨rfl, b7⟩
        have B7 := Lib.hid (B6.out.trans (b7.mono B6.out.size))
        have CI := CIL.out w7 B7.out
        rw [HML.out] at CI
        have CI := Lib.hid CI
        clear b7 CP CIL
        go_wp2_with fail
        refine CI.out.mono ?_
        rintro e9 w8 ⟨a8, c8, rfl, b8⟩
        have B8 := Lib.hid (B4.out.trans ((B7.out.trans (b8.mono B7.out.size)).mono B4.out.size))
        have hcast : ((i + 1 : Nat) : Int) = (i : Int) + 1 := rfl
        clear b8 CI
        go_wp2
        go_ret
        exact ⟨rfl, B8.out⟩
      · have hr := HR.out.symm.trans (wr_no i R3.out (by omega))
        have e1 := Prod.mk.inj hr
        have e2 := Prod.mk.inj e1.2
        have hRE : RE = 11 := e2.2
        subst hRE
        have hAZ : arrD zeroId = AD := by rw [← HAD.out, e2.1]
        have hDZ : AD = zd := by rw [← hAZ, HZD.out]; rfl
        subst hDZ
        have EQ := fun w => eq_zero AD hAZ w
        have CIL := Lib.hid (fun u (hu : Below w4.heap.size w4 u) => ids_few (H4.out.below hu) (by rw [e1.1]; decide))
        have HML := Lib.hid (show RM.length = 0 by rw [e1.1]; rfl)
        have g16 : (i : Int) + 1 > 16 := by omega
        clear hr e1 e2 hAZ h16
        go_wp2_with fail
        refine (CA.out w4 (Below.refl _ _)).mono ?_
        rintro e9 w6 ⟨rfl, b6⟩
        have R6 := Lib.hid (heap_keep R4.out b6)
        have CI := CIL.out w6 b6
        rw [HML.out] at CI
        have CI := Lib.hid CI
        have B6 := Lib.hid (B4.out.trans (b6.mono B4.out.size))
        clear b6 CA CIL
        go_wp2_with (first
          | (with_reducible refine wpList_load_all 27 (.tmp 7) rfl (by kernel_rfl) w3.heap.size AD 27 (0, 0) rfl R6.out _ Tryz.underlying27 rfl ID.out ?_)
          | fail)
        refine CI.out.mono ?_
        rintro e9 w8 ⟨a8, c8, rfl, b8⟩
        have B8 := Lib.hid (B6.out.trans (b8.mono B6.out.size))
        clear b8 CI
        go_wp2
        go_ret
        exact ⟨rfl, B8.out⟩
end Go.Proofs.YtnohonjjfjppoaaGreatDoor.flatDeep
