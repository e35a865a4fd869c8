/-
  The law ObjectsNil: its walk.
-/
import Derived.Test.YtpelehhmdcjikaaGreatDoorFu21
import Derived.Test.YtpelehhmdcjikaaGreatDoorFu23
import Derived.Test.YtpelehhmdcjikaaGreatDoorFu25
import Derived.Test.YtpelehhmdcjikaaGreatDoorFu12
namespace Go.Proofs.YtpelehhmdcjikaaGreatDoor.objectsNil
set_option maxRecDepth 20000
open Go.RowKit
set_option linter.unusedVariables false
set_option linter.unusedSimpArgs false
set_option maxHeartbeats 64000000 in
theorem walk (w : World) (k : Int) (h0 : -9223372036854775808 ≤ k) (h1 : k ≤ 9223372036854775807) (a : Option Addr) (n c : Nat) (l : List UInt8) (hb : BAt w a l) (hl : n = l.length) (hno : a = none → n = 0 ∧ c = 0) (hc : n ≤ c ∧ c ≤ maxLen) (i : List UInt8) (hi : i.length = 20) (tab : T10 w) :
    Calls Tryz.prog 4 #[.agg #[.int .i64 k, .slice a n c], .agg (arrD i)] w fun e w' => e = .returned (.bool true) ∧ Below w.heap.size w w' := by
  clear hb hl hno hc h0 h1
  obtain ⟨A1, hA1⟩ : ∃ A, arrD i = A := ⟨_, rfl⟩
  have sA : A1.size = 20 := by rw [← hA1]; exact arrD_size i hi
  have b1 := (Below.refl w.heap.size w).alloc (Nat.le_refl _) (.cells #[.int .i64 k, .slice a n c] 34)
  have b2 := b1.alloc b1.size (.cells A1 24)
  have hs1 : (w.alloc (.cells #[.int .i64 k, .slice a n c] 34)).heap.size = w.heap.size + 1 := by simp
  have h02 := heap_alloc_new (w.alloc (.cells #[.int .i64 k, .slice a n c] 34)) (.cells A1 24)
  have h01 := (((Below.refl (w.alloc (.cells #[.int .i64 k, .slice a n c] 34)).heap.size (w.alloc (.cells #[.int .i64 k, .slice a n c] 34))).alloc (Nat.le_refl _) (.cells A1 24)).block w.heap.size (by simp)).trans (heap_alloc_new w (.cells #[.int .i64 k, .slice a n c] 34))
  rw [hs1] at h02
  have H1 := Lib.hid h01; have H2 := Lib.hid h02; have B2 := Lib.hid b2
  have IA := Lib.hid (show (Tryz.prog.info? 24).map (·.size) = some A1.size from by rw [sA]; exact infoD_n)
  have TB := Lib.hid tab
  have CP := Lib.hid (fun u => PutP_nil k (.slice a n c) u)
  have CG := Lib.hid (fun u => GetP_nil i hi u)
  have CT := Lib.hid (fun u => TreeP_nil i hi u)
  have CC := Lib.hid (fun u => CommitP_nil i hi u)
  have CB := Lib.hid (fun u => BlobP_nil i hi u)
  obtain ⟨z, hz0, hzs, hzv, hzb, hz1⟩ := zId_any
  obtain ⟨r, hr0, hrs, hrv, hrb, hr1⟩ := zRec_any
  have ZB := Lib.hid hzb; have Z1 := Lib.hid hz1; have ZS := Lib.hid hzs; have Z0 := Lib.hid hz0
  have RB := Lib.hid hrb; have R1 := Lib.hid hr1; have RS := Lib.hid hrs; have R0 := Lib.hid hr0
  have IZ := Lib.hid (show (Tryz.prog.info? 24).map (·.size) = some z.size from by rw [hzs]; exact infoD_n)
  have IR := Lib.hid (show (Tryz.prog.info? 54).map (·.size) = some r.size from by rw [hrs]; exact infoC)
  rw [hA1] at CG CT CC CB ⊢
  rw [← hz0] at CP
  rw [← hr0] at CC
  clear b1 b2 h01 h02 hs1 sA tab hz0 hzs hzb hz1 hr0 hrs hrb hr1 hA1
  obtain ⟨y0, y1⟩ := cells2 H1.out
  go_enter Tryz.func4, Tryz.ntmps4
  go_wp2_with fail
  refine (CP.out _).mono ?_
  rintro e w1 ⟨rfl, hb1⟩
  have HB1 := Lib.hid (B2.out.trans (hb1.mono B2.out.size))
  have H21 := Lib.hid ((hb1.block (w.heap.size + 1) (lt_of_heap H2.out)).trans H2.out)
  clear hb1 y0 y1
  go_wp2_with (first
    | (with_reducible refine wpList_store_all rfl 24 (.tmp 6) (.tmp 20) rfl w1.heap.size z rfl rfl 24 z (heap_alloc_new w1 _) IZ.out rfl Z1.out ?_)
    | fail)
  intro w2 r2 off2 sz2
  have b12 : Below w1.heap.size w1 w2 := ((Below.refl w1.heap.size w1).alloc (Nat.le_refl _) (.cells z 24)).trans (off2.below (Nat.le_refl _) (by simp))
  have HB2 := Lib.hid (HB1.out.trans (b12.mono HB1.out.size))
  have H22 := Lib.hid ((b12.block (w.heap.size + 1) (lt_of_heap H21.out)).trans H21.out)
  have Z2 := Lib.hid r2
  clear r2 off2 sz2 b12
  go_wp2_with (first
    | (with_reducible refine wpList_load_all 24 (.tmp 3) rfl (by kernel_rfl) (w.heap.size + 1) A1 24 (0, 0) rfl H22.out _ Tryz.underlying24 rfl IA.out ?_)
    | fail)
  refine (CG.out _).mono ?_
  rintro e w3 ⟨rfl, hb3⟩
  have HB3 := Lib.hid (HB2.out.trans (hb3.mono HB2.out.size))
  have H23 := Lib.hid ((hb3.block (w.heap.size + 1) (lt_of_heap H22.out)).trans H22.out)
  have Z3 := Lib.hid ((hb3.block w1.heap.size (lt_of_heap Z2.out)).trans Z2.out)
  clear hb3
  go_wp2_with (first
    | (with_reducible refine wpList_store_obj rfl (.tmp 8) (.tmp 26) rfl w3.heap.size (.int .i64 0) (.slice none 0 0) (.int .i64 0) (.slice none 0 0) rfl rfl (heap_alloc_new w3 _) (one_obj 0 none 0 0) ?_)
    | fail)
  intro w4 r4 bl4 off4 sz4
  have b34 : Below w3.heap.size w3 w4 := bl4 _ _ (Nat.le_refl _) ((Below.refl w3.heap.size w3).alloc (Nat.le_refl _) (.cells #[.int .i64 0, .slice none 0 0] 34))
  have HB4 := Lib.hid (HB3.out.trans (b34.mono HB3.out.size))
  have H24 := Lib.hid ((b34.block (w.heap.size + 1) (lt_of_heap H23.out)).trans H23.out)
  have Z4 := Lib.hid ((b34.block w1.heap.size (lt_of_heap Z3.out)).trans Z3.out)
  have O4 := Lib.hid r4
  clear r4 bl4 off4 sz4 b34
  go_wp2_with (first
    | (with_reducible refine wpList_load_all 24 (.tmp 3) rfl (by kernel_rfl) (w.heap.size + 1) A1 24 (0, 0) rfl H24.out _ Tryz.underlying24 rfl IA.out ?_)
    | fail)
  refine (CT.out _).mono ?_
  rintro e w5 ⟨rfl, hb5⟩
  have HB5 := Lib.hid (HB4.out.trans (hb5.mono HB4.out.size))
  have H25 := Lib.hid ((hb5.block (w.heap.size + 1) (lt_of_heap H24.out)).trans H24.out)
  have Z5 := Lib.hid ((hb5.block w1.heap.size (lt_of_heap Z4.out)).trans Z4.out)
  have O5 := Lib.hid ((hb5.block w3.heap.size (lt_of_heap O4.out)).trans O4.out)
  clear hb5
  go_wp2_with (first
    | (with_reducible refine wpList_load_all 24 (.tmp 3) rfl (by kernel_rfl) (w.heap.size + 1) A1 24 (0, 0) rfl H25.out _ Tryz.underlying24 rfl IA.out ?_)
    | fail)
  refine (CC.out _).mono ?_
  rintro e w6 ⟨rfl, hb6⟩
  have HB6 := Lib.hid (HB5.out.trans (hb6.mono HB5.out.size))
  have H26 := Lib.hid ((hb6.block (w.heap.size + 1) (lt_of_heap H25.out)).trans H25.out)
  have Z6 := Lib.hid ((hb6.block w1.heap.size (lt_of_heap Z5.out)).trans Z5.out)
  have O6 := Lib.hid ((hb6.block w3.heap.size (lt_of_heap O5.out)).trans O5.out)
  clear hb6
  go_wp2_with (first
    | (with_reducible refine wpList_store_all rfl 54 (.tmp 12) (.tmp 38) rfl w6.heap.size r rfl rfl 54 r (heap_alloc_new w6 _) IR.out rfl R1.out ?_)
    | fail)
  intro w7 r7 off7 sz7
  have b67 : Below w6.heap.size w6 w7 := ((Below.refl w6.heap.size w6).alloc (Nat.le_refl _) (.cells r 54)).trans (off7.below (Nat.le_refl _) (by simp))
  have HB7 := Lib.hid (HB6.out.trans (b67.mono HB6.out.size))
  have H27 := Lib.hid ((b67.block (w.heap.size + 1) (lt_of_heap H26.out)).trans H26.out)
  have Z7 := Lib.hid ((b67.block w1.heap.size (lt_of_heap Z6.out)).trans Z6.out)
  have O7 := Lib.hid ((b67.block w3.heap.size (lt_of_heap O6.out)).trans O6.out)
  have C7 := Lib.hid r7
  clear r7 off7 sz7 b67
  go_wp2_with (first
    | (with_reducible refine wpList_load_all 24 (.tmp 3) rfl (by kernel_rfl) (w.heap.size + 1) A1 24 (0, 0) rfl H27.out _ Tryz.underlying24 rfl IA.out ?_)
    | fail)
  refine (CB.out _).mono ?_
  rintro e w8 ⟨⟨ab, cb, rfl⟩, hb8⟩
  have HB8 := Lib.hid (HB7.out.trans (hb8.mono HB7.out.size))
  have Z8 := Lib.hid ((hb8.block w1.heap.size (lt_of_heap Z7.out)).trans Z7.out)
  have O8 := Lib.hid ((hb8.block w3.heap.size (lt_of_heap O7.out)).trans O7.out)
  have C8 := Lib.hid ((hb8.block w6.heap.size (lt_of_heap C7.out)).trans C7.out)
  clear hb8
  have CA := Lib.hid (awake10 w8 (TB.out.keep HB8.out).pow)
  go_wp2_with fail
  refine CA.out.mono ?_
  rintro e w9 ⟨rfl, hb9⟩
  have HB9 := Lib.hid (HB8.out.trans (hb9.mono HB8.out.size))
  have Z9 := Lib.hid ((hb9.block w1.heap.size (lt_of_heap Z8.out)).trans Z8.out)
  have o9 := (hb9.block w3.heap.size (lt_of_heap O8.out)).trans O8.out
  have C9 := Lib.hid ((hb9.block w6.heap.size (lt_of_heap C8.out)).trans C8.out)
  have eqz : ∀ u, (binOp .eql 24 (.agg z) (.agg z)).run Tryz.prog u = .ok (.bool true) u := fun u => by
    rw [Z0.out]
    have q := eql_arrD idZ idZ (by simp [idZ]) (by simp [idZ]) u
    rw [show eqD idZ idZ = true by simp [eqD]] at q
    exact q
  obtain ⟨q0, q1⟩ := cells2 o9
  have HO9 := Lib.hid o9
  clear hb9 o9 CA
  go_wp2_with (first
    | (with_reducible refine wpList_load_all 24 (.tmp 6) rfl (by kernel_rfl) w1.heap.size z 24 (0, 0) rfl Z9.out _ Tryz.underlying24 rfl IZ.out ?_)
    | (refine wpList_build_none rfl 24 rfl z ZB.out ?_)
    | fail)
  refine (Object_any 0 0 (.slice none 0 0) (.slice none 0 0) [] [] w9 (Red.none _) (Red.none _)).mono ?_
  rintro e w10 ⟨rfl, hb10⟩
  have HB10 := Lib.hid (HB9.out.trans (hb10.mono HB9.out.size))
  have C10 := Lib.hid ((hb10.block w6.heap.size (lt_of_heap C9.out)).trans C9.out)
  rw [show ((0 : Int) == 0 && ([] : List UInt8) == []) = true from rfl]
  have CR := Lib.hid (fun u => by
    have q := Record_same idZ none none 0 0 0 [] zT zT [] u (by simp [idZ]) (IdsAt.nil u none) (IdsAt.nil u none) rfl (by omega) (fun i hi => by cases hi)
    rw [show arrC idZ (.slice none 0 0) zT zT [] = r from R0.out.symm] at q
    exact q)
  clear hb10 q0 q1
  go_wp2_with (first
    | (with_reducible refine wpList_load_all 54 (.tmp 12) rfl (by kernel_rfl) w6.heap.size r 54 (0, 0) rfl C10.out _ Tryz.underlying54 rfl IR.out ?_)
    | (refine wpList_build_none rfl 54 rfl r RB.out ?_)
    | fail)
  refine (CR.out _).mono ?_
  rintro e w11 ⟨rfl, hb11⟩
  have HB11 := Lib.hid (HB10.out.trans (hb11.mono HB10.out.size))
  clear hb11 CR
  go_wp2_with fail
  refine (IdsP_nil w11).mono ?_
  rintro e w12 ⟨rfl, rfl⟩
  go_wp2_with fail
  refine (ForkP_nil _).mono ?_
  rintro e w13 ⟨rfl, rfl⟩
  go_wp2
  go_ret
  exact ⟨rfl, HB11.out⟩
end Go.Proofs.YtpelehhmdcjikaaGreatDoor.objectsNil
