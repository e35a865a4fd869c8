/-
  Texts that belong together, one behind the other.
-/
import Derived.Test.YtgbmbemmkadagaaFu41
import Derived.Lib.SlBytesConst
import Derived.Test.YtgbmbemmkadagaaRows
import Derived.ProofKit
import Derived.OpenShut
import Derived.Below
import Derived.Carry
/-
  Layer 15, the laws' helper: awake.
-/
namespace Go.Proofs.Ytgbmbemmkadagaa
set_option maxRecDepth 20000
open Go.RowKit Go.Maps
set_option linter.unusedVariables false
set_option linter.unusedSimpArgs false

theorem bat1L (w : World) (x : UInt8) (fr : Nat × Nat) : BAt (w.alloc (.cells #[.int .u8 x.toNat] 5 fr)) (some ⟨w.heap.size, 0, none⟩) [x] := fun _ =>
  ⟨w.heap.size, 0, rfl, by simp, fun i hi => by
    rw [Lib.cell_of_heap (heap_alloc_new w _)]
    match i, hi with
    | 0, _ => rfl⟩
theorem may_zero (L : LogV) : mayV L idZ = true := by
  unfold mayV
  rw [show (idZ == zeroV) = true from rfl]
  rfl
/-- The log of one text. -/
theorem add_first (t p q : List UInt8) (hl : t.length ≤ 65536) (hp : mayV [] p = true) (hq : mayV [] q = true) : errV [] t p q = 0 ∧ toldV [] t p q = nodeV t p q ∧ addV [] t p q = [⟨nodeV t p q, p, q, t, 0⟩] := by
  have h0 : errV [] t p q = 0 := by
    unfold errV
    rw [if_neg (by omega), if_neg (by rw [hp, hq]; decide)]
    rfl
  refine ⟨h0, ?_, ?_⟩
  · unfold toldV
    rw [if_pos h0]
  · unfold addV
    rw [if_pos ⟨h0, rfl⟩]
    rfl
set_option maxHeartbeats 16000000 in
theorem awake15 (w : World) : Calls Try.prog 8 #[] w fun e w' => e = .returned (.bool true) ∧ Below w.heap.size w w' := by
  have kc := Lib.run_convert_bytes_const (P := Try.prog) (w.alloc (.cells #[.slice none 0 0, .map none] 66)) 32 5 #[Value.int .u8 97] 1 1 Try.underlying32 Try.underlying5
  rw [show (#[Value.int .u8 97] : Array Value).size = 1 from rfl] at kc
  have hs0 : (w.alloc (.cells #[.slice none 0 0, .map none] 66)).heap.size = w.heap.size + 1 := by simp
  rw [hs0] at kc
  obtain ⟨z, hz0, hzs, hzv, hzb, hz1⟩ := zId_any
  have CN := Lib.hid (newL_is w)
  have b0 := (Below.refl w.heap.size w).alloc (Nat.le_refl _) (.cells #[.slice none 0 0, .map none] 66)
  have s0 := LogP.new (fun j => j = w.heap.size) w rfl
  have ZB := Lib.hid hzb; have Z0 := Lib.hid hz0; have ZS := Lib.hid hzs
  clear hz0 hzs hzb hz1
  go_enter Try.func8, Try.ntmps8
  go_wp2_with (first
    | (go_at_call 7; refine CN.out.mono ?_; rintro e w1 ⟨rfl, rfl⟩)
    | (refine wpList_build_none rfl 24 rfl z ZB.out ?_)
    | fail)
  obtain ⟨w1, hw1⟩ : ∃ w1, w.alloc (.cells #[.slice none 0 0, .map none] 66) = w1 := ⟨_, rfl⟩
  rw [hw1] at b0 s0 hs0 ⊢
  rw [← hs0]
  obtain ⟨w2, hw2⟩ : ∃ w2, w1.alloc (.cells #[.int .u8 97] 5 (1, 2)) = w2 := ⟨_, rfl⟩
  have ba : BAt w2 (some ⟨w1.heap.size, 0, none⟩) [97] := by rw [← hw2]; exact bat1L w1 97 (1, 2)
  have b12 : Below w1.heap.size w1 w2 := by rw [← hw2]; exact (Below.refl _ _).alloc (Nat.le_refl _) _
  have B2 := b0.trans (b12.mono b0.size)
  have CA := addL_is (s0.below b12) (fun k hk => by rw [hk]; have := b12.size; omega) (fun r hr => by cases hr) (some ⟨w1.heap.size, 0, none⟩) 1 1 [97] idZ idZ ba rfl (fun h => by cases h) (Nat.le_refl _) (by decide) rfl rfl
  obtain ⟨f1, f2, f3⟩ := add_first [97] idZ idZ (by decide) (may_zero _) (may_zero _)
  rw [f1, f2, f3] at CA
  have hnl := nodeV_len [97] idZ idZ
  have hnz : ∀ x, (⟨nodeV [97] idZ idZ, idZ, idZ, [97], 0⟩ : Rvl) = x → atLv [x] (nodeV [97] idZ idZ) = some 0 := fun x hx => by rw [← hx]; unfold atLv; rw [if_pos rfl]
  obtain ⟨R, hR⟩ : ∃ R : Rvl, ⟨nodeV [97] idZ idZ, idZ, idZ, [97], 0⟩ = R := ⟨_, rfl⟩
  have hat := hnz R hR
  have hRt : R.t = [97] ∧ R.c = 0 := by rw [← hR]; exact ⟨rfl, rfl⟩
  rw [hR] at CA
  obtain ⟨nd, hnd⟩ : ∃ nd, nodeV [97] idZ idZ = nd := ⟨_, rfl⟩
  rw [hnd] at CA hat hnl
  rw [← Z0.out] at CA
  have CA := Lib.hid CA; have HB2 := Lib.hid B2; have HAT := Lib.hid hat; have HNL := Lib.hid hnl; have HRT := Lib.hid hRt
  rw [hw2]
  clear s0 ba b12 B2 b0 kc hw2 hw1 CN f1 f2 f3 hnl hnz hR hat hRt hnd
  refine CA.out.mono ?_
  rintro e w3 ⟨rfl, hS3, hC3⟩
  have HB3 := Lib.hid (HB2.out.trans (hC3.below HB2.out.size (fun j _ hj => Nat.le_of_eq hj.symm)))
  obtain ⟨I, hI⟩ : ∃ I, arrD nd = I := ⟨_, rfl⟩
  have IS := Lib.hid (show I.size = 20 by rw [← hI]; exact arrD_size _ HNL.out)
  have IO := Lib.hid (show I.all (·.oneCell') = true by rw [← hI]; exact arrD_one _)
  have II := Lib.hid (infoD_arr I IS.out)
  have CT := fun u (hu : Below w3.heap.size w3 u) => textL_some (hS3.below hu) nd HNL.out HAT.out (Nat.one_pos)
  have CL := Lib.hid (fun u (hu : Below w3.heap.size w3 u) => (show Calls Try.prog 14 #[.pointer (some ⟨w.heap.size, 0, none⟩)] u fun e w' => e = .returned (.int .i64 1) ∧ w' = u from lenL_is (hS3.below hu)))
  have ca : chainAt [R] 0 = 0 := ((chainAt_in (L := [R]) (k := 0) (Nat.one_pos)).1).trans (by rw [show ([R][0]).c = 0 from HRT.out.2]; rfl)
  have CC := Lib.hid (fun u (hu : Below w3.heap.size w3 u) => (show Calls Try.prog 22 #[.pointer (some ⟨w.heap.size, 0, none⟩), .int .i64 0] u fun e w' => e = .returned (.int .i64 0) ∧ Below u.heap.size u w' by have q := chainN_is (hS3.below hu) 0; rw [ca] at q; exact q))
  rw [hI] at CT
  have CT := Lib.hid CT
  have SIZ := Lib.hid (show I.size = z.size by rw [IS.out, ZS.out])
  rw [hI]
  clear hS3 hC3 CA hI
  have NW := Lib.hid (heap_alloc_new w3 (.cells z 24))
  go_wp2_with (first
    | (with_reducible refine wpList_store_all rfl 24 (.tmp 2) (.tmp 16) rfl w3.heap.size I rfl rfl 24 z NW.out II.out SIZ.out IO.out ?_; intro w4 r4 off4 sz4; have HB34 := Lib.hid (((Below.refl w3.heap.size w3).alloc (Nat.le_refl _) (.cells z 24)).trans (off4.below (Nat.le_refl _) (by simp))); have R4 := Lib.hid r4; clear r4 off4 sz4)
    | (with_reducible refine wpList_load_all 24 (.tmp 2) rfl (by kernel_rfl) w3.heap.size I 24 (0, 0) rfl R4.out _ Try.underlying24 rfl II.out ?_)
    | fail)
  refine (CT.out _ HB34.out).mono ?_
  rintro e w5 ⟨v5, rfl, hr5, -, hb5⟩
  obtain ⟨va, vc, e5, -, -, hba5, -⟩ := hr5.shape
  rw [show ([R][0]).t = [97] from HRT.out.1] at e5 hba5
  rw [show ([97] : List UInt8).length = 1 from rfl] at e5
  subst e5
  have cv := hba5.conv (P := Try.prog) vc 32 5 Try.underlying32 Try.underlying5 9 Try.underlying9
  rw [show ([97] : List UInt8).length = 1 from rfl] at cv
  have HB5 := Lib.hid (HB34.out.trans (hb5.mono HB34.out.size))
  have CL5 := Lib.hid (CL.out _ HB5.out)
  have CC5 := Lib.hid (CC.out _ HB5.out)
  clear hr5 hb5 hba5 CT CL CC ca
  go_wp2_with fail
  refine CL5.out.mono ?_
  rintro e w6 ⟨rfl, rfl⟩
  go_wp2_with fail
  refine CC5.out.mono ?_
  rintro e w7 ⟨rfl, hb7⟩
  have HB7 := Lib.hid (HB3.out.trans ((HB5.out.trans (hb7.mono HB5.out.size)).mono HB3.out.size))
  clear hb7 cv
  go_wp2
  go_ret
  exact ⟨rfl, HB7.out⟩
end Go.Proofs.Ytgbmbemmkadagaa

/-
  What a law's frame shares where no table is listed: how the world is laid, bounds of a byte.
-/
namespace Go.Proofs.Ytgbmbemmkadagaa
open Go.ChangeShapes Go.WideShapes Go.ChangeAt Go.RowKit
set_option linter.unusedVariables false

theorem laidOut : laidOutB Try.prog = true := by kernel_rfl
theorem lt_of_cell {w : World} {a : Addr} {v : Value} (h : w.cell? a = some v) : a.block < w.heap.size := by
  rcases Nat.lt_or_ge a.block w.heap.size with h' | h'
  · exact h'
  · simp [World.cell?, Array.getElem?_eq_none h'] at h
theorem bounds_byte {n : Int} (h : (Lit.int .u8 n).wf = true) : 0 ≤ n ∧ n ≤ 255 := by
  have e1 : IntKind.u8.min = 0 := rfl
  have e2 : IntKind.u8.max = 255 := rfl
  simpa [Lit.wf, e1, e2] using h
end Go.Proofs.Ytgbmbemmkadagaa
