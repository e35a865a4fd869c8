/-
  Texts that belong together, one behind the other.
-/
import Derived.Test.YtnbcbiglkmdepaaGreatDoorFu07
import Derived.Deep.RegionLaw
import Derived.OwnWalk
import Derived.Lib.LaidU8T
import Derived.PinnedBridge
import Derived.Test.YtnbcbiglkmdepaaGreatDoorFu01
import Derived.Shelf.Unicode.ValidAny
import Derived.Test.YtnbcbiglkmdepaaGreatDoorFu02
import Derived.Test.YtnbcbiglkmdepaaGreatDoorFu05
import Derived.Deep.QuietTactic
import Derived.BigQuiet
import Derived.Test.YtnbcbiglkmdepaaGreatDoorFu06
import Derived.Lib.RuneCountTail
import Derived.ScopeJumps
import Derived.WalkMore
set_option maxHeartbeats 64000000
set_option linter.unusedVariables false
set_option linter.unusedSimpArgs false
open Go.Lib renaming hid → hyd
namespace Go.Proofs.YtnbcbiglkmdepaaGreatDoor
set_option maxRecDepth 20000
open Go.RowKit
def itemR (b : List UInt8) : Value := match takeI b with
 | none => .tuple #[.agg (arrI zItm), .int .i64 0, .bool false]
 | some (i, r) => .tuple #[.agg (arrI i), .int .i64 ((b.length - r.length : Nat) : Int), .bool true]
theorem takeI_mode (b : List UInt8) : takeI b = match modeAt b with
 | none => none
 | some m =>
  if (b.drop ((modeL m).length + 1)).length < (b.drop ((modeL m).length + 1)).findIdx (· == 0) + 21 then none
  else some (⟨m, (b.drop ((modeL m).length + 1)).take ((b.drop ((modeL m).length + 1)).findIdx (· == 0)), ((b.drop ((modeL m).length + 1)).drop ((b.drop ((modeL m).length + 1)).findIdx (· == 0) + 1)).take 20⟩,
   (b.drop ((modeL m).length + 1)).drop ((b.drop ((modeL m).length + 1)).findIdx (· == 0) + 21)) := rfl
theorem item_none {b : List UInt8} (h : modeAt b = none) : itemR b = .tuple #[.agg (arrI zItm), .int .i64 0, .bool false] := by
 unfold itemR; rw [takeI_mode, h]
theorem item_short {b : List UInt8} {m : Int} {k : Nat} (h : modeAt b = some m) (hk : (modeL m).length + 1 = k) (hl : (b.drop k).length < (b.drop k).findIdx (· == 0) + 21) : itemR b = .tuple #[.agg (arrI zItm), .int .i64 0, .bool false] := by
 unfold itemR; rw [takeI_mode, h]; simp only; rw [hk, if_pos hl]
theorem item_whole {b : List UInt8} {m : Int} {k e : Nat} (h : modeAt b = some m) (hk : (modeL m).length + 1 = k) (he : (b.drop k).findIdx (· == 0) = e) (hl : ¬ b.length < k + e + 21) :
  itemR b = .tuple #[.agg (arrI ⟨m, (b.drop k).take e, (b.drop (k + e + 1)).take 20⟩), .int .i64 ((k + e + 1 + 20 : Nat) : Int), .bool true] := by
 unfold itemR; rw [takeI_mode, h]; simp only; rw [hk, he, if_neg (by rw [List.length_drop]; omega)]; simp only [List.drop_drop, List.length_drop]; rw [show k + (e + 1) = k + e + 1 by omega, show b.length - (b.length - (k + (e + 21))) = k + e + 1 + 20 by omega]
theorem mode_le {b : List UInt8} {m : Int} (h : modeAt b = some m) : (1 ≤ m ∧ m ≤ 4) ∧ (modeL m).length + 1 ≤ b.length := by
 obtain ⟨h1, h2⟩ := find_some h; have h3 := congrArg List.length h2; refine ⟨h1, ?_⟩; rw [List.length_append, List.length_cons] at h3
 omega
theorem takeItem_is (l : List UInt8) (w : World) (hn : l.length ≤ 1000000) :
  Calls Tryz.prog 80 #[.string ⟨l.toArray⟩] w fun e w' => e = .returned (itemR l) ∧ Below w.heap.size w w' := by
 obtain ⟨z, hz, hzs, hzv, hzb, hz1⟩ := zItem_any; have HZB := hyd hzb; have HZ1 := hyd hz1; have HZS := hyd hzs; have HZ := hyd hz
 have hmo := fun w => takeMode_is l w hn
 have hsz := size_toArray l; obtain ⟨R, hR⟩ : ∃ R, itemR l = R := ⟨_, rfl⟩; have HR := hyd hR; rw [hR]; have EX := hyd (fun a b => ext_list l a b); obtain ⟨s, hs⟩ : ∃ s : ByteArray, ⟨l.toArray⟩ = s := ⟨_, rfl⟩; rw [hs] at hmo hsz EX ⊢; have b0 := (Below.refl w.heap.size w).alloc (Nat.le_refl _) (.cells z 77); have g0 := heap_alloc_new w (.cells z 77)
 have s0 : (w.alloc (.cells z 77)).heap.size = w.heap.size + 1 := by simp
 have HB0 := hyd b0; have HG0 := hyd g0; have HS0 := hyd s0; clear hs hzb hz1 hzs hR hz b0 g0 s0
 cases hm : modeAt l with
 | none =>
  have hr : R = .tuple #[.agg z, .int .i64 0, .bool false] := by rw [← HR.out, item_none hm, HZ.out]
  have HRR := hyd hr
  have e0 : modeR l = (0, 0) := by unfold modeR; rw [hm]
  rw [e0] at hmo
  have x0 : s.extract 0 l.length = ⟨l.toArray⟩ := by rw [EX.out]; simp
  have cI := fun w => indexOf_is 0 (by decide) l 0 rfl w hn
  generalize (⟨l.toArray⟩ : ByteArray) = sx at x0 cI; generalize (seekI l 0).1 = q1 at cI; generalize (seekI l 0).2 = q2 at cI; clear hr e0 hm
  go_enter Tryz.func80, Tryz.ntmps80
  go_wp2_with fail
  refine (hmo _).mono ?_; rintro e w1 ⟨rfl, rfl⟩
  go_wp2_with fail
  refine (cI _).mono ?_; rintro e w1 ⟨rfl, b1⟩; have g1 := (b1.block w.heap.size (by rw [HS0.out]; omega)).trans HG0.out; have bw := HB0.out.trans (b1.mono HB0.out.size); have HG1 := hyd g1; have HBW := hyd bw; clear b1 g1 bw cI
  go_wp2_with (first
   | (with_reducible refine wpList_build_as rfl 77 _ rfl z HZB.out ?_)
   | (with_reducible refine wpList_store_row rfl 77 (.tmp 2) (.tmp 28) rfl w.heap.size z rfl rfl 77 z HG1.out (info_arr z HZS.out) rfl HZ1.out ?_)
   | fail)
  refine bodyPost_ret (results_item3 Tryz.results80 _ _ w.heap.size z (0, 0) _ _ rfl rfl rfl (setRow_heap _ w.heap.size z z _ (0, 0) HG1.out) HZS.out) rfl ⟨by rw [HRR.out]; rfl, below_setRow HBW.out (Nat.le_refl _) _⟩
 | some m =>
  obtain ⟨hm1, hm2⟩ := mode_le hm; obtain ⟨k, hk⟩ : ∃ k, (modeL m).length + 1 = k := ⟨_, rfl⟩; rw [hk] at hm2
  have e0 : modeR l = (m, (k : Int)) := by unfold modeR; rw [hm]; simp only; rw [hk]
  rw [e0] at hmo
  have hk5 : 6 ≤ k := by have := modeL_len m; omega
  have x0 : s.extract k l.length = ⟨(l.drop k).toArray⟩ := by rw [EX.out, List.take_of_length_le (by rw [List.length_drop]; omega)]
  have cI := fun w => indexOf_is 0 (by decide) (l.drop k) 0 rfl w (by rw [List.length_drop]; omega)
  have k0 : ((k : Int) == 0) = false := beq_false_of_ne (by omega)
  have j1 : (0 : Int) ≤ (k : Int) := by omega
  have j2 : (k : Int) ≤ (l.length : Int) := by omega
  have j3 : (k : Int) ≤ (s.size : Int) := by omega
  by_cases hf : (l.drop k).findIdx (· == 0) < (l.drop k).length
  ·have e1 : seekI (l.drop k) 0 = ((l.drop k).findIdx (· == 0), true) := by unfold seekI; rw [if_pos hf]
   rw [e1] at cI; obtain ⟨e, he⟩ : ∃ e, (l.drop k).findIdx (· == 0) = e := ⟨_, rfl⟩; rw [he] at cI hf
   have hke : k + e < l.length := by rw [List.length_drop] at hf; omega
   generalize (⟨(l.drop k).toArray⟩ : ByteArray) = sx at x0 cI
   by_cases hl : l.length < k + e + 21
   ·have hr : R = .tuple #[.agg z, .int .i64 0, .bool false] := by rw [← HR.out, item_short hm hk (by rw [he, List.length_drop]; omega), HZ.out]
    have HRR := hyd hr; clear hr e0 e1 hm hk he hf
    go_enter Tryz.func80, Tryz.ntmps80
    go_wp2_with fail
    refine (hmo _).mono ?_; rintro e w1 ⟨rfl, rfl⟩
    go_wp2_with fail
    refine (cI _).mono ?_; rintro e w1 ⟨rfl, b1⟩; have g1 := (b1.block w.heap.size (by rw [HS0.out]; omega)).trans HG0.out; have bw := HB0.out.trans (b1.mono HB0.out.size); have HG1 := hyd g1; have HBW := hyd bw; clear b1 g1 bw cI; obtain ⟨nm, hnm⟩ : ∃ nm, (l.drop k).take e = nm := ⟨_, rfl⟩
    have x1 : s.extract k (k + e) = ⟨nm.toArray⟩ := by rw [EX.out, show k + e - k = e by omega, hnm]
    obtain ⟨sn, hsn⟩ : ∃ sn : ByteArray, ⟨nm.toArray⟩ = sn := ⟨_, rfl⟩; have bi := built_item m nm; rw [hsn] at bi x1; obtain ⟨c1, hc1⟩ : ∃ c1, arrI ⟨m, nm, zeroId⟩ = c1 := ⟨_, rfl⟩; have HC1S := hyd (show c1.size = 22 by rw [← hc1]; exact arrI_size _ (by simp [zeroId])); have HC11 := hyd (show c1.all (·.oneCell') = true by rw [← hc1]; exact arrI_one _); rw [hc1] at bi; have HBI := hyd bi; have HC1 := hyd hc1; have hnm2 := hyd hnm; clear bi hc1 hnm; have lt1 : w.heap.size < w1.heap.size := lt_of_heap HG1.out; have b4 := below_setRow (B := w1.heap.size) (g := w1.heap.size) ((Below.refl w1.heap.size w1).alloc (Nat.le_refl _) (.cells z 77)) (Nat.le_refl _) c1; have g4 := (b4.block _ lt1).trans HG1.out; have h4 := setRow_heap (w1.alloc (.cells z 77)) w1.heap.size z c1 77 (0, 0) (heap_alloc_new w1 _); have HG4 := hyd g4; have HH4 := hyd h4; have HB4 := hyd (HBW.out.trans (b4.mono HBW.out.size)); have LT1 := hyd lt1; clear b4 g4 h4 lt1
    have j4 : (k : Int) + (e : Int) ≤ (l.length : Int) := by omega
    have j5 : (k : Int) ≤ (k : Int) + (e : Int) := by omega
    have j6 : (l.length : Int) - ((k : Int) + ((e : Int) + 1)) < 20 := by omega
    go_wp2_with (first
     | (with_reducible refine wpList_build_as rfl 77 _ rfl z HZB.out ?_)
     | (with_reducible refine wpList_build_as rfl 77 _ rfl c1 ?bi1 ?_)
     | (with_reducible refine wpList_store_row rfl 77 (.tmp 9) (.tmp 36) rfl w1.heap.size c1 rfl rfl 77 z (heap_alloc_new w1 _) (info_arr c1 HC1S.out) (HZS.out.trans HC1S.out.symm) HC11.out ?_)
     | (with_reducible refine wpList_store_row rfl 77 (.tmp 2) (.tmp 46) rfl w.heap.size z rfl rfl 77 z HG4.out (info_arr z HZS.out) rfl HZ1.out ?_)
     | fail)
    case bi1 => exact HBI.out
    refine bodyPost_ret (results_item3 Tryz.results80 _ _ w.heap.size z (0, 0) _ _ rfl rfl rfl (setRow_heap _ w.heap.size z z _ (0, 0) HG4.out) HZS.out) rfl ⟨by rw [HRR.out]; rfl, below_setRow HB4.out (Nat.le_refl _) _⟩
   ·have hr : R = .tuple #[.agg (arrI ⟨m, (l.drop k).take e, (l.drop (k + e + 1)).take 20⟩), .int .i64 ((k + e + 1 + 20 : Nat) : Int), .bool true] := by rw [← HR.out, item_whole hm hk he hl]
    have HRR := hyd hr; clear hr e0 e1 hm hk he hf
    go_enter Tryz.func80, Tryz.ntmps80
    go_wp2_with fail
    refine (hmo _).mono ?_; rintro e w1 ⟨rfl, rfl⟩
    go_wp2_with fail
    refine (cI _).mono ?_; rintro e w1 ⟨rfl, b1⟩; have g1 := (b1.block w.heap.size (by rw [HS0.out]; omega)).trans HG0.out; have bw := HB0.out.trans (b1.mono HB0.out.size); have HG1 := hyd g1; have HBW := hyd bw; clear b1 g1 bw cI; obtain ⟨nm, hnm⟩ : ∃ nm, (l.drop k).take e = nm := ⟨_, rfl⟩
    have x1 : s.extract k (k + e) = ⟨nm.toArray⟩ := by rw [EX.out, show k + e - k = e by omega, hnm]
    obtain ⟨sn, hsn⟩ : ∃ sn : ByteArray, ⟨nm.toArray⟩ = sn := ⟨_, rfl⟩; have bi := built_item m nm; rw [hsn] at bi x1; obtain ⟨c1, hc1⟩ : ∃ c1, arrI ⟨m, nm, zeroId⟩ = c1 := ⟨_, rfl⟩; have HC1S := hyd (show c1.size = 22 by rw [← hc1]; exact arrI_size _ (by simp [zeroId])); have HC11 := hyd (show c1.all (·.oneCell') = true by rw [← hc1]; exact arrI_one _); rw [hc1] at bi; have HBI := hyd bi; have HC1 := hyd hc1; have hnm2 := hyd hnm; clear bi hc1 hnm; have lt1 : w.heap.size < w1.heap.size := lt_of_heap HG1.out; have b4 := below_setRow (B := w1.heap.size) (g := w1.heap.size) ((Below.refl w1.heap.size w1).alloc (Nat.le_refl _) (.cells z 77)) (Nat.le_refl _) c1; have g4 := (b4.block _ lt1).trans HG1.out; have h4 := setRow_heap (w1.alloc (.cells z 77)) w1.heap.size z c1 77 (0, 0) (heap_alloc_new w1 _); have HG4 := hyd g4; have HH4 := hyd h4; have HB4 := hyd (HBW.out.trans (b4.mono HBW.out.size)); have LT1 := hyd lt1; clear b4 g4 h4 lt1
    have j4 : (k : Int) + (e : Int) ≤ (l.length : Int) := by omega
    have j5 : (k : Int) ≤ (k : Int) + (e : Int) := by omega
    obtain ⟨y, hy⟩ : ∃ y, l.drop (k + e + 1) = y := ⟨_, rfl⟩
    have hy20 : 20 ≤ y.length := by rw [← hy, List.length_drop]; omega
    have x2 : s.extract (k + (e + 1)) l.length = ⟨y.toArray⟩ := by rw [EX.out, List.take_of_length_le (by rw [List.length_drop]; omega), ← hy]; rfl
    obtain ⟨W4, hW4⟩ : ∃ W4, (w1.alloc (.cells z 77)).setRow w1.heap.size c1 = W4 := ⟨_, rfl⟩; rw [hW4] at HG4 HH4 HB4; have cp := copy_item W4.drew w1.heap.size m nm y c1 HC1.out.symm HH4.out hy20; obtain ⟨c2, hc2⟩ : ∃ c2, arrI ⟨m, nm, y.take 20⟩ = c2 := ⟨_, rfl⟩; have HC2S := hyd (show c2.size = 22 by rw [← hc2]; exact arrI_size _ (by simp; omega)); have HC21 := hyd (show c2.all (·.oneCell') = true by rw [← hc2]; exact arrI_one _)
    have HRS := hyd (show R = .tuple #[.agg c2, .int .i64 ((k : Int) + ((e : Int) + 1) + 20), .bool true] by
     rw [HRR.out, ← hc2, ← hnm2.out, ← hy, show ((k + e + 1 + 20 : Nat) : Int) = (k : Int) + ((e : Int) + 1) + 20 by omega])
    rw [hc2] at cp; obtain ⟨sy, hsy⟩ : ∃ sy : ByteArray, ⟨y.toArray⟩ = sy := ⟨_, rfl⟩; rw [hsy] at cp x2
    have sl20 := fun u => slice20_all u w1.heap.size 2
    have j7 : ¬ ((l.length : Int) - ((k : Int) + ((e : Int) + 1)) < 20) := by omega
    have j8 : (k : Int) + ((e : Int) + 1) ≤ (l.length : Int) := by omega
    clear hc2 hy hsy
    go_wp2_with (first
     | (with_reducible refine wpList_build_as rfl 77 _ rfl c1 ?bi2 ?_)
     | (with_reducible refine wpList_store_row rfl 77 (.tmp 9) (.tmp 36) rfl w1.heap.size c1 rfl rfl 77 z (heap_alloc_new w1 _) (info_arr c1 HC1S.out) (HZS.out.trans HC1S.out.symm) HC11.out ?_)
     | fail)
    case bi2 => exact HBI.out
    clear hW4
    have HG5 := hyd (show (W4.drew.setRow w1.heap.size c2).heap[w.heap.size]? = some (.cells z 77 (0, 0)) by
     rw [setRow_other _ _ _ _ (Nat.ne_of_lt LT1.out)]; exact HG4.out)
    have HH5 := hyd (show (W4.drew.setRow w1.heap.size c2).heap[w1.heap.size]? = some (.cells c2 77 (0, 0)) from setRow_heap _ _ _ _ _ _ HH4.out); have HB5 := hyd (below_setRow (g := w1.heap.size) HB4.out.drew (Nat.le_of_lt LT1.out) c2)
    go_region
    go_wp2_with (first
     | (with_reducible refine wpList_load_row rfl 77 _ rfl w1.heap.size rfl 77 c2 (0, 0) _ HH5.out Tryz.underlying77 rfl (info_arr c2 HC2S.out) ?_)
     | (with_reducible refine wpList_store_row rfl 77 (.tmp 2) (.tmp 55) rfl w.heap.size c2 rfl rfl 77 z HG5.out (info_arr c2 HC2S.out) (HZS.out.trans HC2S.out.symm) HC21.out ?_)
     | fail)
    refine bodyPost_ret (results_item3 Tryz.results80 _ _ w.heap.size c2 (0, 0) _ _ rfl rfl rfl (setRow_heap _ w.heap.size z c2 _ (0, 0) HG5.out) HC2S.out) rfl ⟨by rw [HRS.out]; rfl, below_setRow HB5.out (Nat.le_refl _) _⟩
  ·have hr : R = .tuple #[.agg z, .int .i64 0, .bool false] := by rw [← HR.out, item_short hm hk (by omega), HZ.out]
   have HRR := hyd hr
   have e1 : seekI (l.drop k) 0 = (0, false) := by unfold seekI; rw [if_neg hf]
   rw [e1] at cI; generalize (⟨(l.drop k).toArray⟩ : ByteArray) = sx at x0 cI; clear hr e0 e1 hm hk hf
   go_enter Tryz.func80, Tryz.ntmps80
   go_wp2_with fail
   refine (hmo _).mono ?_; rintro e w1 ⟨rfl, rfl⟩
   go_wp2_with fail
   refine (cI _).mono ?_; rintro e w1 ⟨rfl, b1⟩; have g1 := (b1.block w.heap.size (by rw [HS0.out]; omega)).trans HG0.out; have bw := HB0.out.trans (b1.mono HB0.out.size); have HG1 := hyd g1; have HBW := hyd bw; clear b1 g1 bw cI
   go_wp2_with (first
    | (with_reducible refine wpList_build_as rfl 77 _ rfl z HZB.out ?_)
    | (with_reducible refine wpList_store_row rfl 77 (.tmp 2) (.tmp 28) rfl w.heap.size z rfl rfl 77 z HG1.out (info_arr z HZS.out) rfl HZ1.out ?_)
    | fail)
   refine bodyPost_ret (results_item3 Tryz.results80 _ _ w.heap.size z (0, 0) _ _ rfl rfl rfl (setRow_heap _ w.heap.size z z _ (0, 0) HG1.out) HZS.out) rfl ⟨by rw [HRR.out]; rfl, below_setRow HBW.out (Nat.le_refl _) _⟩
end Go.Proofs.YtnbcbiglkmdepaaGreatDoor
namespace Go.Proofs
open Go.Shelf Go.RowKit Go.Lib
def Tryz.utRen : Go.Shelf.Ren := ⟨fun n => n, fun | 5 => 5 | 119 => 231 | 138 => 233 | 139 => 234 | n => n, fun | 3 => 2 | 4 => 3 | n => n⟩
theorem Tryz.utTypes : U8Types Tryz.prog Tryz.utRen := {
 t5 := by kernel_rfl
 t119 := by kernel_rfl
 t138 := by kernel_rfl
 t139 := by kernel_rfl }
theorem Tryz.utExtra : U8Extra Tryz.prog Tryz.utRen := {
 n3 := by kernel_rfl
 n4 := by kernel_rfl
 y3 := by kernel_rfl
 y4 := by kernel_rfl
 c5 := by kernel_rfl
 c119 := by kernel_rfl
 c138 := by kernel_rfl }
namespace YtnbcbiglkmdepaaGreatDoor
theorem tabs_of (w : World) (h3 : VarReads Tryz.prog w "unicode/utf8.first" firstData) (h4 : VarReads Tryz.prog w "unicode/utf8.acceptRanges" acceptData) : Lib.Utf8Tabs 2 3 w :=
 utf8Tabs_of_readsT Tryz.utTypes Tryz.utExtra h3 h4
end YtnbcbiglkmdepaaGreatDoor
end Go.Proofs
namespace Go.Proofs
open Go.Shelf Go.RowKit Go.Lib
def Tryz.vsRen : Go.Shelf.Ren := ⟨fun | 196 => 158 | 259 => 176 | n => n, fun | 0 => 0 | 3 => 3 | 4 => 4 | 5 => 5 | 9 => 9 | 12 => 12 | 46 => 136 | 53 => 126 | 119 => 231 | 138 => 233 | 139 => 234 | n => n, fun | 3 => 2 | 4 => 3 | n => n⟩
theorem Tryz.vs196 : Go.Proofs.Lays.n196 Tryz.prog Tryz.vsRen := {
 mixed := by kernel_rfl
 f196 := Tryz.func158.trans (congrArg some (by kernel_rfl))
 f259 := Tryz.func176.trans (congrArg some (by kernel_rfl))
 t0 := Tryz.underlying0
 a0 := Tryz.isAgg0
 z0 := Tryz.sizeOf0
 v0 := Tryz.zeroValue0
 t3 := Tryz.underlying3
 a3 := Tryz.isAgg3
 z3 := Tryz.sizeOf3
 v3 := Tryz.zeroValue3
 t4 := Tryz.underlying4
 a4 := Tryz.isAgg4
 z4 := Tryz.sizeOf4
 v4 := Tryz.zeroValue4
 t5 := Tryz.underlying5
 a5 := Tryz.isAgg5
 z5 := Tryz.sizeOf5
 v5 := Tryz.zeroValue5
 t9 := Tryz.underlying9
 a9 := Tryz.isAgg9
 z9 := Tryz.sizeOf9
 v9 := Tryz.zeroValue9
 t12 := Tryz.underlying12
 a12 := Tryz.isAgg12
 z12 := Tryz.sizeOf12
 v12 := Tryz.zeroValue12
 t46 := Tryz.underlying136
 a46 := Tryz.isAgg136
 z46 := Tryz.sizeOf136
 v46 := Tryz.zeroValue136
 t53 := Tryz.underlying126
 a53 := Tryz.isAgg126
 z53 := Tryz.sizeOf126
 v53 := Tryz.zeroValue126
 t119 := Tryz.underlying231
 a119 := Tryz.isAgg231
 z119 := Tryz.sizeOf231
 t138 := Tryz.underlying233
 a138 := Tryz.isAgg233
 z138 := Tryz.sizeOf233
 v138 := Tryz.zeroValue233
 t139 := Tryz.underlying234
 a139 := Tryz.isAgg234
 z139 := Tryz.sizeOf234
 v139 := Tryz.zeroValue234
 g3 := by kernel_rfl
 g4 := by kernel_rfl }
namespace YtnbcbiglkmdepaaGreatDoor
theorem valid_is (l : List UInt8) (w : World) (hn : l.length ≤ 1000000) (hT : Lib.Utf8Tabs 2 3 w) :
  Calls Tryz.prog 158 #[.string ⟨l.toArray⟩] w fun e w' => e = .returned (.bool (Lib.validD l)) ∧ Below w.heap.size w w' :=
 Any.utf8_ValidString Tryz.vs196 ⟨l.toArray⟩ w (by rw [size_toArray]; omega) hT
end YtnbcbiglkmdepaaGreatDoor
end Go.Proofs
namespace Go.Proofs.YtnbcbiglkmdepaaGreatDoor
open Go.RowKit
theorem rlow_is (c : UInt8) (w : World) : Calls Tryz.prog 177 #[.int .u8 c.toNat] w fun e w' => e = .returned (.int .u8 (lowB c).toNat) ∧ w' = w := by
 have hc := c.toNat_lt
 by_cases h1 : 65 ≤ c.toNat
 ·by_cases h2 : c.toNat ≤ 90
  ·have e : (lowB c).toNat = c.toNat + 32 := by
    unfold lowB; rw [if_pos ⟨h1, h2⟩, UInt8.toNat_ofNat']
    omega
   have E := hyd e; clear e
   go_enter Tryz.func177, Tryz.ntmps177
   go_wp2; go_ret; exact ⟨ret_int (by rw [E.out]; omega), rfl⟩
  ·have e : lowB c = c := by unfold lowB; rw [if_neg (by omega)]
   rw [e]
   go_enter Tryz.func177, Tryz.ntmps177
   go_wp2; go_ret; exact ⟨rfl, rfl⟩
 ·have e : lowB c = c := by unfold lowB; rw [if_neg (by omega)]
  rw [e]
  go_enter Tryz.func177, Tryz.ntmps177
  go_wp2; go_ret; exact ⟨rfl, rfl⟩
def gitL : List UInt8 := [46, 103, 105, 116]
theorem git_at (l : List UInt8) (h4 : l.length = 4) (h : ∀ i, i < 4 → (lowB (l.getD i 0)).toNat = (gitL.getD i 0).toNat) : l.map lowB = gitL := by
 match l, h4 with
 | [a, b, c, d], _ =>
  have e0 := UInt8.toNat_inj.1 (h 0 (by omega)); have e1 := UInt8.toNat_inj.1 (h 1 (by omega)); have e2 := UInt8.toNat_inj.1 (h 2 (by omega)); have e3 := UInt8.toNat_inj.1 (h 3 (by omega)); simp only [List.getD_cons_zero, List.getD_cons_succ, gitL] at e0 e1 e2 e3; simp only [List.map_cons, List.map_nil, gitL, e0, e1, e2, e3]
theorem git_not (l : List UInt8) (i : Nat) (hi : i < l.length) (h : (lowB (l.getD i 0)).toNat ≠ (gitL.getD i 0).toNat) : l.map lowB ≠ gitL := by
 intro e
 apply h
 rw [← e]
 congr 1
 rw [List.getD_eq_getElem?_getD, List.getD_eq_getElem?_getD, List.getElem?_map, List.getElem?_eq_getElem hi]
 rfl
theorem name_of (l : List UInt8) (h0 : l ≠ []) (h1 : l ≠ [46]) (h2 : l ≠ [46, 46]) : nameL l = !(decide (l.map lowB = gitL)) := by
 have e : (l.map lowB == [46, 103, 105, 116]) = decide (l.map lowB = gitL) := by
  unfold gitL; rw [Bool.eq_iff_iff]; simp
 unfold nameL; rw [e]
 simp [h0, h1, h2]
set_option maxRecDepth 100000 in
theorem rname_is (l : List UInt8) (w : World) (hn : l.length ≤ 1000000) :
  Calls Tryz.prog 159 #[.string ⟨l.toArray⟩] w fun e w' => e = .returned (.bool (nameL l)) ∧ Below w.heap.size w w' := by
 have hem := empty_list l
 have hq1 : ((⟨l.toArray⟩ : ByteArray).toList == [46]) = decide (l = [46]) := by rw [list_text]; rw [Bool.eq_iff_iff]; simp
 have hq2 : ((⟨l.toArray⟩ : ByteArray).toList == [46, 46]) = decide (l = [46, 46]) := by rw [list_text]; rw [Bool.eq_iff_iff]; simp
 have hsz := size_toArray l
 have hget : ∀ i, i < l.length → ∀ h2 : i < (⟨l.toArray⟩ : ByteArray).size, (⟨l.toArray⟩ : ByteArray)[i]'h2 = l.getD i 0 := fun i h h2 => getD_str l i h h2
 obtain ⟨s, hs⟩ : ∃ s : ByteArray, s = ⟨l.toArray⟩ := ⟨_, rfl⟩; rw [← hs] at hem hq1 hq2 hsz hget ⊢; have HGET := hyd hget; clear hs hget
 by_cases h0 : l.length = 0
 ·have e0 : s.toList.isEmpty = true := by rw [hem]; simp [h0]
  have : l = [] := List.eq_nil_of_length_eq_zero h0; have NN : Hid (nameL l = false) := hyd (by rw [this]; rfl); clear hem hq1 hq2 hsz h0 this
  go_enter Tryz.func159, Tryz.ntmps159
  go_wp2; go_ret; exact ⟨ret_bool NN.out.symm, Below.refl _ _⟩
 have e0 : s.toList.isEmpty = false := by rw [hem]; simp [h0]
 have n0 : l ≠ [] := fun h => h0 (by rw [h]; rfl)
 by_cases h1 : l = [46]
 ·rw [decide_eq_true h1] at hq1
  have NN : Hid (nameL l = false) := hyd (by rw [h1]; rfl); clear hem hq2 hsz h0 n0 h1
  go_enter Tryz.func159, Tryz.ntmps159
  go_wp2; go_ret; exact ⟨ret_bool NN.out.symm, Below.refl _ _⟩
 rw [decide_eq_false h1] at hq1
 by_cases h2 : l = [46, 46]
 ·rw [decide_eq_true h2] at hq2
  have NN : Hid (nameL l = false) := hyd (by rw [h2]; rfl); clear hem hsz h0 n0 h1 h2
  go_enter Tryz.func159, Tryz.ntmps159
  go_wp2; go_ret; exact ⟨ret_bool NN.out.symm, Below.refl _ _⟩
 rw [decide_eq_false h2] at hq2; have NM := hyd (name_of l n0 h1 h2); clear hem n0 h1 h2
 by_cases h4 : l.length = 4
 ·have GI : Hid (∀ i, i < 4 → ∀ h, (⟨#[46, 103, 105, 116]⟩ : ByteArray)[i]'h = gitL.getD i 0) := hyd (fun i hi h => by
   have : i = 0 ∨ i = 1 ∨ i = 2 ∨ i = 3 := by omega
   rcases this with rfl | rfl | rfl | rfl <;> rfl)
  have hs4 : s.size = 4 := hsz.trans h4; have H4 := hyd h4; clear hsz h4 h0
  go_enter Tryz.func159, Tryz.ntmps159
  go_wp2_with fail
  go_loopw [3] (fun vi wr => ∃ i : Nat, i ≤ 4 ∧ vi = .int .i64 i ∧ Below w.heap.size w wr ∧ Hid (∀ j, j < i → (lowB (l.getD j 0)).toNat = (gitL.getD j 0).toNat)) (fun vi _ => 4 - (intOf vi).toNat)
  case atStart => exact ⟨0, Nat.zero_le _, rfl, Below.refl _ _, hyd fun j h => absurd h (Nat.not_lt_zero _)⟩
  case round =>
   obtain ⟨i, hi, rfl, hbr, HALL⟩ := hrel
   by_cases hlt : i < 4
   ·have hx := HGET.out i (by have := H4.out; omega) (by omega)
    have hy := GI.out i hlt; obtain ⟨x, hxe⟩ : ∃ x : UInt8, x = l.getD i 0 := ⟨_, rfl⟩; obtain ⟨y, hye⟩ : ∃ y : UInt8, y = gitL.getD i 0 := ⟨_, rfl⟩; rw [← hxe] at hx; rw [← hye] at hy; have cL := rlow_is x; have XE := hyd hxe; have YE := hyd hye; obtain ⟨z, hz⟩ : ∃ z : Nat, z = (lowB x).toNat := ⟨_, rfl⟩; rw [← hz] at cL; have ZE := hyd hz; clear hxe hye hz
    by_cases hne : z = y.toNat
    ·have f1 : ((z : Int) != (y.toNat : Int)) = false := by simp [hne]
     have NE := hyd hne; clear hne
     go_wp2_with fail
     go_quiet ((go_at_call 177; exact Calls.quiet_of_same (cL _)))
     go_wp2
     go_roundw
     case rel => exact ⟨i + 1, by omega, by go_num, _root_.Go.below_drewN hbr _, hyd fun j hj => by
      by_cases h : j < i
      ·exact HALL.out j h
      ·obtain rfl : j = i := by omega
       rw [← XE.out, ← ZE.out, ← YE.out]
       exact NE.out⟩
     case measure => simp [intOf]; omega
    ·have f1 : ((z : Int) != (y.toNat : Int)) = true := by simp; omega
     have NN : Hid (nameL l = true) := hyd (by
      rw [NM.out, decide_eq_false (git_not l i (by have := H4.out; omega) (by rw [← XE.out, ← ZE.out, ← YE.out]; exact hne))]
      rfl)
     clear hne
     go_wp2_with fail
     go_quiet ((go_at_call 177; exact Calls.quiet_of_same (cL _)))
     go_wp2; go_ret; exact ⟨ret_bool NN.out.symm, _root_.Go.below_drewN hbr _⟩
   ·obtain rfl : i = 4 := by omega
    have NN : Hid (nameL l = false) := hyd (by
     rw [NM.out, decide_eq_true (git_at l H4.out HALL.out)]
     rfl)
    go_wp2; go_ret; exact ⟨ret_bool NN.out.symm, hbr⟩
 ·have NN : Hid (nameL l = true) := hyd (by
   rw [NM.out, decide_eq_false (fun h => h4 (by have := congrArg List.length h; simpa [gitL] using this))]
   rfl)
  have f4 : ((l.length : Int) != 4) = true := by simp; omega
  clear h0 h4
  go_enter Tryz.func159, Tryz.ntmps159
  go_wp2; go_ret; exact ⟨ret_bool NN.out.symm, Below.refl _ _⟩
theorem decode_from (s : ByteArray) (i n : Nat) (hn : s.size = n) (h : i < n) (r : Int) (k : Nat) (hr : r = ((Utf8.decode s i).1 : Int)) (hk : k = (Utf8.decode s i).2) (w : World) (hT : Lib.Utf8Tabs 2 3 w) :
  Calls Tryz.prog 212 #[.string (s.extract i n)] w fun e w' => e = .returned (.tuple #[.int .i32 r, .int .i64 k]) ∧ Below w.heap.size w w' := by
 subst hn
 have e : Lib.decodeGo (s.extract i s.size) = Utf8.decode s i := by
  unfold Lib.decodeGo; rw [if_neg (by rw [Lib.tail_size]; omega), Lib.tail_decode]
  rfl
 subst hr hk; rw [← e]; exact Tryz.utf8_DecodeRuneInString _ w hT
def FoldTab (w : World) : Prop := ∀ k v : Nat, (k = 46 ∧ v = 46) ∨ (k = 71 ∧ v = 103) ∨ (k = 73 ∧ v = 105) ∨ (k = 84 ∧ v = 116) ∨ (k = 103 ∧ v = 71) ∨ (k = 105 ∧ v = 73) ∨ (k = 116 ∧ v = 84) → w.cell? ⟨7, k, none⟩ = some (.int .u16 v)
theorem FoldTab.below {w w' : World} (h : FoldTab w) (hb : Below w.heap.size w w') : FoldTab w' := fun k v hk => by
 have := h k v hk; exact (hb.cell (p := ⟨7, k, none⟩) (World.block_lt_of_cell? w _ this)).trans this
set_option maxRecDepth 100000 in
theorem SimpleFold_at (k v : Nat) (w : World) (hF : FoldTab w) (hk : (k = 46 ∧ v = 46) ∨ (k = 71 ∧ v = 103) ∨ (k = 73 ∧ v = 105) ∨ (k = 84 ∧ v = 116) ∨ (k = 103 ∧ v = 71) ∨ (k = 105 ∧ v = 73) ∨ (k = 116 ∧ v = 84)) :
  Calls Tryz.prog 213 #[.int .i32 k] w fun e w' => e = .returned (.int .i32 v) ∧ w' = w := by
 have hc := hF k v hk
 have h1 : k < 128 := by omega
 have h2 : v < 128 := by omega
 clear hF hk
 go_enter Tryz.func213, Tryz.ntmps213
 go_wp2; go_ret; exact ⟨rfl, rfl⟩
def AtJump (l : List UInt8) (s g : ByteArray) (w : World) (a : Act) (w' : World) : Prop :=
 Below w.heap.size w w' ∧ ∃ (i : Nat) (u4 u6 u7 u8 u14 u15 u16 u17 u18 u19 u20 u21 u22 u23 u24 u25 u26 u27 u28 u29 u30 u31 u32 u33 u34 u35 u36 u37 u38 u39 u40 u41 u42 u43 u44 u45 u46 u47 u48 u49 u50 u51 u52 u53 u54 : Value), a = { tmps := #[.string s, .string g, undef, undef, u4, .int .i64 i, u6, u7, u8, undef, undef, undef, undef, undef, u14, u15, u16, u17, u18, u19, u20, u21, u22, u23, u24, u25, u26, u27, u28, u29, u30, u31, u32, u33, u34, u35, u36, u37, u38, u39, u40, u41, u42, u43, u44, u45, u46, u47, u48, u49, u50, u51, u52, u53, u54, undef, undef, undef, undef, undef, undef, undef, undef, undef, undef, undef, undef, undef, undef, undef, undef, undef, undef, undef, undef, undef, undef, undef, undef, undef, undef, undef, undef, undef, undef, undef, undef, undef, undef, undef, undef, undef, undef, undef, undef, undef, undef, undef, undef, undef, undef, undef, undef, undef, undef, undef, undef, undef, undef, undef, undef, undef, undef, undef, undef, undef, undef, undef, undef, undef, undef, undef, undef], defers := [] } ∧ i < 4 ∧ i < l.length ∧ 128 ≤ (l.getD i 0).toNat
theorem or_four : ∀ x : Fin 256, (128 ≤ x.1 → 128 ≤ bits BinOp.or .u8 ((x.1 : Nat) : Int) 46 ∧ 128 ≤ bits BinOp.or .u8 ((x.1 : Nat) : Int) 103 ∧ 128 ≤ bits BinOp.or .u8 ((x.1 : Nat) : Int) 105 ∧ 128 ≤ bits BinOp.or .u8 ((x.1 : Nat) : Int) 116) ∧
  (x.1 < 128 → bits BinOp.or .u8 ((x.1 : Nat) : Int) 46 < 128 ∧ bits BinOp.or .u8 ((x.1 : Nat) : Int) 103 < 128 ∧ bits BinOp.or .u8 ((x.1 : Nat) : Int) 105 < 128 ∧ bits BinOp.or .u8 ((x.1 : Nat) : Int) 116 < 128) := by decide +kernel
theorem or_git (x y : UInt8) (h : y.toNat = 46 ∨ y.toNat = 103 ∨ y.toNat = 105 ∨ y.toNat = 116) : (128 ≤ x.toNat → 128 ≤ bits BinOp.or .u8 (x.toNat : Int) (y.toNat : Int)) ∧ (x.toNat < 128 → bits BinOp.or .u8 (x.toNat : Int) (y.toNat : Int) < 128) := by
 have k := or_four ⟨x.toNat, x.toNat_lt⟩; simp only at k
 rcases h with h | h | h | h <;> rw [h]
 ·exact ⟨fun a => (k.1 a).1, fun a => (k.2 a).1⟩
 ·exact ⟨fun a => (k.1 a).2.1, fun a => (k.2 a).2.1⟩
 ·exact ⟨fun a => (k.1 a).2.2.1, fun a => (k.2 a).2.2.1⟩
 ·exact ⟨fun a => (k.1 a).2.2.2, fun a => (k.2 a).2.2.2⟩
theorem git_vals (i : Nat) (h : i < 4) : (gitL.getD i 0).toNat = 46 ∨ (gitL.getD i 0).toNat = 103 ∨ (gitL.getD i 0).toNat = 105 ∨ (gitL.getD i 0).toNat = 116 := by
 have : i = 0 ∨ i = 1 ∨ i = 2 ∨ i = 3 := by omega
 rcases this with rfl | rfl | rfl | rfl <;> decide
theorem low_nat (x : UInt8) : (lowB x).toNat = if 65 ≤ x.toNat ∧ x.toNat ≤ 90 then x.toNat + 32 else x.toNat := by
 have := x.toNat_lt; unfold lowB
 split
 ·rw [UInt8.toNat_ofNat']; omega
 ·rfl
theorem git_short (l : List UInt8) (h : l.length ≠ 4) : l.map lowB ≠ gitL := fun e => h (by have := congrArg List.length e; simpa [gitL] using this)
set_option maxRecDepth 100000 in
theorem EqualFold_git (l : List UInt8) (w : World) (hn : l.length ≤ 1000000) (hF : FoldTab w) (hT : Lib.Utf8Tabs 2 3 w) :
  Calls Tryz.prog 193 #[.string ⟨l.toArray⟩, .string ⟨#[46, 103, 105, 116]⟩] w fun e w' => e = .returned (.bool (decide (l.map lowB = gitL))) ∧ Below w.heap.size w w' := by
 have GI : Hid (∀ i, i < 4 → ∀ h, (⟨#[46, 103, 105, 116]⟩ : ByteArray)[i]'h = gitL.getD i 0) := hyd (fun i hi h => by
  have : i = 0 ∨ i = 1 ∨ i = 2 ∨ i = 3 := by omega
  rcases this with rfl | rfl | rfl | rfl <;> rfl)
 have hsz := size_toArray l
 have hget : ∀ i, i < l.length → ∀ h2 : i < (⟨l.toArray⟩ : ByteArray).size, (⟨l.toArray⟩ : ByteArray)[i]'h2 = l.getD i 0 := fun i h h2 => getD_str l i h h2
 obtain ⟨s, hs⟩ : ∃ s : ByteArray, s = ⟨l.toArray⟩ := ⟨_, rfl⟩; have gsz : (⟨#[46, 103, 105, 116]⟩ : ByteArray).size = 4 := rfl; obtain ⟨g, hg⟩ : ∃ g : ByteArray, g = ⟨#[46, 103, 105, 116]⟩ := ⟨_, rfl⟩; rw [← hs] at hsz hget ⊢; rw [← hg] at gsz GI ⊢; have HGET := hyd hget; have HS := hyd hs; have HG := hyd hg; have HF := hyd hF; have HT := hyd hT; clear hs hget hg hF hT; obtain ⟨M, hM⟩ : ∃ M : Nat, min (l.length : Int) 4 = (M : Int) := ⟨min l.length 4, by omega⟩
 have hM1 : M ≤ 4 := by omega
 have hM2 : M ≤ l.length := by omega
 have HM : Hid (M = 4 ∨ M = l.length) := hyd (by omega)
 go_enter Tryz.func193, Tryz.ntmps193
 go_wp2; refine wp_scope_jumps 0 (AtJump l s g w) (fun _ _ => 0) rfl ?_ ?_
 ·go_wp2
  go_loopw [5] (fun vi wr => ∃ i : Nat, i ≤ M ∧ vi = .int .i64 i ∧ Below w.heap.size w wr ∧ Hid (∀ j, j < i → (lowB (l.getD j 0)).toNat = (gitL.getD j 0).toNat)) (fun vi _ => 4 - (intOf vi).toNat)
  case atStart => exact ⟨0, Nat.zero_le _, rfl, Below.refl _ _, hyd fun j h => absurd h (Nat.not_lt_zero _)⟩
  case round =>
   clear hM; obtain ⟨i, hi, rfl, hbr, HALL⟩ := hrel
   by_cases hlt : i < M
   ·have hx := HGET.out i (by omega) (by omega)
    have hy := GI.out i (by omega) (by omega); have gv := git_vals i (by omega); obtain ⟨x, hxe⟩ : ∃ x : UInt8, x = l.getD i 0 := ⟨_, rfl⟩; obtain ⟨y, hye⟩ : ∃ y : UInt8, y = gitL.getD i 0 := ⟨_, rfl⟩; rw [← hxe] at hx; rw [← hye] at hy gv; have XE := hyd hxe; have YE := hyd hye; have LX := low_nat x; have x8 := x.toNat_lt; clear hxe hye
    by_cases h128 : 128 ≤ x.toNat
    ·have hor := (or_git x y gv).1 h128
     have H128 := hyd h128; clear h128 gv LX
     go_wp2_with fail
     go_step3
     exact ⟨rfl, hbr, i, _, _, _, _, _, _, _, _, _, _, _, _, _, _, _, _, _, _, _, _, _, _, _, _, _, _, _, _, _, _, _, _, _, _, _, _, _, _, _, _, _, _, _, _, _, rfl, by omega, by omega, by rw [← XE.out]; exact H128.out⟩
    ·have hor := (or_git x y gv).2 (by omega)
     have ST : Hid (i + 1 ≤ M) := hyd (by omega)
     have NX : (lowB x).toNat = y.toNat → Hid (∀ j, j < i + 1 → (lowB (l.getD j 0)).toNat = (gitL.getD j 0).toNat) := fun h => hyd fun j hj => by
      by_cases h2 : j < i
      ·exact HALL.out j h2
      ·obtain rfl : j = i := by omega
       rw [← XE.out, ← YE.out]; exact h
     have NO : (lowB x).toNat ≠ y.toNat → Hid (decide (l.map lowB = gitL) = false) := fun h => hyd (decide_eq_false (git_not l i (by omega) (by rw [← XE.out, ← YE.out]; exact h)))
     by_cases e0 : y.toNat = x.toNat
     ·have f0 : ((y.toNat : Int) == (x.toNat : Int)) = true := by simp [e0]
      have R := NX (by rw [LX]; rw [if_neg (by omega)]; omega); clear NX NO LX gv e0; go_wp2
      go_roundw
      case rel => exact ⟨i + 1, ST.out, by go_num, hbr, R⟩
      case measure => simp [intOf]; omega
     ·have f0 : ((y.toNat : Int) == (x.toNat : Int)) = false := by simp; omega
      by_cases e1 : y.toNat < x.toNat
      ·have R := NO (by rw [LX]; split <;> omega)
       have q : ¬ 65 ≤ y.toNat ∨ (65 ≤ y.toNat ∧ ¬ y.toNat ≤ 90) := by omega
       clear NX NO LX gv
       rcases q with q | ⟨q1, q2⟩
       ·go_wp2
        simp only [Exit.jump]; go_ret; exact ⟨ret_bool R.out.symm, hbr⟩
       ·go_wp2
        simp only [Exit.jump]; go_ret; exact ⟨ret_bool R.out.symm, hbr⟩
      ·by_cases h65 : 65 ≤ x.toNat
       ·by_cases h90 : x.toNat ≤ 90
        ·by_cases h32 : y.toNat = x.toNat + 32
         ·have R := NX (by rw [LX, if_pos ⟨h65, h90⟩]; omega)
          have f3 : ((y.toNat : Int) == (x.toNat : Int) + 32) = true := by simp; omega
          have f4 : ((y.toNat : Int) == (x.toNat : Int) + 97 - 65) = true := by simp; omega
          have hw : ((x.toNat : Int) + 97 - 65) = (x.toNat : Int) + 32 := by omega
          clear NX NO LX gv h32; go_wp2
          go_roundw
          case rel => exact ⟨i + 1, ST.out, by go_num, hbr, R⟩
          case measure => simp [intOf]; omega
         ·have R := NO (by rw [LX, if_pos ⟨h65, h90⟩]; omega)
          have f3 : ((y.toNat : Int) == (x.toNat : Int) + 32) = false := by simp; omega
          have f4 : ((y.toNat : Int) == (x.toNat : Int) + 97 - 65) = false := by simp; omega
          clear NX NO LX gv; go_wp2; simp only [Exit.jump]; go_ret; exact ⟨ret_bool R.out.symm, hbr⟩
        ·have R := NO (by rw [LX, if_neg (by omega)]; omega)
         clear NX NO LX gv; go_wp2; simp only [Exit.jump]; go_ret; exact ⟨ret_bool R.out.symm, hbr⟩
       ·have R := NO (by rw [LX, if_neg (by omega)]; omega)
        clear NX NO LX gv; go_wp2; simp only [Exit.jump]; go_ret; exact ⟨ret_bool R.out.symm, hbr⟩
   ·obtain rfl : i = M := by omega
    by_cases h4 : l.length = 4
    ·have f4 : ((l.length : Int) == 4) = true := by simp [h4]
     have R : Hid (decide (l.map lowB = gitL) = true) := hyd (decide_eq_true (git_at l h4 (fun j hj => HALL.out j (by have := HM.out; omega)))); clear h4; go_wp2; simp only [Exit.jump]; go_ret; exact ⟨ret_bool R.out.symm, hbr⟩
    ·have f4 : ((l.length : Int) == 4) = false := by simp; omega
     have R : Hid (decide (l.map lowB = gitL) = false) := hyd (decide_eq_false (git_short l h4)); clear h4; go_wp2; simp only [Exit.jump]; go_ret; exact ⟨ret_bool R.out.symm, hbr⟩
 ·rintro a' w' ⟨hb, i, u4, u6, u7, u8, u14, u15, u16, u17, u18, u19, u20, u21, u22, u23, u24, u25, u26, u27, u28, u29, u30, u31, u32, u33, u34, u35, u36, u37, u38, u39, u40, u41, u42, u43, u44, u45, u46, u47, u48, u49, u50, u51, u52, u53, u54, rfl, hi4, hil, h128⟩
  clear hM hM1 hM2 HM
  have R : Hid (decide (l.map lowB = gitL) = false) := hyd (decide_eq_false (git_not l i hil (by
   have h1 := low_nat (l.getD i 0); have h2 := git_vals i hi4; rw [h1, if_neg (by omega)]
   omega)))
  have hp : s.extract i l.length = ⟨(l.drop i).toArray⟩ := by rw [HS.out]; exact ext_drop l i
  obtain ⟨r, k, hr, hk, hr0, hr1, hk1, hkl, hw⟩ := rune_int (l.drop i) 0 (by simp; omega)
  have h128r : 128 ≤ r := by
   rcases hw with ⟨_, h, _⟩ | ⟨h, _, _⟩
   ·rw [Lib.getD_dropU] at h
    simp only [Nat.add_zero] at h
    omega
   ·exact h
  obtain ⟨m, hm⟩ : ∃ m, i + m = 4 := ⟨4 - i, by omega⟩
  have hqs : (g.extract i 4).size = m := by simp [ByteArray.size_extract, gsz]; omega
  obtain ⟨y, hy⟩ : ∃ y : Nat, y = (gitL.getD i 0).toNat := ⟨_, rfl⟩; have gv := git_vals i hi4; rw [← hy] at gv
  have hdec : Utf8.decode g i = (y, 1) := by
   have h1 : i < g.size := by omega
   have h2 := GI.out i hi4 h1; rw [decode_ascii g i h1 (by rw [h2]; omega), h2, hy]
  have cD := fun w h => decode_from g i 4 gsz hi4 (y : Int) 1 (by rw [hdec]) (by rw [hdec]) w h
  have hsp : (⟨(l.drop i).toArray⟩ : ByteArray).size = l.length - i := by rw [size_toArray, List.length_drop]
  obtain ⟨pp, hpp⟩ : ∃ pp : ByteArray, pp = ⟨(l.drop i).toArray⟩ := ⟨_, rfl⟩; rw [← hpp] at hp hr hk hsp; obtain ⟨qq, hqq⟩ : ∃ qq : ByteArray, g.extract i 4 = qq := ⟨_, rfl⟩; rw [hqq] at hqs cD
  have hnx := fun ty => run_next_any (P := Tryz.prog) w' pp 0 ty (by omega)
  rw [← hr, ← hk] at hnx; simp only [Nat.zero_add] at hnx
  obtain ⟨v, hv, hv2⟩ : ∃ v : Nat, ((y = 46 ∧ v = 46) ∨ (y = 71 ∧ v = 103) ∨ (y = 73 ∧ v = 105) ∨ (y = 84 ∧ v = 116) ∨ (y = 103 ∧ v = 71) ∨ (y = 105 ∧ v = 73) ∨ (y = 116 ∧ v = 84)) ∧ ((v = 46 ∧ y = 46) ∨ (v = 71 ∧ y = 103) ∨ (v = 73 ∧ y = 105) ∨ (v = 84 ∧ y = 116) ∨ (v = 103 ∧ y = 71) ∨ (v = 105 ∧ y = 73) ∨ (v = 116 ∧ y = 84)) := by
   rcases gv with h | h | h | h
   ·exact ⟨46, by omega, by omega⟩
   ·exact ⟨71, by omega, by omega⟩
   ·exact ⟨73, by omega, by omega⟩
   ·exact ⟨84, by omega, by omega⟩
  have cF := fun w h => SimpleFold_at y v w h hv
  have cF2 := fun w h => SimpleFold_at v y w h hv2
  have hyr : (y : Int) < r := by omega
  have hvr : (v : Int) < r := by omega
  have f1 : ((y : Int) == r) = false := by simp; omega
  have f2 : ((v : Int) == r) = false := by simp; omega
  have hm0 : ((m : Int) == 0) = false := by simp; omega
  have hm1 : (1 : Int) ≤ (m : Int) := by omega
  have hi4z : (i : Int) ≤ 4 := by omega
  have hilz : (i : Int) ≤ (l.length : Int) := by omega
  have hb2 : Below w.heap.size w (w'.iter pp k) := hb.alloc hb.size _; have HB2 := hyd hb2; have CD := hyd cD; have CF := hyd cF; have CF2 := hyd cF2
  have EV : Hid (v = y ∨ ((v : Int) != (y : Int)) = true) := hyd (by
   by_cases h : v = y
   ·exact .inl h
   ·right; simp; omega)
  clear hv hv2 gv hdec hpp hr hk hw hkl cD cF cF2 hb2 h128 hy
  go_wp2_with fail
  refine wp_loop_rounds 1 ?_; rw [rounds_succ]
  go_wp2_with fail
  refine (CD.out _ (Utf8Tabs_below HT.out HB2.out)).mono ?_; rintro e w3 ⟨rfl, b3⟩; have hb3 := HB2.out.trans (b3.mono HB2.out.size)
  go_wp2_with fail
  refine (CF.out _ (HF.out.below hb3)).mono ?_; rintro e w4 ⟨rfl, rfl⟩
  rcases EV.out with h | h
  ·subst h
   have f3 : ((v : Int) != (v : Int)) = false := by simp
   go_wp2_with fail
   refine wp_loop_rounds 1 ?_; rw [rounds_succ]; go_wp2; simp only [Exit.jump]; go_ret; exact ⟨ret_bool R.out.symm, hb3⟩
  ·have f3 : ((y : Int) != (y : Int)) = false := by simp
   go_wp2_with fail
   refine wp_loop_rounds 2 ?_; rw [rounds_succ]
   go_wp2_with fail
   refine (CF2.out _ (HF.out.below hb3)).mono ?_; rintro e w5 ⟨rfl, rfl⟩
   go_wp2_with fail
   rw [rounds_succ]; go_wp2; simp only [Exit.jump]; go_ret; exact ⟨ret_bool R.out.symm, hb3⟩
end Go.Proofs.YtnbcbiglkmdepaaGreatDoor
