/-
  Texts that belong together, one behind the other.
-/
import Derived.Test.YtnohonjjfjppoaaGreatDoorFu12
import Derived.Test.YtnohonjjfjppoaaGreatDoorFu07
import Derived.Test.YtnohonjjfjppoaaGreatDoorFu09
import Derived.Deep.RegionLaw
import Derived.OwnWalk
import Derived.Test.YtnohonjjfjppoaaGreatDoorFu25
import Derived.Test.YtnohonjjfjppoaaGreatDoorFu26
import Derived.Test.YtnohonjjfjppoaaGreatDoorFu22
import Derived.Test.YtnohonjjfjppoaaGreatDoorFu28
import Derived.Test.YtnohonjjfjppoaaGreatDoorFu27
/-
  Layer 8, the program: takeItem.
-/
namespace Go.Proofs.YtnohonjjfjppoaaGreatDoor
set_option maxRecDepth 20000
open Go.RowKit
set_option linter.unusedVariables false
set_option linter.unusedSimpArgs false
/-- What takeItem answers. -/
def itemR (b : List UInt8) : Value := match takeI b with
  | none => .tuple #[.agg (arrI zItm), .int .i64 0, .bool false]
  | some (i, r) => .tuple #[.agg (arrI i), .int .i64 ((b.length - r.length : Nat) : Int), .bool true]
theorem takeI_mode (b : List UInt8) : takeI b = match modeAt b with
  | none => none
  | some m =>
    if (b.drop ((modeL m).length + 1)).length < (b.drop ((modeL m).length + 1)).findIdx (· == 0) + 21 then none
    else some (⟨m, (b.drop ((modeL m).length + 1)).take ((b.drop ((modeL m).length + 1)).findIdx (· == 0)), ((b.drop ((modeL m).length + 1)).drop ((b.drop ((modeL m).length + 1)).findIdx (· == 0) + 1)).take 20⟩,
      (b.drop ((modeL m).length + 1)).drop ((b.drop ((modeL m).length + 1)).findIdx (· == 0) + 21)) := rfl
theorem item_none {b : List UInt8} (h : modeAt b = none) : itemR b = .tuple #[.agg (arrI zItm), .int .i64 0, .bool false] := by
  unfold itemR
  rw [takeI_mode, h]
theorem item_short {b : List UInt8} {m : Int} {k : Nat} (h : modeAt b = some m) (hk : (modeL m).length + 1 = k) (hl : (b.drop k).length < (b.drop k).findIdx (· == 0) + 21) : itemR b = .tuple #[.agg (arrI zItm), .int .i64 0, .bool false] := by
  unfold itemR
  rw [takeI_mode, h]
  simp only
  rw [hk, if_pos hl]
theorem item_whole {b : List UInt8} {m : Int} {k e : Nat} (h : modeAt b = some m) (hk : (modeL m).length + 1 = k) (he : (b.drop k).findIdx (· == 0) = e) (hl : ¬ b.length < k + e + 21) :
    itemR b = .tuple #[.agg (arrI ⟨m, (b.drop k).take e, (b.drop (k + e + 1)).take 20⟩), .int .i64 ((k + e + 1 + 20 : Nat) : Int), .bool true] := by
  unfold itemR
  rw [takeI_mode, h]
  simp only
  rw [hk, he, if_neg (by rw [List.length_drop]; omega)]
  simp only [List.drop_drop, List.length_drop]
  rw [show k + (e + 1) = k + e + 1 by omega, show b.length - (b.length - (k + (e + 21))) = k + e + 1 + 20 by omega]
theorem mode_le {b : List UInt8} {m : Int} (h : modeAt b = some m) : (1 ≤ m ∧ m ≤ 4) ∧ (modeL m).length + 1 ≤ b.length := by
  obtain ⟨h1, h2⟩ := find_some h
  have h3 := congrArg List.length h2
  refine ⟨h1, ?_⟩
  rw [List.length_append, List.length_cons] at h3
  omega
set_option maxHeartbeats 8000000 in
theorem takeItem_is (l : List UInt8) (w : World) (hn : l.length ≤ 1000000) :
    Calls Tryz.prog 135 #[.string ⟨l.toArray⟩] w fun e w' => e = .returned (itemR l) ∧ Below w.heap.size w w' := by
  obtain ⟨z, hz, hzs, hzv, hzb, hz1⟩ := zItem_any
  have HZB := Lib.hid hzb; have HZ1 := Lib.hid hz1; have HZS := Lib.hid hzs; have HZ := Lib.hid hz
  have hmo := fun w => takeMode_is l w hn
  have hsz := size_toArray l
  obtain ⟨R, hR⟩ : ∃ R, itemR l = R := ⟨_, rfl⟩
  have HR := Lib.hid hR
  rw [hR]
  have EX := Lib.hid (fun a b => ext_list l a b)
  obtain ⟨s, hs⟩ : ∃ s : ByteArray, ⟨l.toArray⟩ = s := ⟨_, rfl⟩
  rw [hs] at hmo hsz EX ⊢
  have b0 := (Below.refl w.heap.size w).alloc (Nat.le_refl _) (.cells z 54)
  have g0 := heap_alloc_new w (.cells z 54)
  have s0 : (w.alloc (.cells z 54)).heap.size = w.heap.size + 1 := by simp
  have HB0 := Lib.hid b0; have HG0 := Lib.hid g0; have HS0 := Lib.hid s0
  clear hs hzb hz1 hzs hR hz b0 g0 s0
  cases hm : modeAt l with
  | none =>
    have hr : R = .tuple #[.agg z, .int .i64 0, .bool false] := by rw [← HR.out, item_none hm, HZ.out]
    have HRR := Lib.hid hr
    have e0 : modeR l = (0, 0) := by unfold modeR; rw [hm]
    rw [e0] at hmo
    have x0 : s.extract 0 l.length = ⟨l.toArray⟩ := by rw [EX.out]; simp
    have cI := fun w => indexOf_is 0 (by decide) l 0 rfl w hn
    generalize (⟨l.toArray⟩ : ByteArray) = sx at x0 cI
    generalize (seekI l 0).1 = q1 at cI
    generalize (seekI l 0).2 = q2 at cI
    clear hr e0 hm
    go_enter Tryz.func135, Tryz.ntmps135
    go_wp2_with fail
    refine (hmo _).mono ?_
    rintro e w1 ⟨rfl, rfl⟩
    go_wp2_with fail
    refine (cI _).mono ?_
    rintro e w1 ⟨rfl, b1⟩
    have g1 := (b1.block w.heap.size (by rw [HS0.out]; omega)).trans HG0.out
    have bw := HB0.out.trans (b1.mono HB0.out.size)
    have HG1 := Lib.hid g1; have HBW := Lib.hid bw
    clear b1 g1 bw cI
    go_wp2_with (first
      | (with_reducible refine wpList_build_as rfl 54 _ rfl z HZB.out ?_)
      | (with_reducible refine wpList_store_row rfl 54 (.tmp 2) (.tmp 28) rfl w.heap.size z rfl rfl 54 z HG1.out (info_arr z HZS.out) rfl HZ1.out ?_)
      | fail)
    refine bodyPost_ret (results_item3 Tryz.results135 _ _ w.heap.size z (0, 0) _ _ rfl rfl rfl (setRow_heap _ w.heap.size z z _ (0, 0) HG1.out) HZS.out) rfl ⟨by rw [HRR.out]; rfl, below_setRow HBW.out (Nat.le_refl _) _⟩
  | some m =>
    obtain ⟨hm1, hm2⟩ := mode_le hm
    obtain ⟨k, hk⟩ : ∃ k, (modeL m).length + 1 = k := ⟨_, rfl⟩
    rw [hk] at hm2
    have e0 : modeR l = (m, (k : Int)) := by unfold modeR; rw [hm]; simp only; rw [hk]
    rw [e0] at hmo
    have hk5 : 6 ≤ k := by have := modeL_len m; omega
    have x0 : s.extract k l.length = ⟨(l.drop k).toArray⟩ := by rw [EX.out, List.take_of_length_le (by rw [List.length_drop]; omega)]
    have cI := fun w => indexOf_is 0 (by decide) (l.drop k) 0 rfl w (by rw [List.length_drop]; omega)
    have k0 : ((k : Int) == 0) = false := beq_false_of_ne (by omega)
    have j1 : (0 : Int) ≤ (k : Int) := by omega
    have j2 : (k : Int) ≤ (l.length : Int) := by omega
    have j3 : (k : Int) ≤ (s.size : Int) := by omega
    by_cases hf : (l.drop k).findIdx (· == 0) < (l.drop k).length
    · have e1 : seekI (l.drop k) 0 = ((l.drop k).findIdx (· == 0), true) := by unfold seekI; rw [if_pos hf]
      rw [e1] at cI
      obtain ⟨e, he⟩ : ∃ e, (l.drop k).findIdx (· == 0) = e := ⟨_, rfl⟩
      rw [he] at cI hf
      have hke : k + e < l.length := by rw [List.length_drop] at hf; omega
      generalize (⟨(l.drop k).toArray⟩ : ByteArray) = sx at x0 cI
      by_cases hl : l.length < k + e + 21
      · have hr : R = .tuple #[.agg z, .int .i64 0, .bool false] := by rw [← HR.out, item_short hm hk (by rw [he, List.length_drop]; omega), HZ.out]
        have HRR := Lib.hid hr
        clear hr e0 e1 hm hk he hf
        go_enter Tryz.func135, Tryz.ntmps135
        go_wp2_with fail
        refine (hmo _).mono ?_
        rintro e w1 ⟨rfl, rfl⟩
        go_wp2_with fail
        refine (cI _).mono ?_
        rintro e w1 ⟨rfl, b1⟩
        have g1 := (b1.block w.heap.size (by rw [HS0.out]; omega)).trans HG0.out
        have bw := HB0.out.trans (b1.mono HB0.out.size)
        have HG1 := Lib.hid g1; have HBW := Lib.hid bw
        clear b1 g1 bw cI
        obtain ⟨nm, hnm⟩ : ∃ nm, (l.drop k).take e = nm := ⟨_, rfl⟩
        have x1 : s.extract k (k + e) = ⟨nm.toArray⟩ := by rw [EX.out, show k + e - k = e by omega, hnm]
        obtain ⟨sn, hsn⟩ : ∃ sn : ByteArray, ⟨nm.toArray⟩ = sn := ⟨_, rfl⟩
        have bi := built_item m nm
        rw [hsn] at bi x1
        obtain ⟨c1, hc1⟩ : ∃ c1, arrI ⟨m, nm, zeroId⟩ = c1 := ⟨_, rfl⟩
        have HC1S := Lib.hid (show c1.size = 22 by rw [← hc1]; exact arrI_size _ (by simp [zeroId]))
        have HC11 := Lib.hid (show c1.all (·.oneCell') = true by rw [← hc1]; exact arrI_one _)
        rw [hc1] at bi
        have HBI := Lib.hid bi
        have HC1 := Lib.hid hc1
        have hnm2 := Lib.hid hnm
        clear bi hc1 hnm
        have lt1 : w.heap.size < w1.heap.size := lt_of_heap HG1.out
        have b4 := below_setRow (B := w1.heap.size) (g := w1.heap.size) ((Below.refl w1.heap.size w1).alloc (Nat.le_refl _) (.cells z 54)) (Nat.le_refl _) c1
        have g4 := (b4.block _ lt1).trans HG1.out
        have h4 := setRow_heap (w1.alloc (.cells z 54)) w1.heap.size z c1 54 (0, 0) (heap_alloc_new w1 _)
        have HG4 := Lib.hid g4; have HH4 := Lib.hid h4
        have HB4 := Lib.hid (HBW.out.trans (b4.mono HBW.out.size))
        have LT1 := Lib.hid lt1
        clear b4 g4 h4 lt1
        have j4 : (k : Int) + (e : Int) ≤ (l.length : Int) := by omega
        have j5 : (k : Int) ≤ (k : Int) + (e : Int) := by omega
        have j6 : (l.length : Int) - ((k : Int) + ((e : Int) + 1)) < 20 := by omega
        go_wp2_with (first
          | (with_reducible refine wpList_build_as rfl 54 _ rfl z HZB.out ?_)
          | (with_reducible refine wpList_build_as rfl 54 _ rfl c1 ?bi1 ?_)
          | (with_reducible refine wpList_store_row rfl 54 (.tmp 9) (.tmp 36) rfl w1.heap.size c1 rfl rfl 54 z (heap_alloc_new w1 _) (info_arr c1 HC1S.out) (HZS.out.trans HC1S.out.symm) HC11.out ?_)
          | (with_reducible refine wpList_store_row rfl 54 (.tmp 2) (.tmp 46) rfl w.heap.size z rfl rfl 54 z HG4.out (info_arr z HZS.out) rfl HZ1.out ?_)
          | fail)
        case bi1 => exact HBI.out
        refine bodyPost_ret (results_item3 Tryz.results135 _ _ w.heap.size z (0, 0) _ _ rfl rfl rfl (setRow_heap _ w.heap.size z z _ (0, 0) HG4.out) HZS.out) rfl ⟨by rw [HRR.out]; rfl, below_setRow HB4.out (Nat.le_refl _) _⟩
      · have hr : R = .tuple #[.agg (arrI ⟨m, (l.drop k).take e, (l.drop (k + e + 1)).take 20⟩), .int .i64 ((k + e + 1 + 20 : Nat) : Int), .bool true] := by rw [← HR.out, item_whole hm hk he hl]
        have HRR := Lib.hid hr
        clear hr e0 e1 hm hk he hf
        go_enter Tryz.func135, Tryz.ntmps135
        go_wp2_with fail
        refine (hmo _).mono ?_
        rintro e w1 ⟨rfl, rfl⟩
        go_wp2_with fail
        refine (cI _).mono ?_
        rintro e w1 ⟨rfl, b1⟩
        have g1 := (b1.block w.heap.size (by rw [HS0.out]; omega)).trans HG0.out
        have bw := HB0.out.trans (b1.mono HB0.out.size)
        have HG1 := Lib.hid g1; have HBW := Lib.hid bw
        clear b1 g1 bw cI
        obtain ⟨nm, hnm⟩ : ∃ nm, (l.drop k).take e = nm := ⟨_, rfl⟩
        have x1 : s.extract k (k + e) = ⟨nm.toArray⟩ := by rw [EX.out, show k + e - k = e by omega, hnm]
        obtain ⟨sn, hsn⟩ : ∃ sn : ByteArray, ⟨nm.toArray⟩ = sn := ⟨_, rfl⟩
        have bi := built_item m nm
        rw [hsn] at bi x1
        obtain ⟨c1, hc1⟩ : ∃ c1, arrI ⟨m, nm, zeroId⟩ = c1 := ⟨_, rfl⟩
        have HC1S := Lib.hid (show c1.size = 22 by rw [← hc1]; exact arrI_size _ (by simp [zeroId]))
        have HC11 := Lib.hid (show c1.all (·.oneCell') = true by rw [← hc1]; exact arrI_one _)
        rw [hc1] at bi
        have HBI := Lib.hid bi
        have HC1 := Lib.hid hc1
        have hnm2 := Lib.hid hnm
        clear bi hc1 hnm
        have lt1 : w.heap.size < w1.heap.size := lt_of_heap HG1.out
        have b4 := below_setRow (B := w1.heap.size) (g := w1.heap.size) ((Below.refl w1.heap.size w1).alloc (Nat.le_refl _) (.cells z 54)) (Nat.le_refl _) c1
        have g4 := (b4.block _ lt1).trans HG1.out
        have h4 := setRow_heap (w1.alloc (.cells z 54)) w1.heap.size z c1 54 (0, 0) (heap_alloc_new w1 _)
        have HG4 := Lib.hid g4; have HH4 := Lib.hid h4
        have HB4 := Lib.hid (HBW.out.trans (b4.mono HBW.out.size))
        have LT1 := Lib.hid lt1
        clear b4 g4 h4 lt1
        have j4 : (k : Int) + (e : Int) ≤ (l.length : Int) := by omega
        have j5 : (k : Int) ≤ (k : Int) + (e : Int) := by omega
        obtain ⟨y, hy⟩ : ∃ y, l.drop (k + e + 1) = y := ⟨_, rfl⟩
        have hy20 : 20 ≤ y.length := by rw [← hy, List.length_drop]; omega
        have x2 : s.extract (k + (e + 1)) l.length = ⟨y.toArray⟩ := by rw [EX.out, List.take_of_length_le (by rw [List.length_drop]; omega), ← hy]; rfl
        obtain ⟨W4, hW4⟩ : ∃ W4, (w1.alloc (.cells z 54)).setRow w1.heap.size c1 = W4 := ⟨_, rfl⟩
        rw [hW4] at HG4 HH4 HB4
        have cp := copy_item W4.drew w1.heap.size m nm y c1 HC1.out.symm HH4.out hy20
        obtain ⟨c2, hc2⟩ : ∃ c2, arrI ⟨m, nm, y.take 20⟩ = c2 := ⟨_, rfl⟩
        have HC2S := Lib.hid (show c2.size = 22 by rw [← hc2]; exact arrI_size _ (by simp; omega))
        have HC21 := Lib.hid (show c2.all (·.oneCell') = true by rw [← hc2]; exact arrI_one _)
        have HRS := Lib.hid (show R = .tuple #[.agg c2, .int .i64 ((k : Int) + ((e : Int) + 1) + 20), .bool true] by
          rw [HRR.out, ← hc2, ← hnm2.out, ← hy, show ((k + e + 1 + 20 : Nat) : Int) = (k : Int) + ((e : Int) + 1) + 20 by omega])
        rw [hc2] at cp
        obtain ⟨sy, hsy⟩ : ∃ sy : ByteArray, ⟨y.toArray⟩ = sy := ⟨_, rfl⟩
        rw [hsy] at cp x2
        have sl20 := fun u => slice20_all u w1.heap.size 2
        have j7 : ¬ ((l.length : Int) - ((k : Int) + ((e : Int) + 1)) < 20) := by omega
        have j8 : (k : Int) + ((e : Int) + 1) ≤ (l.length : Int) := by omega
        clear hc2 hy hsy
        go_wp2_with (first
          | (with_reducible refine wpList_build_as rfl 54 _ rfl c1 ?bi2 ?_)
          | (with_reducible refine wpList_store_row rfl 54 (.tmp 9) (.tmp 36) rfl w1.heap.size c1 rfl rfl 54 z (heap_alloc_new w1 _) (info_arr c1 HC1S.out) (HZS.out.trans HC1S.out.symm) HC11.out ?_)
          | fail)
        case bi2 => exact HBI.out
        clear hW4
        have HG5 := Lib.hid (show (W4.drew.setRow w1.heap.size c2).heap[w.heap.size]? = some (.cells z 54 (0, 0)) by
          rw [setRow_other _ _ _ _ (Nat.ne_of_lt LT1.out)]; exact HG4.out)
        have HH5 := Lib.hid (show (W4.drew.setRow w1.heap.size c2).heap[w1.heap.size]? = some (.cells c2 54 (0, 0)) from setRow_heap _ _ _ _ _ _ HH4.out)
        have HB5 := Lib.hid (below_setRow (g := w1.heap.size) HB4.out.drew (Nat.le_of_lt LT1.out) c2)
        go_region
        go_wp2_with (first
          | (with_reducible refine wpList_load_row rfl 54 _ rfl w1.heap.size rfl 54 c2 (0, 0) _ HH5.out Tryz.underlying54 rfl (info_arr c2 HC2S.out) ?_)
          | (with_reducible refine wpList_store_row rfl 54 (.tmp 2) (.tmp 55) rfl w.heap.size c2 rfl rfl 54 z HG5.out (info_arr c2 HC2S.out) (HZS.out.trans HC2S.out.symm) HC21.out ?_)
          | fail)
        refine bodyPost_ret (results_item3 Tryz.results135 _ _ w.heap.size c2 (0, 0) _ _ rfl rfl rfl (setRow_heap _ w.heap.size z c2 _ (0, 0) HG5.out) HC2S.out) rfl ⟨by rw [HRS.out]; rfl, below_setRow HB5.out (Nat.le_refl _) _⟩
    · have hr : R = .tuple #[.agg z, .int .i64 0, .bool false] := by rw [← HR.out, item_short hm hk (by omega), HZ.out]
      have HRR := Lib.hid hr
      have e1 : seekI (l.drop k) 0 = (0, false) := by unfold seekI; rw [if_neg hf]
      rw [e1] at cI
      generalize (⟨(l.drop k).toArray⟩ : ByteArray) = sx at x0 cI
      clear hr e0 e1 hm hk hf
      go_enter Tryz.func135, Tryz.ntmps135
      go_wp2_with fail
      refine (hmo _).mono ?_
      rintro e w1 ⟨rfl, rfl⟩
      go_wp2_with fail
      refine (cI _).mono ?_
      rintro e w1 ⟨rfl, b1⟩
      have g1 := (b1.block w.heap.size (by rw [HS0.out]; omega)).trans HG0.out
      have bw := HB0.out.trans (b1.mono HB0.out.size)
      have HG1 := Lib.hid g1; have HBW := Lib.hid bw
      clear b1 g1 bw cI
      go_wp2_with (first
        | (with_reducible refine wpList_build_as rfl 54 _ rfl z HZB.out ?_)
        | (with_reducible refine wpList_store_row rfl 54 (.tmp 2) (.tmp 28) rfl w.heap.size z rfl rfl 54 z HG1.out (info_arr z HZS.out) rfl HZ1.out ?_)
        | fail)
      refine bodyPost_ret (results_item3 Tryz.results135 _ _ w.heap.size z (0, 0) _ _ rfl rfl rfl (setRow_heap _ w.heap.size z z _ (0, 0) HG1.out) HZS.out) rfl ⟨by rw [HRR.out]; rfl, below_setRow HBW.out (Nat.le_refl _) _⟩
end Go.Proofs.YtnohonjjfjppoaaGreatDoor

/-
  Layer 8, the program: Parse.
-/
namespace Go.Proofs.YtnohonjjfjppoaaGreatDoor
set_option maxRecDepth 20000
open Go.RowKit
set_option linter.unusedVariables false
set_option linter.unusedSimpArgs false
/-- Items that are read alone. -/
def RedI (w : World) (v : Value) (l : List Itm) : Prop := ∃ a c, v = .slice a l.length c ∧ ItemsAt w a l ∧ (a = none → l.length = 0 ∧ c = 0) ∧ l.length ≤ c ∧ c ≤ maxLen
theorem RedI.none (w : World) : RedI w (.slice none 0 0) [] := ⟨.none, 0, rfl, ItemsAt.nil w _, fun _ => ⟨rfl, rfl⟩, Nat.le_refl _, Nat.zero_le _⟩
theorem RedI.keep {w w' : World} {v : Value} {l : List Itm} (h : RedI w v l) (b : Below w.heap.size w w') : RedI w' v l := by
  obtain ⟨a, c, e, hi, r⟩ := h
  exact ⟨a, c, e, hi.keep b, r⟩
def strLen : Value → Nat
  | .string s => s.size
  | _ => 0
theorem strLen_string (s : ByteArray) : strLen (.string s) = s.size := rfl
theorem flat_count (l : List Itm) : l.length ≤ (flatI l).length := by
  induction l with
  | nil => exact Nat.zero_le _
  | cons i l ih => rw [flat_cons, List.length_append, List.length_cons]; have := print_pos i; omega
theorem name_le {l : List Itm} {i : Itm} (h : i ∈ l) : i.name.length ≤ (flatI l).length := by
  induction l with
  | nil => cases h
  | cons j l ih =>
    rw [flat_cons, List.length_append]
    rcases List.mem_cons.1 h with rfl | h
    · rw [print_length]; omega
    · have := ih h; omega
theorem item_take {r r2 : List UInt8} {i : Itm} (h : takeI r = some (i, r2)) : itemR r = .tuple #[.agg (arrI i), .int .i64 (((printIt i).length : Nat) : Int), .bool true] ∧ r = printIt i ++ r2 ∧ fine i ∧ r.drop (printIt i).length = r2 := by
  obtain ⟨h1, h2⟩ := take_back h
  refine ⟨?_, h2, h1, by rw [h2, List.drop_left]⟩
  unfold itemR
  rw [h]
  simp only
  rw [show r.length - r2.length = (printIt i).length by rw [h2, List.length_append]; omega]
theorem item_stop {r : List UInt8} (h : takeI r = none) : itemR r = .tuple #[.agg (arrI zItm), .int .i64 0, .bool false] := by unfold itemR; rw [h]
set_option maxHeartbeats 16000000 in
theorem pParse_is (a : Option Addr) (n c : Nat) (bs : List UInt8) (w : World) (hn : n = bs.length) (hb : BAt w a bs) (tab : QTab w) :
    Calls Tryz.prog 118 #[.slice a n c] w fun e w' => ∃ v p err, e = .returned (.tuple #[v, .int .i64 err]) ∧ RedI w' v p ∧ ParsedT bs p err ∧ Below w.heap.size w w' := by
  by_cases h6 : 65536 < n
  · have g6 : (n : Int) > 65536 := by omega
    have HP := Lib.hid (show ParsedT bs [] 5 from .inl ⟨by omega, rfl, rfl⟩)
    clear hn hb tab h6
    go_enter Tryz.func118, Tryz.ntmps118
    go_wp2
    go_ret2
    exact ⟨_, _, _, rfl, RedI.none _, HP.out, Below.refl _ _⟩
  · have g6 : ¬ (n : Int) > 65536 := by omega
    have cv := hb.conv (P := Tryz.prog) c 50 5 Tryz.underlying50 Tryz.underlying5 9 Tryz.underlying9
    rw [← hn] at cv
    have hb6 : bs.length ≤ 65536 := by omega
    have HB6 := Lib.hid hb6
    have TB := Lib.hid tab
    obtain ⟨z, hz, hzs, hzv, hzb, hz1⟩ := zItem_any
    have HZS := Lib.hid hzs; have HZ := Lib.hid hz
    clear hn hb tab h6 hzs hzb hz1 hz
    go_enter Tryz.func118, Tryz.ntmps118
    go_wp2_with fail
    go_loopw [4, 5] (fun v4 v5 wr => ∃ (p : List Itm) (r : List UInt8), v5 = .string ⟨r.toArray⟩ ∧ flatI p ++ r = bs ∧ (∀ i ∈ p, fine i) ∧ OwnI w.heap.size v4 p wr ∧ Below w.heap.size w wr) (fun _ v5 _ => strLen v5)
    case atStart => exact ⟨[], bs, rfl, rfl, (fun i hi => by cases hi), ownI_nil w _, Below.refl _ _⟩
    case round =>
      obtain ⟨p, r, rfl, hfl, hfi, hown, hbr⟩ := hrel
      have HFL := Lib.hid hfl; have HFI := Lib.hid hfi; have HOWN := Lib.hid hown; have HBR := Lib.hid hbr
      have hlen : (flatI p).length + r.length ≤ 65536 := by rw [← List.length_append, hfl]; exact hb6
      have hpc := flat_count p
      clear hfl hfi hown hbr
      have hem := empty_list r
      by_cases hr : r = []
      · subst hr
        have HFL2 := Lib.hid (show flatI p = bs by rw [← HFL.out, List.append_nil])
        obtain ⟨a', c', hv, hl1, hl2, hit, hno⟩ := ownI_items HOWN.out (fun i hi => (HFI.out i hi).2.2)
        subst hv
        have HRI := Lib.hid (show RedI wr (.slice a' p.length c') p from ⟨a', c', rfl, hit, hno, hl1, hl2⟩)
        have cR := pRight_is a' p.length c' p wr rfl (by unfold maxLen; omega) hit (fun i hi => (HFI.out i hi).2.2) (fun i hi => by have := name_le hi; omega) (TB.out.below HBR.out)
        rw [decide_eq_true (by rfl)] at hem
        obtain ⟨s0, hs0⟩ : ∃ s0 : ByteArray, ⟨([] : List UInt8).toArray⟩ = s0 := ⟨_, rfl⟩
        rw [hs0] at hem ⊢
        have HPC := Lib.hid hpc
        obtain ⟨m, hm⟩ : ∃ m, p.length = m := ⟨_, rfl⟩
        rw [hm] at cR hpc
        have HM := Lib.hid hm
        clear hs0 hit hno hl1 hl2 HOWN hlen
        by_cases hp0 : m = 0
        · have g0 : ¬ (m : Int) > 0 := by omega
          have HPT := Lib.hid (show ParsedT bs p 0 from .inr (.inl ⟨HB6.out, rfl, HFL2.out, HFI.out, .inl (List.eq_nil_of_length_eq_zero (by rw [HM.out]; exact hp0))⟩))
          clear hp0 cR
          go_wp2
          go_ret2
          refine ⟨_, p, 0, rfl, ?_, HPT.out, HBR.out⟩
          rw [← HM.out]
          exact HRI.out
        · have g0 : (m : Int) > 0 := by omega
          cases hr : rightIt p with
          | true =>
            rw [hr] at cR
            have HPT := Lib.hid (show ParsedT bs p 0 from .inr (.inl ⟨HB6.out, rfl, HFL2.out, HFI.out, .inr hr⟩))
            clear hp0 hr
            go_wp2_with fail
            refine cR.mono ?_
            rintro e w1 ⟨rfl, b1⟩
            have HR1 := Lib.hid (HRI.out.keep b1)
            have HB1 := Lib.hid (HBR.out.trans (b1.mono HBR.out.size))
            clear b1
            go_wp2
            go_ret2
            refine ⟨_, p, 0, rfl, ?_, HPT.out, HB1.out⟩
            rw [← HM.out]
            exact HR1.out
          | false =>
            rw [hr] at cR
            have HPT := Lib.hid (show ParsedT bs [] 4 from .inr (.inr ⟨HB6.out, rfl, rfl, fun q hq hq2 e => by
              have := flat_inj q p hq HFI.out (by rw [e, HFL2.out])
              subst this
              rcases hq2 with h | h
              · subst h; exact hp0 (by rw [← HM.out]; rfl)
              · rw [hr] at h; cases h⟩))
            clear hp0 hr
            go_wp2_with fail
            refine cR.mono ?_
            rintro e w1 ⟨rfl, b1⟩
            have HB1 := Lib.hid (HBR.out.trans (b1.mono HBR.out.size))
            clear b1
            go_wp2
            go_ret2
            exact ⟨_, [], 4, rfl, RedI.none _, HPT.out, HB1.out⟩
      · have hne : r.length ≠ 0 := fun h => hr (List.eq_nil_of_length_eq_zero h)
        rw [decide_eq_false hne] at hem
        have cT := fun u => takeItem_is r u (by omega)
        have MS := Lib.hid (show strLen (.string ⟨r.toArray⟩) = r.length by rw [strLen_string, size_toArray])
        have hsz := size_toArray r
        cases ht : takeI r with
        | none =>
          rw [item_stop ht] at cT
          rw [show arrI zItm = z from HZ.out.symm] at cT
          have HPT := Lib.hid (show ParsedT bs [] 4 from .inr (.inr ⟨HB6.out, rfl, rfl, fun q hq hq2 e => take_stop HFI.out hr ht q hq (by rw [HFL.out]; exact e)⟩))
          generalize (⟨r.toArray⟩ : ByteArray) = sr at *
          clear hr ht hne hlen hpc
          have HZ1 := Lib.hid (show z.all (·.oneCell') = true by rw [HZ.out]; exact arrI_one _)
          go_wp2_with fail
          refine (cT _).mono ?_
          rintro e w1 ⟨rfl, b1⟩
          have b2 := below_setRow (B := w1.heap.size) (g := w1.heap.size) ((Below.refl w1.heap.size w1).alloc (Nat.le_refl _) (.cells z 54)) (Nat.le_refl _) z
          have b3 := HBR.out.trans (b1.mono HBR.out.size)
          have HB3 := Lib.hid (b3.trans (b2.mono b3.size))
          clear b1 b2 b3
          go_wp2_with (first
            | (with_reducible refine wpList_store_row rfl 54 (.tmp 6) (.tmp 19) rfl w1.heap.size z rfl rfl 54 z (heap_alloc_new w1 _) (info_arr _ HZS.out) rfl HZ1.out ?_)
            | fail)
          go_ret2
          exact ⟨_, [], 4, rfl, RedI.none _, HPT.out, HB3.out⟩
        | some q =>
          obtain ⟨i, r2⟩ := q
          obtain ⟨t1, t2, t3, t4⟩ := item_take ht
          rw [t1] at cT
          have HNF := Lib.hid (show flatI (p ++ [i]) ++ r2 = bs by rw [flat_append, ← HFL.out, t2]; simp [flatI])
          have HNI := Lib.hid (show ∀ j ∈ p ++ [i], fine j from fun j hj => by
            rcases List.mem_append.1 hj with hj | hj
            · exact HFI.out j hj
            · rw [List.mem_singleton.1 hj]; exact t3)
          have HIDI := Lib.hid t3.2.2
          have hpp := print_pos i
          have hrl : r.length = (printIt i).length + r2.length := by rw [t2, List.length_append]
          have x0 : (⟨r.toArray⟩ : ByteArray).extract (printIt i).length r.length = ⟨r2.toArray⟩ := by
            rw [ext_list, t4, List.take_of_length_le (by omega)]
          have ms2 : strLen (.string ⟨r2.toArray⟩) = r2.length := by rw [strLen_string, size_toArray]
          obtain ⟨A, hA⟩ : ∃ A, arrI i = A := ⟨_, rfl⟩
          rw [hA] at cT
          have HA := Lib.hid hA
          have HAS := Lib.hid (show A.size = 22 by rw [← hA]; exact arrI_size i t3.2.2)
          have HA1 := Lib.hid (show A.all (·.oneCell') = true by rw [← hA]; exact arrI_one i)
          obtain ⟨k, hk⟩ : ∃ k, (printIt i).length = k := ⟨_, rfl⟩
          rw [hk] at cT hpp hrl x0
          generalize (⟨r.toArray⟩ : ByteArray) = sr at *
          obtain ⟨sr2, hsr2⟩ : ∃ sr2 : ByteArray, ⟨r2.toArray⟩ = sr2 := ⟨_, rfl⟩
          rw [hsr2] at x0 ms2
          have MS2 := Lib.hid ms2; have HS2 := Lib.hid hsr2
          clear hsr2
          have j1 : (k : Int) ≤ (r.length : Int) := by omega
          have HPC := Lib.hid hpc; have HRL := Lib.hid hrl
          clear hr ht hne hA hk t1 t2 t3 t4 ms2 hpc hrl
          go_wp2_with fail
          refine (cT _).mono ?_
          rintro e w1 ⟨rfl, b1⟩
          have b2 := below_setRow (B := w1.heap.size) (g := w1.heap.size) ((Below.refl w1.heap.size w1).alloc (Nat.le_refl _) (.cells z 54)) (Nat.le_refl _) A
          have h2 := setRow_heap (w1.alloc (.cells z 54)) w1.heap.size z A 54 (0, 0) (heap_alloc_new w1 _)
          have b3 := HBR.out.trans (b1.mono HBR.out.size)
          have o1 := ownI_below HOWN.out b1
          have o2 := ownI_below o1 b2
          have b4 := b3.trans (b2.mono b3.size)
          obtain ⟨W2, hW2⟩ : ∃ W2, (w1.alloc (.cells z 54)).setRow w1.heap.size A = W2 := ⟨_, rfl⟩
          rw [hW2] at h2 o2 b4
          have b5 := (Below.refl W2.heap.size W2).alloc (Nat.le_refl _) (.cells A 54)
          have H2 := Lib.hid h2
          have HO5 := Lib.hid (ownI_below o2 b5)
          have HB5 := Lib.hid (b4.trans (b5.mono b4.size))
          clear b1 b2 b3 b4 b5 o1 o2 h2
          go_wp2_with (first
            | (with_reducible refine wpList_store_row rfl 54 (.tmp 6) (.tmp 19) rfl w1.heap.size A rfl rfl 54 z (heap_alloc_new w1 _) (info_arr _ HAS.out) (HZS.out.trans HAS.out.symm) HA1.out ?_)
            | (with_reducible refine wpList_load_row rfl 54 _ rfl w1.heap.size rfl 54 A (0, 0) _ H2.out Tryz.underlying54 rfl (info_arr A HAS.out) ?_)
            | (with_reducible refine wpList_build_item rfl (.tmp 25) rfl A HAS.out rfl ?_)
            | (at_builtin; refine wpList_append_item rfl _ _ rfl w.heap.size _ p i W2.heap.size A HA.out.symm rfl rfl (heap_alloc_new W2 _) HIDI.out HO5.out (by have := HPC.out; omega) HB5.out.size ?_)
            | fail)
          intro v6 w6 o6 g6'
          have HO6 := Lib.hid o6
          have HB6' := Lib.hid (HB5.out.grown g6' HB5.out.size (fun j hj => (HO5.out.lt j hj).1))
          clear o6 g6' hW2
          go_wp2
          go_roundw
          case rel => exact ⟨p ++ [i], r2, by rw [HS2.out], HNF.out, HNI.out, HO6.out, HB6'.out⟩
          case measure => rw [MS.out, MS2.out]; have := HRL.out; omega
end Go.Proofs.YtnohonjjfjppoaaGreatDoor

/-
  Layer 10, the program: Tree (cut out of Xn).
-/
namespace Go.Proofs.YtnohonjjfjppoaaGreatDoor
set_option maxRecDepth 20000
open Go.RowKit
set_option linter.unusedVariables false
set_option linter.unusedSimpArgs false
set_option maxHeartbeats 16000000 in
theorem TreeP_is {S : Nat → Prop} {w : World} {g : Nat} {M : List Cel} (h : StoreP S w g M) (i : List UInt8) (hi : i.length = 20) (tab : QTab w) :
    Calls Tryz.prog 82 #[.pointer (some ⟨g, 0, none⟩), .agg (arrD i)] w fun e w' => ∃ v p err, e = .returned (.tuple #[v, .int .i64 err]) ∧ RedI w' v p ∧ TreeS (getM M i) p err ∧ Below w.heap.size w w' := by
  obtain ⟨A1, hA1⟩ : ∃ A, arrD i = A := ⟨_, rfl⟩
  have sA : A1.size = 20 := by rw [← hA1]; exact arrD_size i hi
  have b1 : Below w.heap.size w (w.alloc (.cells A1 27)) := (Below.refl w.heap.size w).alloc (Nat.le_refl _) (.cells A1 27)
  have H1 := Lib.hid (heap_alloc_new w (.cells A1 27)); have B1 := Lib.hid b1
  have IA := Lib.hid (show (Tryz.prog.info? 27).map (·.size) = some A1.size from by rw [sA]; exact infoD_n)
  have CO := Lib.hid (fun u (hu : Below w.heap.size w u) => bodyP_is (h.below hu) i hi 2)
  have TB := Lib.hid tab
  unfold TreeS
  rw [hA1] at CO ⊢
  obtain ⟨r, hr⟩ : ∃ r, ofS (getM M i) 2 = r := ⟨_, rfl⟩
  rw [hr] at CO ⊢
  obtain ⟨bs, er⟩ := r
  simp only at CO ⊢
  clear h b1 sA hr tab
  by_cases he : er = 0
  · subst he
    go_enter Tryz.func82, Tryz.ntmps82
    go_wp2_with (first
      | (with_reducible refine wpList_load_all 27 (.tmp 3) rfl (by kernel_rfl) w.heap.size A1 27 (0, 0) rfl H1.out _ Tryz.underlying27 rfl IA.out ?_)
      | fail)
    refine (CO.out _ B1.out).mono ?_
    rintro e w3 ⟨v, rfl, ⟨va, vc, rfl, hba, -, hvc, -, -⟩, hb3⟩
    have HB3 := Lib.hid (B1.out.trans (hb3.mono B1.out.size))
    have CP := Lib.hid (pParse_is va bs.length vc bs w3 rfl hba (TB.out.below HB3.out))
    clear hb3 CO hba hvc
    obtain ⟨n, hn⟩ : ∃ n, bs.length = n := ⟨_, rfl⟩
    rw [hn] at CP
    rw [hn]
    go_wp2_with fail
    refine CP.out.mono ?_
    rintro e w4 ⟨v, p, err, rfl, hp, hpt, hb4⟩
    have HB4 := Lib.hid (HB3.out.trans (hb4.mono HB3.out.size))
    have HP := Lib.hid hp; have HPT := Lib.hid hpt
    clear hb4 CP hp hpt
    go_wp2
    go_ret2
    exact ⟨_, p, err, rfl, HP.out, HPT.out, HB4.out⟩
  · go_enter Tryz.func82, Tryz.ntmps82
    go_wp2_with (first
      | (with_reducible refine wpList_load_all 27 (.tmp 3) rfl (by kernel_rfl) w.heap.size A1 27 (0, 0) rfl H1.out _ Tryz.underlying27 rfl IA.out ?_)
      | fail)
    refine (CO.out _ B1.out).mono ?_
    rintro e w3 ⟨v, rfl, hr, hb3⟩
    have HB3 := Lib.hid (B1.out.trans (hb3.mono B1.out.size))
    clear hb3 CO hr
    go_wp2
    go_ret2
    exact ⟨_, [], er, rfl, RedI.none _, ⟨rfl, rfl⟩, HB3.out⟩
end Go.Proofs.YtnohonjjfjppoaaGreatDoor

/-
  Layer 13, the program: an item of a tree on the way: a file is found.
-/
namespace Go.Proofs.YtnohonjjfjppoaaGreatDoor
set_option maxRecDepth 20000
open Go.RowKit
set_option linter.unusedVariables false
set_option linter.unusedSimpArgs false
theorem built_file20 (m : Int) (s : ByteArray) (b0 b1 b2 b3 b4 b5 b6 b7 b8 b9 b10 b11 b12 b13 b14 b15 b16 b17 b18 b19 : UInt8) :
    Tryz.prog.built 29 [(0, .string s), (1, .int .i64 m), (2, .agg (arrD [b0, b1, b2, b3, b4, b5, b6, b7, b8, b9, b10, b11, b12, b13, b14, b15, b16, b17, b18, b19]))] = some (.string s :: .int .i64 m :: cellsD [b0, b1, b2, b3, b4, b5, b6, b7, b8, b9, b10, b11, b12, b13, b14, b15, b16, b17, b18, b19]).toArray := by kernel_rfl
theorem built_fil (m : Int) (s : ByteArray) : ∀ (i : List UInt8), i.length = 20 → Tryz.prog.built 29 [(0, .string s), (1, .int .i64 m), (2, .agg (arrD i))] = some (.string s :: .int .i64 m :: cellsD i).toArray
  | [b0, b1, b2, b3, b4, b5, b6, b7, b8, b9, b10, b11, b12, b13, b14, b15, b16, b17, b18, b19], _ => built_file20 m s b0 b1 b2 b3 b4 b5 b6 b7 b8 b9 b10 b11 b12 b13 b14 b15 b16 b17 b18 b19
/-- The way, and the file that was found on it. -/
def WalkR (w : World) (q g : Nat) : Option Fil → Prop
  | none => w.heap[q]? = some (.cells #[.pointer (some ⟨g, 0, none⟩), .slice none 0 0] 89 (0, 0))
  | some f => ∃ v, w.heap[q]? = some (.cells #[.pointer (some ⟨g, 0, none⟩), v] 89 (0, 0)) ∧ ∃ B, OwnR rowF B v [f] w
set_option maxHeartbeats 32000000 in
theorem item_file {w0 : World} (tab : T13 w0) {w : World} {q g : Nat} {x : Itm} {path : List UInt8} (hb0 : Below w0.heap.size w0 w) (hq : w.heap[q]? = some (.cells #[.pointer (some ⟨g, 0, none⟩), .slice none 0 0] 89 (0, 0)))
    (hid : x.id.length = 20) (hm : x.mode ≠ 4) (hp : pathL path = true) :
    Calls Tryz.prog 83 #[.pointer (some ⟨q, 0, none⟩), .agg (arrI x), .string ⟨path.toArray⟩] w fun e w' => e = .returned (.int .i64 0) ∧ WalkR w' q g (some ⟨path, x.mode, x.id⟩) ∧ Chg (fun j => j = q) w w' := by
  have hpl := path_len hp
  have b1 := (Below.refl w.heap.size w).alloc (Nat.le_refl _) (.cells (arrI x) 54)
  have h1 := heap_alloc_new w (.cells (arrI x) 54)
  have hq1 := (b1.block q (lt_of_heap hq)).trans hq
  obtain ⟨AI, hAI⟩ : ∃ A, arrI x = A := ⟨_, rfl⟩
  obtain ⟨mo, hmo⟩ : ∃ m, x.mode = m := ⟨_, rfl⟩
  have Q2 := Lib.hid (show ∀ j v, (cellsD x.id)[j]? = some v → AI[2 + j]? = some v from fun j v hv => by
    rw [← hAI, Nat.add_comm]
    have h : (Lib.byteCells x.id)[j]? = some v := hv
    simpa [arrI, cellsI] using h)
  have Q0 := Lib.hid (show AI[0]? = some (.int .i64 mo) by rw [← hAI, ← hmo]; rfl)
  have hfm : (mo == 4) = false := by rw [← hmo]; exact beq_false_of_ne hm
  have LI := Lib.hid (show (Tryz.prog.info? 27).map (·.size) = some (cellsD x.id).length by rw [cellsD_len _ hid]; exact info29)
  have BF := Lib.hid (built_fil x.mode ⟨path.toArray⟩ x.id hid)
  have EF := Lib.hid (show (rowF.cl ⟨path, x.mode, x.id⟩).toArray = (.string ⟨path.toArray⟩ :: .int .i64 x.mode :: cellsD x.id).toArray from rfl)
  have OKF := Lib.hid (show rowF.ok ⟨path, x.mode, x.id⟩ from hid)
  obtain ⟨F, hF⟩ : ∃ F : Fil, ⟨path, x.mode, x.id⟩ = F := ⟨_, rfl⟩
  rw [hF] at EF OKF ⊢
  obtain ⟨AF, hAF⟩ : ∃ A, (.string ⟨path.toArray⟩ :: .int .i64 x.mode :: cellsD x.id : List Value).toArray = A := ⟨_, rfl⟩
  rw [hAF] at BF EF
  have SF := Lib.hid (show AF.size = rowF.size by rw [← EF.out, List.size_toArray]; exact goodF.len F OKF.out)
  rw [hmo] at BF
  obtain ⟨CI, hCI⟩ : ∃ A, cellsD x.id = A := ⟨_, rfl⟩
  have EI := Lib.hid (show arrD x.id = CI.toArray by rw [← hCI]; rfl)
  rw [hCI] at LI Q2
  rw [EI.out] at BF
  rw [hAI] at b1 h1 hq1 ⊢
  obtain ⟨w1, hw1⟩ : ∃ w1, w.alloc (.cells AI 54) = w1 := ⟨_, rfl⟩
  rw [hw1] at b1 h1 hq1
  have CPa := Lib.hid (Path_is path w1 (by omega) (tab.keep (hb0.trans (b1.mono hb0.size))).q)
  rw [hp] at CPa
  obtain ⟨sp, hsp⟩ : ∃ sp : ByteArray, ⟨path.toArray⟩ = sp := ⟨_, rfl⟩
  rw [hsp] at CPa BF ⊢
  have B1 := Lib.hid b1; have H1 := Lib.hid h1; have HQ1 := Lib.hid hq1; have LQ := Lib.hid (lt_of_heap hq)
  clear hb0 hq hid hm hp hpl b1 h1 hq1 hAI hF hAF hCI hsp tab hmo
  go_enter Tryz.func83, Tryz.ntmps83
  go_wp2_with fail
  refine CPa.out.mono ?_
  rintro e9 w2 ⟨rfl, b2⟩
  have B2 := Lib.hid (B1.out.trans (b2.mono B1.out.size))
  have h2 := (b2.block w.heap.size (lt_of_heap H1.out)).trans H1.out
  have hq2 := (b2.block q (lt_of_heap HQ1.out)).trans HQ1.out
  have q0 : w2.cell? ⟨w.heap.size, 0, none⟩ = some (.int .i64 mo) := by rw [Lib.cell_of_heap h2]; exact Q0.out
  have q1 : w2.cell? ⟨q, 1, none⟩ = some (.slice none 0 0) := by rw [Lib.cell_of_heap hq2]; rfl
  have H2 := Lib.hid h2; have HQ2 := Lib.hid hq2
  clear b2 h2 hq2 CPa H1 HQ1 hw1
  go_wp2_with fail
  refine wp_regionX (S := fun u => Below w2.heap.size w2 u) (fun j => j == 13 || j == 14 || j == 15) (by kernel_rfl) (Below.refl _ _).drew (fun hHeld => ?_)
  have LQ1 := Lib.hid (show ∀ u, Below w2.heap.size w2 u → u.cell? ⟨q, 1, none⟩ = some (.slice none 0 0) from fun u hu => (hu.cell (p := ⟨q, 1, none⟩) (lt_of_heap HQ2.out)).trans q1)
  have L0 := Lib.hid (show ∀ u, Below w2.heap.size w2 u → u.cell? ⟨w.heap.size, 0, none⟩ = some (.int .i64 mo) from fun u hu => (hu.cell (p := ⟨w.heap.size, 0, none⟩) (lt_of_heap H2.out)).trans q0)
  have RI := Lib.hid (show ∀ u, Below w2.heap.size w2 u → u.rangeAt w.heap.size 2 CI from fun u hu j v hv => by rw [Lib.cell_of_heap (heap_keep H2.out hu)]; exact Q2.out j v hv)
  have hZ := heap_alloc_new w2.drew (.cells AF 29)
  have h3 := (Below.refl w2.heap.size w2).drew.alloc (Nat.le_refl _) (.cells AF 29)
  have hH6 := hHeld.alloc hHeld.size (.cells AF 29)
  have RO := Lib.hid (rowR_one (x := F) goodF (hZ.trans (by rw [EF.out])))
  have SHP := Lib.hid (fun (v : Value) (u : World) (h : OwnR rowF w2.heap.size v ([] ++ [F]) u) => (by
    rw [List.nil_append] at h
    obtain ⟨a, c, e, -⟩ := ownR_shape goodF h (fun x hx => by rw [List.mem_singleton.1 hx]; exact OKF.out)
    exact ⟨a, c, e⟩ : ∃ a c, v = .slice a 1 c))
  clear hZ q0 q1
  refine tkXW 0 rfl hHeld ?_
  refine tkXW 1 rfl hHeld ?_
  refine tkXW 2 rfl hHeld ?_
  refine tkXW 3 rfl hHeld ?_
  refine tkXV 4 rfl (.slice none 0 0) (fun u hu => by have q := LQ1.out u hu; go_simp) hHeld ?_
  refine tkXW 5 rfl hHeld ?_
  refine tkXW 6 rfl hHeld ?_
  refine tkXV 7 rfl (.int .i64 mo) (fun u hu => by have q := L0.out u hu; go_simp) hHeld ?_
  refine tkXW 8 rfl hHeld ?_
  refine tkX 9 rfl (yieldsIf_load_mid (by kernel_rfl) 27 (.tmp 36) (by kernel_rfl) w.heap.size 2 (by kernel_rfl) CI _ (fun u hu => RI.out u hu) Tryz.underlying27 rfl LI.out) hHeld ?_
  refine tkX 10 rfl (yields_build3 (by kernel_rfl) 29 0 1 2 (.tmp 33) (.tmp 35) (.tmp 37) rfl (.string sp) (.int .i64 mo) (.agg CI.toArray) (by kernel_rfl) (by kernel_rfl) (by kernel_rfl) AF BF.out) hHeld ?_
  refine rdX 11 rfl (fun K hK => ?_)
  refine stepW rfl (wp_build_oneR goodF (.tmp 38) (by kernel_rfl) AF SF.out (by kernel_rfl) ?_)
  refine hK.out _ _ (.inl hH6) (fun _ => ?_)
  clear hK K
  refine rdX 12 rfl (fun K hK => ?_)
  refine stepW rfl (wp_append_atR goodF (.tmp 32) (.tmp 39) rfl w2.heap.size (.slice none 0 0) [] [F] (some ⟨w2.heap.size, 0, none⟩) 1 1 (by kernel_rfl) (by kernel_rfl) rfl RO.out (fun x hx => by rw [List.mem_singleton.1 hx]; exact OKF.out) (fun x hx => by cases hx) (ownR_nil _ _) (by simp) hH6.size (fun v' u4 ho4 hg4 hat => ?_))
  have hH7 := hH6.grown hg4 hH6.size (fun k hk => by cases hk)
  refine hK.out _ _ (.inl hH7) (fun _ => ?_)
  clear hK K
  refine tkXP 13 rfl ?_
  refine tkXP 14 rfl ?_
  have q0 := LQ1.out _ hH7
  have q1 := not_frozen (heap_keep HQ2.out hH7) 1
  have hsh := SHP.out v' u4 ho4
  obtain ⟨a4, c4, hv4⟩ := hsh
  have HO4 := Lib.hid ho4; have HH7 := Lib.hid hH7; have HV4 := Lib.hid hv4
  subst hv4
  clear ho4 hg4 hat hH7 hH6 hHeld RO
  refine wpAnyX_ready (rs := [15]) (by kernel_rfl) (by simp) ?_
  apply AllReadyX.cons
  case ho => rfl
  case hs => exact AllReadyX.nil
  intro K hK
  go_simp
  refine hK.out _ _ (.inr rfl) (fun _ => ?_)
  clear hK K
  try simp only [Act.put, List.getElem_toArray, List.getElem_cons_succ, List.getElem_cons_zero, lsA, lsZ, lsS]
  refine wpAnyX_done (by kernel_rfl) ?_ _
  clear q0 q1
  have hwr := (heap_keep HQ2.out HH7.out)
  have hset : (u4.setCell ⟨q, 1, none⟩ (.slice a4 1 c4)).heap[q]? = some (.cells #[.pointer (some ⟨g, 0, none⟩), .slice a4 1 c4] 89 (0, 0)) := by rw [heap_setCell_same u4 q 1 _ _ _ hwr]; rfl
  have hoth : ∀ j, j ≠ q → (u4.setCell ⟨q, 1, none⟩ (.slice a4 1 c4)).heap[j]? = u4.heap[j]? := fun j hj => heap_setCell_other u4 ⟨q, 1, none⟩ j _ hj
  have hown : OwnR rowF w2.heap.size (.slice a4 1 c4) [F] (u4.setCell ⟨q, 1, none⟩ (.slice a4 1 c4)) := by
    have h1 : OwnR rowF w2.heap.size (.slice a4 1 c4) [F] u4 := by
      have h2 := HO4.out
      rw [List.nil_append, HV4.out] at h2
      exact h2
    refine ownR_same h1 (fun k hk => hoth k (fun e => ?_))
    have := (ownR_lt h1 k hk).1
    have := lt_of_heap HQ2.out
    omega
  have hch : Chg (fun j => j = q) w (u4.setCell ⟨q, 1, none⟩ (.slice a4 1 c4)) := by
    have b4 : Below w.heap.size w u4 := B2.out.trans (HH7.out.mono B2.out.size)
    exact (Chg.of_below (S := fun j => j = q) b4).setCell ⟨q, 1, none⟩ (fun _ => rfl) _
  have FIN := Lib.hid (show WalkR (u4.setCell ⟨q, 1, none⟩ (.slice a4 1 c4)) q g (some F) ∧ Chg (fun j => j = q) w (u4.setCell ⟨q, 1, none⟩ (.slice a4 1 c4)) from ⟨⟨_, hset, _, hown⟩, hch⟩)
  clear hwr hset hoth hown hch
  go_wp2
  go_ret
  exact ⟨rfl, FIN.out⟩
end Go.Proofs.YtnohonjjfjppoaaGreatDoor
