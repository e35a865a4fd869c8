/-
  Texts that belong together, one behind the other.
-/
import Derived.Test.YtalmoaofodjehaaDoorFu06
import Derived.Test.YtalmoaofodjehaaDoorFu03
import Derived.Test.YtalmoaofodjehaaDoorShelf
import Derived.Test.YtalmoaofodjehaaDoorFu10
import Derived.Deep.RegionLaw
import Derived.OwnWalk
import Derived.Test.YtalmoaofodjehaaDoorFu12
import Derived.Test.YtalmoaofodjehaaDoorFu04
import Derived.Test.YtalmoaofodjehaaDoorFu02
import Derived.WalkSmall
import Derived.IntWalk
import Derived.Lib.Hide
/-
  Layer 8, the program: takeMode.
-/
namespace Go.Proofs.YtalmoaofodjehaaDoor
set_option maxRecDepth 20000
open Go.RowKit
set_option linter.unusedVariables false
set_option linter.unusedSimpArgs false

/-- The mode whose digits, and a blank, begin bytes. -/
def modeAt (b : List UInt8) : Option Int := ([1, 2, 3, 4] : List Int).find? (fun m => (modeL m ++ [32]).isPrefixOf b)
theorem modeAt_first {b : List UInt8} {k : Int} (h1 : 1 ≤ k) (h4 : k ≤ 4) (hn : ∀ m : Int, 1 ≤ m → m < k → (modeL m ++ [32]).isPrefixOf b = false) (h : (modeL k ++ [32]).isPrefixOf b = true) : modeAt b = some k := by
  have h0 : k = 1 ∨ k = 2 ∨ k = 3 ∨ k = 4 := by omega
  unfold modeAt
  rcases h0 with rfl | rfl | rfl | rfl
  · simp only [List.find?_cons, h]
  · have a := hn 1 (by omega) (by omega)
    simp only [List.find?_cons, h, a]
  · have a := hn 1 (by omega) (by omega)
    have b := hn 2 (by omega) (by omega)
    simp only [List.find?_cons, h, a, b]
  · have a := hn 1 (by omega) (by omega)
    have b := hn 2 (by omega) (by omega)
    have c := hn 3 (by omega) (by omega)
    simp only [List.find?_cons, h, a, b, c]
/-- What takeMode answers. -/
def modeR (b : List UInt8) : Int × Int := match modeAt b with
  | none => (0, 0)
  | some m => (m, (((modeL m).length + 1 : Nat) : Int))
theorem modeR_first {b : List UInt8} {k : Int} (h1 : 1 ≤ k) (h4 : k ≤ 4) (hn : ∀ m : Int, 1 ≤ m → m < k → (modeL m ++ [32]).isPrefixOf b = false) (h : (modeL k ++ [32]).isPrefixOf b = true) : modeR b = (k, (((wordI k ++ [32]).length : Nat) : Int)) := by
  unfold modeR
  rw [modeAt_first h1 h4 hn h, word_yes k ⟨h1, h4⟩]
  simp
theorem modeR_none {b : List UInt8} (hn : ∀ m : Int, 1 ≤ m → m < 5 → (modeL m ++ [32]).isPrefixOf b = false) : modeR b = (0, 0) := by
  unfold modeR modeAt
  rw [find_none (fun m h1 h4 => hn m h1 (by omega))]

set_option maxHeartbeats 4000000 in
theorem takeMode_is (l : List UInt8) (w : World) (hn : l.length ≤ 1000000) :
    Calls Tryd.prog 41 #[.string ⟨l.toArray⟩] w fun e w' => e = .returned (.tuple #[.int .i64 (modeR l).1, .int .i64 (modeR l).2]) ∧ w = w' := by
  have cp0 : ∀ (p : List UInt8) (w : World), Calls Tryd.prog 49 #[.string ⟨l.toArray⟩, .string ⟨p.toArray⟩] w fun e w' => e = .returned (.bool (p.isPrefixOf l)) ∧ w' = w := fun p w => Tryd.strings_HasPrefix ⟨l.toArray⟩ ⟨p.toArray⟩ w
  have CP := Lib.hid cp0
  clear cp0
  have FI := Lib.hid (fun k h1 h4 hn h => @modeR_first l k h1 h4 hn h)
  have NO := Lib.hid (fun hn => @modeR_none l hn)
  obtain ⟨R, hR⟩ : ∃ R, modeR l = R := ⟨_, rfl⟩
  rw [hR] at FI NO ⊢
  clear hR
  obtain ⟨s, hs⟩ : ∃ s : ByteArray, ⟨l.toArray⟩ = s := ⟨_, rfl⟩
  rw [hs] at CP ⊢
  clear hs
  go_enter Tryd.func41, Tryd.ntmps41
  go_wp2_with fail
  go_loopw [4] (fun v4 wr => ∃ k : Nat, 1 ≤ k ∧ k ≤ 5 ∧ v4 = .int .i64 k ∧ (∀ m : Int, 1 ≤ m → m < k → (modeL m ++ [32]).isPrefixOf l = false) ∧ wr = w) (fun v4 _ => 5 - (intOf v4).toNat)
  case atStart => exact ⟨1, Nat.le_refl _, by omega, rfl, fun m h1 h2 => absurd h2 (by omega), rfl⟩
  case round =>
    obtain ⟨k, hk1, hk5, rfl, hno, rfl⟩ := hrel
    have HNO := Lib.hid hno
    clear hno
    by_cases hlt : k ≤ 4
    · have cW := fun w => word_is (k : Int) w
      have hw := word_yes (k : Int) ⟨by omega, by omega⟩
      have cp := fun w => CP.out (wordI (k : Int) ++ [32]) w
      have fi := FI.out (k : Int) (by omega) (by omega) HNO.out
      have ad := fun w => add_lists (P := Tryd.prog) w (wordI (k : Int)) [32] (by
        have := modeL_len (k : Int)
        rw [hw]; simp; omega)
      have sz := size_toArray (wordI (k : Int) ++ [32])
      rw [← hw] at fi
      obtain ⟨r, hr⟩ : ∃ r, (wordI (k : Int) ++ [32]).isPrefixOf l = r := ⟨_, rfl⟩
      rw [hr] at cp fi
      have HRR := Lib.hid (show (modeL (k : Int) ++ [32]).isPrefixOf l = r by rw [← hw]; exact hr)
      obtain ⟨n, hn2⟩ : ∃ n, (wordI (k : Int) ++ [32]).length = n := ⟨_, rfl⟩
      rw [hn2] at sz fi
      generalize (⟨(wordI (k : Int) ++ [32]).toArray⟩ : ByteArray) = s2 at ad cp sz
      generalize (⟨(wordI (k : Int)).toArray⟩ : ByteArray) = s1 at ad cW
      clear hw hr hn2
      cases r with
      | false =>
        clear fi
        go_wp2_with fail
        refine (cW _).mono ?_
        rintro e w1 ⟨rfl, rfl⟩
        go_wp2_with fail
        refine (cp _).mono ?_
        rintro e w1 ⟨rfl, rfl⟩
        go_wp2
        go_roundw
        case rel =>
          refine ⟨k + 1, by omega, by omega, by go_num, fun m h1 h2 => ?_, by trivial⟩
          by_cases h : m < (k : Int)
          · exact HNO.out m h1 h
          · obtain rfl : m = (k : Int) := by omega
            exact HRR.out
        case measure => simp [intOf]; omega
      | true =>
        have fi2 := fi rfl
        subst fi2
        clear fi
        go_wp2_with fail
        refine (cW _).mono ?_
        rintro e w1 ⟨rfl, rfl⟩
        go_wp2_with fail
        refine (cp _).mono ?_
        rintro e w1 ⟨rfl, rfl⟩
        go_wp2
        go_ret2
        exact ⟨rfl, rfl⟩
    · have hk : k = 5 := by omega
      subst hk
      have no := NO.out HNO.out
      subst no
      go_wp2
      go_ret2
      exact ⟨rfl, rfl⟩
end Go.Proofs.YtalmoaofodjehaaDoor

/-
  Layer 8, the program: takeItem.
-/
namespace Go.Proofs.YtalmoaofodjehaaDoor
set_option maxRecDepth 20000
open Go.RowKit
set_option linter.unusedVariables false
set_option linter.unusedSimpArgs false

/-- What takeItem answers. -/
def itemR (b : List UInt8) : Value := match takeI b with
  | none => .tuple #[.agg (arrI zItm), .int .i64 0, .bool false]
  | some (i, r) => .tuple #[.agg (arrI i), .int .i64 ((b.length - r.length : Nat) : Int), .bool true]
theorem takeI_mode (b : List UInt8) : takeI b = match modeAt b with
  | none => none
  | some m =>
    if (b.drop ((modeL m).length + 1)).length < (b.drop ((modeL m).length + 1)).findIdx (· == 0) + 21 then none
    else some (⟨m, (b.drop ((modeL m).length + 1)).take ((b.drop ((modeL m).length + 1)).findIdx (· == 0)), ((b.drop ((modeL m).length + 1)).drop ((b.drop ((modeL m).length + 1)).findIdx (· == 0) + 1)).take 20⟩,
      (b.drop ((modeL m).length + 1)).drop ((b.drop ((modeL m).length + 1)).findIdx (· == 0) + 21)) := rfl
theorem item_none {b : List UInt8} (h : modeAt b = none) : itemR b = .tuple #[.agg (arrI zItm), .int .i64 0, .bool false] := by
  unfold itemR
  rw [takeI_mode, h]
theorem item_short {b : List UInt8} {m : Int} {k : Nat} (h : modeAt b = some m) (hk : (modeL m).length + 1 = k) (hl : (b.drop k).length < (b.drop k).findIdx (· == 0) + 21) : itemR b = .tuple #[.agg (arrI zItm), .int .i64 0, .bool false] := by
  unfold itemR
  rw [takeI_mode, h]
  simp only
  rw [hk, if_pos hl]
theorem item_whole {b : List UInt8} {m : Int} {k e : Nat} (h : modeAt b = some m) (hk : (modeL m).length + 1 = k) (he : (b.drop k).findIdx (· == 0) = e) (hl : ¬ b.length < k + e + 21) :
    itemR b = .tuple #[.agg (arrI ⟨m, (b.drop k).take e, (b.drop (k + e + 1)).take 20⟩), .int .i64 ((k + e + 1 + 20 : Nat) : Int), .bool true] := by
  unfold itemR
  rw [takeI_mode, h]
  simp only
  rw [hk, he, if_neg (by rw [List.length_drop]; omega)]
  simp only [List.drop_drop, List.length_drop]
  rw [show k + (e + 1) = k + e + 1 by omega, show b.length - (b.length - (k + (e + 21))) = k + e + 1 + 20 by omega]
theorem mode_le {b : List UInt8} {m : Int} (h : modeAt b = some m) : (1 ≤ m ∧ m ≤ 4) ∧ (modeL m).length + 1 ≤ b.length := by
  obtain ⟨h1, h2⟩ := find_some h
  have h3 := congrArg List.length h2
  refine ⟨h1, ?_⟩
  rw [List.length_append, List.length_cons] at h3
  omega

set_option maxHeartbeats 8000000 in
theorem takeItem_is (l : List UInt8) (w : World) (hn : l.length ≤ 1000000) :
    Calls Tryd.prog 29 #[.string ⟨l.toArray⟩] w fun e w' => e = .returned (itemR l) ∧ Below w.heap.size w w' := by
  obtain ⟨z, hz, hzs, hzv, hzb, hz1⟩ := zItem_any
  have HZB := Lib.hid hzb; have HZ1 := Lib.hid hz1; have HZS := Lib.hid hzs; have HZ := Lib.hid hz
  have hmo := fun w => takeMode_is l w hn
  have hsz := size_toArray l
  obtain ⟨R, hR⟩ : ∃ R, itemR l = R := ⟨_, rfl⟩
  have HR := Lib.hid hR
  rw [hR]
  have EX := Lib.hid (fun a b => ext_list l a b)
  obtain ⟨s, hs⟩ : ∃ s : ByteArray, ⟨l.toArray⟩ = s := ⟨_, rfl⟩
  rw [hs] at hmo hsz EX ⊢
  have b0 := (Below.refl w.heap.size w).alloc (Nat.le_refl _) (.cells z 30)
  have g0 := heap_alloc_new w (.cells z 30)
  have s0 : (w.alloc (.cells z 30)).heap.size = w.heap.size + 1 := by simp
  have HB0 := Lib.hid b0; have HG0 := Lib.hid g0; have HS0 := Lib.hid s0
  clear hs hzb hz1 hzs hR hz b0 g0 s0
  cases hm : modeAt l with
  | none =>
    have hr : R = .tuple #[.agg z, .int .i64 0, .bool false] := by rw [← HR.out, item_none hm, HZ.out]
    have HRR := Lib.hid hr
    have e0 : modeR l = (0, 0) := by unfold modeR; rw [hm]
    rw [e0] at hmo
    have x0 : s.extract 0 l.length = ⟨l.toArray⟩ := by rw [EX.out]; simp
    have cI := fun w => indexOf_is 0 (by decide) l 0 rfl w hn
    generalize (⟨l.toArray⟩ : ByteArray) = sx at x0 cI
    generalize (seekI l 0).1 = q1 at cI
    generalize (seekI l 0).2 = q2 at cI
    clear hr e0 hm
    go_enter Tryd.func29, Tryd.ntmps29
    go_wp2_with fail
    refine (hmo _).mono ?_
    rintro e w1 ⟨rfl, rfl⟩
    go_wp2_with fail
    refine (cI _).mono ?_
    rintro e w1 ⟨rfl, b1⟩
    have g1 := (b1.block w.heap.size (by rw [HS0.out]; omega)).trans HG0.out
    have bw := HB0.out.trans (b1.mono HB0.out.size)
    have HG1 := Lib.hid g1; have HBW := Lib.hid bw
    clear b1 g1 bw cI
    go_wp2_with (first
      | (with_reducible refine wpList_build_as rfl 30 _ rfl z HZB.out ?_)
      | (with_reducible refine wpList_store_row rfl 30 (.tmp 2) (.tmp 28) rfl w.heap.size z rfl rfl 30 z HG1.out (info_arr z HZS.out) rfl HZ1.out ?_)
      | fail)
    refine bodyPost_ret (results_item3 Tryd.results29 _ _ w.heap.size z (0, 0) _ _ rfl rfl rfl (setRow_heap _ w.heap.size z z _ (0, 0) HG1.out) HZS.out) rfl ⟨by rw [HRR.out]; rfl, below_setRow HBW.out (Nat.le_refl _) _⟩
  | some m =>
    obtain ⟨hm1, hm2⟩ := mode_le hm
    obtain ⟨k, hk⟩ : ∃ k, (modeL m).length + 1 = k := ⟨_, rfl⟩
    rw [hk] at hm2
    have e0 : modeR l = (m, (k : Int)) := by unfold modeR; rw [hm]; simp only; rw [hk]
    rw [e0] at hmo
    have hk5 : 6 ≤ k := by have := modeL_len m; omega
    have x0 : s.extract k l.length = ⟨(l.drop k).toArray⟩ := by rw [EX.out, List.take_of_length_le (by rw [List.length_drop]; omega)]
    have cI := fun w => indexOf_is 0 (by decide) (l.drop k) 0 rfl w (by rw [List.length_drop]; omega)
    have k0 : ((k : Int) == 0) = false := beq_false_of_ne (by omega)
    have j1 : (0 : Int) ≤ (k : Int) := by omega
    have j2 : (k : Int) ≤ (l.length : Int) := by omega
    have j3 : (k : Int) ≤ (s.size : Int) := by omega
    by_cases hf : (l.drop k).findIdx (· == 0) < (l.drop k).length
    · have e1 : seekI (l.drop k) 0 = ((l.drop k).findIdx (· == 0), true) := by unfold seekI; rw [if_pos hf]
      rw [e1] at cI
      obtain ⟨e, he⟩ : ∃ e, (l.drop k).findIdx (· == 0) = e := ⟨_, rfl⟩
      rw [he] at cI hf
      have hke : k + e < l.length := by rw [List.length_drop] at hf; omega
      generalize (⟨(l.drop k).toArray⟩ : ByteArray) = sx at x0 cI
      by_cases hl : l.length < k + e + 21
      · have hr : R = .tuple #[.agg z, .int .i64 0, .bool false] := by rw [← HR.out, item_short hm hk (by rw [he, List.length_drop]; omega), HZ.out]
        have HRR := Lib.hid hr
        clear hr e0 e1 hm hk he hf
        go_enter Tryd.func29, Tryd.ntmps29
        go_wp2_with fail
        refine (hmo _).mono ?_
        rintro e w1 ⟨rfl, rfl⟩
        go_wp2_with fail
        refine (cI _).mono ?_
        rintro e w1 ⟨rfl, b1⟩
        have g1 := (b1.block w.heap.size (by rw [HS0.out]; omega)).trans HG0.out
        have bw := HB0.out.trans (b1.mono HB0.out.size)
        have HG1 := Lib.hid g1; have HBW := Lib.hid bw
        clear b1 g1 bw cI
        obtain ⟨nm, hnm⟩ : ∃ nm, (l.drop k).take e = nm := ⟨_, rfl⟩
        have x1 : s.extract k (k + e) = ⟨nm.toArray⟩ := by rw [EX.out, show k + e - k = e by omega, hnm]
        obtain ⟨sn, hsn⟩ : ∃ sn : ByteArray, ⟨nm.toArray⟩ = sn := ⟨_, rfl⟩
        have bi := built_item m nm
        rw [hsn] at bi x1
        obtain ⟨c1, hc1⟩ : ∃ c1, arrI ⟨m, nm, zeroId⟩ = c1 := ⟨_, rfl⟩
        have HC1S := Lib.hid (show c1.size = 22 by rw [← hc1]; exact arrI_size _ (by simp [zeroId]))
        have HC11 := Lib.hid (show c1.all (·.oneCell') = true by rw [← hc1]; exact arrI_one _)
        rw [hc1] at bi
        have HBI := Lib.hid bi
        have HC1 := Lib.hid hc1
        have hnm2 := Lib.hid hnm
        clear bi hc1 hnm
        have lt1 : w.heap.size < w1.heap.size := lt_of_heap HG1.out
        have b4 := below_setRow (B := w1.heap.size) (g := w1.heap.size) ((Below.refl w1.heap.size w1).alloc (Nat.le_refl _) (.cells z 30)) (Nat.le_refl _) c1
        have g4 := (b4.block _ lt1).trans HG1.out
        have h4 := setRow_heap (w1.alloc (.cells z 30)) w1.heap.size z c1 30 (0, 0) (heap_alloc_new w1 _)
        have HG4 := Lib.hid g4; have HH4 := Lib.hid h4
        have HB4 := Lib.hid (HBW.out.trans (b4.mono HBW.out.size))
        have LT1 := Lib.hid lt1
        clear b4 g4 h4 lt1
        have j4 : (k : Int) + (e : Int) ≤ (l.length : Int) := by omega
        have j5 : (k : Int) ≤ (k : Int) + (e : Int) := by omega
        have j6 : (l.length : Int) - ((k : Int) + ((e : Int) + 1)) < 20 := by omega
        go_wp2_with (first
          | (with_reducible refine wpList_build_as rfl 30 _ rfl z HZB.out ?_)
          | (with_reducible refine wpList_build_as rfl 30 _ rfl c1 ?bi1 ?_)
          | (with_reducible refine wpList_store_row rfl 30 (.tmp 9) (.tmp 36) rfl w1.heap.size c1 rfl rfl 30 z (heap_alloc_new w1 _) (info_arr c1 HC1S.out) (HZS.out.trans HC1S.out.symm) HC11.out ?_)
          | (with_reducible refine wpList_store_row rfl 30 (.tmp 2) (.tmp 46) rfl w.heap.size z rfl rfl 30 z HG4.out (info_arr z HZS.out) rfl HZ1.out ?_)
          | fail)
        case bi1 => exact HBI.out
        refine bodyPost_ret (results_item3 Tryd.results29 _ _ w.heap.size z (0, 0) _ _ rfl rfl rfl (setRow_heap _ w.heap.size z z _ (0, 0) HG4.out) HZS.out) rfl ⟨by rw [HRR.out]; rfl, below_setRow HB4.out (Nat.le_refl _) _⟩
      · have hr : R = .tuple #[.agg (arrI ⟨m, (l.drop k).take e, (l.drop (k + e + 1)).take 20⟩), .int .i64 ((k + e + 1 + 20 : Nat) : Int), .bool true] := by rw [← HR.out, item_whole hm hk he hl]
        have HRR := Lib.hid hr
        clear hr e0 e1 hm hk he hf
        go_enter Tryd.func29, Tryd.ntmps29
        go_wp2_with fail
        refine (hmo _).mono ?_
        rintro e w1 ⟨rfl, rfl⟩
        go_wp2_with fail
        refine (cI _).mono ?_
        rintro e w1 ⟨rfl, b1⟩
        have g1 := (b1.block w.heap.size (by rw [HS0.out]; omega)).trans HG0.out
        have bw := HB0.out.trans (b1.mono HB0.out.size)
        have HG1 := Lib.hid g1; have HBW := Lib.hid bw
        clear b1 g1 bw cI
        obtain ⟨nm, hnm⟩ : ∃ nm, (l.drop k).take e = nm := ⟨_, rfl⟩
        have x1 : s.extract k (k + e) = ⟨nm.toArray⟩ := by rw [EX.out, show k + e - k = e by omega, hnm]
        obtain ⟨sn, hsn⟩ : ∃ sn : ByteArray, ⟨nm.toArray⟩ = sn := ⟨_, rfl⟩
        have bi := built_item m nm
        rw [hsn] at bi x1
        obtain ⟨c1, hc1⟩ : ∃ c1, arrI ⟨m, nm, zeroId⟩ = c1 := ⟨_, rfl⟩
        have HC1S := Lib.hid (show c1.size = 22 by rw [← hc1]; exact arrI_size _ (by simp [zeroId]))
        have HC11 := Lib.hid (show c1.all (·.oneCell') = true by rw [← hc1]; exact arrI_one _)
        rw [hc1] at bi
        have HBI := Lib.hid bi
        have HC1 := Lib.hid hc1
        have hnm2 := Lib.hid hnm
        clear bi hc1 hnm
        have lt1 : w.heap.size < w1.heap.size := lt_of_heap HG1.out
        have b4 := below_setRow (B := w1.heap.size) (g := w1.heap.size) ((Below.refl w1.heap.size w1).alloc (Nat.le_refl _) (.cells z 30)) (Nat.le_refl _) c1
        have g4 := (b4.block _ lt1).trans HG1.out
        have h4 := setRow_heap (w1.alloc (.cells z 30)) w1.heap.size z c1 30 (0, 0) (heap_alloc_new w1 _)
        have HG4 := Lib.hid g4; have HH4 := Lib.hid h4
        have HB4 := Lib.hid (HBW.out.trans (b4.mono HBW.out.size))
        have LT1 := Lib.hid lt1
        clear b4 g4 h4 lt1
        have j4 : (k : Int) + (e : Int) ≤ (l.length : Int) := by omega
        have j5 : (k : Int) ≤ (k : Int) + (e : Int) := by omega
        obtain ⟨y, hy⟩ : ∃ y, l.drop (k + e + 1) = y := ⟨_, rfl⟩
        have hy20 : 20 ≤ y.length := by rw [← hy, List.length_drop]; omega
        have x2 : s.extract (k + (e + 1)) l.length = ⟨y.toArray⟩ := by rw [EX.out, List.take_of_length_le (by rw [List.length_drop]; omega), ← hy]; rfl
        obtain ⟨W4, hW4⟩ : ∃ W4, (w1.alloc (.cells z 30)).setRow w1.heap.size c1 = W4 := ⟨_, rfl⟩
        rw [hW4] at HG4 HH4 HB4
        have cp := copy_item W4.drew w1.heap.size m nm y c1 HC1.out.symm HH4.out hy20
        obtain ⟨c2, hc2⟩ : ∃ c2, arrI ⟨m, nm, y.take 20⟩ = c2 := ⟨_, rfl⟩
        have HC2S := Lib.hid (show c2.size = 22 by rw [← hc2]; exact arrI_size _ (by simp; omega))
        have HC21 := Lib.hid (show c2.all (·.oneCell') = true by rw [← hc2]; exact arrI_one _)
        have HRS := Lib.hid (show R = .tuple #[.agg c2, .int .i64 ((k : Int) + ((e : Int) + 1) + 20), .bool true] by
          rw [HRR.out, ← hc2, ← hnm2.out, ← hy, show ((k + e + 1 + 20 : Nat) : Int) = (k : Int) + ((e : Int) + 1) + 20 by omega])
        rw [hc2] at cp
        obtain ⟨sy, hsy⟩ : ∃ sy : ByteArray, ⟨y.toArray⟩ = sy := ⟨_, rfl⟩
        rw [hsy] at cp x2
        have sl20 := fun u => slice20_all u w1.heap.size 2
        have j7 : ¬ ((l.length : Int) - ((k : Int) + ((e : Int) + 1)) < 20) := by omega
        have j8 : (k : Int) + ((e : Int) + 1) ≤ (l.length : Int) := by omega
        clear hc2 hy hsy
        go_wp2_with (first
          | (with_reducible refine wpList_build_as rfl 30 _ rfl c1 ?bi2 ?_)
          | (with_reducible refine wpList_store_row rfl 30 (.tmp 9) (.tmp 36) rfl w1.heap.size c1 rfl rfl 30 z (heap_alloc_new w1 _) (info_arr c1 HC1S.out) (HZS.out.trans HC1S.out.symm) HC11.out ?_)
          | fail)
        case bi2 => exact HBI.out
        clear hW4
        have HG5 := Lib.hid (show (W4.drew.setRow w1.heap.size c2).heap[w.heap.size]? = some (.cells z 30 (0, 0)) by
          rw [setRow_other _ _ _ _ (Nat.ne_of_lt LT1.out)]; exact HG4.out)
        have HH5 := Lib.hid (show (W4.drew.setRow w1.heap.size c2).heap[w1.heap.size]? = some (.cells c2 30 (0, 0)) from setRow_heap _ _ _ _ _ _ HH4.out)
        have HB5 := Lib.hid (below_setRow (g := w1.heap.size) HB4.out.drew (Nat.le_of_lt LT1.out) c2)
        go_region
        go_wp2_with (first
          | (with_reducible refine wpList_load_row rfl 30 _ rfl w1.heap.size rfl 30 c2 (0, 0) _ HH5.out Tryd.underlying30 rfl (info_arr c2 HC2S.out) ?_)
          | (with_reducible refine wpList_store_row rfl 30 (.tmp 2) (.tmp 55) rfl w.heap.size c2 rfl rfl 30 z HG5.out (info_arr c2 HC2S.out) (HZS.out.trans HC2S.out.symm) HC21.out ?_)
          | fail)
        refine bodyPost_ret (results_item3 Tryd.results29 _ _ w.heap.size c2 (0, 0) _ _ rfl rfl rfl (setRow_heap _ w.heap.size z c2 _ (0, 0) HG5.out) HC2S.out) rfl ⟨by rw [HRS.out]; rfl, below_setRow HB5.out (Nat.le_refl _) _⟩
    · have hr : R = .tuple #[.agg z, .int .i64 0, .bool false] := by rw [← HR.out, item_short hm hk (by omega), HZ.out]
      have HRR := Lib.hid hr
      have e1 : seekI (l.drop k) 0 = (0, false) := by unfold seekI; rw [if_neg hf]
      rw [e1] at cI
      generalize (⟨(l.drop k).toArray⟩ : ByteArray) = sx at x0 cI
      clear hr e0 e1 hm hk hf
      go_enter Tryd.func29, Tryd.ntmps29
      go_wp2_with fail
      refine (hmo _).mono ?_
      rintro e w1 ⟨rfl, rfl⟩
      go_wp2_with fail
      refine (cI _).mono ?_
      rintro e w1 ⟨rfl, b1⟩
      have g1 := (b1.block w.heap.size (by rw [HS0.out]; omega)).trans HG0.out
      have bw := HB0.out.trans (b1.mono HB0.out.size)
      have HG1 := Lib.hid g1; have HBW := Lib.hid bw
      clear b1 g1 bw cI
      go_wp2_with (first
        | (with_reducible refine wpList_build_as rfl 30 _ rfl z HZB.out ?_)
        | (with_reducible refine wpList_store_row rfl 30 (.tmp 2) (.tmp 28) rfl w.heap.size z rfl rfl 30 z HG1.out (info_arr z HZS.out) rfl HZ1.out ?_)
        | fail)
      refine bodyPost_ret (results_item3 Tryd.results29 _ _ w.heap.size z (0, 0) _ _ rfl rfl rfl (setRow_heap _ w.heap.size z z _ (0, 0) HG1.out) HZS.out) rfl ⟨by rw [HRR.out]; rfl, below_setRow HBW.out (Nat.le_refl _) _⟩
end Go.Proofs.YtalmoaofodjehaaDoor

/-
  Layer 8, the program: Parse.
-/
namespace Go.Proofs.YtalmoaofodjehaaDoor
set_option maxRecDepth 20000
open Go.RowKit
set_option linter.unusedVariables false
set_option linter.unusedSimpArgs false

/-- Items that are read alone. -/
def RedI (w : World) (v : Value) (l : List Itm) : Prop := ∃ a c, v = .slice a l.length c ∧ ItemsAt w a l ∧ (a = none → l.length = 0 ∧ c = 0) ∧ l.length ≤ c ∧ c ≤ maxLen
theorem RedI.none (w : World) : RedI w (.slice none 0 0) [] := ⟨.none, 0, rfl, ItemsAt.nil w _, fun _ => ⟨rfl, rfl⟩, Nat.le_refl _, Nat.zero_le _⟩
theorem RedI.keep {w w' : World} {v : Value} {l : List Itm} (h : RedI w v l) (b : Below w.heap.size w w') : RedI w' v l := by
  obtain ⟨a, c, e, hi, r⟩ := h
  exact ⟨a, c, e, hi.keep b, r⟩
def strLen : Value → Nat
  | .string s => s.size
  | _ => 0
theorem strLen_string (s : ByteArray) : strLen (.string s) = s.size := rfl
theorem flat_count (l : List Itm) : l.length ≤ (flatI l).length := by
  induction l with
  | nil => exact Nat.zero_le _
  | cons i l ih => rw [flat_cons, List.length_append, List.length_cons]; have := print_pos i; omega
theorem name_le {l : List Itm} {i : Itm} (h : i ∈ l) : i.name.length ≤ (flatI l).length := by
  induction l with
  | nil => cases h
  | cons j l ih =>
    rw [flat_cons, List.length_append]
    rcases List.mem_cons.1 h with rfl | h
    · rw [print_length]; omega
    · have := ih h; omega
theorem item_take {r r2 : List UInt8} {i : Itm} (h : takeI r = some (i, r2)) : itemR r = .tuple #[.agg (arrI i), .int .i64 (((printI i).length : Nat) : Int), .bool true] ∧ r = printI i ++ r2 ∧ fine i ∧ r.drop (printI i).length = r2 := by
  obtain ⟨h1, h2⟩ := take_back h
  refine ⟨?_, h2, h1, by rw [h2, List.drop_left]⟩
  unfold itemR
  rw [h]
  simp only
  rw [show r.length - r2.length = (printI i).length by rw [h2, List.length_append]; omega]
theorem item_stop {r : List UInt8} (h : takeI r = none) : itemR r = .tuple #[.agg (arrI zItm), .int .i64 0, .bool false] := by unfold itemR; rw [h]

set_option maxHeartbeats 16000000 in
theorem pParse_is (a : Option Addr) (n c : Nat) (bs : List UInt8) (w : World) (hn : n = bs.length) (hb : BAt w a bs) (tab : QTab w) :
    Calls Tryd.prog 15 #[.slice a n c] w fun e w' => ∃ v p err, e = .returned (.tuple #[v, .int .i64 err]) ∧ RedI w' v p ∧ ParsedT bs p err ∧ Below w.heap.size w w' := by
  by_cases h6 : 65536 < n
  · have g6 : (n : Int) > 65536 := by omega
    have HP := Lib.hid (show ParsedT bs [] 5 from .inl ⟨by omega, rfl, rfl⟩)
    clear hn hb tab h6
    go_enter Tryd.func15, Tryd.ntmps15
    go_wp2
    go_ret2
    exact ⟨_, _, _, rfl, RedI.none _, HP.out, Below.refl _ _⟩
  · have g6 : ¬ (n : Int) > 65536 := by omega
    have cv := hb.conv (P := Tryd.prog) c 23 5 Tryd.underlying23 Tryd.underlying5 9 Tryd.underlying9
    rw [← hn] at cv
    have hb6 : bs.length ≤ 65536 := by omega
    have HB6 := Lib.hid hb6
    have TB := Lib.hid tab
    obtain ⟨z, hz, hzs, hzv, hzb, hz1⟩ := zItem_any
    have HZS := Lib.hid hzs; have HZ := Lib.hid hz
    clear hn hb tab h6 hzs hzb hz1 hz
    go_enter Tryd.func15, Tryd.ntmps15
    go_wp2_with fail
    go_loopw [4, 5] (fun v4 v5 wr => ∃ (p : List Itm) (r : List UInt8), v5 = .string ⟨r.toArray⟩ ∧ flatI p ++ r = bs ∧ (∀ i ∈ p, fine i) ∧ OwnI w.heap.size v4 p wr ∧ Below w.heap.size w wr) (fun _ v5 _ => strLen v5)
    case atStart => exact ⟨[], bs, rfl, rfl, (fun i hi => by cases hi), ownI_nil w _, Below.refl _ _⟩
    case round =>
      obtain ⟨p, r, rfl, hfl, hfi, hown, hbr⟩ := hrel
      have HFL := Lib.hid hfl; have HFI := Lib.hid hfi; have HOWN := Lib.hid hown; have HBR := Lib.hid hbr
      have hlen : (flatI p).length + r.length ≤ 65536 := by rw [← List.length_append, hfl]; exact hb6
      have hpc := flat_count p
      clear hfl hfi hown hbr
      have hem := empty_list r
      by_cases hr : r = []
      · subst hr
        have HFL2 := Lib.hid (show flatI p = bs by rw [← HFL.out, List.append_nil])
        obtain ⟨a', c', hv, hl1, hl2, hit, hno⟩ := ownI_items HOWN.out (fun i hi => (HFI.out i hi).2.2)
        subst hv
        have HRI := Lib.hid (show RedI wr (.slice a' p.length c') p from ⟨a', c', rfl, hit, hno, hl1, hl2⟩)
        have cR := pRight_is a' p.length c' p wr rfl (by unfold maxLen; omega) hit (fun i hi => (HFI.out i hi).2.2) (fun i hi => by have := name_le hi; omega) (TB.out.below HBR.out)
        rw [decide_eq_true (by rfl)] at hem
        obtain ⟨s0, hs0⟩ : ∃ s0 : ByteArray, ⟨([] : List UInt8).toArray⟩ = s0 := ⟨_, rfl⟩
        rw [hs0] at hem ⊢
        have HPC := Lib.hid hpc
        obtain ⟨m, hm⟩ : ∃ m, p.length = m := ⟨_, rfl⟩
        rw [hm] at cR hpc
        have HM := Lib.hid hm
        clear hs0 hit hno hl1 hl2 HOWN hlen
        by_cases hp0 : m = 0
        · have g0 : ¬ (m : Int) > 0 := by omega
          have HPT := Lib.hid (show ParsedT bs p 0 from .inr (.inl ⟨HB6.out, rfl, HFL2.out, HFI.out, .inl (List.eq_nil_of_length_eq_zero (by rw [HM.out]; exact hp0))⟩))
          clear hp0 cR
          go_wp2
          go_ret2
          refine ⟨_, p, 0, rfl, ?_, HPT.out, HBR.out⟩
          rw [← HM.out]
          exact HRI.out
        · have g0 : (m : Int) > 0 := by omega
          cases hr : rightI p with
          | true =>
            rw [hr] at cR
            have HPT := Lib.hid (show ParsedT bs p 0 from .inr (.inl ⟨HB6.out, rfl, HFL2.out, HFI.out, .inr hr⟩))
            clear hp0 hr
            go_wp2_with fail
            refine cR.mono ?_
            rintro e w1 ⟨rfl, b1⟩
            have HR1 := Lib.hid (HRI.out.keep b1)
            have HB1 := Lib.hid (HBR.out.trans (b1.mono HBR.out.size))
            clear b1
            go_wp2
            go_ret2
            refine ⟨_, p, 0, rfl, ?_, HPT.out, HB1.out⟩
            rw [← HM.out]
            exact HR1.out
          | false =>
            rw [hr] at cR
            have HPT := Lib.hid (show ParsedT bs [] 4 from .inr (.inr ⟨HB6.out, rfl, rfl, fun q hq hq2 e => by
              have := flat_inj q p hq HFI.out (by rw [e, HFL2.out])
              subst this
              rcases hq2 with h | h
              · subst h; exact hp0 (by rw [← HM.out]; rfl)
              · rw [hr] at h; cases h⟩))
            clear hp0 hr
            go_wp2_with fail
            refine cR.mono ?_
            rintro e w1 ⟨rfl, b1⟩
            have HB1 := Lib.hid (HBR.out.trans (b1.mono HBR.out.size))
            clear b1
            go_wp2
            go_ret2
            exact ⟨_, [], 4, rfl, RedI.none _, HPT.out, HB1.out⟩
      · have hne : r.length ≠ 0 := fun h => hr (List.eq_nil_of_length_eq_zero h)
        rw [decide_eq_false hne] at hem
        have cT := fun u => takeItem_is r u (by omega)
        have MS := Lib.hid (show strLen (.string ⟨r.toArray⟩) = r.length by rw [strLen_string, size_toArray])
        have hsz := size_toArray r
        cases ht : takeI r with
        | none =>
          rw [item_stop ht] at cT
          rw [show arrI zItm = z from HZ.out.symm] at cT
          have HPT := Lib.hid (show ParsedT bs [] 4 from .inr (.inr ⟨HB6.out, rfl, rfl, fun q hq hq2 e => take_stop HFI.out hr ht q hq (by rw [HFL.out]; exact e)⟩))
          generalize (⟨r.toArray⟩ : ByteArray) = sr at *
          clear hr ht hne hlen hpc
          have HZ1 := Lib.hid (show z.all (·.oneCell') = true by rw [HZ.out]; exact arrI_one _)
          go_wp2_with fail
          refine (cT _).mono ?_
          rintro e w1 ⟨rfl, b1⟩
          have b2 := below_setRow (B := w1.heap.size) (g := w1.heap.size) ((Below.refl w1.heap.size w1).alloc (Nat.le_refl _) (.cells z 30)) (Nat.le_refl _) z
          have b3 := HBR.out.trans (b1.mono HBR.out.size)
          have HB3 := Lib.hid (b3.trans (b2.mono b3.size))
          clear b1 b2 b3
          go_wp2_with (first
            | (with_reducible refine wpList_store_row rfl 30 (.tmp 6) (.tmp 19) rfl w1.heap.size z rfl rfl 30 z (heap_alloc_new w1 _) (info_arr _ HZS.out) rfl HZ1.out ?_)
            | fail)
          go_ret2
          exact ⟨_, [], 4, rfl, RedI.none _, HPT.out, HB3.out⟩
        | some q =>
          obtain ⟨i, r2⟩ := q
          obtain ⟨t1, t2, t3, t4⟩ := item_take ht
          rw [t1] at cT
          have HNF := Lib.hid (show flatI (p ++ [i]) ++ r2 = bs by rw [flat_append, ← HFL.out, t2]; simp [flatI])
          have HNI := Lib.hid (show ∀ j ∈ p ++ [i], fine j from fun j hj => by
            rcases List.mem_append.1 hj with hj | hj
            · exact HFI.out j hj
            · rw [List.mem_singleton.1 hj]; exact t3)
          have HIDI := Lib.hid t3.2.2
          have hpp := print_pos i
          have hrl : r.length = (printI i).length + r2.length := by rw [t2, List.length_append]
          have x0 : (⟨r.toArray⟩ : ByteArray).extract (printI i).length r.length = ⟨r2.toArray⟩ := by
            rw [ext_list, t4, List.take_of_length_le (by omega)]
          have ms2 : strLen (.string ⟨r2.toArray⟩) = r2.length := by rw [strLen_string, size_toArray]
          obtain ⟨A, hA⟩ : ∃ A, arrI i = A := ⟨_, rfl⟩
          rw [hA] at cT
          have HA := Lib.hid hA
          have HAS := Lib.hid (show A.size = 22 by rw [← hA]; exact arrI_size i t3.2.2)
          have HA1 := Lib.hid (show A.all (·.oneCell') = true by rw [← hA]; exact arrI_one i)
          obtain ⟨k, hk⟩ : ∃ k, (printI i).length = k := ⟨_, rfl⟩
          rw [hk] at cT hpp hrl x0
          generalize (⟨r.toArray⟩ : ByteArray) = sr at *
          obtain ⟨sr2, hsr2⟩ : ∃ sr2 : ByteArray, ⟨r2.toArray⟩ = sr2 := ⟨_, rfl⟩
          rw [hsr2] at x0 ms2
          have MS2 := Lib.hid ms2; have HS2 := Lib.hid hsr2
          clear hsr2
          have j1 : (k : Int) ≤ (r.length : Int) := by omega
          have HPC := Lib.hid hpc; have HRL := Lib.hid hrl
          clear hr ht hne hA hk t1 t2 t3 t4 ms2 hpc hrl
          go_wp2_with fail
          refine (cT _).mono ?_
          rintro e w1 ⟨rfl, b1⟩
          have b2 := below_setRow (B := w1.heap.size) (g := w1.heap.size) ((Below.refl w1.heap.size w1).alloc (Nat.le_refl _) (.cells z 30)) (Nat.le_refl _) A
          have h2 := setRow_heap (w1.alloc (.cells z 30)) w1.heap.size z A 30 (0, 0) (heap_alloc_new w1 _)
          have b3 := HBR.out.trans (b1.mono HBR.out.size)
          have o1 := ownI_below HOWN.out b1
          have o2 := ownI_below o1 b2
          have b4 := b3.trans (b2.mono b3.size)
          obtain ⟨W2, hW2⟩ : ∃ W2, (w1.alloc (.cells z 30)).setRow w1.heap.size A = W2 := ⟨_, rfl⟩
          rw [hW2] at h2 o2 b4
          have b5 := (Below.refl W2.heap.size W2).alloc (Nat.le_refl _) (.cells A 30)
          have H2 := Lib.hid h2
          have HO5 := Lib.hid (ownI_below o2 b5)
          have HB5 := Lib.hid (b4.trans (b5.mono b4.size))
          clear b1 b2 b3 b4 b5 o1 o2 h2
          go_wp2_with (first
            | (with_reducible refine wpList_store_row rfl 30 (.tmp 6) (.tmp 19) rfl w1.heap.size A rfl rfl 30 z (heap_alloc_new w1 _) (info_arr _ HAS.out) (HZS.out.trans HAS.out.symm) HA1.out ?_)
            | (with_reducible refine wpList_load_row rfl 30 _ rfl w1.heap.size rfl 30 A (0, 0) _ H2.out Tryd.underlying30 rfl (info_arr A HAS.out) ?_)
            | (with_reducible refine wpList_build_item rfl (.tmp 25) rfl A HAS.out rfl ?_)
            | (at_builtin; refine wpList_append_item rfl _ _ rfl w.heap.size _ p i W2.heap.size A HA.out.symm rfl rfl (heap_alloc_new W2 _) HIDI.out HO5.out (by have := HPC.out; omega) HB5.out.size ?_)
            | fail)
          intro v6 w6 o6 g6'
          have HO6 := Lib.hid o6
          have HB6' := Lib.hid (HB5.out.grown g6' HB5.out.size (fun j hj => (HO5.out.lt j hj).1))
          clear o6 g6' hW2
          go_wp2
          go_roundw
          case rel => exact ⟨p ++ [i], r2, by rw [HS2.out], HNF.out, HNI.out, HO6.out, HB6'.out⟩
          case measure => rw [MS.out, MS2.out]; have := HRL.out; omega
end Go.Proofs.YtalmoaofodjehaaDoor

/-
  Helpers of the statements: Find of a byte, from a place on.
-/
namespace Go.Proofs.YtalmoaofodjehaaDoor
set_option maxRecDepth 20000
open Go.RowKit
set_option linter.unusedVariables false
set_option linter.unusedSimpArgs false

/-- Where a byte stands first, from a place on; -1. -/
def findB (s : List UInt8) (c : UInt8) (k : Nat) : Int := if (s.drop k).findIdx (· == c) < (s.drop k).length then k + ((s.drop k).findIdx (· == c) : Nat) else -1
theorem findB_at (s : List UInt8) (c d : UInt8) (hd : d ≠ c) (k i : Nat) (hk : k ≤ i) (hi : i < s.length) (h : s.getD i d = c) (hn : ∀ j, k ≤ j → j < i → s.getD j d ≠ c) : findB s c k = i := by
  have hl : (s.drop k).length = s.length - k := List.length_drop
  have e : (s.drop k).findIdx (· == c) = i - k := by
    rw [List.findIdx_eq (by omega)]
    refine ⟨?_, fun j hj => ?_⟩
    · rw [List.getD_eq_getElem?_getD, List.getElem?_eq_getElem hi] at h
      simp only [Option.getD_some] at h
      rw [List.getElem_drop]
      simp only [show k + (i - k) = i by omega, h]
      simp
    · have := hn (k + j) (by omega) (by omega)
      rw [List.getD_eq_getElem?_getD, List.getElem?_eq_getElem (by omega)] at this
      simp only [Option.getD_some] at this
      rw [List.getElem_drop]
      exact beq_false_of_ne this
  unfold findB
  rw [e, if_pos (by omega)]
  omega
theorem findB_no (s : List UInt8) (c d : UInt8) (k : Nat) (hn : ∀ j, k ≤ j → j < s.length → s.getD j d ≠ c) : findB s c k = -1 := by
  unfold findB
  rw [if_neg]
  intro h
  have hl : (s.drop k).length = s.length - k := List.length_drop
  have h2 := List.findIdx_getElem (p := (· == c)) (w := h)
  rw [List.getElem_drop] at h2
  have := hn (k + (s.drop k).findIdx (· == c)) (by omega) (by omega)
  rw [List.getD_eq_getElem?_getD, List.getElem?_eq_getElem (by omega)] at this
  simp only [Option.getD_some] at this
  exact this (eq_of_beq h2)
theorem cut_one (s : List UInt8) (d : UInt8) (i : Nat) (hi : i < s.length) : (⟨s.toArray⟩ : ByteArray).extract i (i + 1) = ⟨[s.getD i d].toArray⟩ := by
  rw [ext_list, Nat.add_sub_cancel_left, List.getD_eq_getElem?_getD, List.getElem?_eq_getElem hi]
  rw [List.drop_eq_getElem_cons hi]
  rfl
theorem other_byte (c : UInt8) : ∃ d : UInt8, d ≠ c := ⟨c + 1, by intro h; have := congrArg UInt8.toNat h; rw [UInt8.toNat_add] at this; simp at this; have h2 := c.toNat_lt; omega⟩

set_option maxHeartbeats 4000000 in
theorem Find_byte (c : UInt8) (s : List UInt8) (k : Nat) (hs : s.length ≤ 1000000) (hk : k ≤ s.length) (w : World) :
    Calls Tryd.prog 31 #[.string ⟨s.toArray⟩, .string ⟨#[c]⟩, .int .i64 k] w fun e w' => e = .returned (.int .i64 (findB s c k)) ∧ w = w' := by
  obtain ⟨d, hd⟩ := other_byte c
  have z1 := size_toArray s
  have z2 : (⟨#[c]⟩ : ByteArray).size = 1 := rfl
  have CO := Lib.hid (fun i hi => cut_one s d i hi)
  have FA := Lib.hid (fun i h1 h2 h3 h4 => findB_at s c d hd k i h1 h2 h3 h4)
  have FN := Lib.hid (fun h => findB_no s c d k h)
  obtain ⟨R, hR⟩ : ∃ R, findB s c k = R := ⟨_, rfl⟩
  rw [hR] at FA FN ⊢
  clear hR
  generalize (⟨s.toArray⟩ : ByteArray) = S at *
  go_enter Tryd.func31, Tryd.ntmps31
  go_wp2_with fail
  go_loop [7] (fun v => ∃ i : Nat, k ≤ i ∧ i ≤ s.length ∧ v = .int .i64 i ∧ ∀ j, k ≤ j → j < i → s.getD j d ≠ c) (fun v => s.length - (intOf v).toNat)
  case atStart => exact ⟨k, Nat.le_refl _, hk, rfl, fun j h1 hj => absurd hj (Nat.not_lt.2 h1)⟩
  case round =>
    obtain ⟨i, hki, hi, rfl, hno⟩ := hrel
    have HNO := Lib.hid hno
    clear hno
    by_cases hlt : i < s.length
    · have ex := CO.out i hlt
      by_cases h0 : s.getD i d = c
      · have hz := FA.out i hki hlt h0 HNO.out
        rw [h0] at ex
        subst hz
        clear h0
        go_wp2
        go_ret
        exact ⟨rfl, rfl⟩
      · have hb2 : (s.getD i d == c) = false := beq_false_of_ne h0
        have H0 := Lib.hid h0
        clear h0
        generalize hg : s.getD i d = x at ex hb2
        have HG := Lib.hid hg
        clear hg
        go_wp2
        go_round
        case rel =>
          refine ⟨i + 1, by omega, by omega, by go_num, fun j h1 hj => ?_⟩
          by_cases h : j < i
          · exact HNO.out j h1 h
          · obtain rfl : j = i := by omega
            exact H0.out
        case measure => simp [intOf]; omega
    · have hi2 : i = s.length := by omega
      have hz := FN.out (fun j h1 hj => HNO.out j h1 (by omega))
      subst hz
      go_wp2
      go_ret
      exact ⟨rfl, rfl⟩
end Go.Proofs.YtalmoaofodjehaaDoor
