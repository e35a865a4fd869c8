/-
  The law TreeOrder: its walk.
-/
import Derived.Test.YtalmoaofodjehaaDoorFu18
import Derived.Test.YtalmoaofodjehaaDoorFu20
import Derived.Test.YtalmoaofodjehaaDoorFu10
namespace Go.Proofs.YtalmoaofodjehaaDoor.treeOrder
set_option maxRecDepth 200000
open Go.RowKit
set_option linter.unusedVariables false
set_option linter.unusedSimpArgs false

theorem names_at (k : Nat) (hk : k < 7) : ∀ h, [Value.string ⟨#[97]⟩, Value.string ⟨#[97, 46, 98]⟩, Value.string ⟨#[97, 45, 98]⟩, Value.string ⟨#[97, 98]⟩, Value.string ⟨#[98]⟩, Value.string ⟨#[65]⟩, Value.string ⟨#[97, 48]⟩][k]'h = .string ⟨(tb k).toArray⟩ := by
  intro h
  have h0 : k = 0 ∨ k = 1 ∨ k = 2 ∨ k = 3 ∨ k = 4 ∨ k = 5 ∨ k = 6 := by omega
  rcases h0 with rfl | rfl | rfl | rfl | rfl | rfl | rfl <;> rfl
theorem built_idN (z : Int) : Tryd.prog.built 28 [(0, .int .u8 z)] = some (.int .u8 z :: List.replicate 19 (.int .u8 0)).toArray := by kernel_rfl
theorem idN_cells (i : Nat) (h : i < 20) : Lib.byteCells (idN i) = .int .u8 ((i : Int) + 1) :: List.replicate 19 (.int .u8 0) := by
  unfold idN Lib.byteCells
  rw [List.map_cons, idN_nat i h]
  rfl
theorem built_new (m : Int) (s : ByteArray) (z : Int) : Tryd.prog.built 30 [(0, .int .i64 m), (1, .string s), (2, .agg (.int .u8 z :: List.replicate 19 (.int .u8 0)).toArray)] = some (.int .i64 m :: .string s :: .int .u8 z :: List.replicate 19 (.int .u8 0)).toArray := by kernel_rfl
/-- Bools that came in. -/
abbrev BoolsAt (w : World) (a : Option Addr) (n : Nat) : Prop := n ≤ maxLen ∧ (0 < n → ∃ b o, a = some ⟨b, o, none⟩ ∧ b < w.heap.size ∧ ∀ i, i < n → ∃ x : Bool, w.cell? ⟨b, o + i, none⟩ = some (.bool x))
abbrev NumsIn (w : World) (a : Option Addr) (n : Nat) : Prop := n ≤ maxLen ∧ (0 < n → ∃ b o, a = some ⟨b, o, none⟩ ∧ b < w.heap.size ∧ ∀ i, i < n → ∃ x : Int, w.cell? ⟨b, o + i, none⟩ = some (.int .i64 x))
set_option maxHeartbeats 32000000 in
theorem walk (w : World) (a0 : Option Addr) (n0 c0 : Nat) (nm : NumsIn w a0 n0) (a1 : Option Addr) (n1 c1 : Nat) (bm : BoolsAt w a1 n1) (tw : Bool) (tab : QTab w) :
    Calls Tryd.prog 6 #[.slice a0 n0 c0, .slice a1 n1 c1, .bool tw] w fun e w' => e = .returned (.bool true) ∧ Below w.heap.size w w' := by
  have TB := Lib.hid tab
  have NM := Lib.hid nm; have BM := Lib.hid bm
  obtain ⟨zi, hz1, hz2⟩ := z29
  have zv := zero_arr hz1
  clear tab nm bm hz1 hz2
  go_enter Tryd.func6, Tryd.ntmps6
  go_wp2_with fail
  go_loopw [7, 8] (fun v7 v8 wr => ∃ (l : List Itm) (i : Nat), v8 = .int .i64 i ∧ i ≤ n0 ∧ i ≤ 20 ∧ l.length ≤ i ∧ Good l ∧ OwnI w.heap.size v7 l wr ∧ Below w.heap.size w wr) (fun _ v8 _ => n0 - (intOf v8).toNat)
  case atStart => exact ⟨[], 0, rfl, Nat.zero_le _, Nat.zero_le _, Nat.le_refl _, Good.nil, ownI_nil w _, Below.refl _ _⟩
  case round =>
    rename World => wo
    obtain ⟨l, i, rfl, hin, hi20, hli, hg, hown, hbr⟩ := hrel
    have HG := Lib.hid hg; have HOWN := Lib.hid hown; have HBR := Lib.hid hbr; have HLI := Lib.hid hli
    obtain ⟨a7, c7, hv, hl1, hl2, hit, hno⟩ := ownI_items hown hg.ids
    subst hv
    obtain ⟨m, hm⟩ : ∃ m, l.length = m := ⟨_, rfl⟩
    rw [hm] at hl1 hno hli
    rw [hm] at HOWN
    have HM := Lib.hid hm; have HIT := Lib.hid hit
    rw [hm]
    have hm20 : m ≤ 20 := by omega
    clear hg hown hbr hit hm
    by_cases hc : i < n0 ∧ i < 20
    · obtain ⟨hc1, hc2⟩ := hc
      obtain ⟨b, o, rfl, hb, hcells⟩ := NM.out.2 (by omega)
      obtain ⟨x, hx⟩ := hcells i hc1
      have j1 : (i : Int) < (n0 : Int) := by omega
      have j2 : (i : Int) < 20 := by omega
      obtain ⟨u, hu⟩ : ∃ u, IntKind.u64.wrap x = u := ⟨_, rfl⟩
      have hu0 : 0 ≤ u := by rw [← hu, IntKind.wrap_u64]; omega
      obtain ⟨k, hk1⟩ : ∃ k : Nat, u.tmod 7 = (k : Int) := by
        rw [IntWalk.rem_in u _ hu0]
        exact Int.eq_ofNat_of_zero_le (Int.emod_nonneg _ (by omega))
      have hk2 : u % 7 = (k : Int) := by rw [← IntWalk.rem_in u _ hu0]; exact hk1
      have hk3 : k < 7 := by
        have := Int.emod_lt_of_pos u (show 0 < (7 : Int) by omega)
        omega
      have NA := names_at k hk3
      obtain ⟨nml, hnml⟩ : ∃ s, tb k = s := ⟨_, rfl⟩
      rw [hnml] at NA
      obtain ⟨sn, hsn⟩ : ∃ s : ByteArray, ⟨nml.toArray⟩ = s := ⟨_, rfl⟩
      rw [hsn] at NA
      obtain ⟨W1, hW1⟩ : ∃ W1, wo.alloc (.cells #[.string ⟨#[97]⟩, .string ⟨#[97, 46, 98]⟩, .string ⟨#[97, 45, 98]⟩, .string ⟨#[97, 98]⟩, .string ⟨#[98]⟩, .string ⟨#[65]⟩, .string ⟨#[97, 48]⟩] 9) = W1 := ⟨_, rfl⟩
      have b1 : Below wo.heap.size wo W1 := by rw [← hW1]; exact (Below.refl _ wo).alloc (Nat.le_refl _) _
      have qk : W1.cell? ⟨wo.heap.size, k, none⟩ = some (.string sn) := by
        rw [← hW1, Lib.cell_of_heap (heap_alloc_new wo _), List.getElem?_toArray, List.getElem?_eq_getElem (by simpa using hk3), NA]
      have B1 := Lib.hid (HBR.out.trans (b1.mono HBR.out.size))
      have q0 : W1.cell? ⟨b, o + i, none⟩ = some (.int .i64 x) := (B1.out.cell (p := ⟨b, o + i, none⟩) hb).trans hx
      have HB1 := Lib.hid b1
      have HNM := Lib.hid hnml; have HSN := Lib.hid hsn; have HK3 := Lib.hid hk3
      clear hx hcells hu0 hk2 hnml hsn b1 NA
      go_wp2_with fail
      have HIT1 := Lib.hid (HIT.out.keep HB1.out)
      go_loopw [10, 11] (fun v10 v11 wr => ∃ j : Nat, j ≤ m ∧ v11 = .int .i64 j ∧ v10 = .bool (seenL (l.take j) nml) ∧ wr = W1) (fun _ v11 _ => m - (intOf v11).toNat)
      case atStart => exact ⟨0, Nat.zero_le _, rfl, rfl, rfl⟩
      case round =>
        obtain ⟨j, hj, rfl, rfl, hw⟩ := hrel
        subst hw
        by_cases hjm : j < m
        · have hjl : j < l.length := by rw [HM.out]; exact hjm
          have hsx := seen_next l nml j hjl
          obtain ⟨sb, hsb⟩ : ∃ x, seenL (l.take j) nml = x := ⟨_, rfl⟩
          rw [hsb] at hsx ⊢
          have HSX := Lib.hid hsx
          obtain ⟨gb, go, rfl, hgb, hgc⟩ := HIT1.out (by rw [HM.out]; omega)
          obtain ⟨y, hy⟩ : ∃ y, l[j] = y := ⟨_, rfl⟩
          have q1 : wr.cell? ⟨gb, go + j * 22 + 1, none⟩ = some (.string ⟨y.name.toArray⟩) := hgc j hjl 1 _ (by rw [hy]; rfl)
          obtain ⟨sy, hsy⟩ : ∃ s : ByteArray, ⟨y.name.toArray⟩ = s := ⟨_, rfl⟩
          rw [hsy] at q1
          obtain ⟨re, hre⟩ : ∃ x, (y.name == nml) = x := ⟨_, rfl⟩
          have e2 : (sy.toList == sn.toList) = re := by rw [← hsy, ← HSN.out, toList_mk, toList_mk]; exact hre
          have HRE := Lib.hid (show (l[j].name == nml) = re by rw [hy]; exact hre)
          have HW1 := Lib.hid hW1
          clear hsx hsb hgc hy hsy hre hgb hW1 qk
          cases sb with
          | true =>
            go_wp2
            go_roundw
            case rel => exact ⟨j + 1, by omega, by go_num, by rw [HSX.out, Bool.true_or], by first | rfl | trivial⟩
            case measure => simp [intOf]; omega
          | false =>
            go_wp2
            refine ⟨?re2, ?me2⟩
            case re2 => exact ⟨j + 1, by omega, by go_num, by rw [HSX.out, HRE.out, Bool.false_or], by first | rfl | trivial⟩
            case me2 => simp [intOf]; omega
        · obtain rfl : j = m := by omega
          have hall : l.take j = l := by rw [← HM.out, List.take_length]
          rw [hall]
          obtain ⟨sb, hsb⟩ : ∃ x, seenL l nml = x := ⟨_, rfl⟩
          rw [hsb]
          have HSB := Lib.hid hsb
          have HW1 := Lib.hid hW1
          have HO1 := Lib.hid (ownI_below HOWN.out HB1.out)
          clear hall hsb hW1 qk q0 hjm
          cases sb with
          | true =>
            go_wp2
            refine ⟨?re3, ?me3⟩
            case re3 => exact ⟨l, i + 1, by go_num, by omega, by omega, by have := HLI.out; omega, HG.out, HO1.out, B1.out⟩
            case me3 => simp [intOf]; omega
          | false =>
            have hw8 : IntKind.u8.wrap ((i : Int) + 1) = (i : Int) + 1 := by rw [IntKind.wrap_u8]; omega
            obtain ⟨C, hC⟩ : ∃ C, (Value.int .u8 ((i : Int) + 1) :: List.replicate 19 (.int .u8 0)).toArray = C := ⟨_, rfl⟩
            have pC := built_idN ((i : Int) + 1)
            have pN := fun M => built_new M sn ((i : Int) + 1)
            rw [hC] at pC pN
            clear hC
            by_cases hi1 : i < n1
            · obtain ⟨b', o', rfl, hb', hc'⟩ := BM.out.2 (by omega)
              obtain ⟨bd, hbd⟩ := hc' i hi1
              have q2 : wr.cell? ⟨b', o' + i, none⟩ = some (.bool bd) := (B1.out.cell (p := ⟨b', o' + i, none⟩) hb').trans hbd
              have j3 : (i : Int) < (n1 : Int) := by omega
              clear hbd hc'
              cases bd with
              | true =>
                have pA := pN 4
                obtain ⟨xi, hxi⟩ : ∃ xi : Itm, (⟨4, nml, idN i⟩ : Itm) = xi := ⟨_, rfl⟩
                have hG2 := HG.out.add (m := 4) HK3.out hc2 (by omega) (by rw [HNM.out]; exact HSB.out)
                rw [HNM.out, hxi] at hG2
                obtain ⟨A, hA⟩ : ∃ A, (Value.int .i64 4 :: Value.string sn :: Value.int .u8 ((i : Int) + 1) :: List.replicate 19 (.int .u8 0)).toArray = A := ⟨_, rfl⟩
                rw [hA] at pA
                have HA := Lib.hid (show A = arrI xi by rw [← hA, ← hxi]; unfold arrI cellsI; rw [idN_cells i hc2, HSN.out])
                have HAS := Lib.hid (show A.size = 22 by rw [← hA]; simp)
                have HID2 := Lib.hid (show xi.id.length = 20 by rw [← hxi]; rfl)
                have b5 := (Below.refl wr.heap.size wr).alloc (Nat.le_refl _) (.cells A 30)
                have HO5 := Lib.hid (ownI_below HO1.out b5)
                have HB5 := Lib.hid (B1.out.trans (b5.mono B1.out.size))
                have HG2 := Lib.hid hG2
                have HLL := Lib.hid (show l.length ≤ 1000000000 by rw [HM.out]; omega)
                clear hA hxi b5 hG2
                go_wp2_with (first
                  | (refine wpList_build_one rfl 28 0 _ rfl _ rfl C pC ?_)
                  | (refine wpList_build_three rfl 30 0 1 2 _ _ _ rfl _ _ _ rfl rfl rfl A pA ?_)
                  | (refine wpList_build_item rfl (.tmp 72) rfl A HAS.out rfl ?_)
                  | (at_builtin; refine wpList_append_item rfl _ _ rfl w.heap.size _ l xi wr.heap.size A HA.out rfl rfl (heap_alloc_new wr _) HID2.out HO5.out HLL.out HB5.out.size ?_)
                  | fail)
                intro v6 w6 o6 g6
                have HO6 := Lib.hid o6
                have HB6 := Lib.hid (HB5.out.grown g6 HB5.out.size (fun j hj => (HO5.out.lt j hj).1))
                clear o6 g6
                go_wp2
                refine ⟨?re4a, ?me4a⟩
                case re4a => exact ⟨l ++ [xi], i + 1, by go_num, by omega, by omega, by rw [List.length_append]; have := HLI.out; simp; omega, HG2.out, HO6.out, HB6.out⟩
                case me4a => simp [intOf]; omega
              | false =>
                have pA := pN 1
                obtain ⟨xi, hxi⟩ : ∃ xi : Itm, (⟨1, nml, idN i⟩ : Itm) = xi := ⟨_, rfl⟩
                have hG2 := HG.out.add (m := 1) HK3.out hc2 (by omega) (by rw [HNM.out]; exact HSB.out)
                rw [HNM.out, hxi] at hG2
                obtain ⟨A, hA⟩ : ∃ A, (Value.int .i64 1 :: Value.string sn :: Value.int .u8 ((i : Int) + 1) :: List.replicate 19 (.int .u8 0)).toArray = A := ⟨_, rfl⟩
                rw [hA] at pA
                have HA := Lib.hid (show A = arrI xi by rw [← hA, ← hxi]; unfold arrI cellsI; rw [idN_cells i hc2, HSN.out])
                have HAS := Lib.hid (show A.size = 22 by rw [← hA]; simp)
                have HID2 := Lib.hid (show xi.id.length = 20 by rw [← hxi]; rfl)
                have b5 := (Below.refl wr.heap.size wr).alloc (Nat.le_refl _) (.cells A 30)
                have HO5 := Lib.hid (ownI_below HO1.out b5)
                have HB5 := Lib.hid (B1.out.trans (b5.mono B1.out.size))
                have HG2 := Lib.hid hG2
                have HLL := Lib.hid (show l.length ≤ 1000000000 by rw [HM.out]; omega)
                clear hA hxi b5 hG2
                go_wp2_with (first
                  | (refine wpList_build_one rfl 28 0 _ rfl _ rfl C pC ?_)
                  | (refine wpList_build_three rfl 30 0 1 2 _ _ _ rfl _ _ _ rfl rfl rfl A pA ?_)
                  | (refine wpList_build_item rfl (.tmp 72) rfl A HAS.out rfl ?_)
                  | (at_builtin; refine wpList_append_item rfl _ _ rfl w.heap.size _ l xi wr.heap.size A HA.out rfl rfl (heap_alloc_new wr _) HID2.out HO5.out HLL.out HB5.out.size ?_)
                  | fail)
                intro v6 w6 o6 g6
                have HO6 := Lib.hid o6
                have HB6 := Lib.hid (HB5.out.grown g6 HB5.out.size (fun j hj => (HO5.out.lt j hj).1))
                clear o6 g6
                go_wp2
                refine ⟨?re4b, ?me4b⟩
                case re4b => exact ⟨l ++ [xi], i + 1, by go_num, by omega, by omega, by rw [List.length_append]; have := HLI.out; simp; omega, HG2.out, HO6.out, HB6.out⟩
                case me4b => simp [intOf]; omega
            · have j3 : ¬ (i : Int) < (n1 : Int) := by omega
              have pA := pN 1
              obtain ⟨xi, hxi⟩ : ∃ xi : Itm, (⟨1, nml, idN i⟩ : Itm) = xi := ⟨_, rfl⟩
              have hG2 := HG.out.add (m := 1) HK3.out hc2 (by omega) (by rw [HNM.out]; exact HSB.out)
              rw [HNM.out, hxi] at hG2
              obtain ⟨A, hA⟩ : ∃ A, (Value.int .i64 1 :: Value.string sn :: Value.int .u8 ((i : Int) + 1) :: List.replicate 19 (.int .u8 0)).toArray = A := ⟨_, rfl⟩
              rw [hA] at pA
              have HA := Lib.hid (show A = arrI xi by rw [← hA, ← hxi]; unfold arrI cellsI; rw [idN_cells i hc2, HSN.out])
              have HAS := Lib.hid (show A.size = 22 by rw [← hA]; simp)
              have HID2 := Lib.hid (show xi.id.length = 20 by rw [← hxi]; rfl)
              have b5 := (Below.refl wr.heap.size wr).alloc (Nat.le_refl _) (.cells A 30)
              have HO5 := Lib.hid (ownI_below HO1.out b5)
              have HB5 := Lib.hid (B1.out.trans (b5.mono B1.out.size))
              have HG2 := Lib.hid hG2
              have HLL := Lib.hid (show l.length ≤ 1000000000 by rw [HM.out]; omega)
              clear hA hxi b5 hG2
              go_wp2_with (first
                | (refine wpList_build_one rfl 28 0 _ rfl _ rfl C pC ?_)
                | (refine wpList_build_three rfl 30 0 1 2 _ _ _ rfl _ _ _ rfl rfl rfl A pA ?_)
                | (refine wpList_build_item rfl (.tmp 72) rfl A HAS.out rfl ?_)
                | (at_builtin; refine wpList_append_item rfl _ _ rfl w.heap.size _ l xi wr.heap.size A HA.out rfl rfl (heap_alloc_new wr _) HID2.out HO5.out HLL.out HB5.out.size ?_)
                | fail)
              intro v6 w6 o6 g6
              have HO6 := Lib.hid o6
              have HB6 := Lib.hid (HB5.out.grown g6 HB5.out.size (fun j hj => (HO5.out.lt j hj).1))
              clear o6 g6
              go_wp2
              refine ⟨?re4c, ?me4c⟩
              case re4c => exact ⟨l ++ [xi], i + 1, by go_num, by omega, by omega, by rw [List.length_append]; have := HLI.out; simp; omega, HG2.out, HO6.out, HB6.out⟩
              case me4c => simp [intOf]; omega
    · by_cases hn1 : i < n0
      · have j1 : (i : Int) < (n0 : Int) := by omega
        have j2 : ¬ (i : Int) < 20 := by omega
        have hg0 := HG.out
        by_cases hm0 : m = 0
        · have g0 : ((m : Int) == 0) = true := by rw [hm0]; rfl
          have CA := Lib.hid (awake_is wo (TB.out.below HBR.out))
          clear hg0 hc
          go_wp2_with fail
          refine CA.out.mono ?_
          rintro e w2 ⟨rfl, b2⟩
          have B2 := Lib.hid (HBR.out.trans (b2.mono HBR.out.size))
          clear b2
          go_wp2
          go_ret
          exact ⟨rfl, B2.out⟩
        · have g0 : ((m : Int) == 0) = false := beq_false_of_ne (by omega)
          obtain ⟨g, rfl, hgB, hglt, hml⟩ := own_some HOWN.out (by rw [HM.out]; exact hm0)
          have HGB := Lib.hid hgB
          clear hg0 hc hglt hgB hml
          go_wp2_with fail
          go_loopw [13] (fun v13 wr => ∃ (i : Nat) (L : List Itm), 1 ≤ i ∧ i ≤ m ∧ v13 = .int .i64 i ∧ L.Perm l ∧ Srt (L.take i) ∧ OwnI w.heap.size (.slice (some ⟨g, 0, none⟩) m c7) L wr ∧ Below w.heap.size w wr) (fun v13 _ => m - (intOf v13).toNat)
          case atStart =>
            refine ⟨1, l, Nat.le_refl _, by omega, rfl, List.Perm.refl _, ?_, HOWN.out, HBR.out⟩
            have h1 : (l.take 1).length ≤ 1 := by rw [List.length_take]; omega
            match l.take 1, h1 with
            | [], _ => exact List.Pairwise.nil
            | [x], _ => exact List.pairwise_singleton _ _
          case round =>
            rename World => wi
            obtain ⟨i, L, hi1, him, rfl, hp, hs, ho, hb⟩ := hrel
            have HP := Lib.hid hp; have HS := Lib.hid hs; have HO := Lib.hid ho; have HB := Lib.hid hb
            clear hp hs ho hb
            by_cases hlt : i < m
            · go_wp2_with fail
              go_loopw [14] (fun v14 wr => ∃ (k : Nat) (L : List Itm), k ≤ i ∧ v14 = .int .i64 k ∧ L.Perm l ∧ Ins L i k ∧ OwnI w.heap.size (.slice (some ⟨g, 0, none⟩) m c7) L wr ∧ Below w.heap.size w wr) (fun v14 _ => (intOf v14).toNat)
              case atStart => exact ⟨i, L, Nat.le_refl _, rfl, HP.out, ins_start (by rw [HP.out.length_eq, HM.out]; exact hlt) HS.out, HO.out, HB.out⟩
              case round =>
                obtain ⟨k, L, hki, rfl, hp, hin, ho, hb⟩ := hrel
                have HP := Lib.hid hp; have HIN := Lib.hid hin; have HO := Lib.hid ho; have HB := Lib.hid hb
                clear hp hin ho hb
                by_cases hk0 : k = 0
                · subst hk0
                  go_wp2_with fail
                  refine wp_region_any (by kernel_rfl) ?_
                  change wpAny _ _ _ _ _ _ _ (World.drew _)
                  refine wpAny_take (i := 0) (v := ?kzb1v) rfl (by kernel_rfl) (by kernel_rfl) (by kernel_rfl) (fun _ _ _ h => h) (Or.inl ⟨by kernel_rfl, ?kzb1y⟩) ?_
                  case kzb1y => intro u; go_simp; try with_reducible rfl
                  try simp only [Act.put, List.getElem_toArray, List.getElem_cons_succ, List.getElem_cons_zero, List.setIfInBounds_toArray, List.set_cons_zero, List.set_cons_succ]
                  refine wpAny_take (i := 1) (v := ?kzb2v) rfl (by kernel_rfl) (by kernel_rfl) (by kernel_rfl) (fun _ _ _ h => h) (Or.inl ⟨by kernel_rfl, ?kzb2y⟩) ?_
                  case kzb2y => intro u; go_simp; try with_reducible rfl
                  try simp only [Act.put, List.getElem_toArray, List.getElem_cons_succ, List.getElem_cons_zero, List.setIfInBounds_toArray, List.set_cons_zero, List.set_cons_succ]
                  refine wpAny_take (i := 2) (v := ?kzb3v) rfl (by kernel_rfl) (by kernel_rfl) (by kernel_rfl) (fun _ _ _ h => h) (Or.inl ⟨by kernel_rfl, ?kzb3y⟩) ?_
                  case kzb3y => intro u; go_simp; try with_reducible rfl
                  try simp only [Act.put, List.getElem_toArray, List.getElem_cons_succ, List.getElem_cons_zero, List.setIfInBounds_toArray, List.set_cons_zero, List.set_cons_succ]
                  refine wpAny_take (i := 3) (v := undef) rfl (by kernel_rfl) (by kernel_rfl) (by kernel_rfl) (fun _ _ _ h => h) (Or.inr ⟨by kernel_rfl, rfl⟩) ?_
                  refine wpAny_take (i := 4) (v := undef) rfl (by kernel_rfl) (by kernel_rfl) (by kernel_rfl) (fun _ _ _ h => h) (Or.inr ⟨by kernel_rfl, rfl⟩) ?_
                  refine wpAny_take (i := 5) (v := undef) rfl (by kernel_rfl) (by kernel_rfl) (by kernel_rfl) (fun _ _ _ h => h) (Or.inr ⟨by kernel_rfl, rfl⟩) ?_
                  refine wpAny_take (i := 6) (v := undef) rfl (by kernel_rfl) (by kernel_rfl) (by kernel_rfl) (fun _ _ _ h => h) (Or.inr ⟨by kernel_rfl, rfl⟩) ?_
                  refine wpAny_take (i := 7) (v := undef) rfl (by kernel_rfl) (by kernel_rfl) (by kernel_rfl) (fun _ _ _ h => h) (Or.inr ⟨by kernel_rfl, rfl⟩) ?_
                  refine wpAny_take (i := 8) (v := undef) rfl (by kernel_rfl) (by kernel_rfl) (by kernel_rfl) (fun _ _ _ h => h) (Or.inr ⟨by kernel_rfl, rfl⟩) ?_
                  refine wpAny_take (i := 9) (v := undef) rfl (by kernel_rfl) (by kernel_rfl) (by kernel_rfl) (fun _ _ _ h => h) (Or.inr ⟨by kernel_rfl, rfl⟩) ?_
                  refine wpAny_take (i := 10) (v := undef) rfl (by kernel_rfl) (by kernel_rfl) (by kernel_rfl) (fun _ _ _ h => h) (Or.inr ⟨by kernel_rfl, rfl⟩) ?_
                  refine wpAny_take (i := 11) (v := undef) rfl (by kernel_rfl) (by kernel_rfl) (by kernel_rfl) (fun _ _ _ h => h) (Or.inr ⟨by kernel_rfl, rfl⟩) ?_
                  refine wpAny_take (i := 12) (v := undef) rfl (by kernel_rfl) (by kernel_rfl) (by kernel_rfl) (fun _ _ _ h => h) (Or.inr ⟨by kernel_rfl, rfl⟩) ?_
                  refine wpAny_take (i := 13) (v := ?kzb4v) rfl (by kernel_rfl) (by kernel_rfl) (by kernel_rfl) (fun _ _ _ h => h) (Or.inl ⟨by kernel_rfl, ?kzb4y⟩) ?_
                  case kzb4y => intro u; go_simp; try with_reducible rfl
                  try simp only [Act.put, List.getElem_toArray, List.getElem_cons_succ, List.getElem_cons_zero, List.setIfInBounds_toArray, List.set_cons_zero, List.set_cons_succ]
                  refine wpAny_done (by kernel_rfl) ?_ _
                  have HO2 := Lib.hid (ownI_below HO.out (Below.refl _ _).drew)
                  have HB2 := Lib.hid HB.out.drew
                  go_wp2
                  refine ⟨?rkb, ?mkb⟩
                  case rkb => exact ⟨i + 1, L, by omega, by omega, by go_num, HP.out, ins_first HIN.out, HO2.out, HB2.out⟩
                  case mkb => simp [intOf]; omega
                · have hLm : L.length = m := by rw [HP.out.length_eq, HM.out]
                  obtain ⟨p, hpk⟩ : ∃ p, k = p + 1 := ⟨k - 1, by omega⟩
                  have hw : IntKind.i64.wrap ((k : Int) - 1) = (p : Int) := by rw [IntWalk.i64_in _ (by omega)]; omega
                  have hkL : k < L.length := by have := (ins_le HIN.out).2; omega
                  have hpL : p < L.length := by omega
                  have hgl := HG.out.perm HP.out
                  obtain ⟨X, hX⟩ : ∃ X, L[k] = X := ⟨_, rfl⟩
                  obtain ⟨Y, hY⟩ : ∃ Y, L[p] = Y := ⟨_, rfl⟩
                  have hXm : X ∈ L := by rw [← hX]; exact List.getElem_mem _
                  have hYm : Y ∈ L := by rw [← hY]; exact List.getElem_mem _
                  have hiX := hgl.ids X hXm
                  have hiY := hgl.ids Y hYm
                  have cB := fun u => Before_is X Y hiX hiY (hgl.short X hXm) (hgl.short Y hYm) u
                  have rX := own_range HO.out hgl.ids k hkL
                  have rY := own_range HO.out hgl.ids p hpL
                  rw [hX] at rX
                  rw [hY] at rY
                  have lX : (Tryd.prog.info? 30).map (·.size) = some (cellsI X).length := by rw [cellsI_len X hiX]; exact infoItem
                  have lY : (Tryd.prog.info? 30).map (·.size) = some (cellsI Y).length := by rw [cellsI_len Y hiY]; exact infoItem
                  obtain ⟨cx, hcx⟩ : ∃ c, cellsI X = c := ⟨_, rfl⟩
                  obtain ⟨cy, hcy⟩ : ∃ c, cellsI Y = c := ⟨_, rfl⟩
                  obtain ⟨r, hr⟩ : ∃ r, befI X Y = r := ⟨_, rfl⟩
                  rw [hr, hcx, hcy] at cB
                  rw [hcx] at rX lX
                  rw [hcy] at rY lY
                  have DB := Lib.hid (fun u (h : Below wr.heap.size wr u) => ((cB u).mono (fun e u' he => ⟨he.1, h.trans (he.2.mono h.size)⟩) : Calls Tryd.prog 26 #[.agg cx.toArray, .agg cy.toArray] u fun e u' => e = .returned (.bool r) ∧ Below wr.heap.size wr u'))
                  have gX : L.getD k noI = X := by rw [getD_get L k hkL]; exact hX
                  have gY : L.getD (k - 1) noI = Y := by rw [show k - 1 = p by omega, getD_get L p hpL]; exact hY
                  have HR := Lib.hid (show befI (L.getD k noI) (L.getD (k - 1) noI) = r by rw [gX, gY]; exact hr)
                  have GX := Lib.hid gX; have GY := Lib.hid gY
                  have RX := Lib.hid rX; have RY := Lib.hid rY; have LX := Lib.hid lX; have LY := Lib.hid lY; have HCX := Lib.hid hcx; have HCY := Lib.hid hcy
                  have HIX := Lib.hid hiX; have HIY := Lib.hid hiY; have HGL := Lib.hid hgl; have HLM := Lib.hid hLm; have HKL := Lib.hid hkL; have HPL := Lib.hid hpL
                  have hk0' : (k : Int) > 0 := by omega
                  have hk0n : 0 < k := by omega
                  have hk0d : decide (0 < k) = true := decide_eq_true hk0n
                  have hpm : p < m := by omega
                  have hkm : k < m := by omega
                  have HPK := Lib.hid hpk
                  clear hLm hkL hpL hgl hX hY hXm hYm hiX hiY cB rX rY lX lY hcx hcy hr gX gY hk0 hpk
                  go_wp2_with fail
                  refine wp_region_held_drew (S := fun u => Below wr.heap.size wr u) (by kernel_rfl) (Below.refl _ _).drew (fun hHeld => ?_)
                  refine wpAnyH_take (i := 0) (v := ?kpbv0) rfl (by kernel_rfl) (by kernel_rfl) (by kernel_rfl) (fun _ _ _ h => h) (Or.inl ⟨by kernel_rfl, ?kpby0⟩) hHeld ?_
                  case kpby0 => intro u hu; go_simp; try with_reducible rfl
                  try simp only [Act.put, List.setIfInBounds_toArray, List.set_cons_zero, List.set_cons_succ]
                  refine wpAnyH_take (i := 1) (v := ?kpbv1) rfl (by kernel_rfl) (by kernel_rfl) (by kernel_rfl) (fun _ _ _ h => h) (Or.inl ⟨by kernel_rfl, ?kpby1⟩) hHeld ?_
                  case kpby1 => intro u hu; go_simp; try with_reducible rfl
                  try simp only [Act.put, List.setIfInBounds_toArray, List.set_cons_zero, List.set_cons_succ]
                  refine wpAnyH_take (i := 2) (v := ?kpbv2) rfl (by kernel_rfl) (by kernel_rfl) (by kernel_rfl) (fun _ _ _ h => h) (Or.inl ⟨by kernel_rfl, ?kpby2⟩) hHeld ?_
                  case kpby2 => intro u hu; go_simp; try with_reducible rfl
                  try simp only [Act.put, List.setIfInBounds_toArray, List.set_cons_zero, List.set_cons_succ]
                  refine wpAnyH_take (i := 3) (v := ?kpbv3) rfl (by kernel_rfl) (by kernel_rfl) (by kernel_rfl) (fun _ _ _ h => h) (Or.inl ⟨by kernel_rfl, ?kpby3⟩) hHeld ?_
                  case kpby3 => intro u hu; go_simp; try with_reducible rfl
                  try simp only [Act.put, List.setIfInBounds_toArray, List.set_cons_zero, List.set_cons_succ]
                  refine wpAnyH_take (i := 4) (v := ?kpbv4) rfl (by kernel_rfl) (by kernel_rfl) (by kernel_rfl) (fun _ _ _ h => h) (Or.inl ⟨by kernel_rfl, ?kpby4⟩) hHeld ?_
                  case kpby4 => intro u hu; go_simp; try with_reducible rfl
                  try simp only [Act.put, List.setIfInBounds_toArray, List.set_cons_zero, List.set_cons_succ]
                  refine wpAnyH_take (i := 5) (v := ?kpbv5) rfl (by kernel_rfl) (by kernel_rfl) (by kernel_rfl) (fun _ _ _ h => h) (Or.inl ⟨by kernel_rfl, ?kpby5⟩) hHeld ?_
                  case kpby5 => intro u hu; go_simp; try with_reducible rfl
                  try simp only [Act.put, List.setIfInBounds_toArray, List.set_cons_zero, List.set_cons_succ]
                  refine wpAnyH_take (i := 6) rfl (by kernel_rfl) (by kernel_rfl) (by kernel_rfl) (fun _ _ _ h => h) (yieldsIf_load_mid (by kernel_rfl) 30 (.tmp 91) (by kernel_rfl) g (k * 22) (by kernel_rfl) cx _ (fun u hu => RX.out u hu) Tryd.underlying30 rfl LX.out) hHeld ?_
                  try simp only [Act.put, List.setIfInBounds_toArray, List.set_cons_zero, List.set_cons_succ]
                  refine wpAnyH_take (i := 7) (v := ?kpbv7) rfl (by kernel_rfl) (by kernel_rfl) (by kernel_rfl) (fun _ _ _ h => h) (Or.inl ⟨by kernel_rfl, ?kpby7⟩) hHeld ?_
                  case kpby7 => intro u hu; go_simp; try with_reducible rfl
                  try simp only [Act.put, List.setIfInBounds_toArray, List.set_cons_zero, List.set_cons_succ]
                  refine wpAnyH_take (i := 8) (v := ?kpbv8) rfl (by kernel_rfl) (by kernel_rfl) (by kernel_rfl) (fun _ _ _ h => h) (Or.inl ⟨by kernel_rfl, ?kpby8⟩) hHeld ?_
                  case kpby8 => intro u hu; go_simp; try with_reducible rfl
                  try simp only [Act.put, List.setIfInBounds_toArray, List.set_cons_zero, List.set_cons_succ]
                  refine wpAnyH_take (i := 9) (v := ?kpbv9) rfl (by kernel_rfl) (by kernel_rfl) (by kernel_rfl) (fun _ _ _ h => h) (Or.inl ⟨by kernel_rfl, ?kpby9⟩) hHeld ?_
                  case kpby9 => intro u hu; go_simp; try with_reducible rfl
                  try simp only [Act.put, List.setIfInBounds_toArray, List.set_cons_zero, List.set_cons_succ]
                  refine wpAnyH_take (i := 10) (v := ?kpbv10) rfl (by kernel_rfl) (by kernel_rfl) (by kernel_rfl) (fun _ _ _ h => h) (Or.inl ⟨by kernel_rfl, ?kpby10⟩) hHeld ?_
                  case kpby10 => intro u hu; go_simp; try with_reducible rfl
                  try simp only [Act.put, List.setIfInBounds_toArray, List.set_cons_zero, List.set_cons_succ]
                  refine wpAnyH_take (i := 11) rfl (by kernel_rfl) (by kernel_rfl) (by kernel_rfl) (fun _ _ _ h => h) (yieldsIf_load_mid (by kernel_rfl) 30 (.tmp 96) (by kernel_rfl) g (p * 22) (by kernel_rfl) cy _ (fun u hu => RY.out u hu) Tryd.underlying30 rfl LY.out) hHeld ?_
                  try simp only [Act.put, List.setIfInBounds_toArray, List.set_cons_zero, List.set_cons_succ]
                  refine wpAnyH_ready (rs := [12]) (by kernel_rfl) (by simp) ?_
                  refine AllReadyH.cons rfl (fun K hK => ?_) AllReadyH.nil
                  go_simp
                  refine (DB.out _ hHeld).mono ?_
                  rintro e u1 ⟨rfl, hH⟩
                  clear hHeld
                  refine hK.out _ _ hH (fun hHeld => ?_)
                  clear hK K
                  try simp only [Act.put, List.setIfInBounds_toArray, List.set_cons_zero, List.set_cons_succ]
                  refine wpAnyH_take (i := 13) (v := ?kpbv13) rfl (by kernel_rfl) (by kernel_rfl) (by kernel_rfl) (fun _ _ _ h => h) (Or.inl ⟨by kernel_rfl, ?kpby13⟩) hHeld ?_
                  case kpby13 => intro u hu; go_simp; try with_reducible rfl
                  try simp only [Act.put, List.getElem_toArray, List.getElem_cons_succ, List.getElem_cons_zero, List.setIfInBounds_toArray, List.set_cons_zero, List.set_cons_succ]
                  refine wpAnyH_done (by kernel_rfl) ?_ _
                  have HO2 := Lib.hid (ownI_below HO.out hHeld)
                  have HB2 := Lib.hid (HB.out.trans (hHeld.mono HB.out.size))
                  have HV := Lib.hid hHeld
                  clear hHeld
                  cases r with
                  | false =>
                    go_wp2
                    refine ⟨?rsb, ?msb⟩
                    case rsb => exact ⟨i + 1, L, by omega, by omega, by go_num, HP.out, ins_stop HIN.out (by omega) (full_nodup HGL.out.one HGL.out.names) HR.out, HO2.out, HB2.out⟩
                    case msb => simp [intOf]; omega
                  | true =>
                    go_wp2_with fail
                    have HOL := Lib.hid (show OwnI w.heap.size (.slice (some ⟨g, 0, none⟩) L.length c7) L u1.drew by rw [HLM.out]; exact ownI_below HO2.out (Below.refl _ _).drew)
                    have HBD := Lib.hid (HB2.out.drew)
                    refine wp_region_any (by kernel_rfl) ?_
                    change wpAny _ _ _ _ _ _ _ (World.drew _)
                    refine wpAny_take (i := 0) (v := ?swb1v) rfl (by kernel_rfl) (by kernel_rfl) (by kernel_rfl) (fun _ _ _ h => h) (Or.inl ⟨by kernel_rfl, ?swb1y⟩) ?_
                    case swb1y => intro u; go_simp; try with_reducible rfl
                    try simp only [Act.put, List.getElem_toArray, List.getElem_cons_succ, List.getElem_cons_zero, List.setIfInBounds_toArray, List.set_cons_zero, List.set_cons_succ]
                    refine wpAny_take (i := 1) (v := ?swb2v) rfl (by kernel_rfl) (by kernel_rfl) (by kernel_rfl) (fun _ _ _ h => h) (Or.inl ⟨by kernel_rfl, ?swb2y⟩) ?_
                    case swb2y => intro u; go_simp; try with_reducible rfl
                    try simp only [Act.put, List.getElem_toArray, List.getElem_cons_succ, List.getElem_cons_zero, List.setIfInBounds_toArray, List.set_cons_zero, List.set_cons_succ]
                    refine wpAny_take (i := 2) (v := ?swb3v) rfl (by kernel_rfl) (by kernel_rfl) (by kernel_rfl) (fun _ _ _ h => h) (Or.inl ⟨by kernel_rfl, ?swb3y⟩) ?_
                    case swb3y => intro u; go_simp; try with_reducible rfl
                    try simp only [Act.put, List.getElem_toArray, List.getElem_cons_succ, List.getElem_cons_zero, List.setIfInBounds_toArray, List.set_cons_zero, List.set_cons_succ]
                    refine wpAny_take (i := 3) (v := ?swb4v) rfl (by kernel_rfl) (by kernel_rfl) (by kernel_rfl) (fun _ _ _ h => h) (Or.inl ⟨by kernel_rfl, ?swb4y⟩) ?_
                    case swb4y => intro u; go_simp; try with_reducible rfl
                    try simp only [Act.put, List.getElem_toArray, List.getElem_cons_succ, List.getElem_cons_zero, List.setIfInBounds_toArray, List.set_cons_zero, List.set_cons_succ]
                    refine wpAny_take (i := 4) (v := ?swb5v) rfl (by kernel_rfl) (by kernel_rfl) (by kernel_rfl) (fun _ _ _ h => h) (Or.inl ⟨by kernel_rfl, ?swb5y⟩) ?_
                    case swb5y => intro u; go_simp; try with_reducible rfl
                    try simp only [Act.put, List.getElem_toArray, List.getElem_cons_succ, List.getElem_cons_zero, List.setIfInBounds_toArray, List.set_cons_zero, List.set_cons_succ]
                    refine wpAny_take (i := 5) (v := ?swb6v) rfl (by kernel_rfl) (by kernel_rfl) (by kernel_rfl) (fun _ _ _ h => h) (Or.inl ⟨by kernel_rfl, ?swb6y⟩) ?_
                    case swb6y => intro u; go_simp; try with_reducible rfl
                    try simp only [Act.put, List.getElem_toArray, List.getElem_cons_succ, List.getElem_cons_zero, List.setIfInBounds_toArray, List.set_cons_zero, List.set_cons_succ]
                    refine wpAny_take (i := 6) (v := ?swb7v) rfl (by kernel_rfl) (by kernel_rfl) (by kernel_rfl) (fun _ _ _ h => h) (Or.inl ⟨by kernel_rfl, ?swb7y⟩) ?_
                    case swb7y => intro u; go_simp; try with_reducible rfl
                    try simp only [Act.put, List.getElem_toArray, List.getElem_cons_succ, List.getElem_cons_zero, List.setIfInBounds_toArray, List.set_cons_zero, List.set_cons_succ]
                    refine wpAny_take (i := 7) (v := ?swb8v) rfl (by kernel_rfl) (by kernel_rfl) (by kernel_rfl) (fun _ _ _ h => h) (Or.inl ⟨by kernel_rfl, ?swb8y⟩) ?_
                    case swb8y => intro u; go_simp; try with_reducible rfl
                    try simp only [Act.put, List.getElem_toArray, List.getElem_cons_succ, List.getElem_cons_zero, List.setIfInBounds_toArray, List.set_cons_zero, List.set_cons_succ]
                    refine wpAny_take (i := 8) (v := ?swb9v) rfl (by kernel_rfl) (by kernel_rfl) (by kernel_rfl) (fun _ _ _ h => h) (Or.inl ⟨by kernel_rfl, ?swb9y⟩) ?_
                    case swb9y => intro u; go_simp; try with_reducible rfl
                    try simp only [Act.put, List.getElem_toArray, List.getElem_cons_succ, List.getElem_cons_zero, List.setIfInBounds_toArray, List.set_cons_zero, List.set_cons_succ]
                    refine wpAny_take (i := 10) (v := ?swb10v) rfl (by kernel_rfl) (by kernel_rfl) (by kernel_rfl) (fun _ _ _ h => h) (Or.inl ⟨by kernel_rfl, ?swb10y⟩) ?_
                    case swb10y => intro u; go_simp; try with_reducible rfl
                    try simp only [Act.put, List.getElem_toArray, List.getElem_cons_succ, List.getElem_cons_zero, List.setIfInBounds_toArray, List.set_cons_zero, List.set_cons_succ]
                    refine wpAny_take (i := 11) (v := ?swb11v) rfl (by kernel_rfl) (by kernel_rfl) (by kernel_rfl) (fun _ _ _ h => h) (Or.inl ⟨by kernel_rfl, ?swb11y⟩) ?_
                    case swb11y => intro u; go_simp; try with_reducible rfl
                    try simp only [Act.put, List.getElem_toArray, List.getElem_cons_succ, List.getElem_cons_zero, List.setIfInBounds_toArray, List.set_cons_zero, List.set_cons_succ]
                    refine wpAny_take (i := 12) (v := ?swb12v) rfl (by kernel_rfl) (by kernel_rfl) (by kernel_rfl) (fun _ _ _ h => h) (Or.inl ⟨by kernel_rfl, ?swb12y⟩) ?_
                    case swb12y => intro u; go_simp; try with_reducible rfl
                    try simp only [Act.put, List.getElem_toArray, List.getElem_cons_succ, List.getElem_cons_zero, List.setIfInBounds_toArray, List.set_cons_zero, List.set_cons_succ]
                    refine wpAny_ready (rs := [9, 13]) (by kernel_rfl) (by simp) ?_
                    refine (AllReady.cons rfl (fun K hK => ?_) (AllReady.cons rfl (fun K hK => ?_) AllReady.nil))
                    · refine step_of rfl (wp_load_mid 30 (.tmp 110) (by kernel_rfl) g (p * 22) (by kernel_rfl) cy _ (RY.out _ HV.out.drew) Tryd.underlying30 rfl LY.out ?_)
                      refine hK _ _ ?_
                      clear hK K
                      try simp only [Act.put, List.getElem_toArray, List.getElem_cons_succ, List.getElem_cons_zero, List.setIfInBounds_toArray, List.set_cons_zero, List.set_cons_succ]
                      refine wpAny_ready (rs := [13]) (by kernel_rfl) (by simp) ?_
                      refine (AllReady.cons rfl (fun K hK => ?_) AllReady.nil)
                      refine step_of rfl (wp_load_mid 30 (.tmp 114) (by kernel_rfl) g (k * 22) (by kernel_rfl) cx _ (RX.out _ HV.out.drew) Tryd.underlying30 rfl LX.out ?_)
                      refine hK _ _ ?_
                      clear hK K
                      try simp only [Act.put, List.getElem_toArray, List.getElem_cons_succ, List.getElem_cons_zero, List.setIfInBounds_toArray, List.set_cons_zero, List.set_cons_succ]
                      refine wpAny_take (i := 14) (v := ?swb13v) rfl (by kernel_rfl) (by kernel_rfl) (by kernel_rfl) (fun _ _ _ h => h) (Or.inl ⟨by kernel_rfl, ?swb13y⟩) ?_
                      case swb13y => intro u; go_simp; try with_reducible rfl
                      try simp only [Act.put, List.getElem_toArray, List.getElem_cons_succ, List.getElem_cons_zero, List.setIfInBounds_toArray, List.set_cons_zero, List.set_cons_succ]
                      refine wpAny_ready (rs := [15]) (by kernel_rfl) (by simp) ?_
                      refine (AllReady.cons rfl (fun K hK => ?_) AllReady.nil)
                      refine step_of rfl (wp_store_item (.tmp 116) (.tmp 111) (by kernel_rfl) w.heap.size g c7 k (k * 22) L HGL.out.ids Y cy HCY.out.symm rfl (by kernel_rfl) (by kernel_rfl) HKL.out HIY.out HOL.out ?_)
                      intro w5 o5 g5
                      have HO5 := Lib.hid o5; have HG5 := Lib.hid g5
                      clear o5 g5
                      refine hK _ _ ?_
                      clear hK K
                      try simp only [Act.put, List.getElem_toArray, List.getElem_cons_succ, List.getElem_cons_zero, List.setIfInBounds_toArray, List.set_cons_zero, List.set_cons_succ]
                      refine wpAny_take (i := 16) (v := ?swb14v) rfl (by kernel_rfl) (by kernel_rfl) (by kernel_rfl) (fun _ _ _ h => h) (Or.inl ⟨by kernel_rfl, ?swb14y⟩) ?_
                      case swb14y => intro u; go_simp; try with_reducible rfl
                      try simp only [Act.put, List.getElem_toArray, List.getElem_cons_succ, List.getElem_cons_zero, List.setIfInBounds_toArray, List.set_cons_zero, List.set_cons_succ]
                      refine wpAny_ready (rs := [17]) (by kernel_rfl) (by simp) ?_
                      refine (AllReady.cons rfl (fun K hK => ?_) AllReady.nil)
                      refine step_of rfl (wp_store_item (.tmp 117) (.tmp 115) (by kernel_rfl) w.heap.size g c7 p (p * 22) (L.set k Y) (set_ids HGL.out.ids k HIY.out) X cx HCX.out.symm rfl (by kernel_rfl) (by kernel_rfl) (by rw [List.length_set]; exact HPL.out) HIX.out (by rw [List.length_set]; exact HO5.out) ?_)
                      intro w7 o7 g7
                      have HO7 := Lib.hid o7; have HG7 := Lib.hid g7
                      clear o7 g7
                      refine hK _ _ ?_
                      clear hK K
                      try simp only [Act.put, List.getElem_toArray, List.getElem_cons_succ, List.getElem_cons_zero, List.setIfInBounds_toArray, List.set_cons_zero, List.set_cons_succ]
                      refine wpAny_done (by kernel_rfl) ?_ _
                      have hsw := ins_swap HIN.out (by omega) HR.out
                      rw [GX.out, GY.out, show k - 1 = p by have := HPK.out; omega] at hsw
                      have hb5 := HBD.out.grown HG5.out HBD.out.size (fun j hj => by cases hj; exact HGB.out)
                      have HB7 := Lib.hid (hb5.grown HG7.out hb5.size (fun j hj => by cases hj; exact HGB.out))
                      have HO8 := Lib.hid (show OwnI w.heap.size (.slice (some ⟨g, 0, none⟩) m c7) ((L.set k Y).set p X) w7 by have h := HO7.out; rwa [List.length_set, HLM.out] at h)
                      have HSW := Lib.hid hsw
                      clear hsw hb5
                      go_wp2
                      refine ⟨?_, ?_⟩
                      · exact ⟨p, (L.set k Y).set p X, by have := HPK.out; omega, by first | rfl | go_num, HSW.out.2.trans HP.out, HSW.out.1, HO8.out, HB7.out⟩
                      · have := HPK.out; simp [intOf]; omega
                    · refine step_of rfl (wp_load_mid 30 (.tmp 114) (by kernel_rfl) g (k * 22) (by kernel_rfl) cx _ (RX.out _ HV.out.drew) Tryd.underlying30 rfl LX.out ?_)
                      refine hK _ _ ?_
                      clear hK K
                      try simp only [Act.put, List.getElem_toArray, List.getElem_cons_succ, List.getElem_cons_zero, List.setIfInBounds_toArray, List.set_cons_zero, List.set_cons_succ]
                      refine wpAny_ready (rs := [9]) (by kernel_rfl) (by simp) ?_
                      refine (AllReady.cons rfl (fun K hK => ?_) AllReady.nil)
                      refine step_of rfl (wp_load_mid 30 (.tmp 110) (by kernel_rfl) g (p * 22) (by kernel_rfl) cy _ (RY.out _ HV.out.drew) Tryd.underlying30 rfl LY.out ?_)
                      refine hK _ _ ?_
                      clear hK K
                      try simp only [Act.put, List.getElem_toArray, List.getElem_cons_succ, List.getElem_cons_zero, List.setIfInBounds_toArray, List.set_cons_zero, List.set_cons_succ]
                      refine wpAny_take (i := 14) (v := ?swb15v) rfl (by kernel_rfl) (by kernel_rfl) (by kernel_rfl) (fun _ _ _ h => h) (Or.inl ⟨by kernel_rfl, ?swb15y⟩) ?_
                      case swb15y => intro u; go_simp; try with_reducible rfl
                      try simp only [Act.put, List.getElem_toArray, List.getElem_cons_succ, List.getElem_cons_zero, List.setIfInBounds_toArray, List.set_cons_zero, List.set_cons_succ]
                      refine wpAny_ready (rs := [15]) (by kernel_rfl) (by simp) ?_
                      refine (AllReady.cons rfl (fun K hK => ?_) AllReady.nil)
                      refine step_of rfl (wp_store_item (.tmp 116) (.tmp 111) (by kernel_rfl) w.heap.size g c7 k (k * 22) L HGL.out.ids Y cy HCY.out.symm rfl (by kernel_rfl) (by kernel_rfl) HKL.out HIY.out HOL.out ?_)
                      intro w5 o5 g5
                      have HO5 := Lib.hid o5; have HG5 := Lib.hid g5
                      clear o5 g5
                      refine hK _ _ ?_
                      clear hK K
                      try simp only [Act.put, List.getElem_toArray, List.getElem_cons_succ, List.getElem_cons_zero, List.setIfInBounds_toArray, List.set_cons_zero, List.set_cons_succ]
                      refine wpAny_take (i := 16) (v := ?swb16v) rfl (by kernel_rfl) (by kernel_rfl) (by kernel_rfl) (fun _ _ _ h => h) (Or.inl ⟨by kernel_rfl, ?swb16y⟩) ?_
                      case swb16y => intro u; go_simp; try with_reducible rfl
                      try simp only [Act.put, List.getElem_toArray, List.getElem_cons_succ, List.getElem_cons_zero, List.setIfInBounds_toArray, List.set_cons_zero, List.set_cons_succ]
                      refine wpAny_ready (rs := [17]) (by kernel_rfl) (by simp) ?_
                      refine (AllReady.cons rfl (fun K hK => ?_) AllReady.nil)
                      refine step_of rfl (wp_store_item (.tmp 117) (.tmp 115) (by kernel_rfl) w.heap.size g c7 p (p * 22) (L.set k Y) (set_ids HGL.out.ids k HIY.out) X cx HCX.out.symm rfl (by kernel_rfl) (by kernel_rfl) (by rw [List.length_set]; exact HPL.out) HIX.out (by rw [List.length_set]; exact HO5.out) ?_)
                      intro w7 o7 g7
                      have HO7 := Lib.hid o7; have HG7 := Lib.hid g7
                      clear o7 g7
                      refine hK _ _ ?_
                      clear hK K
                      try simp only [Act.put, List.getElem_toArray, List.getElem_cons_succ, List.getElem_cons_zero, List.setIfInBounds_toArray, List.set_cons_zero, List.set_cons_succ]
                      refine wpAny_done (by kernel_rfl) ?_ _
                      have hsw := ins_swap HIN.out (by omega) HR.out
                      rw [GX.out, GY.out, show k - 1 = p by have := HPK.out; omega] at hsw
                      have hb5 := HBD.out.grown HG5.out HBD.out.size (fun j hj => by cases hj; exact HGB.out)
                      have HB7 := Lib.hid (hb5.grown HG7.out hb5.size (fun j hj => by cases hj; exact HGB.out))
                      have HO8 := Lib.hid (show OwnI w.heap.size (.slice (some ⟨g, 0, none⟩) m c7) ((L.set k Y).set p X) w7 by have h := HO7.out; rwa [List.length_set, HLM.out] at h)
                      have HSW := Lib.hid hsw
                      clear hsw hb5
                      go_wp2
                      refine ⟨?_, ?_⟩
                      · exact ⟨p, (L.set k Y).set p X, by have := HPK.out; omega, by first | rfl | go_num, HSW.out.2.trans HP.out, HSW.out.1, HO8.out, HB7.out⟩
                      · have := HPK.out; simp [intOf]; omega
            · have him2 : i = m := by omega
              subst him2
              have hLm : L.length = i := by rw [HP.out.length_eq, HM.out]
              have hsL : Srt L := by have h := HS.out; rwa [← hLm, List.take_length] at h
              have hgl := HG.out.perm HP.out
              obtain ⟨_, _, hv0, _, _, hitL, _⟩ := ownI_items HO.out hgl.ids
              simp only [Value.slice.injEq] at hv0
              rw [← hv0.1] at hitL
              have hrt := hgl.right (by omega) (by omega) hsL
              have CA := Lib.hid (awake_is wi (TB.out.below HB.out))
              have CR := Lib.hid (fun u (h : Below wi.heap.size wi u) => pRight_is (some ⟨g, 0, none⟩) i c7 L u hLm.symm (by unfold maxLen; omega) (hitL.keep h) hgl.ids hgl.short (TB.out.below (HB.out.trans (h.mono HB.out.size))))
              rw [hrt] at CR
              have HIL := Lib.hid hitL; have HGL := Lib.hid hgl; have HLM := Lib.hid hLm; have HSL := Lib.hid hsL
              clear hLm hsL hgl hv0 hitL hrt
              go_wp2_with fail
              refine CA.out.mono ?_
              rintro e w2 ⟨rfl, b2⟩
              have B2 := Lib.hid b2
              clear b2 CA
              go_wp2_with fail
              refine (CR.out _ B2.out).mono ?_
              rintro e w3 ⟨rfl, b3⟩
              have B3 := Lib.hid (B2.out.trans (b3.mono B2.out.size))
              have BW := Lib.hid (HB.out.trans (B3.out.mono HB.out.size))
              have I3 := Lib.hid (HIL.out.keep B3.out)
              clear b3 CR B2
              have hi1L : i - 1 < L.length := by rw [HLM.out]; omega
              cases tw with
              | true =>
                obtain ⟨q, hq⟩ : ∃ q, i = q + 1 := ⟨i - 1, by omega⟩
                have hw : IntKind.i64.wrap ((i : Int) - 1) = (q : Int) := by rw [IntWalk.i64_in _ (by omega)]; omega
                have hqL : q < L.length := by rw [HLM.out]; omega
                have hqi : q < i := by omega
                obtain ⟨Z, hZ⟩ : ∃ Z, L[q] = Z := ⟨_, rfl⟩
                have hiZ := HGL.out.ids Z (by rw [← hZ]; exact List.getElem_mem _)
                have hzs := HGL.out.short Z (by rw [← hZ]; exact List.getElem_mem _)
                have hidz : ∀ x ∈ L ++ [Z], x.id.length = 20 := fun x hx => by
                  rcases List.mem_append.1 hx with h | h
                  · exact HGL.out.ids x h
                  · rw [List.mem_singleton.1 h]; exact hiZ
                have hsz : ∀ x ∈ L ++ [Z], x.name.length ≤ 1000000 := fun x hx => by
                  rcases List.mem_append.1 hx with h | h
                  · exact HGL.out.short x h
                  · rw [List.mem_singleton.1 h]; exact hzs
                have htwo : rightI (L ++ [Z]) = false := by
                  have h := right_twice (l := L) (by omega)
                  have e : L[L.length - 1]'(by omega) = Z := by rw [← hZ]; congr 1; rw [HLM.out]; omega
                  rwa [e] at h
                have rZ : ∀ u, Below w3.heap.size w3 u → u.rangeAt g (q * 22) (cellsI Z) := fun u hu => by
                  obtain ⟨b', o', e, hlt, hc⟩ := I3.out (by omega)
                  cases e
                  intro j v hj
                  have h1 := hc q hqL j v (by rw [hZ]; exact hj)
                  rw [show 0 + q * 22 + j = q * 22 + j by omega] at h1
                  exact (hu.cell (p := ⟨g, q * 22 + j, none⟩) hlt).trans h1
                have lZ : (Tryd.prog.info? 30).map (·.size) = some (cellsI Z).length := by rw [cellsI_len Z hiZ]; exact infoItem
                obtain ⟨cz, hcz⟩ : ∃ c, cellsI Z = c := ⟨_, rfl⟩
                rw [hcz] at rZ lZ
                have hzl : cz.toArray.size = 22 := by rw [← hcz]; exact arrI_size Z hiZ
                have RZ := Lib.hid rZ; have LZ := Lib.hid lZ; have HCZ := Lib.hid hcz; have HZL := Lib.hid hzl; have HIZ := Lib.hid hiZ; have HIDZ := Lib.hid hidz; have HSZ := Lib.hid hsz; have HTWO := Lib.hid htwo
                have HLL := Lib.hid (show L.length ≤ 1000000 by rw [HLM.out]; omega)
                have HQ := Lib.hid hq
                clear rZ lZ hcz hzl hiZ hidz hsz htwo hZ hzs hq hi1L
                go_wp2_with fail
                have CUR := Lib.hid ((Below.refl w3.heap.size w3).drew)
                refine wp_region_any (by kernel_rfl) ?_
                change wpAny _ _ _ _ _ _ _ (World.drew _)
                refine wpAny_take (i := 0) (v := ?twb1v) rfl (by kernel_rfl) (by kernel_rfl) (by kernel_rfl) (fun _ _ _ h => h) (Or.inl ⟨by kernel_rfl, ?twb1y⟩) ?_
                case twb1y => intro u; go_simp; try with_reducible rfl
                try simp only [Act.put, List.getElem_toArray, List.getElem_cons_succ, List.getElem_cons_zero, List.setIfInBounds_toArray, List.set_cons_zero, List.set_cons_succ]
                refine wpAny_take (i := 2) (v := ?twb2v) rfl (by kernel_rfl) (by kernel_rfl) (by kernel_rfl) (fun _ _ _ h => h) (Or.inl ⟨by kernel_rfl, ?twb2y⟩) ?_
                case twb2y => intro u; go_simp; try with_reducible rfl
                try simp only [Act.put, List.getElem_toArray, List.getElem_cons_succ, List.getElem_cons_zero, List.setIfInBounds_toArray, List.set_cons_zero, List.set_cons_succ]
                refine wpAny_take (i := 3) (v := ?twb3v) rfl (by kernel_rfl) (by kernel_rfl) (by kernel_rfl) (fun _ _ _ h => h) (Or.inl ⟨by kernel_rfl, ?twb3y⟩) ?_
                case twb3y => intro u; go_simp; try with_reducible rfl
                try simp only [Act.put, List.getElem_toArray, List.getElem_cons_succ, List.getElem_cons_zero, List.setIfInBounds_toArray, List.set_cons_zero, List.set_cons_succ]
                refine wpAny_take (i := 4) (v := ?twb4v) rfl (by kernel_rfl) (by kernel_rfl) (by kernel_rfl) (fun _ _ _ h => h) (Or.inl ⟨by kernel_rfl, ?twb4y⟩) ?_
                case twb4y => intro u; go_simp; try with_reducible rfl
                try simp only [Act.put, List.getElem_toArray, List.getElem_cons_succ, List.getElem_cons_zero, List.setIfInBounds_toArray, List.set_cons_zero, List.set_cons_succ]
                refine wpAny_take (i := 5) (v := ?twb5v) rfl (by kernel_rfl) (by kernel_rfl) (by kernel_rfl) (fun _ _ _ h => h) (Or.inl ⟨by kernel_rfl, ?twb5y⟩) ?_
                case twb5y => intro u; go_simp; try with_reducible rfl
                try simp only [Act.put, List.getElem_toArray, List.getElem_cons_succ, List.getElem_cons_zero, List.setIfInBounds_toArray, List.set_cons_zero, List.set_cons_succ]
                refine wpAny_take (i := 6) (v := ?twb6v) rfl (by kernel_rfl) (by kernel_rfl) (by kernel_rfl) (fun _ _ _ h => h) (Or.inl ⟨by kernel_rfl, ?twb6y⟩) ?_
                case twb6y => intro u; go_simp; try with_reducible rfl
                try simp only [Act.put, List.getElem_toArray, List.getElem_cons_succ, List.getElem_cons_zero, List.setIfInBounds_toArray, List.set_cons_zero, List.set_cons_succ]
                refine wpAny_ready (rs := [1, 7]) (by kernel_rfl) (by simp) ?_
                refine (AllReady.cons rfl (fun K hK => ?_) (AllReady.cons rfl (fun K hK => ?_) AllReady.nil))
                · refine step_of rfl (wp_copy_items (.const (.slice none 0 0)) (.tmp 126) (by kernel_rfl) w.heap.size L HGL.out.ids (by kernel_rfl) g 0 i c7 HLM.out.symm (by kernel_rfl) (I3.out.keep CUR.out) HLL.out (Nat.le_trans BW.out.size CUR.out.size) ?_)
                  intro v1 w4 o1 gr1
                  have OV := Lib.hid o1
                  try have BB := Lib.hid ((gr1.block _ (lt_of_heap BB.out) (by simp)).trans BB.out)
                  have CUR := Lib.hid (CUR.out.grown gr1 CUR.out.size (fun j hj => by cases hj))
                  clear o1 gr1
                  refine hK _ _ ?_
                  clear hK K
                  try simp only [Act.put, List.getElem_toArray, List.getElem_cons_succ, List.getElem_cons_zero, List.setIfInBounds_toArray, List.set_cons_zero, List.set_cons_succ]
                  refine wpAny_ready (rs := [7]) (by kernel_rfl) (by simp) ?_
                  refine (AllReady.cons rfl (fun K hK => ?_) AllReady.nil)
                  refine step_of rfl (wp_load_mid 30 (.tmp 132) (by kernel_rfl) g (q * 22) (by kernel_rfl) cz _ (RZ.out _ CUR.out) Tryd.underlying30 rfl LZ.out ?_)
                  refine hK _ _ ?_
                  clear hK K
                  try simp only [Act.put, List.getElem_toArray, List.getElem_cons_succ, List.getElem_cons_zero, List.setIfInBounds_toArray, List.set_cons_zero, List.set_cons_succ]
                  refine wpAny_ready (rs := [8]) (by kernel_rfl) (by simp) ?_
                  refine (AllReady.cons rfl (fun K hK => ?_) AllReady.nil)
                  refine step_of rfl (wp_build_item (.tmp 133) (by kernel_rfl) cz.toArray HZL.out (by kernel_rfl) ?_)
                  first | (have BB := Lib.hid (heap_alloc_new w4 (.cells cz.toArray 30))) | (have BB := Lib.hid (heap_alloc_new (World.drew w3) (.cells cz.toArray 30)))
                  try have OV := Lib.hid (ownI_below OV.out ((Below.refl _ _).alloc (Nat.le_refl _) (.cells cz.toArray 30)))
                  have CUR := Lib.hid (CUR.out.alloc CUR.out.size (.cells cz.toArray 30))
                  refine hK _ _ ?_
                  clear hK K
                  try simp only [Act.put, List.getElem_toArray, List.getElem_cons_succ, List.getElem_cons_zero, List.setIfInBounds_toArray, List.set_cons_zero, List.set_cons_succ]
                  refine wpAny_ready (rs := [9]) (by kernel_rfl) (by simp) ?_
                  refine (AllReady.cons rfl (fun K hK => ?_) AllReady.nil)
                  refine step_of rfl (wp_append_item (.tmp 127) (.tmp 134) (by kernel_rfl) w.heap.size v1 L Z _ (by kernel_rfl) (by kernel_rfl) (by rw [HCZ.out]; exact BB.out) HIZ.out OV.out HLL.out (Nat.le_trans BW.out.size CUR.out.size) ?_)
                  intro v5 w5 o5 gr5
                  obtain ⟨a9, c9, hv9, _, _, hit9, _⟩ := ownI_items o5 HIDZ.out
                  obtain ⟨n9, hn9⟩ : ∃ n9, (L ++ [Z]).length = n9 := ⟨_, rfl⟩
                  rw [hn9] at hv9
                  subst hv9
                  have CUR := Lib.hid ((BW.out.trans (CUR.out.mono BW.out.size)).grown gr5 (Nat.le_trans BW.out.size CUR.out.size) (fun j hj => (OV.out.lt j hj).1))
                  have hn20 : n9 ≤ 500 := by rw [← hn9, List.length_append, HLM.out]; simp; omega
                  have CRR := Lib.hid (pRight_is a9 n9 c9 (L ++ [Z]) w5 hn9.symm (by unfold maxLen; omega) hit9 HIDZ.out HSZ.out (TB.out.below CUR.out))
                  rw [HTWO.out] at CRR
                  clear o5 gr5 hit9 hn9
                  refine hK _ _ ?_
                  clear hK K
                  try simp only [Act.put, List.getElem_toArray, List.getElem_cons_succ, List.getElem_cons_zero, List.setIfInBounds_toArray, List.set_cons_zero, List.set_cons_succ]
                  refine wpAny_ready (rs := [10]) (by kernel_rfl) (by simp) ?_
                  refine (AllReady.cons rfl (fun K hK => ?_) AllReady.nil)
                  go_simp
                  refine CRR.out.mono ?_
                  rintro e w6 ⟨rfl, b6⟩
                  have CUR := Lib.hid (CUR.out.trans (b6.mono CUR.out.size))
                  clear b6 CRR
                  refine hK _ _ ?_
                  clear hK K
                  try simp only [Act.put, List.getElem_toArray, List.getElem_cons_succ, List.getElem_cons_zero, List.setIfInBounds_toArray, List.set_cons_zero, List.set_cons_succ]
                  refine wpAny_take (i := 11) (v := ?twb7v) rfl (by kernel_rfl) (by kernel_rfl) (by kernel_rfl) (fun _ _ _ h => h) (Or.inl ⟨by kernel_rfl, ?twb7y⟩) ?_
                  case twb7y => intro u; go_simp; try with_reducible rfl
                  try simp only [Act.put, List.getElem_toArray, List.getElem_cons_succ, List.getElem_cons_zero, List.setIfInBounds_toArray, List.set_cons_zero, List.set_cons_succ]
                  refine wpAny_take (i := 12) (v := ?twb8v) rfl (by kernel_rfl) (by kernel_rfl) (by kernel_rfl) (fun _ _ _ h => h) (Or.inl ⟨by kernel_rfl, ?twb8y⟩) ?_
                  case twb8y => intro u; go_simp; try with_reducible rfl
                  try simp only [Act.put, List.getElem_toArray, List.getElem_cons_succ, List.getElem_cons_zero, List.setIfInBounds_toArray, List.set_cons_zero, List.set_cons_succ]
                  refine wpAny_done (by kernel_rfl) ?_ _
                  go_wp2
                  go_ret
                  exact ⟨by kernel_rfl, CUR.out⟩
                · refine step_of rfl (wp_load_mid 30 (.tmp 132) (by kernel_rfl) g (q * 22) (by kernel_rfl) cz _ (RZ.out _ CUR.out) Tryd.underlying30 rfl LZ.out ?_)
                  refine hK _ _ ?_
                  clear hK K
                  try simp only [Act.put, List.getElem_toArray, List.getElem_cons_succ, List.getElem_cons_zero, List.setIfInBounds_toArray, List.set_cons_zero, List.set_cons_succ]
                  refine wpAny_ready (rs := [1, 8]) (by kernel_rfl) (by simp) ?_
                  refine (AllReady.cons rfl (fun K hK => ?_) (AllReady.cons rfl (fun K hK => ?_) AllReady.nil))
                  · refine step_of rfl (wp_copy_items (.const (.slice none 0 0)) (.tmp 126) (by kernel_rfl) w.heap.size L HGL.out.ids (by kernel_rfl) g 0 i c7 HLM.out.symm (by kernel_rfl) (I3.out.keep CUR.out) HLL.out (Nat.le_trans BW.out.size CUR.out.size) ?_)
                    intro v1 w4 o1 gr1
                    have OV := Lib.hid o1
                    try have BB := Lib.hid ((gr1.block _ (lt_of_heap BB.out) (by simp)).trans BB.out)
                    have CUR := Lib.hid (CUR.out.grown gr1 CUR.out.size (fun j hj => by cases hj))
                    clear o1 gr1
                    refine hK _ _ ?_
                    clear hK K
                    try simp only [Act.put, List.getElem_toArray, List.getElem_cons_succ, List.getElem_cons_zero, List.setIfInBounds_toArray, List.set_cons_zero, List.set_cons_succ]
                    refine wpAny_ready (rs := [8]) (by kernel_rfl) (by simp) ?_
                    refine (AllReady.cons rfl (fun K hK => ?_) AllReady.nil)
                    refine step_of rfl (wp_build_item (.tmp 133) (by kernel_rfl) cz.toArray HZL.out (by kernel_rfl) ?_)
                    first | (have BB := Lib.hid (heap_alloc_new w4 (.cells cz.toArray 30))) | (have BB := Lib.hid (heap_alloc_new (World.drew w3) (.cells cz.toArray 30)))
                    try have OV := Lib.hid (ownI_below OV.out ((Below.refl _ _).alloc (Nat.le_refl _) (.cells cz.toArray 30)))
                    have CUR := Lib.hid (CUR.out.alloc CUR.out.size (.cells cz.toArray 30))
                    refine hK _ _ ?_
                    clear hK K
                    try simp only [Act.put, List.getElem_toArray, List.getElem_cons_succ, List.getElem_cons_zero, List.setIfInBounds_toArray, List.set_cons_zero, List.set_cons_succ]
                    refine wpAny_ready (rs := [9]) (by kernel_rfl) (by simp) ?_
                    refine (AllReady.cons rfl (fun K hK => ?_) AllReady.nil)
                    refine step_of rfl (wp_append_item (.tmp 127) (.tmp 134) (by kernel_rfl) w.heap.size v1 L Z _ (by kernel_rfl) (by kernel_rfl) (by rw [HCZ.out]; exact BB.out) HIZ.out OV.out HLL.out (Nat.le_trans BW.out.size CUR.out.size) ?_)
                    intro v5 w5 o5 gr5
                    obtain ⟨a9, c9, hv9, _, _, hit9, _⟩ := ownI_items o5 HIDZ.out
                    obtain ⟨n9, hn9⟩ : ∃ n9, (L ++ [Z]).length = n9 := ⟨_, rfl⟩
                    rw [hn9] at hv9
                    subst hv9
                    have CUR := Lib.hid ((BW.out.trans (CUR.out.mono BW.out.size)).grown gr5 (Nat.le_trans BW.out.size CUR.out.size) (fun j hj => (OV.out.lt j hj).1))
                    have hn20 : n9 ≤ 500 := by rw [← hn9, List.length_append, HLM.out]; simp; omega
                    have CRR := Lib.hid (pRight_is a9 n9 c9 (L ++ [Z]) w5 hn9.symm (by unfold maxLen; omega) hit9 HIDZ.out HSZ.out (TB.out.below CUR.out))
                    rw [HTWO.out] at CRR
                    clear o5 gr5 hit9 hn9
                    refine hK _ _ ?_
                    clear hK K
                    try simp only [Act.put, List.getElem_toArray, List.getElem_cons_succ, List.getElem_cons_zero, List.setIfInBounds_toArray, List.set_cons_zero, List.set_cons_succ]
                    refine wpAny_ready (rs := [10]) (by kernel_rfl) (by simp) ?_
                    refine (AllReady.cons rfl (fun K hK => ?_) AllReady.nil)
                    go_simp
                    refine CRR.out.mono ?_
                    rintro e w6 ⟨rfl, b6⟩
                    have CUR := Lib.hid (CUR.out.trans (b6.mono CUR.out.size))
                    clear b6 CRR
                    refine hK _ _ ?_
                    clear hK K
                    try simp only [Act.put, List.getElem_toArray, List.getElem_cons_succ, List.getElem_cons_zero, List.setIfInBounds_toArray, List.set_cons_zero, List.set_cons_succ]
                    refine wpAny_take (i := 11) (v := ?twb9v) rfl (by kernel_rfl) (by kernel_rfl) (by kernel_rfl) (fun _ _ _ h => h) (Or.inl ⟨by kernel_rfl, ?twb9y⟩) ?_
                    case twb9y => intro u; go_simp; try with_reducible rfl
                    try simp only [Act.put, List.getElem_toArray, List.getElem_cons_succ, List.getElem_cons_zero, List.setIfInBounds_toArray, List.set_cons_zero, List.set_cons_succ]
                    refine wpAny_take (i := 12) (v := ?twb10v) rfl (by kernel_rfl) (by kernel_rfl) (by kernel_rfl) (fun _ _ _ h => h) (Or.inl ⟨by kernel_rfl, ?twb10y⟩) ?_
                    case twb10y => intro u; go_simp; try with_reducible rfl
                    try simp only [Act.put, List.getElem_toArray, List.getElem_cons_succ, List.getElem_cons_zero, List.setIfInBounds_toArray, List.set_cons_zero, List.set_cons_succ]
                    refine wpAny_done (by kernel_rfl) ?_ _
                    go_wp2
                    go_ret
                    exact ⟨by kernel_rfl, CUR.out⟩
                  · refine step_of rfl (wp_build_item (.tmp 133) (by kernel_rfl) cz.toArray HZL.out (by kernel_rfl) ?_)
                    first | (have BB := Lib.hid (heap_alloc_new w4 (.cells cz.toArray 30))) | (have BB := Lib.hid (heap_alloc_new (World.drew w3) (.cells cz.toArray 30)))
                    try have OV := Lib.hid (ownI_below OV.out ((Below.refl _ _).alloc (Nat.le_refl _) (.cells cz.toArray 30)))
                    have CUR := Lib.hid (CUR.out.alloc CUR.out.size (.cells cz.toArray 30))
                    refine hK _ _ ?_
                    clear hK K
                    try simp only [Act.put, List.getElem_toArray, List.getElem_cons_succ, List.getElem_cons_zero, List.setIfInBounds_toArray, List.set_cons_zero, List.set_cons_succ]
                    refine wpAny_ready (rs := [1]) (by kernel_rfl) (by simp) ?_
                    refine (AllReady.cons rfl (fun K hK => ?_) AllReady.nil)
                    refine step_of rfl (wp_copy_items (.const (.slice none 0 0)) (.tmp 126) (by kernel_rfl) w.heap.size L HGL.out.ids (by kernel_rfl) g 0 i c7 HLM.out.symm (by kernel_rfl) (I3.out.keep CUR.out) HLL.out (Nat.le_trans BW.out.size CUR.out.size) ?_)
                    intro v1 w4 o1 gr1
                    have OV := Lib.hid o1
                    try have BB := Lib.hid ((gr1.block _ (lt_of_heap BB.out) (by simp)).trans BB.out)
                    have CUR := Lib.hid (CUR.out.grown gr1 CUR.out.size (fun j hj => by cases hj))
                    clear o1 gr1
                    refine hK _ _ ?_
                    clear hK K
                    try simp only [Act.put, List.getElem_toArray, List.getElem_cons_succ, List.getElem_cons_zero, List.setIfInBounds_toArray, List.set_cons_zero, List.set_cons_succ]
                    refine wpAny_ready (rs := [9]) (by kernel_rfl) (by simp) ?_
                    refine (AllReady.cons rfl (fun K hK => ?_) AllReady.nil)
                    refine step_of rfl (wp_append_item (.tmp 127) (.tmp 134) (by kernel_rfl) w.heap.size v1 L Z _ (by kernel_rfl) (by kernel_rfl) (by rw [HCZ.out]; exact BB.out) HIZ.out OV.out HLL.out (Nat.le_trans BW.out.size CUR.out.size) ?_)
                    intro v5 w5 o5 gr5
                    obtain ⟨a9, c9, hv9, _, _, hit9, _⟩ := ownI_items o5 HIDZ.out
                    obtain ⟨n9, hn9⟩ : ∃ n9, (L ++ [Z]).length = n9 := ⟨_, rfl⟩
                    rw [hn9] at hv9
                    subst hv9
                    have CUR := Lib.hid ((BW.out.trans (CUR.out.mono BW.out.size)).grown gr5 (Nat.le_trans BW.out.size CUR.out.size) (fun j hj => (OV.out.lt j hj).1))
                    have hn20 : n9 ≤ 500 := by rw [← hn9, List.length_append, HLM.out]; simp; omega
                    have CRR := Lib.hid (pRight_is a9 n9 c9 (L ++ [Z]) w5 hn9.symm (by unfold maxLen; omega) hit9 HIDZ.out HSZ.out (TB.out.below CUR.out))
                    rw [HTWO.out] at CRR
                    clear o5 gr5 hit9 hn9
                    refine hK _ _ ?_
                    clear hK K
                    try simp only [Act.put, List.getElem_toArray, List.getElem_cons_succ, List.getElem_cons_zero, List.setIfInBounds_toArray, List.set_cons_zero, List.set_cons_succ]
                    refine wpAny_ready (rs := [10]) (by kernel_rfl) (by simp) ?_
                    refine (AllReady.cons rfl (fun K hK => ?_) AllReady.nil)
                    go_simp
                    refine CRR.out.mono ?_
                    rintro e w6 ⟨rfl, b6⟩
                    have CUR := Lib.hid (CUR.out.trans (b6.mono CUR.out.size))
                    clear b6 CRR
                    refine hK _ _ ?_
                    clear hK K
                    try simp only [Act.put, List.getElem_toArray, List.getElem_cons_succ, List.getElem_cons_zero, List.setIfInBounds_toArray, List.set_cons_zero, List.set_cons_succ]
                    refine wpAny_take (i := 11) (v := ?twb11v) rfl (by kernel_rfl) (by kernel_rfl) (by kernel_rfl) (fun _ _ _ h => h) (Or.inl ⟨by kernel_rfl, ?twb11y⟩) ?_
                    case twb11y => intro u; go_simp; try with_reducible rfl
                    try simp only [Act.put, List.getElem_toArray, List.getElem_cons_succ, List.getElem_cons_zero, List.setIfInBounds_toArray, List.set_cons_zero, List.set_cons_succ]
                    refine wpAny_take (i := 12) (v := ?twb12v) rfl (by kernel_rfl) (by kernel_rfl) (by kernel_rfl) (fun _ _ _ h => h) (Or.inl ⟨by kernel_rfl, ?twb12y⟩) ?_
                    case twb12y => intro u; go_simp; try with_reducible rfl
                    try simp only [Act.put, List.getElem_toArray, List.getElem_cons_succ, List.getElem_cons_zero, List.setIfInBounds_toArray, List.set_cons_zero, List.set_cons_succ]
                    refine wpAny_done (by kernel_rfl) ?_ _
                    go_wp2
                    go_ret
                    exact ⟨by kernel_rfl, CUR.out⟩
              | false =>
                by_cases hi2 : i < 2
                · have g2 : (i : Int) < 2 := by omega
                  clear hi1L
                  go_wp2
                  go_ret
                  exact ⟨by kernel_rfl, BW.out⟩
                · have g2 : ¬ (i : Int) < 2 := by omega
                  have h1L : 1 < L.length := by rw [HLM.out]; omega
                  have h0L : 0 < L.length := by omega
                  obtain ⟨X, hX⟩ : ∃ X, L[0] = X := ⟨_, rfl⟩
                  obtain ⟨Y, hY⟩ : ∃ Y, L[1] = Y := ⟨_, rfl⟩
                  have hiX := HGL.out.ids X (by rw [← hX]; exact List.getElem_mem _)
                  have hiY := HGL.out.ids Y (by rw [← hY]; exact List.getElem_mem _)
                  have hsX := HGL.out.short X (by rw [← hX]; exact List.getElem_mem _)
                  have hsY := HGL.out.short Y (by rw [← hY]; exact List.getElem_mem _)
                  have hturn := right_turned (l := L) h1L HSL.out
                  rw [hX, hY] at hturn
                  have hidm : ∀ x ∈ (L.set 0 Y).set 1 X, x.id.length = 20 := set_ids (set_ids HGL.out.ids 0 hiY) 1 hiX
                  have hshm : ∀ x ∈ (L.set 0 Y).set 1 X, x.name.length ≤ 1000000 := fun x hx => by
                    rcases List.mem_or_eq_of_mem_set hx with h | rfl
                    · rcases List.mem_or_eq_of_mem_set h with h | rfl
                      · exact HGL.out.short x h
                      · exact hsY
                    · exact hsX
                  have hml : ((L.set 0 Y).set 1 X).length = i := by rw [List.length_set, List.length_set, HLM.out]
                  have hpt : printT ((L.set 0 Y).set 1 X) = ([], 11) := printT_turned (by rw [hml]; omega) hturn
                  have lX : (Tryd.prog.info? 30).map (·.size) = some (cellsI X).length := by rw [cellsI_len X hiX]; exact infoItem
                  have lY : (Tryd.prog.info? 30).map (·.size) = some (cellsI Y).length := by rw [cellsI_len Y hiY]; exact infoItem
                  obtain ⟨cx, hcx⟩ : ∃ c, cellsI X = c := ⟨_, rfl⟩
                  obtain ⟨cy, hcy⟩ : ∃ c, cellsI Y = c := ⟨_, rfl⟩
                  rw [hcx] at lX
                  rw [hcy] at lY
                  have HX := Lib.hid hX; have HY := Lib.hid hY; have HIX := Lib.hid hiX; have HIY := Lib.hid hiY; have HTU := Lib.hid hturn; have HIDM := Lib.hid hidm; have HSHM := Lib.hid hshm; have HML := Lib.hid hml; have HPT := Lib.hid hpt
                  have LX := Lib.hid lX; have LY := Lib.hid lY; have HCX := Lib.hid hcx; have HCY := Lib.hid hcy; have H1L := Lib.hid h1L; have H0L := Lib.hid h0L
                  have HLL := Lib.hid (show L.length ≤ 1000000 by rw [HLM.out]; omega)
                  clear hX hY hiX hiY hsX hsY hturn hidm hshm hml hpt lX lY hcx hcy hi1L
                  go_wp2_with (first
                    | (at_builtin; refine wpList_copy_items rfl (.const (.slice none 0 0)) (.tmp 141) rfl w.heap.size L HGL.out.ids rfl g 0 i c7 HLM.out.symm rfl I3.out HLL.out BW.out.size ?_)
                    | fail)
                  intro v1 w4 o1 gr1
                  obtain ⟨a8, c8, hv8, _, _, _, _⟩ := ownI_items o1 HGL.out.ids
                  subst hv8
                  obtain ⟨g8, rfl, hg8, hlt8, hm8⟩ := own_some o1 (by have := H0L.out; omega)
                  have CUR := Lib.hid (BW.out.grown gr1 BW.out.size (fun j hj => by cases hj))
                  have HOL := Lib.hid (ownI_below o1 (Below.refl _ _).drew)
                  have RX := Lib.hid (own_range o1 HGL.out.ids 0 H0L.out)
                  have RY := Lib.hid (own_range o1 HGL.out.ids 1 H1L.out)
                  have hrx := RX.out; have hry := RY.out
                  rw [HX.out, HCX.out] at hrx
                  rw [HY.out, HCY.out] at hry
                  have RX := Lib.hid hrx; have RY := Lib.hid hry
                  have HG8 := Lib.hid hg8
                  obtain ⟨n8, hn8⟩ : ∃ n8, L.length = n8 := ⟨_, rfl⟩
                  have hn8i : n8 = i := by rw [← hn8, HLM.out]
                  rw [hn8]
                  subst hn8i
                  have k1 : (1 : Int) < (n8 : Int) := by omega
                  have k0n : 0 < n8 := by omega
                  have k1n : 1 < n8 := by omega
                  clear o1 gr1 hg8 hlt8 hm8 hrx hry hn8
                  go_wp2_with fail
                  refine wp_region_any (by kernel_rfl) ?_
                  change wpAny _ _ _ _ _ _ _ (World.drew _)
                  refine wpAny_take (i := 0) (v := ?tnb1v) rfl (by kernel_rfl) (by kernel_rfl) (by kernel_rfl) (fun _ _ _ h => h) (Or.inl ⟨by kernel_rfl, ?tnb1y⟩) ?_
                  case tnb1y => intro u; go_simp; try with_reducible rfl
                  try simp only [Act.put, List.getElem_toArray, List.getElem_cons_succ, List.getElem_cons_zero, List.setIfInBounds_toArray, List.set_cons_zero, List.set_cons_succ]
                  refine wpAny_take (i := 1) (v := ?tnb2v) rfl (by kernel_rfl) (by kernel_rfl) (by kernel_rfl) (fun _ _ _ h => h) (Or.inl ⟨by kernel_rfl, ?tnb2y⟩) ?_
                  case tnb2y => intro u; go_simp; try with_reducible rfl
                  try simp only [Act.put, List.getElem_toArray, List.getElem_cons_succ, List.getElem_cons_zero, List.setIfInBounds_toArray, List.set_cons_zero, List.set_cons_succ]
                  refine wpAny_take (i := 2) (v := ?tnb3v) rfl (by kernel_rfl) (by kernel_rfl) (by kernel_rfl) (fun _ _ _ h => h) (Or.inl ⟨by kernel_rfl, ?tnb3y⟩) ?_
                  case tnb3y => intro u; go_simp; try with_reducible rfl
                  try simp only [Act.put, List.getElem_toArray, List.getElem_cons_succ, List.getElem_cons_zero, List.setIfInBounds_toArray, List.set_cons_zero, List.set_cons_succ]
                  refine wpAny_take (i := 3) (v := ?tnb4v) rfl (by kernel_rfl) (by kernel_rfl) (by kernel_rfl) (fun _ _ _ h => h) (Or.inl ⟨by kernel_rfl, ?tnb4y⟩) ?_
                  case tnb4y => intro u; go_simp; try with_reducible rfl
                  try simp only [Act.put, List.getElem_toArray, List.getElem_cons_succ, List.getElem_cons_zero, List.setIfInBounds_toArray, List.set_cons_zero, List.set_cons_succ]
                  refine wpAny_take (i := 5) (v := ?tnb5v) rfl (by kernel_rfl) (by kernel_rfl) (by kernel_rfl) (fun _ _ _ h => h) (Or.inl ⟨by kernel_rfl, ?tnb5y⟩) ?_
                  case tnb5y => intro u; go_simp; try with_reducible rfl
                  try simp only [Act.put, List.getElem_toArray, List.getElem_cons_succ, List.getElem_cons_zero, List.setIfInBounds_toArray, List.set_cons_zero, List.set_cons_succ]
                  refine wpAny_take (i := 6) (v := ?tnb6v) rfl (by kernel_rfl) (by kernel_rfl) (by kernel_rfl) (fun _ _ _ h => h) (Or.inl ⟨by kernel_rfl, ?tnb6y⟩) ?_
                  case tnb6y => intro u; go_simp; try with_reducible rfl
                  try simp only [Act.put, List.getElem_toArray, List.getElem_cons_succ, List.getElem_cons_zero, List.setIfInBounds_toArray, List.set_cons_zero, List.set_cons_succ]
                  refine wpAny_ready (rs := [4, 7]) (by kernel_rfl) (by simp) ?_
                  refine (AllReady.cons rfl (fun K hK => ?_) (AllReady.cons rfl (fun K hK => ?_) AllReady.nil))
                  · refine step_of rfl (wp_load_mid 30 (.tmp 146) (by kernel_rfl) g8 22 (by kernel_rfl) cy _ (RY.out _ (Below.refl _ _).drew) Tryd.underlying30 rfl LY.out ?_)
                    refine hK _ _ ?_
                    clear hK K
                    try simp only [Act.put, List.getElem_toArray, List.getElem_cons_succ, List.getElem_cons_zero, List.setIfInBounds_toArray, List.set_cons_zero, List.set_cons_succ]
                    refine wpAny_ready (rs := [7]) (by kernel_rfl) (by simp) ?_
                    refine (AllReady.cons rfl (fun K hK => ?_) AllReady.nil)
                    refine step_of rfl (wp_load_mid 30 (.tmp 149) (by kernel_rfl) g8 0 (by kernel_rfl) cx _ (RX.out _ (Below.refl _ _).drew) Tryd.underlying30 rfl LX.out ?_)
                    refine hK _ _ ?_
                    clear hK K
                    try simp only [Act.put, List.getElem_toArray, List.getElem_cons_succ, List.getElem_cons_zero, List.setIfInBounds_toArray, List.set_cons_zero, List.set_cons_succ]
                    refine wpAny_take (i := 8) (v := ?tnb7v) rfl (by kernel_rfl) (by kernel_rfl) (by kernel_rfl) (fun _ _ _ h => h) (Or.inl ⟨by kernel_rfl, ?tnb7y⟩) ?_
                    case tnb7y => intro u; go_simp; try with_reducible rfl
                    try simp only [Act.put, List.getElem_toArray, List.getElem_cons_succ, List.getElem_cons_zero, List.setIfInBounds_toArray, List.set_cons_zero, List.set_cons_succ]
                    refine wpAny_ready (rs := [9]) (by kernel_rfl) (by simp) ?_
                    refine (AllReady.cons rfl (fun K hK => ?_) AllReady.nil)
                    refine step_of rfl (wp_store_item (.tmp 151) (.tmp 147) (by kernel_rfl) w.heap.size g8 c8 0 0 L HGL.out.ids Y cy HCY.out.symm rfl (by kernel_rfl) (by kernel_rfl) H0L.out HIY.out HOL.out ?_)
                    intro w5 o5 g5
                    have HO5 := Lib.hid o5; have HG5 := Lib.hid g5
                    clear o5 g5
                    refine hK _ _ ?_
                    clear hK K
                    try simp only [Act.put, List.getElem_toArray, List.getElem_cons_succ, List.getElem_cons_zero, List.setIfInBounds_toArray, List.set_cons_zero, List.set_cons_succ]
                    refine wpAny_take (i := 10) (v := ?tnb8v) rfl (by kernel_rfl) (by kernel_rfl) (by kernel_rfl) (fun _ _ _ h => h) (Or.inl ⟨by kernel_rfl, ?tnb8y⟩) ?_
                    case tnb8y => intro u; go_simp; try with_reducible rfl
                    try simp only [Act.put, List.getElem_toArray, List.getElem_cons_succ, List.getElem_cons_zero, List.setIfInBounds_toArray, List.set_cons_zero, List.set_cons_succ]
                    refine wpAny_ready (rs := [11]) (by kernel_rfl) (by simp) ?_
                    refine (AllReady.cons rfl (fun K hK => ?_) AllReady.nil)
                    refine step_of rfl (wp_store_item (.tmp 152) (.tmp 150) (by kernel_rfl) w.heap.size g8 c8 1 22 (L.set 0 Y) (set_ids HGL.out.ids 0 HIY.out) X cx HCX.out.symm rfl (by kernel_rfl) (by kernel_rfl) (by rw [List.length_set]; exact H1L.out) HIX.out (by rw [List.length_set]; exact HO5.out) ?_)
                    intro w7 o7 g7
                    have HO7 := Lib.hid o7; have HG7 := Lib.hid g7
                    clear o7 g7
                    refine hK _ _ ?_
                    clear hK K
                    try simp only [Act.put, List.getElem_toArray, List.getElem_cons_succ, List.getElem_cons_zero, List.setIfInBounds_toArray, List.set_cons_zero, List.set_cons_succ]
                    refine wpAny_done (by kernel_rfl) ?_ _
                    have hb5 := CUR.out.drew.grown HG5.out CUR.out.drew.size (fun j hj => by cases hj; exact HG8.out)
                    have HB7 := Lib.hid (hb5.grown HG7.out hb5.size (fun j hj => by cases hj; exact HG8.out))
                    obtain ⟨a9, c9, hv9, _, _, hit9, _⟩ := ownI_items HO7.out HIDM.out
                    simp only [Value.slice.injEq] at hv9
                    rw [← hv9.1] at hit9
                    have C9 := Lib.hid (pPrint_is (some ⟨g8, 0, none⟩) n8 c8 ((L.set 0 Y).set 1 X) w7 HML.out.symm (by unfold maxLen; omega) hit9 HIDM.out HSHM.out (TB.out.below HB7.out))
                    have CR9 := Lib.hid (fun u (h : Below w7.heap.size w7 u) => pRight_is (some ⟨g8, 0, none⟩) n8 c8 ((L.set 0 Y).set 1 X) u HML.out.symm (by unfold maxLen; omega) (hit9.keep h) HIDM.out HSHM.out (TB.out.below (HB7.out.trans (h.mono HB7.out.size))))
                    rw [HPT.out] at C9
                    rw [HTU.out] at CR9
                    clear hb5 hv9 hit9
                    go_wp2_with fail
                    refine C9.out.mono ?_
                    rintro e w8 ⟨v8, rfl, hr8, b8⟩
                    have B8 := Lib.hid b8
                    clear b8 C9
                    go_wp2_with fail
                    refine (CR9.out _ B8.out).mono ?_
                    rintro e w9 ⟨rfl, b9⟩
                    have B9 := Lib.hid (HB7.out.trans ((B8.out.trans (b9.mono B8.out.size)).mono HB7.out.size))
                    clear b9 CR9
                    go_wp2
                    go_ret
                    exact ⟨by kernel_rfl, B9.out⟩
                  · refine step_of rfl (wp_load_mid 30 (.tmp 149) (by kernel_rfl) g8 0 (by kernel_rfl) cx _ (RX.out _ (Below.refl _ _).drew) Tryd.underlying30 rfl LX.out ?_)
                    refine hK _ _ ?_
                    clear hK K
                    try simp only [Act.put, List.getElem_toArray, List.getElem_cons_succ, List.getElem_cons_zero, List.setIfInBounds_toArray, List.set_cons_zero, List.set_cons_succ]
                    refine wpAny_ready (rs := [4]) (by kernel_rfl) (by simp) ?_
                    refine (AllReady.cons rfl (fun K hK => ?_) AllReady.nil)
                    refine step_of rfl (wp_load_mid 30 (.tmp 146) (by kernel_rfl) g8 22 (by kernel_rfl) cy _ (RY.out _ (Below.refl _ _).drew) Tryd.underlying30 rfl LY.out ?_)
                    refine hK _ _ ?_
                    clear hK K
                    try simp only [Act.put, List.getElem_toArray, List.getElem_cons_succ, List.getElem_cons_zero, List.setIfInBounds_toArray, List.set_cons_zero, List.set_cons_succ]
                    refine wpAny_take (i := 8) (v := ?tnb9v) rfl (by kernel_rfl) (by kernel_rfl) (by kernel_rfl) (fun _ _ _ h => h) (Or.inl ⟨by kernel_rfl, ?tnb9y⟩) ?_
                    case tnb9y => intro u; go_simp; try with_reducible rfl
                    try simp only [Act.put, List.getElem_toArray, List.getElem_cons_succ, List.getElem_cons_zero, List.setIfInBounds_toArray, List.set_cons_zero, List.set_cons_succ]
                    refine wpAny_ready (rs := [9]) (by kernel_rfl) (by simp) ?_
                    refine (AllReady.cons rfl (fun K hK => ?_) AllReady.nil)
                    refine step_of rfl (wp_store_item (.tmp 151) (.tmp 147) (by kernel_rfl) w.heap.size g8 c8 0 0 L HGL.out.ids Y cy HCY.out.symm rfl (by kernel_rfl) (by kernel_rfl) H0L.out HIY.out HOL.out ?_)
                    intro w5 o5 g5
                    have HO5 := Lib.hid o5; have HG5 := Lib.hid g5
                    clear o5 g5
                    refine hK _ _ ?_
                    clear hK K
                    try simp only [Act.put, List.getElem_toArray, List.getElem_cons_succ, List.getElem_cons_zero, List.setIfInBounds_toArray, List.set_cons_zero, List.set_cons_succ]
                    refine wpAny_take (i := 10) (v := ?tnb10v) rfl (by kernel_rfl) (by kernel_rfl) (by kernel_rfl) (fun _ _ _ h => h) (Or.inl ⟨by kernel_rfl, ?tnb10y⟩) ?_
                    case tnb10y => intro u; go_simp; try with_reducible rfl
                    try simp only [Act.put, List.getElem_toArray, List.getElem_cons_succ, List.getElem_cons_zero, List.setIfInBounds_toArray, List.set_cons_zero, List.set_cons_succ]
                    refine wpAny_ready (rs := [11]) (by kernel_rfl) (by simp) ?_
                    refine (AllReady.cons rfl (fun K hK => ?_) AllReady.nil)
                    refine step_of rfl (wp_store_item (.tmp 152) (.tmp 150) (by kernel_rfl) w.heap.size g8 c8 1 22 (L.set 0 Y) (set_ids HGL.out.ids 0 HIY.out) X cx HCX.out.symm rfl (by kernel_rfl) (by kernel_rfl) (by rw [List.length_set]; exact H1L.out) HIX.out (by rw [List.length_set]; exact HO5.out) ?_)
                    intro w7 o7 g7
                    have HO7 := Lib.hid o7; have HG7 := Lib.hid g7
                    clear o7 g7
                    refine hK _ _ ?_
                    clear hK K
                    try simp only [Act.put, List.getElem_toArray, List.getElem_cons_succ, List.getElem_cons_zero, List.setIfInBounds_toArray, List.set_cons_zero, List.set_cons_succ]
                    refine wpAny_done (by kernel_rfl) ?_ _
                    have hb5 := CUR.out.drew.grown HG5.out CUR.out.drew.size (fun j hj => by cases hj; exact HG8.out)
                    have HB7 := Lib.hid (hb5.grown HG7.out hb5.size (fun j hj => by cases hj; exact HG8.out))
                    obtain ⟨a9, c9, hv9, _, _, hit9, _⟩ := ownI_items HO7.out HIDM.out
                    simp only [Value.slice.injEq] at hv9
                    rw [← hv9.1] at hit9
                    have C9 := Lib.hid (pPrint_is (some ⟨g8, 0, none⟩) n8 c8 ((L.set 0 Y).set 1 X) w7 HML.out.symm (by unfold maxLen; omega) hit9 HIDM.out HSHM.out (TB.out.below HB7.out))
                    have CR9 := Lib.hid (fun u (h : Below w7.heap.size w7 u) => pRight_is (some ⟨g8, 0, none⟩) n8 c8 ((L.set 0 Y).set 1 X) u HML.out.symm (by unfold maxLen; omega) (hit9.keep h) HIDM.out HSHM.out (TB.out.below (HB7.out.trans (h.mono HB7.out.size))))
                    rw [HPT.out] at C9
                    rw [HTU.out] at CR9
                    clear hb5 hv9 hit9
                    go_wp2_with fail
                    refine C9.out.mono ?_
                    rintro e w8 ⟨v8, rfl, hr8, b8⟩
                    have B8 := Lib.hid b8
                    clear b8 C9
                    go_wp2_with fail
                    refine (CR9.out _ B8.out).mono ?_
                    rintro e w9 ⟨rfl, b9⟩
                    have B9 := Lib.hid (HB7.out.trans ((B8.out.trans (b9.mono B8.out.size)).mono HB7.out.size))
                    clear b9 CR9
                    go_wp2
                    go_ret
                    exact ⟨by kernel_rfl, B9.out⟩
      · have j1 : ¬ (i : Int) < (n0 : Int) := by omega
        have hg0 := HG.out
        by_cases hm0 : m = 0
        · have g0 : ((m : Int) == 0) = true := by rw [hm0]; rfl
          have CA := Lib.hid (awake_is wo (TB.out.below HBR.out))
          clear hg0 hc
          go_wp2_with fail
          refine CA.out.mono ?_
          rintro e w2 ⟨rfl, b2⟩
          have B2 := Lib.hid (HBR.out.trans (b2.mono HBR.out.size))
          clear b2
          go_wp2
          go_ret
          exact ⟨rfl, B2.out⟩
        · have g0 : ((m : Int) == 0) = false := beq_false_of_ne (by omega)
          obtain ⟨g, rfl, hgB, hglt, hml⟩ := own_some HOWN.out (by rw [HM.out]; exact hm0)
          have HGB := Lib.hid hgB
          clear hg0 hc hglt hgB hml
          go_wp2_with fail
          go_loopw [13] (fun v13 wr => ∃ (i : Nat) (L : List Itm), 1 ≤ i ∧ i ≤ m ∧ v13 = .int .i64 i ∧ L.Perm l ∧ Srt (L.take i) ∧ OwnI w.heap.size (.slice (some ⟨g, 0, none⟩) m c7) L wr ∧ Below w.heap.size w wr) (fun v13 _ => m - (intOf v13).toNat)
          case atStart =>
            refine ⟨1, l, Nat.le_refl _, by omega, rfl, List.Perm.refl _, ?_, HOWN.out, HBR.out⟩
            have h1 : (l.take 1).length ≤ 1 := by rw [List.length_take]; omega
            match l.take 1, h1 with
            | [], _ => exact List.Pairwise.nil
            | [x], _ => exact List.pairwise_singleton _ _
          case round =>
            rename World => wi
            obtain ⟨i, L, hi1, him, rfl, hp, hs, ho, hb⟩ := hrel
            have HP := Lib.hid hp; have HS := Lib.hid hs; have HO := Lib.hid ho; have HB := Lib.hid hb
            clear hp hs ho hb
            by_cases hlt : i < m
            · go_wp2_with fail
              go_loopw [14] (fun v14 wr => ∃ (k : Nat) (L : List Itm), k ≤ i ∧ v14 = .int .i64 k ∧ L.Perm l ∧ Ins L i k ∧ OwnI w.heap.size (.slice (some ⟨g, 0, none⟩) m c7) L wr ∧ Below w.heap.size w wr) (fun v14 _ => (intOf v14).toNat)
              case atStart => exact ⟨i, L, Nat.le_refl _, rfl, HP.out, ins_start (by rw [HP.out.length_eq, HM.out]; exact hlt) HS.out, HO.out, HB.out⟩
              case round =>
                obtain ⟨k, L, hki, rfl, hp, hin, ho, hb⟩ := hrel
                have HP := Lib.hid hp; have HIN := Lib.hid hin; have HO := Lib.hid ho; have HB := Lib.hid hb
                clear hp hin ho hb
                by_cases hk0 : k = 0
                · subst hk0
                  go_wp2_with fail
                  refine wp_region_any (by kernel_rfl) ?_
                  change wpAny _ _ _ _ _ _ _ (World.drew _)
                  refine wpAny_take (i := 0) (v := ?kza1v) rfl (by kernel_rfl) (by kernel_rfl) (by kernel_rfl) (fun _ _ _ h => h) (Or.inl ⟨by kernel_rfl, ?kza1y⟩) ?_
                  case kza1y => intro u; go_simp; try with_reducible rfl
                  try simp only [Act.put, List.getElem_toArray, List.getElem_cons_succ, List.getElem_cons_zero, List.setIfInBounds_toArray, List.set_cons_zero, List.set_cons_succ]
                  refine wpAny_take (i := 1) (v := ?kza2v) rfl (by kernel_rfl) (by kernel_rfl) (by kernel_rfl) (fun _ _ _ h => h) (Or.inl ⟨by kernel_rfl, ?kza2y⟩) ?_
                  case kza2y => intro u; go_simp; try with_reducible rfl
                  try simp only [Act.put, List.getElem_toArray, List.getElem_cons_succ, List.getElem_cons_zero, List.setIfInBounds_toArray, List.set_cons_zero, List.set_cons_succ]
                  refine wpAny_take (i := 2) (v := ?kza3v) rfl (by kernel_rfl) (by kernel_rfl) (by kernel_rfl) (fun _ _ _ h => h) (Or.inl ⟨by kernel_rfl, ?kza3y⟩) ?_
                  case kza3y => intro u; go_simp; try with_reducible rfl
                  try simp only [Act.put, List.getElem_toArray, List.getElem_cons_succ, List.getElem_cons_zero, List.setIfInBounds_toArray, List.set_cons_zero, List.set_cons_succ]
                  refine wpAny_take (i := 3) (v := undef) rfl (by kernel_rfl) (by kernel_rfl) (by kernel_rfl) (fun _ _ _ h => h) (Or.inr ⟨by kernel_rfl, rfl⟩) ?_
                  refine wpAny_take (i := 4) (v := undef) rfl (by kernel_rfl) (by kernel_rfl) (by kernel_rfl) (fun _ _ _ h => h) (Or.inr ⟨by kernel_rfl, rfl⟩) ?_
                  refine wpAny_take (i := 5) (v := undef) rfl (by kernel_rfl) (by kernel_rfl) (by kernel_rfl) (fun _ _ _ h => h) (Or.inr ⟨by kernel_rfl, rfl⟩) ?_
                  refine wpAny_take (i := 6) (v := undef) rfl (by kernel_rfl) (by kernel_rfl) (by kernel_rfl) (fun _ _ _ h => h) (Or.inr ⟨by kernel_rfl, rfl⟩) ?_
                  refine wpAny_take (i := 7) (v := undef) rfl (by kernel_rfl) (by kernel_rfl) (by kernel_rfl) (fun _ _ _ h => h) (Or.inr ⟨by kernel_rfl, rfl⟩) ?_
                  refine wpAny_take (i := 8) (v := undef) rfl (by kernel_rfl) (by kernel_rfl) (by kernel_rfl) (fun _ _ _ h => h) (Or.inr ⟨by kernel_rfl, rfl⟩) ?_
                  refine wpAny_take (i := 9) (v := undef) rfl (by kernel_rfl) (by kernel_rfl) (by kernel_rfl) (fun _ _ _ h => h) (Or.inr ⟨by kernel_rfl, rfl⟩) ?_
                  refine wpAny_take (i := 10) (v := undef) rfl (by kernel_rfl) (by kernel_rfl) (by kernel_rfl) (fun _ _ _ h => h) (Or.inr ⟨by kernel_rfl, rfl⟩) ?_
                  refine wpAny_take (i := 11) (v := undef) rfl (by kernel_rfl) (by kernel_rfl) (by kernel_rfl) (fun _ _ _ h => h) (Or.inr ⟨by kernel_rfl, rfl⟩) ?_
                  refine wpAny_take (i := 12) (v := undef) rfl (by kernel_rfl) (by kernel_rfl) (by kernel_rfl) (fun _ _ _ h => h) (Or.inr ⟨by kernel_rfl, rfl⟩) ?_
                  refine wpAny_take (i := 13) (v := ?kza4v) rfl (by kernel_rfl) (by kernel_rfl) (by kernel_rfl) (fun _ _ _ h => h) (Or.inl ⟨by kernel_rfl, ?kza4y⟩) ?_
                  case kza4y => intro u; go_simp; try with_reducible rfl
                  try simp only [Act.put, List.getElem_toArray, List.getElem_cons_succ, List.getElem_cons_zero, List.setIfInBounds_toArray, List.set_cons_zero, List.set_cons_succ]
                  refine wpAny_done (by kernel_rfl) ?_ _
                  have HO2 := Lib.hid (ownI_below HO.out (Below.refl _ _).drew)
                  have HB2 := Lib.hid HB.out.drew
                  go_wp2
                  refine ⟨?rka, ?mka⟩
                  case rka => exact ⟨i + 1, L, by omega, by omega, by go_num, HP.out, ins_first HIN.out, HO2.out, HB2.out⟩
                  case mka => simp [intOf]; omega
                · have hLm : L.length = m := by rw [HP.out.length_eq, HM.out]
                  obtain ⟨p, hpk⟩ : ∃ p, k = p + 1 := ⟨k - 1, by omega⟩
                  have hw : IntKind.i64.wrap ((k : Int) - 1) = (p : Int) := by rw [IntWalk.i64_in _ (by omega)]; omega
                  have hkL : k < L.length := by have := (ins_le HIN.out).2; omega
                  have hpL : p < L.length := by omega
                  have hgl := HG.out.perm HP.out
                  obtain ⟨X, hX⟩ : ∃ X, L[k] = X := ⟨_, rfl⟩
                  obtain ⟨Y, hY⟩ : ∃ Y, L[p] = Y := ⟨_, rfl⟩
                  have hXm : X ∈ L := by rw [← hX]; exact List.getElem_mem _
                  have hYm : Y ∈ L := by rw [← hY]; exact List.getElem_mem _
                  have hiX := hgl.ids X hXm
                  have hiY := hgl.ids Y hYm
                  have cB := fun u => Before_is X Y hiX hiY (hgl.short X hXm) (hgl.short Y hYm) u
                  have rX := own_range HO.out hgl.ids k hkL
                  have rY := own_range HO.out hgl.ids p hpL
                  rw [hX] at rX
                  rw [hY] at rY
                  have lX : (Tryd.prog.info? 30).map (·.size) = some (cellsI X).length := by rw [cellsI_len X hiX]; exact infoItem
                  have lY : (Tryd.prog.info? 30).map (·.size) = some (cellsI Y).length := by rw [cellsI_len Y hiY]; exact infoItem
                  obtain ⟨cx, hcx⟩ : ∃ c, cellsI X = c := ⟨_, rfl⟩
                  obtain ⟨cy, hcy⟩ : ∃ c, cellsI Y = c := ⟨_, rfl⟩
                  obtain ⟨r, hr⟩ : ∃ r, befI X Y = r := ⟨_, rfl⟩
                  rw [hr, hcx, hcy] at cB
                  rw [hcx] at rX lX
                  rw [hcy] at rY lY
                  have DB := Lib.hid (fun u (h : Below wr.heap.size wr u) => ((cB u).mono (fun e u' he => ⟨he.1, h.trans (he.2.mono h.size)⟩) : Calls Tryd.prog 26 #[.agg cx.toArray, .agg cy.toArray] u fun e u' => e = .returned (.bool r) ∧ Below wr.heap.size wr u'))
                  have gX : L.getD k noI = X := by rw [getD_get L k hkL]; exact hX
                  have gY : L.getD (k - 1) noI = Y := by rw [show k - 1 = p by omega, getD_get L p hpL]; exact hY
                  have HR := Lib.hid (show befI (L.getD k noI) (L.getD (k - 1) noI) = r by rw [gX, gY]; exact hr)
                  have GX := Lib.hid gX; have GY := Lib.hid gY
                  have RX := Lib.hid rX; have RY := Lib.hid rY; have LX := Lib.hid lX; have LY := Lib.hid lY; have HCX := Lib.hid hcx; have HCY := Lib.hid hcy
                  have HIX := Lib.hid hiX; have HIY := Lib.hid hiY; have HGL := Lib.hid hgl; have HLM := Lib.hid hLm; have HKL := Lib.hid hkL; have HPL := Lib.hid hpL
                  have hk0' : (k : Int) > 0 := by omega
                  have hk0n : 0 < k := by omega
                  have hk0d : decide (0 < k) = true := decide_eq_true hk0n
                  have hpm : p < m := by omega
                  have hkm : k < m := by omega
                  have HPK := Lib.hid hpk
                  clear hLm hkL hpL hgl hX hY hXm hYm hiX hiY cB rX rY lX lY hcx hcy hr gX gY hk0 hpk
                  go_wp2_with fail
                  refine wp_region_held_drew (S := fun u => Below wr.heap.size wr u) (by kernel_rfl) (Below.refl _ _).drew (fun hHeld => ?_)
                  refine wpAnyH_take (i := 0) (v := ?kpav0) rfl (by kernel_rfl) (by kernel_rfl) (by kernel_rfl) (fun _ _ _ h => h) (Or.inl ⟨by kernel_rfl, ?kpay0⟩) hHeld ?_
                  case kpay0 => intro u hu; go_simp; try with_reducible rfl
                  try simp only [Act.put, List.setIfInBounds_toArray, List.set_cons_zero, List.set_cons_succ]
                  refine wpAnyH_take (i := 1) (v := ?kpav1) rfl (by kernel_rfl) (by kernel_rfl) (by kernel_rfl) (fun _ _ _ h => h) (Or.inl ⟨by kernel_rfl, ?kpay1⟩) hHeld ?_
                  case kpay1 => intro u hu; go_simp; try with_reducible rfl
                  try simp only [Act.put, List.setIfInBounds_toArray, List.set_cons_zero, List.set_cons_succ]
                  refine wpAnyH_take (i := 2) (v := ?kpav2) rfl (by kernel_rfl) (by kernel_rfl) (by kernel_rfl) (fun _ _ _ h => h) (Or.inl ⟨by kernel_rfl, ?kpay2⟩) hHeld ?_
                  case kpay2 => intro u hu; go_simp; try with_reducible rfl
                  try simp only [Act.put, List.setIfInBounds_toArray, List.set_cons_zero, List.set_cons_succ]
                  refine wpAnyH_take (i := 3) (v := ?kpav3) rfl (by kernel_rfl) (by kernel_rfl) (by kernel_rfl) (fun _ _ _ h => h) (Or.inl ⟨by kernel_rfl, ?kpay3⟩) hHeld ?_
                  case kpay3 => intro u hu; go_simp; try with_reducible rfl
                  try simp only [Act.put, List.setIfInBounds_toArray, List.set_cons_zero, List.set_cons_succ]
                  refine wpAnyH_take (i := 4) (v := ?kpav4) rfl (by kernel_rfl) (by kernel_rfl) (by kernel_rfl) (fun _ _ _ h => h) (Or.inl ⟨by kernel_rfl, ?kpay4⟩) hHeld ?_
                  case kpay4 => intro u hu; go_simp; try with_reducible rfl
                  try simp only [Act.put, List.setIfInBounds_toArray, List.set_cons_zero, List.set_cons_succ]
                  refine wpAnyH_take (i := 5) (v := ?kpav5) rfl (by kernel_rfl) (by kernel_rfl) (by kernel_rfl) (fun _ _ _ h => h) (Or.inl ⟨by kernel_rfl, ?kpay5⟩) hHeld ?_
                  case kpay5 => intro u hu; go_simp; try with_reducible rfl
                  try simp only [Act.put, List.setIfInBounds_toArray, List.set_cons_zero, List.set_cons_succ]
                  refine wpAnyH_take (i := 6) rfl (by kernel_rfl) (by kernel_rfl) (by kernel_rfl) (fun _ _ _ h => h) (yieldsIf_load_mid (by kernel_rfl) 30 (.tmp 91) (by kernel_rfl) g (k * 22) (by kernel_rfl) cx _ (fun u hu => RX.out u hu) Tryd.underlying30 rfl LX.out) hHeld ?_
                  try simp only [Act.put, List.setIfInBounds_toArray, List.set_cons_zero, List.set_cons_succ]
                  refine wpAnyH_take (i := 7) (v := ?kpav7) rfl (by kernel_rfl) (by kernel_rfl) (by kernel_rfl) (fun _ _ _ h => h) (Or.inl ⟨by kernel_rfl, ?kpay7⟩) hHeld ?_
                  case kpay7 => intro u hu; go_simp; try with_reducible rfl
                  try simp only [Act.put, List.setIfInBounds_toArray, List.set_cons_zero, List.set_cons_succ]
                  refine wpAnyH_take (i := 8) (v := ?kpav8) rfl (by kernel_rfl) (by kernel_rfl) (by kernel_rfl) (fun _ _ _ h => h) (Or.inl ⟨by kernel_rfl, ?kpay8⟩) hHeld ?_
                  case kpay8 => intro u hu; go_simp; try with_reducible rfl
                  try simp only [Act.put, List.setIfInBounds_toArray, List.set_cons_zero, List.set_cons_succ]
                  refine wpAnyH_take (i := 9) (v := ?kpav9) rfl (by kernel_rfl) (by kernel_rfl) (by kernel_rfl) (fun _ _ _ h => h) (Or.inl ⟨by kernel_rfl, ?kpay9⟩) hHeld ?_
                  case kpay9 => intro u hu; go_simp; try with_reducible rfl
                  try simp only [Act.put, List.setIfInBounds_toArray, List.set_cons_zero, List.set_cons_succ]
                  refine wpAnyH_take (i := 10) (v := ?kpav10) rfl (by kernel_rfl) (by kernel_rfl) (by kernel_rfl) (fun _ _ _ h => h) (Or.inl ⟨by kernel_rfl, ?kpay10⟩) hHeld ?_
                  case kpay10 => intro u hu; go_simp; try with_reducible rfl
                  try simp only [Act.put, List.setIfInBounds_toArray, List.set_cons_zero, List.set_cons_succ]
                  refine wpAnyH_take (i := 11) rfl (by kernel_rfl) (by kernel_rfl) (by kernel_rfl) (fun _ _ _ h => h) (yieldsIf_load_mid (by kernel_rfl) 30 (.tmp 96) (by kernel_rfl) g (p * 22) (by kernel_rfl) cy _ (fun u hu => RY.out u hu) Tryd.underlying30 rfl LY.out) hHeld ?_
                  try simp only [Act.put, List.setIfInBounds_toArray, List.set_cons_zero, List.set_cons_succ]
                  refine wpAnyH_ready (rs := [12]) (by kernel_rfl) (by simp) ?_
                  refine AllReadyH.cons rfl (fun K hK => ?_) AllReadyH.nil
                  go_simp
                  refine (DB.out _ hHeld).mono ?_
                  rintro e u1 ⟨rfl, hH⟩
                  clear hHeld
                  refine hK.out _ _ hH (fun hHeld => ?_)
                  clear hK K
                  try simp only [Act.put, List.setIfInBounds_toArray, List.set_cons_zero, List.set_cons_succ]
                  refine wpAnyH_take (i := 13) (v := ?kpav13) rfl (by kernel_rfl) (by kernel_rfl) (by kernel_rfl) (fun _ _ _ h => h) (Or.inl ⟨by kernel_rfl, ?kpay13⟩) hHeld ?_
                  case kpay13 => intro u hu; go_simp; try with_reducible rfl
                  try simp only [Act.put, List.getElem_toArray, List.getElem_cons_succ, List.getElem_cons_zero, List.setIfInBounds_toArray, List.set_cons_zero, List.set_cons_succ]
                  refine wpAnyH_done (by kernel_rfl) ?_ _
                  have HO2 := Lib.hid (ownI_below HO.out hHeld)
                  have HB2 := Lib.hid (HB.out.trans (hHeld.mono HB.out.size))
                  have HV := Lib.hid hHeld
                  clear hHeld
                  cases r with
                  | false =>
                    go_wp2
                    refine ⟨?rsa, ?msa⟩
                    case rsa => exact ⟨i + 1, L, by omega, by omega, by go_num, HP.out, ins_stop HIN.out (by omega) (full_nodup HGL.out.one HGL.out.names) HR.out, HO2.out, HB2.out⟩
                    case msa => simp [intOf]; omega
                  | true =>
                    go_wp2_with fail
                    have HOL := Lib.hid (show OwnI w.heap.size (.slice (some ⟨g, 0, none⟩) L.length c7) L u1.drew by rw [HLM.out]; exact ownI_below HO2.out (Below.refl _ _).drew)
                    have HBD := Lib.hid (HB2.out.drew)
                    refine wp_region_any (by kernel_rfl) ?_
                    change wpAny _ _ _ _ _ _ _ (World.drew _)
                    refine wpAny_take (i := 0) (v := ?swa1v) rfl (by kernel_rfl) (by kernel_rfl) (by kernel_rfl) (fun _ _ _ h => h) (Or.inl ⟨by kernel_rfl, ?swa1y⟩) ?_
                    case swa1y => intro u; go_simp; try with_reducible rfl
                    try simp only [Act.put, List.getElem_toArray, List.getElem_cons_succ, List.getElem_cons_zero, List.setIfInBounds_toArray, List.set_cons_zero, List.set_cons_succ]
                    refine wpAny_take (i := 1) (v := ?swa2v) rfl (by kernel_rfl) (by kernel_rfl) (by kernel_rfl) (fun _ _ _ h => h) (Or.inl ⟨by kernel_rfl, ?swa2y⟩) ?_
                    case swa2y => intro u; go_simp; try with_reducible rfl
                    try simp only [Act.put, List.getElem_toArray, List.getElem_cons_succ, List.getElem_cons_zero, List.setIfInBounds_toArray, List.set_cons_zero, List.set_cons_succ]
                    refine wpAny_take (i := 2) (v := ?swa3v) rfl (by kernel_rfl) (by kernel_rfl) (by kernel_rfl) (fun _ _ _ h => h) (Or.inl ⟨by kernel_rfl, ?swa3y⟩) ?_
                    case swa3y => intro u; go_simp; try with_reducible rfl
                    try simp only [Act.put, List.getElem_toArray, List.getElem_cons_succ, List.getElem_cons_zero, List.setIfInBounds_toArray, List.set_cons_zero, List.set_cons_succ]
                    refine wpAny_take (i := 3) (v := ?swa4v) rfl (by kernel_rfl) (by kernel_rfl) (by kernel_rfl) (fun _ _ _ h => h) (Or.inl ⟨by kernel_rfl, ?swa4y⟩) ?_
                    case swa4y => intro u; go_simp; try with_reducible rfl
                    try simp only [Act.put, List.getElem_toArray, List.getElem_cons_succ, List.getElem_cons_zero, List.setIfInBounds_toArray, List.set_cons_zero, List.set_cons_succ]
                    refine wpAny_take (i := 4) (v := ?swa5v) rfl (by kernel_rfl) (by kernel_rfl) (by kernel_rfl) (fun _ _ _ h => h) (Or.inl ⟨by kernel_rfl, ?swa5y⟩) ?_
                    case swa5y => intro u; go_simp; try with_reducible rfl
                    try simp only [Act.put, List.getElem_toArray, List.getElem_cons_succ, List.getElem_cons_zero, List.setIfInBounds_toArray, List.set_cons_zero, List.set_cons_succ]
                    refine wpAny_take (i := 5) (v := ?swa6v) rfl (by kernel_rfl) (by kernel_rfl) (by kernel_rfl) (fun _ _ _ h => h) (Or.inl ⟨by kernel_rfl, ?swa6y⟩) ?_
                    case swa6y => intro u; go_simp; try with_reducible rfl
                    try simp only [Act.put, List.getElem_toArray, List.getElem_cons_succ, List.getElem_cons_zero, List.setIfInBounds_toArray, List.set_cons_zero, List.set_cons_succ]
                    refine wpAny_take (i := 6) (v := ?swa7v) rfl (by kernel_rfl) (by kernel_rfl) (by kernel_rfl) (fun _ _ _ h => h) (Or.inl ⟨by kernel_rfl, ?swa7y⟩) ?_
                    case swa7y => intro u; go_simp; try with_reducible rfl
                    try simp only [Act.put, List.getElem_toArray, List.getElem_cons_succ, List.getElem_cons_zero, List.setIfInBounds_toArray, List.set_cons_zero, List.set_cons_succ]
                    refine wpAny_take (i := 7) (v := ?swa8v) rfl (by kernel_rfl) (by kernel_rfl) (by kernel_rfl) (fun _ _ _ h => h) (Or.inl ⟨by kernel_rfl, ?swa8y⟩) ?_
                    case swa8y => intro u; go_simp; try with_reducible rfl
                    try simp only [Act.put, List.getElem_toArray, List.getElem_cons_succ, List.getElem_cons_zero, List.setIfInBounds_toArray, List.set_cons_zero, List.set_cons_succ]
                    refine wpAny_take (i := 8) (v := ?swa9v) rfl (by kernel_rfl) (by kernel_rfl) (by kernel_rfl) (fun _ _ _ h => h) (Or.inl ⟨by kernel_rfl, ?swa9y⟩) ?_
                    case swa9y => intro u; go_simp; try with_reducible rfl
                    try simp only [Act.put, List.getElem_toArray, List.getElem_cons_succ, List.getElem_cons_zero, List.setIfInBounds_toArray, List.set_cons_zero, List.set_cons_succ]
                    refine wpAny_take (i := 10) (v := ?swa10v) rfl (by kernel_rfl) (by kernel_rfl) (by kernel_rfl) (fun _ _ _ h => h) (Or.inl ⟨by kernel_rfl, ?swa10y⟩) ?_
                    case swa10y => intro u; go_simp; try with_reducible rfl
                    try simp only [Act.put, List.getElem_toArray, List.getElem_cons_succ, List.getElem_cons_zero, List.setIfInBounds_toArray, List.set_cons_zero, List.set_cons_succ]
                    refine wpAny_take (i := 11) (v := ?swa11v) rfl (by kernel_rfl) (by kernel_rfl) (by kernel_rfl) (fun _ _ _ h => h) (Or.inl ⟨by kernel_rfl, ?swa11y⟩) ?_
                    case swa11y => intro u; go_simp; try with_reducible rfl
                    try simp only [Act.put, List.getElem_toArray, List.getElem_cons_succ, List.getElem_cons_zero, List.setIfInBounds_toArray, List.set_cons_zero, List.set_cons_succ]
                    refine wpAny_take (i := 12) (v := ?swa12v) rfl (by kernel_rfl) (by kernel_rfl) (by kernel_rfl) (fun _ _ _ h => h) (Or.inl ⟨by kernel_rfl, ?swa12y⟩) ?_
                    case swa12y => intro u; go_simp; try with_reducible rfl
                    try simp only [Act.put, List.getElem_toArray, List.getElem_cons_succ, List.getElem_cons_zero, List.setIfInBounds_toArray, List.set_cons_zero, List.set_cons_succ]
                    refine wpAny_ready (rs := [9, 13]) (by kernel_rfl) (by simp) ?_
                    refine (AllReady.cons rfl (fun K hK => ?_) (AllReady.cons rfl (fun K hK => ?_) AllReady.nil))
                    · refine step_of rfl (wp_load_mid 30 (.tmp 110) (by kernel_rfl) g (p * 22) (by kernel_rfl) cy _ (RY.out _ HV.out.drew) Tryd.underlying30 rfl LY.out ?_)
                      refine hK _ _ ?_
                      clear hK K
                      try simp only [Act.put, List.getElem_toArray, List.getElem_cons_succ, List.getElem_cons_zero, List.setIfInBounds_toArray, List.set_cons_zero, List.set_cons_succ]
                      refine wpAny_ready (rs := [13]) (by kernel_rfl) (by simp) ?_
                      refine (AllReady.cons rfl (fun K hK => ?_) AllReady.nil)
                      refine step_of rfl (wp_load_mid 30 (.tmp 114) (by kernel_rfl) g (k * 22) (by kernel_rfl) cx _ (RX.out _ HV.out.drew) Tryd.underlying30 rfl LX.out ?_)
                      refine hK _ _ ?_
                      clear hK K
                      try simp only [Act.put, List.getElem_toArray, List.getElem_cons_succ, List.getElem_cons_zero, List.setIfInBounds_toArray, List.set_cons_zero, List.set_cons_succ]
                      refine wpAny_take (i := 14) (v := ?swa13v) rfl (by kernel_rfl) (by kernel_rfl) (by kernel_rfl) (fun _ _ _ h => h) (Or.inl ⟨by kernel_rfl, ?swa13y⟩) ?_
                      case swa13y => intro u; go_simp; try with_reducible rfl
                      try simp only [Act.put, List.getElem_toArray, List.getElem_cons_succ, List.getElem_cons_zero, List.setIfInBounds_toArray, List.set_cons_zero, List.set_cons_succ]
                      refine wpAny_ready (rs := [15]) (by kernel_rfl) (by simp) ?_
                      refine (AllReady.cons rfl (fun K hK => ?_) AllReady.nil)
                      refine step_of rfl (wp_store_item (.tmp 116) (.tmp 111) (by kernel_rfl) w.heap.size g c7 k (k * 22) L HGL.out.ids Y cy HCY.out.symm rfl (by kernel_rfl) (by kernel_rfl) HKL.out HIY.out HOL.out ?_)
                      intro w5 o5 g5
                      have HO5 := Lib.hid o5; have HG5 := Lib.hid g5
                      clear o5 g5
                      refine hK _ _ ?_
                      clear hK K
                      try simp only [Act.put, List.getElem_toArray, List.getElem_cons_succ, List.getElem_cons_zero, List.setIfInBounds_toArray, List.set_cons_zero, List.set_cons_succ]
                      refine wpAny_take (i := 16) (v := ?swa14v) rfl (by kernel_rfl) (by kernel_rfl) (by kernel_rfl) (fun _ _ _ h => h) (Or.inl ⟨by kernel_rfl, ?swa14y⟩) ?_
                      case swa14y => intro u; go_simp; try with_reducible rfl
                      try simp only [Act.put, List.getElem_toArray, List.getElem_cons_succ, List.getElem_cons_zero, List.setIfInBounds_toArray, List.set_cons_zero, List.set_cons_succ]
                      refine wpAny_ready (rs := [17]) (by kernel_rfl) (by simp) ?_
                      refine (AllReady.cons rfl (fun K hK => ?_) AllReady.nil)
                      refine step_of rfl (wp_store_item (.tmp 117) (.tmp 115) (by kernel_rfl) w.heap.size g c7 p (p * 22) (L.set k Y) (set_ids HGL.out.ids k HIY.out) X cx HCX.out.symm rfl (by kernel_rfl) (by kernel_rfl) (by rw [List.length_set]; exact HPL.out) HIX.out (by rw [List.length_set]; exact HO5.out) ?_)
                      intro w7 o7 g7
                      have HO7 := Lib.hid o7; have HG7 := Lib.hid g7
                      clear o7 g7
                      refine hK _ _ ?_
                      clear hK K
                      try simp only [Act.put, List.getElem_toArray, List.getElem_cons_succ, List.getElem_cons_zero, List.setIfInBounds_toArray, List.set_cons_zero, List.set_cons_succ]
                      refine wpAny_done (by kernel_rfl) ?_ _
                      have hsw := ins_swap HIN.out (by omega) HR.out
                      rw [GX.out, GY.out, show k - 1 = p by have := HPK.out; omega] at hsw
                      have hb5 := HBD.out.grown HG5.out HBD.out.size (fun j hj => by cases hj; exact HGB.out)
                      have HB7 := Lib.hid (hb5.grown HG7.out hb5.size (fun j hj => by cases hj; exact HGB.out))
                      have HO8 := Lib.hid (show OwnI w.heap.size (.slice (some ⟨g, 0, none⟩) m c7) ((L.set k Y).set p X) w7 by have h := HO7.out; rwa [List.length_set, HLM.out] at h)
                      have HSW := Lib.hid hsw
                      clear hsw hb5
                      go_wp2
                      refine ⟨?_, ?_⟩
                      · exact ⟨p, (L.set k Y).set p X, by have := HPK.out; omega, by first | rfl | go_num, HSW.out.2.trans HP.out, HSW.out.1, HO8.out, HB7.out⟩
                      · have := HPK.out; simp [intOf]; omega
                    · refine step_of rfl (wp_load_mid 30 (.tmp 114) (by kernel_rfl) g (k * 22) (by kernel_rfl) cx _ (RX.out _ HV.out.drew) Tryd.underlying30 rfl LX.out ?_)
                      refine hK _ _ ?_
                      clear hK K
                      try simp only [Act.put, List.getElem_toArray, List.getElem_cons_succ, List.getElem_cons_zero, List.setIfInBounds_toArray, List.set_cons_zero, List.set_cons_succ]
                      refine wpAny_ready (rs := [9]) (by kernel_rfl) (by simp) ?_
                      refine (AllReady.cons rfl (fun K hK => ?_) AllReady.nil)
                      refine step_of rfl (wp_load_mid 30 (.tmp 110) (by kernel_rfl) g (p * 22) (by kernel_rfl) cy _ (RY.out _ HV.out.drew) Tryd.underlying30 rfl LY.out ?_)
                      refine hK _ _ ?_
                      clear hK K
                      try simp only [Act.put, List.getElem_toArray, List.getElem_cons_succ, List.getElem_cons_zero, List.setIfInBounds_toArray, List.set_cons_zero, List.set_cons_succ]
                      refine wpAny_take (i := 14) (v := ?swa15v) rfl (by kernel_rfl) (by kernel_rfl) (by kernel_rfl) (fun _ _ _ h => h) (Or.inl ⟨by kernel_rfl, ?swa15y⟩) ?_
                      case swa15y => intro u; go_simp; try with_reducible rfl
                      try simp only [Act.put, List.getElem_toArray, List.getElem_cons_succ, List.getElem_cons_zero, List.setIfInBounds_toArray, List.set_cons_zero, List.set_cons_succ]
                      refine wpAny_ready (rs := [15]) (by kernel_rfl) (by simp) ?_
                      refine (AllReady.cons rfl (fun K hK => ?_) AllReady.nil)
                      refine step_of rfl (wp_store_item (.tmp 116) (.tmp 111) (by kernel_rfl) w.heap.size g c7 k (k * 22) L HGL.out.ids Y cy HCY.out.symm rfl (by kernel_rfl) (by kernel_rfl) HKL.out HIY.out HOL.out ?_)
                      intro w5 o5 g5
                      have HO5 := Lib.hid o5; have HG5 := Lib.hid g5
                      clear o5 g5
                      refine hK _ _ ?_
                      clear hK K
                      try simp only [Act.put, List.getElem_toArray, List.getElem_cons_succ, List.getElem_cons_zero, List.setIfInBounds_toArray, List.set_cons_zero, List.set_cons_succ]
                      refine wpAny_take (i := 16) (v := ?swa16v) rfl (by kernel_rfl) (by kernel_rfl) (by kernel_rfl) (fun _ _ _ h => h) (Or.inl ⟨by kernel_rfl, ?swa16y⟩) ?_
                      case swa16y => intro u; go_simp; try with_reducible rfl
                      try simp only [Act.put, List.getElem_toArray, List.getElem_cons_succ, List.getElem_cons_zero, List.setIfInBounds_toArray, List.set_cons_zero, List.set_cons_succ]
                      refine wpAny_ready (rs := [17]) (by kernel_rfl) (by simp) ?_
                      refine (AllReady.cons rfl (fun K hK => ?_) AllReady.nil)
                      refine step_of rfl (wp_store_item (.tmp 117) (.tmp 115) (by kernel_rfl) w.heap.size g c7 p (p * 22) (L.set k Y) (set_ids HGL.out.ids k HIY.out) X cx HCX.out.symm rfl (by kernel_rfl) (by kernel_rfl) (by rw [List.length_set]; exact HPL.out) HIX.out (by rw [List.length_set]; exact HO5.out) ?_)
                      intro w7 o7 g7
                      have HO7 := Lib.hid o7; have HG7 := Lib.hid g7
                      clear o7 g7
                      refine hK _ _ ?_
                      clear hK K
                      try simp only [Act.put, List.getElem_toArray, List.getElem_cons_succ, List.getElem_cons_zero, List.setIfInBounds_toArray, List.set_cons_zero, List.set_cons_succ]
                      refine wpAny_done (by kernel_rfl) ?_ _
                      have hsw := ins_swap HIN.out (by omega) HR.out
                      rw [GX.out, GY.out, show k - 1 = p by have := HPK.out; omega] at hsw
                      have hb5 := HBD.out.grown HG5.out HBD.out.size (fun j hj => by cases hj; exact HGB.out)
                      have HB7 := Lib.hid (hb5.grown HG7.out hb5.size (fun j hj => by cases hj; exact HGB.out))
                      have HO8 := Lib.hid (show OwnI w.heap.size (.slice (some ⟨g, 0, none⟩) m c7) ((L.set k Y).set p X) w7 by have h := HO7.out; rwa [List.length_set, HLM.out] at h)
                      have HSW := Lib.hid hsw
                      clear hsw hb5
                      go_wp2
                      refine ⟨?_, ?_⟩
                      · exact ⟨p, (L.set k Y).set p X, by have := HPK.out; omega, by first | rfl | go_num, HSW.out.2.trans HP.out, HSW.out.1, HO8.out, HB7.out⟩
                      · have := HPK.out; simp [intOf]; omega
            · have him2 : i = m := by omega
              subst him2
              have hLm : L.length = i := by rw [HP.out.length_eq, HM.out]
              have hsL : Srt L := by have h := HS.out; rwa [← hLm, List.take_length] at h
              have hgl := HG.out.perm HP.out
              obtain ⟨_, _, hv0, _, _, hitL, _⟩ := ownI_items HO.out hgl.ids
              simp only [Value.slice.injEq] at hv0
              rw [← hv0.1] at hitL
              have hrt := hgl.right (by omega) (by omega) hsL
              have CA := Lib.hid (awake_is wi (TB.out.below HB.out))
              have CR := Lib.hid (fun u (h : Below wi.heap.size wi u) => pRight_is (some ⟨g, 0, none⟩) i c7 L u hLm.symm (by unfold maxLen; omega) (hitL.keep h) hgl.ids hgl.short (TB.out.below (HB.out.trans (h.mono HB.out.size))))
              rw [hrt] at CR
              have HIL := Lib.hid hitL; have HGL := Lib.hid hgl; have HLM := Lib.hid hLm; have HSL := Lib.hid hsL
              clear hLm hsL hgl hv0 hitL hrt
              go_wp2_with fail
              refine CA.out.mono ?_
              rintro e w2 ⟨rfl, b2⟩
              have B2 := Lib.hid b2
              clear b2 CA
              go_wp2_with fail
              refine (CR.out _ B2.out).mono ?_
              rintro e w3 ⟨rfl, b3⟩
              have B3 := Lib.hid (B2.out.trans (b3.mono B2.out.size))
              have BW := Lib.hid (HB.out.trans (B3.out.mono HB.out.size))
              have I3 := Lib.hid (HIL.out.keep B3.out)
              clear b3 CR B2
              have hi1L : i - 1 < L.length := by rw [HLM.out]; omega
              cases tw with
              | true =>
                obtain ⟨q, hq⟩ : ∃ q, i = q + 1 := ⟨i - 1, by omega⟩
                have hw : IntKind.i64.wrap ((i : Int) - 1) = (q : Int) := by rw [IntWalk.i64_in _ (by omega)]; omega
                have hqL : q < L.length := by rw [HLM.out]; omega
                have hqi : q < i := by omega
                obtain ⟨Z, hZ⟩ : ∃ Z, L[q] = Z := ⟨_, rfl⟩
                have hiZ := HGL.out.ids Z (by rw [← hZ]; exact List.getElem_mem _)
                have hzs := HGL.out.short Z (by rw [← hZ]; exact List.getElem_mem _)
                have hidz : ∀ x ∈ L ++ [Z], x.id.length = 20 := fun x hx => by
                  rcases List.mem_append.1 hx with h | h
                  · exact HGL.out.ids x h
                  · rw [List.mem_singleton.1 h]; exact hiZ
                have hsz : ∀ x ∈ L ++ [Z], x.name.length ≤ 1000000 := fun x hx => by
                  rcases List.mem_append.1 hx with h | h
                  · exact HGL.out.short x h
                  · rw [List.mem_singleton.1 h]; exact hzs
                have htwo : rightI (L ++ [Z]) = false := by
                  have h := right_twice (l := L) (by omega)
                  have e : L[L.length - 1]'(by omega) = Z := by rw [← hZ]; congr 1; rw [HLM.out]; omega
                  rwa [e] at h
                have rZ : ∀ u, Below w3.heap.size w3 u → u.rangeAt g (q * 22) (cellsI Z) := fun u hu => by
                  obtain ⟨b', o', e, hlt, hc⟩ := I3.out (by omega)
                  cases e
                  intro j v hj
                  have h1 := hc q hqL j v (by rw [hZ]; exact hj)
                  rw [show 0 + q * 22 + j = q * 22 + j by omega] at h1
                  exact (hu.cell (p := ⟨g, q * 22 + j, none⟩) hlt).trans h1
                have lZ : (Tryd.prog.info? 30).map (·.size) = some (cellsI Z).length := by rw [cellsI_len Z hiZ]; exact infoItem
                obtain ⟨cz, hcz⟩ : ∃ c, cellsI Z = c := ⟨_, rfl⟩
                rw [hcz] at rZ lZ
                have hzl : cz.toArray.size = 22 := by rw [← hcz]; exact arrI_size Z hiZ
                have RZ := Lib.hid rZ; have LZ := Lib.hid lZ; have HCZ := Lib.hid hcz; have HZL := Lib.hid hzl; have HIZ := Lib.hid hiZ; have HIDZ := Lib.hid hidz; have HSZ := Lib.hid hsz; have HTWO := Lib.hid htwo
                have HLL := Lib.hid (show L.length ≤ 1000000 by rw [HLM.out]; omega)
                have HQ := Lib.hid hq
                clear rZ lZ hcz hzl hiZ hidz hsz htwo hZ hzs hq hi1L
                go_wp2_with fail
                have CUR := Lib.hid ((Below.refl w3.heap.size w3).drew)
                refine wp_region_any (by kernel_rfl) ?_
                change wpAny _ _ _ _ _ _ _ (World.drew _)
                refine wpAny_take (i := 0) (v := ?twa1v) rfl (by kernel_rfl) (by kernel_rfl) (by kernel_rfl) (fun _ _ _ h => h) (Or.inl ⟨by kernel_rfl, ?twa1y⟩) ?_
                case twa1y => intro u; go_simp; try with_reducible rfl
                try simp only [Act.put, List.getElem_toArray, List.getElem_cons_succ, List.getElem_cons_zero, List.setIfInBounds_toArray, List.set_cons_zero, List.set_cons_succ]
                refine wpAny_take (i := 2) (v := ?twa2v) rfl (by kernel_rfl) (by kernel_rfl) (by kernel_rfl) (fun _ _ _ h => h) (Or.inl ⟨by kernel_rfl, ?twa2y⟩) ?_
                case twa2y => intro u; go_simp; try with_reducible rfl
                try simp only [Act.put, List.getElem_toArray, List.getElem_cons_succ, List.getElem_cons_zero, List.setIfInBounds_toArray, List.set_cons_zero, List.set_cons_succ]
                refine wpAny_take (i := 3) (v := ?twa3v) rfl (by kernel_rfl) (by kernel_rfl) (by kernel_rfl) (fun _ _ _ h => h) (Or.inl ⟨by kernel_rfl, ?twa3y⟩) ?_
                case twa3y => intro u; go_simp; try with_reducible rfl
                try simp only [Act.put, List.getElem_toArray, List.getElem_cons_succ, List.getElem_cons_zero, List.setIfInBounds_toArray, List.set_cons_zero, List.set_cons_succ]
                refine wpAny_take (i := 4) (v := ?twa4v) rfl (by kernel_rfl) (by kernel_rfl) (by kernel_rfl) (fun _ _ _ h => h) (Or.inl ⟨by kernel_rfl, ?twa4y⟩) ?_
                case twa4y => intro u; go_simp; try with_reducible rfl
                try simp only [Act.put, List.getElem_toArray, List.getElem_cons_succ, List.getElem_cons_zero, List.setIfInBounds_toArray, List.set_cons_zero, List.set_cons_succ]
                refine wpAny_take (i := 5) (v := ?twa5v) rfl (by kernel_rfl) (by kernel_rfl) (by kernel_rfl) (fun _ _ _ h => h) (Or.inl ⟨by kernel_rfl, ?twa5y⟩) ?_
                case twa5y => intro u; go_simp; try with_reducible rfl
                try simp only [Act.put, List.getElem_toArray, List.getElem_cons_succ, List.getElem_cons_zero, List.setIfInBounds_toArray, List.set_cons_zero, List.set_cons_succ]
                refine wpAny_take (i := 6) (v := ?twa6v) rfl (by kernel_rfl) (by kernel_rfl) (by kernel_rfl) (fun _ _ _ h => h) (Or.inl ⟨by kernel_rfl, ?twa6y⟩) ?_
                case twa6y => intro u; go_simp; try with_reducible rfl
                try simp only [Act.put, List.getElem_toArray, List.getElem_cons_succ, List.getElem_cons_zero, List.setIfInBounds_toArray, List.set_cons_zero, List.set_cons_succ]
                refine wpAny_ready (rs := [1, 7]) (by kernel_rfl) (by simp) ?_
                refine (AllReady.cons rfl (fun K hK => ?_) (AllReady.cons rfl (fun K hK => ?_) AllReady.nil))
                · refine step_of rfl (wp_copy_items (.const (.slice none 0 0)) (.tmp 126) (by kernel_rfl) w.heap.size L HGL.out.ids (by kernel_rfl) g 0 i c7 HLM.out.symm (by kernel_rfl) (I3.out.keep CUR.out) HLL.out (Nat.le_trans BW.out.size CUR.out.size) ?_)
                  intro v1 w4 o1 gr1
                  have OV := Lib.hid o1
                  try have BB := Lib.hid ((gr1.block _ (lt_of_heap BB.out) (by simp)).trans BB.out)
                  have CUR := Lib.hid (CUR.out.grown gr1 CUR.out.size (fun j hj => by cases hj))
                  clear o1 gr1
                  refine hK _ _ ?_
                  clear hK K
                  try simp only [Act.put, List.getElem_toArray, List.getElem_cons_succ, List.getElem_cons_zero, List.setIfInBounds_toArray, List.set_cons_zero, List.set_cons_succ]
                  refine wpAny_ready (rs := [7]) (by kernel_rfl) (by simp) ?_
                  refine (AllReady.cons rfl (fun K hK => ?_) AllReady.nil)
                  refine step_of rfl (wp_load_mid 30 (.tmp 132) (by kernel_rfl) g (q * 22) (by kernel_rfl) cz _ (RZ.out _ CUR.out) Tryd.underlying30 rfl LZ.out ?_)
                  refine hK _ _ ?_
                  clear hK K
                  try simp only [Act.put, List.getElem_toArray, List.getElem_cons_succ, List.getElem_cons_zero, List.setIfInBounds_toArray, List.set_cons_zero, List.set_cons_succ]
                  refine wpAny_ready (rs := [8]) (by kernel_rfl) (by simp) ?_
                  refine (AllReady.cons rfl (fun K hK => ?_) AllReady.nil)
                  refine step_of rfl (wp_build_item (.tmp 133) (by kernel_rfl) cz.toArray HZL.out (by kernel_rfl) ?_)
                  first | (have BB := Lib.hid (heap_alloc_new w4 (.cells cz.toArray 30))) | (have BB := Lib.hid (heap_alloc_new (World.drew w3) (.cells cz.toArray 30)))
                  try have OV := Lib.hid (ownI_below OV.out ((Below.refl _ _).alloc (Nat.le_refl _) (.cells cz.toArray 30)))
                  have CUR := Lib.hid (CUR.out.alloc CUR.out.size (.cells cz.toArray 30))
                  refine hK _ _ ?_
                  clear hK K
                  try simp only [Act.put, List.getElem_toArray, List.getElem_cons_succ, List.getElem_cons_zero, List.setIfInBounds_toArray, List.set_cons_zero, List.set_cons_succ]
                  refine wpAny_ready (rs := [9]) (by kernel_rfl) (by simp) ?_
                  refine (AllReady.cons rfl (fun K hK => ?_) AllReady.nil)
                  refine step_of rfl (wp_append_item (.tmp 127) (.tmp 134) (by kernel_rfl) w.heap.size v1 L Z _ (by kernel_rfl) (by kernel_rfl) (by rw [HCZ.out]; exact BB.out) HIZ.out OV.out HLL.out (Nat.le_trans BW.out.size CUR.out.size) ?_)
                  intro v5 w5 o5 gr5
                  obtain ⟨a9, c9, hv9, _, _, hit9, _⟩ := ownI_items o5 HIDZ.out
                  obtain ⟨n9, hn9⟩ : ∃ n9, (L ++ [Z]).length = n9 := ⟨_, rfl⟩
                  rw [hn9] at hv9
                  subst hv9
                  have CUR := Lib.hid ((BW.out.trans (CUR.out.mono BW.out.size)).grown gr5 (Nat.le_trans BW.out.size CUR.out.size) (fun j hj => (OV.out.lt j hj).1))
                  have hn20 : n9 ≤ 500 := by rw [← hn9, List.length_append, HLM.out]; simp; omega
                  have CRR := Lib.hid (pRight_is a9 n9 c9 (L ++ [Z]) w5 hn9.symm (by unfold maxLen; omega) hit9 HIDZ.out HSZ.out (TB.out.below CUR.out))
                  rw [HTWO.out] at CRR
                  clear o5 gr5 hit9 hn9
                  refine hK _ _ ?_
                  clear hK K
                  try simp only [Act.put, List.getElem_toArray, List.getElem_cons_succ, List.getElem_cons_zero, List.setIfInBounds_toArray, List.set_cons_zero, List.set_cons_succ]
                  refine wpAny_ready (rs := [10]) (by kernel_rfl) (by simp) ?_
                  refine (AllReady.cons rfl (fun K hK => ?_) AllReady.nil)
                  go_simp
                  refine CRR.out.mono ?_
                  rintro e w6 ⟨rfl, b6⟩
                  have CUR := Lib.hid (CUR.out.trans (b6.mono CUR.out.size))
                  clear b6 CRR
                  refine hK _ _ ?_
                  clear hK K
                  try simp only [Act.put, List.getElem_toArray, List.getElem_cons_succ, List.getElem_cons_zero, List.setIfInBounds_toArray, List.set_cons_zero, List.set_cons_succ]
                  refine wpAny_take (i := 11) (v := ?twa7v) rfl (by kernel_rfl) (by kernel_rfl) (by kernel_rfl) (fun _ _ _ h => h) (Or.inl ⟨by kernel_rfl, ?twa7y⟩) ?_
                  case twa7y => intro u; go_simp; try with_reducible rfl
                  try simp only [Act.put, List.getElem_toArray, List.getElem_cons_succ, List.getElem_cons_zero, List.setIfInBounds_toArray, List.set_cons_zero, List.set_cons_succ]
                  refine wpAny_take (i := 12) (v := ?twa8v) rfl (by kernel_rfl) (by kernel_rfl) (by kernel_rfl) (fun _ _ _ h => h) (Or.inl ⟨by kernel_rfl, ?twa8y⟩) ?_
                  case twa8y => intro u; go_simp; try with_reducible rfl
                  try simp only [Act.put, List.getElem_toArray, List.getElem_cons_succ, List.getElem_cons_zero, List.setIfInBounds_toArray, List.set_cons_zero, List.set_cons_succ]
                  refine wpAny_done (by kernel_rfl) ?_ _
                  go_wp2
                  go_ret
                  exact ⟨by kernel_rfl, CUR.out⟩
                · refine step_of rfl (wp_load_mid 30 (.tmp 132) (by kernel_rfl) g (q * 22) (by kernel_rfl) cz _ (RZ.out _ CUR.out) Tryd.underlying30 rfl LZ.out ?_)
                  refine hK _ _ ?_
                  clear hK K
                  try simp only [Act.put, List.getElem_toArray, List.getElem_cons_succ, List.getElem_cons_zero, List.setIfInBounds_toArray, List.set_cons_zero, List.set_cons_succ]
                  refine wpAny_ready (rs := [1, 8]) (by kernel_rfl) (by simp) ?_
                  refine (AllReady.cons rfl (fun K hK => ?_) (AllReady.cons rfl (fun K hK => ?_) AllReady.nil))
                  · refine step_of rfl (wp_copy_items (.const (.slice none 0 0)) (.tmp 126) (by kernel_rfl) w.heap.size L HGL.out.ids (by kernel_rfl) g 0 i c7 HLM.out.symm (by kernel_rfl) (I3.out.keep CUR.out) HLL.out (Nat.le_trans BW.out.size CUR.out.size) ?_)
                    intro v1 w4 o1 gr1
                    have OV := Lib.hid o1
                    try have BB := Lib.hid ((gr1.block _ (lt_of_heap BB.out) (by simp)).trans BB.out)
                    have CUR := Lib.hid (CUR.out.grown gr1 CUR.out.size (fun j hj => by cases hj))
                    clear o1 gr1
                    refine hK _ _ ?_
                    clear hK K
                    try simp only [Act.put, List.getElem_toArray, List.getElem_cons_succ, List.getElem_cons_zero, List.setIfInBounds_toArray, List.set_cons_zero, List.set_cons_succ]
                    refine wpAny_ready (rs := [8]) (by kernel_rfl) (by simp) ?_
                    refine (AllReady.cons rfl (fun K hK => ?_) AllReady.nil)
                    refine step_of rfl (wp_build_item (.tmp 133) (by kernel_rfl) cz.toArray HZL.out (by kernel_rfl) ?_)
                    first | (have BB := Lib.hid (heap_alloc_new w4 (.cells cz.toArray 30))) | (have BB := Lib.hid (heap_alloc_new (World.drew w3) (.cells cz.toArray 30)))
                    try have OV := Lib.hid (ownI_below OV.out ((Below.refl _ _).alloc (Nat.le_refl _) (.cells cz.toArray 30)))
                    have CUR := Lib.hid (CUR.out.alloc CUR.out.size (.cells cz.toArray 30))
                    refine hK _ _ ?_
                    clear hK K
                    try simp only [Act.put, List.getElem_toArray, List.getElem_cons_succ, List.getElem_cons_zero, List.setIfInBounds_toArray, List.set_cons_zero, List.set_cons_succ]
                    refine wpAny_ready (rs := [9]) (by kernel_rfl) (by simp) ?_
                    refine (AllReady.cons rfl (fun K hK => ?_) AllReady.nil)
                    refine step_of rfl (wp_append_item (.tmp 127) (.tmp 134) (by kernel_rfl) w.heap.size v1 L Z _ (by kernel_rfl) (by kernel_rfl) (by rw [HCZ.out]; exact BB.out) HIZ.out OV.out HLL.out (Nat.le_trans BW.out.size CUR.out.size) ?_)
                    intro v5 w5 o5 gr5
                    obtain ⟨a9, c9, hv9, _, _, hit9, _⟩ := ownI_items o5 HIDZ.out
                    obtain ⟨n9, hn9⟩ : ∃ n9, (L ++ [Z]).length = n9 := ⟨_, rfl⟩
                    rw [hn9] at hv9
                    subst hv9
                    have CUR := Lib.hid ((BW.out.trans (CUR.out.mono BW.out.size)).grown gr5 (Nat.le_trans BW.out.size CUR.out.size) (fun j hj => (OV.out.lt j hj).1))
                    have hn20 : n9 ≤ 500 := by rw [← hn9, List.length_append, HLM.out]; simp; omega
                    have CRR := Lib.hid (pRight_is a9 n9 c9 (L ++ [Z]) w5 hn9.symm (by unfold maxLen; omega) hit9 HIDZ.out HSZ.out (TB.out.below CUR.out))
                    rw [HTWO.out] at CRR
                    clear o5 gr5 hit9 hn9
                    refine hK _ _ ?_
                    clear hK K
                    try simp only [Act.put, List.getElem_toArray, List.getElem_cons_succ, List.getElem_cons_zero, List.setIfInBounds_toArray, List.set_cons_zero, List.set_cons_succ]
                    refine wpAny_ready (rs := [10]) (by kernel_rfl) (by simp) ?_
                    refine (AllReady.cons rfl (fun K hK => ?_) AllReady.nil)
                    go_simp
                    refine CRR.out.mono ?_
                    rintro e w6 ⟨rfl, b6⟩
                    have CUR := Lib.hid (CUR.out.trans (b6.mono CUR.out.size))
                    clear b6 CRR
                    refine hK _ _ ?_
                    clear hK K
                    try simp only [Act.put, List.getElem_toArray, List.getElem_cons_succ, List.getElem_cons_zero, List.setIfInBounds_toArray, List.set_cons_zero, List.set_cons_succ]
                    refine wpAny_take (i := 11) (v := ?twa9v) rfl (by kernel_rfl) (by kernel_rfl) (by kernel_rfl) (fun _ _ _ h => h) (Or.inl ⟨by kernel_rfl, ?twa9y⟩) ?_
                    case twa9y => intro u; go_simp; try with_reducible rfl
                    try simp only [Act.put, List.getElem_toArray, List.getElem_cons_succ, List.getElem_cons_zero, List.setIfInBounds_toArray, List.set_cons_zero, List.set_cons_succ]
                    refine wpAny_take (i := 12) (v := ?twa10v) rfl (by kernel_rfl) (by kernel_rfl) (by kernel_rfl) (fun _ _ _ h => h) (Or.inl ⟨by kernel_rfl, ?twa10y⟩) ?_
                    case twa10y => intro u; go_simp; try with_reducible rfl
                    try simp only [Act.put, List.getElem_toArray, List.getElem_cons_succ, List.getElem_cons_zero, List.setIfInBounds_toArray, List.set_cons_zero, List.set_cons_succ]
                    refine wpAny_done (by kernel_rfl) ?_ _
                    go_wp2
                    go_ret
                    exact ⟨by kernel_rfl, CUR.out⟩
                  · refine step_of rfl (wp_build_item (.tmp 133) (by kernel_rfl) cz.toArray HZL.out (by kernel_rfl) ?_)
                    first | (have BB := Lib.hid (heap_alloc_new w4 (.cells cz.toArray 30))) | (have BB := Lib.hid (heap_alloc_new (World.drew w3) (.cells cz.toArray 30)))
                    try have OV := Lib.hid (ownI_below OV.out ((Below.refl _ _).alloc (Nat.le_refl _) (.cells cz.toArray 30)))
                    have CUR := Lib.hid (CUR.out.alloc CUR.out.size (.cells cz.toArray 30))
                    refine hK _ _ ?_
                    clear hK K
                    try simp only [Act.put, List.getElem_toArray, List.getElem_cons_succ, List.getElem_cons_zero, List.setIfInBounds_toArray, List.set_cons_zero, List.set_cons_succ]
                    refine wpAny_ready (rs := [1]) (by kernel_rfl) (by simp) ?_
                    refine (AllReady.cons rfl (fun K hK => ?_) AllReady.nil)
                    refine step_of rfl (wp_copy_items (.const (.slice none 0 0)) (.tmp 126) (by kernel_rfl) w.heap.size L HGL.out.ids (by kernel_rfl) g 0 i c7 HLM.out.symm (by kernel_rfl) (I3.out.keep CUR.out) HLL.out (Nat.le_trans BW.out.size CUR.out.size) ?_)
                    intro v1 w4 o1 gr1
                    have OV := Lib.hid o1
                    try have BB := Lib.hid ((gr1.block _ (lt_of_heap BB.out) (by simp)).trans BB.out)
                    have CUR := Lib.hid (CUR.out.grown gr1 CUR.out.size (fun j hj => by cases hj))
                    clear o1 gr1
                    refine hK _ _ ?_
                    clear hK K
                    try simp only [Act.put, List.getElem_toArray, List.getElem_cons_succ, List.getElem_cons_zero, List.setIfInBounds_toArray, List.set_cons_zero, List.set_cons_succ]
                    refine wpAny_ready (rs := [9]) (by kernel_rfl) (by simp) ?_
                    refine (AllReady.cons rfl (fun K hK => ?_) AllReady.nil)
                    refine step_of rfl (wp_append_item (.tmp 127) (.tmp 134) (by kernel_rfl) w.heap.size v1 L Z _ (by kernel_rfl) (by kernel_rfl) (by rw [HCZ.out]; exact BB.out) HIZ.out OV.out HLL.out (Nat.le_trans BW.out.size CUR.out.size) ?_)
                    intro v5 w5 o5 gr5
                    obtain ⟨a9, c9, hv9, _, _, hit9, _⟩ := ownI_items o5 HIDZ.out
                    obtain ⟨n9, hn9⟩ : ∃ n9, (L ++ [Z]).length = n9 := ⟨_, rfl⟩
                    rw [hn9] at hv9
                    subst hv9
                    have CUR := Lib.hid ((BW.out.trans (CUR.out.mono BW.out.size)).grown gr5 (Nat.le_trans BW.out.size CUR.out.size) (fun j hj => (OV.out.lt j hj).1))
                    have hn20 : n9 ≤ 500 := by rw [← hn9, List.length_append, HLM.out]; simp; omega
                    have CRR := Lib.hid (pRight_is a9 n9 c9 (L ++ [Z]) w5 hn9.symm (by unfold maxLen; omega) hit9 HIDZ.out HSZ.out (TB.out.below CUR.out))
                    rw [HTWO.out] at CRR
                    clear o5 gr5 hit9 hn9
                    refine hK _ _ ?_
                    clear hK K
                    try simp only [Act.put, List.getElem_toArray, List.getElem_cons_succ, List.getElem_cons_zero, List.setIfInBounds_toArray, List.set_cons_zero, List.set_cons_succ]
                    refine wpAny_ready (rs := [10]) (by kernel_rfl) (by simp) ?_
                    refine (AllReady.cons rfl (fun K hK => ?_) AllReady.nil)
                    go_simp
                    refine CRR.out.mono ?_
                    rintro e w6 ⟨rfl, b6⟩
                    have CUR := Lib.hid (CUR.out.trans (b6.mono CUR.out.size))
                    clear b6 CRR
                    refine hK _ _ ?_
                    clear hK K
                    try simp only [Act.put, List.getElem_toArray, List.getElem_cons_succ, List.getElem_cons_zero, List.setIfInBounds_toArray, List.set_cons_zero, List.set_cons_succ]
                    refine wpAny_take (i := 11) (v := ?twa11v) rfl (by kernel_rfl) (by kernel_rfl) (by kernel_rfl) (fun _ _ _ h => h) (Or.inl ⟨by kernel_rfl, ?twa11y⟩) ?_
                    case twa11y => intro u; go_simp; try with_reducible rfl
                    try simp only [Act.put, List.getElem_toArray, List.getElem_cons_succ, List.getElem_cons_zero, List.setIfInBounds_toArray, List.set_cons_zero, List.set_cons_succ]
                    refine wpAny_take (i := 12) (v := ?twa12v) rfl (by kernel_rfl) (by kernel_rfl) (by kernel_rfl) (fun _ _ _ h => h) (Or.inl ⟨by kernel_rfl, ?twa12y⟩) ?_
                    case twa12y => intro u; go_simp; try with_reducible rfl
                    try simp only [Act.put, List.getElem_toArray, List.getElem_cons_succ, List.getElem_cons_zero, List.setIfInBounds_toArray, List.set_cons_zero, List.set_cons_succ]
                    refine wpAny_done (by kernel_rfl) ?_ _
                    go_wp2
                    go_ret
                    exact ⟨by kernel_rfl, CUR.out⟩
              | false =>
                by_cases hi2 : i < 2
                · have g2 : (i : Int) < 2 := by omega
                  clear hi1L
                  go_wp2
                  go_ret
                  exact ⟨by kernel_rfl, BW.out⟩
                · have g2 : ¬ (i : Int) < 2 := by omega
                  have h1L : 1 < L.length := by rw [HLM.out]; omega
                  have h0L : 0 < L.length := by omega
                  obtain ⟨X, hX⟩ : ∃ X, L[0] = X := ⟨_, rfl⟩
                  obtain ⟨Y, hY⟩ : ∃ Y, L[1] = Y := ⟨_, rfl⟩
                  have hiX := HGL.out.ids X (by rw [← hX]; exact List.getElem_mem _)
                  have hiY := HGL.out.ids Y (by rw [← hY]; exact List.getElem_mem _)
                  have hsX := HGL.out.short X (by rw [← hX]; exact List.getElem_mem _)
                  have hsY := HGL.out.short Y (by rw [← hY]; exact List.getElem_mem _)
                  have hturn := right_turned (l := L) h1L HSL.out
                  rw [hX, hY] at hturn
                  have hidm : ∀ x ∈ (L.set 0 Y).set 1 X, x.id.length = 20 := set_ids (set_ids HGL.out.ids 0 hiY) 1 hiX
                  have hshm : ∀ x ∈ (L.set 0 Y).set 1 X, x.name.length ≤ 1000000 := fun x hx => by
                    rcases List.mem_or_eq_of_mem_set hx with h | rfl
                    · rcases List.mem_or_eq_of_mem_set h with h | rfl
                      · exact HGL.out.short x h
                      · exact hsY
                    · exact hsX
                  have hml : ((L.set 0 Y).set 1 X).length = i := by rw [List.length_set, List.length_set, HLM.out]
                  have hpt : printT ((L.set 0 Y).set 1 X) = ([], 11) := printT_turned (by rw [hml]; omega) hturn
                  have lX : (Tryd.prog.info? 30).map (·.size) = some (cellsI X).length := by rw [cellsI_len X hiX]; exact infoItem
                  have lY : (Tryd.prog.info? 30).map (·.size) = some (cellsI Y).length := by rw [cellsI_len Y hiY]; exact infoItem
                  obtain ⟨cx, hcx⟩ : ∃ c, cellsI X = c := ⟨_, rfl⟩
                  obtain ⟨cy, hcy⟩ : ∃ c, cellsI Y = c := ⟨_, rfl⟩
                  rw [hcx] at lX
                  rw [hcy] at lY
                  have HX := Lib.hid hX; have HY := Lib.hid hY; have HIX := Lib.hid hiX; have HIY := Lib.hid hiY; have HTU := Lib.hid hturn; have HIDM := Lib.hid hidm; have HSHM := Lib.hid hshm; have HML := Lib.hid hml; have HPT := Lib.hid hpt
                  have LX := Lib.hid lX; have LY := Lib.hid lY; have HCX := Lib.hid hcx; have HCY := Lib.hid hcy; have H1L := Lib.hid h1L; have H0L := Lib.hid h0L
                  have HLL := Lib.hid (show L.length ≤ 1000000 by rw [HLM.out]; omega)
                  clear hX hY hiX hiY hsX hsY hturn hidm hshm hml hpt lX lY hcx hcy hi1L
                  go_wp2_with (first
                    | (at_builtin; refine wpList_copy_items rfl (.const (.slice none 0 0)) (.tmp 141) rfl w.heap.size L HGL.out.ids rfl g 0 i c7 HLM.out.symm rfl I3.out HLL.out BW.out.size ?_)
                    | fail)
                  intro v1 w4 o1 gr1
                  obtain ⟨a8, c8, hv8, _, _, _, _⟩ := ownI_items o1 HGL.out.ids
                  subst hv8
                  obtain ⟨g8, rfl, hg8, hlt8, hm8⟩ := own_some o1 (by have := H0L.out; omega)
                  have CUR := Lib.hid (BW.out.grown gr1 BW.out.size (fun j hj => by cases hj))
                  have HOL := Lib.hid (ownI_below o1 (Below.refl _ _).drew)
                  have RX := Lib.hid (own_range o1 HGL.out.ids 0 H0L.out)
                  have RY := Lib.hid (own_range o1 HGL.out.ids 1 H1L.out)
                  have hrx := RX.out; have hry := RY.out
                  rw [HX.out, HCX.out] at hrx
                  rw [HY.out, HCY.out] at hry
                  have RX := Lib.hid hrx; have RY := Lib.hid hry
                  have HG8 := Lib.hid hg8
                  obtain ⟨n8, hn8⟩ : ∃ n8, L.length = n8 := ⟨_, rfl⟩
                  have hn8i : n8 = i := by rw [← hn8, HLM.out]
                  rw [hn8]
                  subst hn8i
                  have k1 : (1 : Int) < (n8 : Int) := by omega
                  have k0n : 0 < n8 := by omega
                  have k1n : 1 < n8 := by omega
                  clear o1 gr1 hg8 hlt8 hm8 hrx hry hn8
                  go_wp2_with fail
                  refine wp_region_any (by kernel_rfl) ?_
                  change wpAny _ _ _ _ _ _ _ (World.drew _)
                  refine wpAny_take (i := 0) (v := ?tna1v) rfl (by kernel_rfl) (by kernel_rfl) (by kernel_rfl) (fun _ _ _ h => h) (Or.inl ⟨by kernel_rfl, ?tna1y⟩) ?_
                  case tna1y => intro u; go_simp; try with_reducible rfl
                  try simp only [Act.put, List.getElem_toArray, List.getElem_cons_succ, List.getElem_cons_zero, List.setIfInBounds_toArray, List.set_cons_zero, List.set_cons_succ]
                  refine wpAny_take (i := 1) (v := ?tna2v) rfl (by kernel_rfl) (by kernel_rfl) (by kernel_rfl) (fun _ _ _ h => h) (Or.inl ⟨by kernel_rfl, ?tna2y⟩) ?_
                  case tna2y => intro u; go_simp; try with_reducible rfl
                  try simp only [Act.put, List.getElem_toArray, List.getElem_cons_succ, List.getElem_cons_zero, List.setIfInBounds_toArray, List.set_cons_zero, List.set_cons_succ]
                  refine wpAny_take (i := 2) (v := ?tna3v) rfl (by kernel_rfl) (by kernel_rfl) (by kernel_rfl) (fun _ _ _ h => h) (Or.inl ⟨by kernel_rfl, ?tna3y⟩) ?_
                  case tna3y => intro u; go_simp; try with_reducible rfl
                  try simp only [Act.put, List.getElem_toArray, List.getElem_cons_succ, List.getElem_cons_zero, List.setIfInBounds_toArray, List.set_cons_zero, List.set_cons_succ]
                  refine wpAny_take (i := 3) (v := ?tna4v) rfl (by kernel_rfl) (by kernel_rfl) (by kernel_rfl) (fun _ _ _ h => h) (Or.inl ⟨by kernel_rfl, ?tna4y⟩) ?_
                  case tna4y => intro u; go_simp; try with_reducible rfl
                  try simp only [Act.put, List.getElem_toArray, List.getElem_cons_succ, List.getElem_cons_zero, List.setIfInBounds_toArray, List.set_cons_zero, List.set_cons_succ]
                  refine wpAny_take (i := 5) (v := ?tna5v) rfl (by kernel_rfl) (by kernel_rfl) (by kernel_rfl) (fun _ _ _ h => h) (Or.inl ⟨by kernel_rfl, ?tna5y⟩) ?_
                  case tna5y => intro u; go_simp; try with_reducible rfl
                  try simp only [Act.put, List.getElem_toArray, List.getElem_cons_succ, List.getElem_cons_zero, List.setIfInBounds_toArray, List.set_cons_zero, List.set_cons_succ]
                  refine wpAny_take (i := 6) (v := ?tna6v) rfl (by kernel_rfl) (by kernel_rfl) (by kernel_rfl) (fun _ _ _ h => h) (Or.inl ⟨by kernel_rfl, ?tna6y⟩) ?_
                  case tna6y => intro u; go_simp; try with_reducible rfl
                  try simp only [Act.put, List.getElem_toArray, List.getElem_cons_succ, List.getElem_cons_zero, List.setIfInBounds_toArray, List.set_cons_zero, List.set_cons_succ]
                  refine wpAny_ready (rs := [4, 7]) (by kernel_rfl) (by simp) ?_
                  refine (AllReady.cons rfl (fun K hK => ?_) (AllReady.cons rfl (fun K hK => ?_) AllReady.nil))
                  · refine step_of rfl (wp_load_mid 30 (.tmp 146) (by kernel_rfl) g8 22 (by kernel_rfl) cy _ (RY.out _ (Below.refl _ _).drew) Tryd.underlying30 rfl LY.out ?_)
                    refine hK _ _ ?_
                    clear hK K
                    try simp only [Act.put, List.getElem_toArray, List.getElem_cons_succ, List.getElem_cons_zero, List.setIfInBounds_toArray, List.set_cons_zero, List.set_cons_succ]
                    refine wpAny_ready (rs := [7]) (by kernel_rfl) (by simp) ?_
                    refine (AllReady.cons rfl (fun K hK => ?_) AllReady.nil)
                    refine step_of rfl (wp_load_mid 30 (.tmp 149) (by kernel_rfl) g8 0 (by kernel_rfl) cx _ (RX.out _ (Below.refl _ _).drew) Tryd.underlying30 rfl LX.out ?_)
                    refine hK _ _ ?_
                    clear hK K
                    try simp only [Act.put, List.getElem_toArray, List.getElem_cons_succ, List.getElem_cons_zero, List.setIfInBounds_toArray, List.set_cons_zero, List.set_cons_succ]
                    refine wpAny_take (i := 8) (v := ?tna7v) rfl (by kernel_rfl) (by kernel_rfl) (by kernel_rfl) (fun _ _ _ h => h) (Or.inl ⟨by kernel_rfl, ?tna7y⟩) ?_
                    case tna7y => intro u; go_simp; try with_reducible rfl
                    try simp only [Act.put, List.getElem_toArray, List.getElem_cons_succ, List.getElem_cons_zero, List.setIfInBounds_toArray, List.set_cons_zero, List.set_cons_succ]
                    refine wpAny_ready (rs := [9]) (by kernel_rfl) (by simp) ?_
                    refine (AllReady.cons rfl (fun K hK => ?_) AllReady.nil)
                    refine step_of rfl (wp_store_item (.tmp 151) (.tmp 147) (by kernel_rfl) w.heap.size g8 c8 0 0 L HGL.out.ids Y cy HCY.out.symm rfl (by kernel_rfl) (by kernel_rfl) H0L.out HIY.out HOL.out ?_)
                    intro w5 o5 g5
                    have HO5 := Lib.hid o5; have HG5 := Lib.hid g5
                    clear o5 g5
                    refine hK _ _ ?_
                    clear hK K
                    try simp only [Act.put, List.getElem_toArray, List.getElem_cons_succ, List.getElem_cons_zero, List.setIfInBounds_toArray, List.set_cons_zero, List.set_cons_succ]
                    refine wpAny_take (i := 10) (v := ?tna8v) rfl (by kernel_rfl) (by kernel_rfl) (by kernel_rfl) (fun _ _ _ h => h) (Or.inl ⟨by kernel_rfl, ?tna8y⟩) ?_
                    case tna8y => intro u; go_simp; try with_reducible rfl
                    try simp only [Act.put, List.getElem_toArray, List.getElem_cons_succ, List.getElem_cons_zero, List.setIfInBounds_toArray, List.set_cons_zero, List.set_cons_succ]
                    refine wpAny_ready (rs := [11]) (by kernel_rfl) (by simp) ?_
                    refine (AllReady.cons rfl (fun K hK => ?_) AllReady.nil)
                    refine step_of rfl (wp_store_item (.tmp 152) (.tmp 150) (by kernel_rfl) w.heap.size g8 c8 1 22 (L.set 0 Y) (set_ids HGL.out.ids 0 HIY.out) X cx HCX.out.symm rfl (by kernel_rfl) (by kernel_rfl) (by rw [List.length_set]; exact H1L.out) HIX.out (by rw [List.length_set]; exact HO5.out) ?_)
                    intro w7 o7 g7
                    have HO7 := Lib.hid o7; have HG7 := Lib.hid g7
                    clear o7 g7
                    refine hK _ _ ?_
                    clear hK K
                    try simp only [Act.put, List.getElem_toArray, List.getElem_cons_succ, List.getElem_cons_zero, List.setIfInBounds_toArray, List.set_cons_zero, List.set_cons_succ]
                    refine wpAny_done (by kernel_rfl) ?_ _
                    have hb5 := CUR.out.drew.grown HG5.out CUR.out.drew.size (fun j hj => by cases hj; exact HG8.out)
                    have HB7 := Lib.hid (hb5.grown HG7.out hb5.size (fun j hj => by cases hj; exact HG8.out))
                    obtain ⟨a9, c9, hv9, _, _, hit9, _⟩ := ownI_items HO7.out HIDM.out
                    simp only [Value.slice.injEq] at hv9
                    rw [← hv9.1] at hit9
                    have C9 := Lib.hid (pPrint_is (some ⟨g8, 0, none⟩) n8 c8 ((L.set 0 Y).set 1 X) w7 HML.out.symm (by unfold maxLen; omega) hit9 HIDM.out HSHM.out (TB.out.below HB7.out))
                    have CR9 := Lib.hid (fun u (h : Below w7.heap.size w7 u) => pRight_is (some ⟨g8, 0, none⟩) n8 c8 ((L.set 0 Y).set 1 X) u HML.out.symm (by unfold maxLen; omega) (hit9.keep h) HIDM.out HSHM.out (TB.out.below (HB7.out.trans (h.mono HB7.out.size))))
                    rw [HPT.out] at C9
                    rw [HTU.out] at CR9
                    clear hb5 hv9 hit9
                    go_wp2_with fail
                    refine C9.out.mono ?_
                    rintro e w8 ⟨v8, rfl, hr8, b8⟩
                    have B8 := Lib.hid b8
                    clear b8 C9
                    go_wp2_with fail
                    refine (CR9.out _ B8.out).mono ?_
                    rintro e w9 ⟨rfl, b9⟩
                    have B9 := Lib.hid (HB7.out.trans ((B8.out.trans (b9.mono B8.out.size)).mono HB7.out.size))
                    clear b9 CR9
                    go_wp2
                    go_ret
                    exact ⟨by kernel_rfl, B9.out⟩
                  · refine step_of rfl (wp_load_mid 30 (.tmp 149) (by kernel_rfl) g8 0 (by kernel_rfl) cx _ (RX.out _ (Below.refl _ _).drew) Tryd.underlying30 rfl LX.out ?_)
                    refine hK _ _ ?_
                    clear hK K
                    try simp only [Act.put, List.getElem_toArray, List.getElem_cons_succ, List.getElem_cons_zero, List.setIfInBounds_toArray, List.set_cons_zero, List.set_cons_succ]
                    refine wpAny_ready (rs := [4]) (by kernel_rfl) (by simp) ?_
                    refine (AllReady.cons rfl (fun K hK => ?_) AllReady.nil)
                    refine step_of rfl (wp_load_mid 30 (.tmp 146) (by kernel_rfl) g8 22 (by kernel_rfl) cy _ (RY.out _ (Below.refl _ _).drew) Tryd.underlying30 rfl LY.out ?_)
                    refine hK _ _ ?_
                    clear hK K
                    try simp only [Act.put, List.getElem_toArray, List.getElem_cons_succ, List.getElem_cons_zero, List.setIfInBounds_toArray, List.set_cons_zero, List.set_cons_succ]
                    refine wpAny_take (i := 8) (v := ?tna9v) rfl (by kernel_rfl) (by kernel_rfl) (by kernel_rfl) (fun _ _ _ h => h) (Or.inl ⟨by kernel_rfl, ?tna9y⟩) ?_
                    case tna9y => intro u; go_simp; try with_reducible rfl
                    try simp only [Act.put, List.getElem_toArray, List.getElem_cons_succ, List.getElem_cons_zero, List.setIfInBounds_toArray, List.set_cons_zero, List.set_cons_succ]
                    refine wpAny_ready (rs := [9]) (by kernel_rfl) (by simp) ?_
                    refine (AllReady.cons rfl (fun K hK => ?_) AllReady.nil)
                    refine step_of rfl (wp_store_item (.tmp 151) (.tmp 147) (by kernel_rfl) w.heap.size g8 c8 0 0 L HGL.out.ids Y cy HCY.out.symm rfl (by kernel_rfl) (by kernel_rfl) H0L.out HIY.out HOL.out ?_)
                    intro w5 o5 g5
                    have HO5 := Lib.hid o5; have HG5 := Lib.hid g5
                    clear o5 g5
                    refine hK _ _ ?_
                    clear hK K
                    try simp only [Act.put, List.getElem_toArray, List.getElem_cons_succ, List.getElem_cons_zero, List.setIfInBounds_toArray, List.set_cons_zero, List.set_cons_succ]
                    refine wpAny_take (i := 10) (v := ?tna10v) rfl (by kernel_rfl) (by kernel_rfl) (by kernel_rfl) (fun _ _ _ h => h) (Or.inl ⟨by kernel_rfl, ?tna10y⟩) ?_
                    case tna10y => intro u; go_simp; try with_reducible rfl
                    try simp only [Act.put, List.getElem_toArray, List.getElem_cons_succ, List.getElem_cons_zero, List.setIfInBounds_toArray, List.set_cons_zero, List.set_cons_succ]
                    refine wpAny_ready (rs := [11]) (by kernel_rfl) (by simp) ?_
                    refine (AllReady.cons rfl (fun K hK => ?_) AllReady.nil)
                    refine step_of rfl (wp_store_item (.tmp 152) (.tmp 150) (by kernel_rfl) w.heap.size g8 c8 1 22 (L.set 0 Y) (set_ids HGL.out.ids 0 HIY.out) X cx HCX.out.symm rfl (by kernel_rfl) (by kernel_rfl) (by rw [List.length_set]; exact H1L.out) HIX.out (by rw [List.length_set]; exact HO5.out) ?_)
                    intro w7 o7 g7
                    have HO7 := Lib.hid o7; have HG7 := Lib.hid g7
                    clear o7 g7
                    refine hK _ _ ?_
                    clear hK K
                    try simp only [Act.put, List.getElem_toArray, List.getElem_cons_succ, List.getElem_cons_zero, List.setIfInBounds_toArray, List.set_cons_zero, List.set_cons_succ]
                    refine wpAny_done (by kernel_rfl) ?_ _
                    have hb5 := CUR.out.drew.grown HG5.out CUR.out.drew.size (fun j hj => by cases hj; exact HG8.out)
                    have HB7 := Lib.hid (hb5.grown HG7.out hb5.size (fun j hj => by cases hj; exact HG8.out))
                    obtain ⟨a9, c9, hv9, _, _, hit9, _⟩ := ownI_items HO7.out HIDM.out
                    simp only [Value.slice.injEq] at hv9
                    rw [← hv9.1] at hit9
                    have C9 := Lib.hid (pPrint_is (some ⟨g8, 0, none⟩) n8 c8 ((L.set 0 Y).set 1 X) w7 HML.out.symm (by unfold maxLen; omega) hit9 HIDM.out HSHM.out (TB.out.below HB7.out))
                    have CR9 := Lib.hid (fun u (h : Below w7.heap.size w7 u) => pRight_is (some ⟨g8, 0, none⟩) n8 c8 ((L.set 0 Y).set 1 X) u HML.out.symm (by unfold maxLen; omega) (hit9.keep h) HIDM.out HSHM.out (TB.out.below (HB7.out.trans (h.mono HB7.out.size))))
                    rw [HPT.out] at C9
                    rw [HTU.out] at CR9
                    clear hb5 hv9 hit9
                    go_wp2_with fail
                    refine C9.out.mono ?_
                    rintro e w8 ⟨v8, rfl, hr8, b8⟩
                    have B8 := Lib.hid b8
                    clear b8 C9
                    go_wp2_with fail
                    refine (CR9.out _ B8.out).mono ?_
                    rintro e w9 ⟨rfl, b9⟩
                    have B9 := Lib.hid (HB7.out.trans ((B8.out.trans (b9.mono B8.out.size)).mono HB7.out.size))
                    clear b9 CR9
                    go_wp2
                    go_ret
                    exact ⟨by kernel_rfl, B9.out⟩
end Go.Proofs.YtalmoaofodjehaaDoor.treeOrder
