/-
  The law CommitHeaders: its walk.
-/
import Derived.Test.YtonkclkopmdahaaGreatDoorFu22
namespace Go.Proofs.YtonkclkopmdahaaGreatDoor.commitHeaders
set_option maxRecDepth 20000
open Go.RowKit
set_option linter.unusedVariables false
set_option linter.unusedSimpArgs false

set_option maxHeartbeats 2000000 in
theorem walk_long (w : World) (l : List UInt8) (h : 500 < l.length) (hm : l.length ≤ maxLen) (x : Int) (tab : T7 w) :
    Calls Tryz.prog 5 #[.string ⟨l.toArray⟩, .int .i64 x] w fun e w' => e = .returned (.bool true) ∧ Below w.heap.size w w' := by
  have g1 : (l.length : Int) > 500 := by omega
  have CA := Lib.hid (awake9 w tab.t6)
  have z1 := size_toArray l
  clear h hm tab
  generalize (⟨l.toArray⟩ : ByteArray) = S at *
  go_enter Tryz.func5, Tryz.ntmps5
  go_wp2_with fail
  refine CA.out.mono ?_
  rintro e w1 ⟨rfl, hb⟩
  have B1 := Lib.hid hb
  clear hb CA
  go_wp2
  go_ret
  exact ⟨rfl, B1.out⟩
set_option maxHeartbeats 2000000 in
theorem walk_zero (w : World) (l : List UInt8) (h : l.length ≤ 500) (k : Nat) (hf : findB l 0 0 = (k : Int)) (x : Int) (tab : T7 w) :
    Calls Tryz.prog 5 #[.string ⟨l.toArray⟩, .int .i64 x] w fun e w' => e = .returned (.bool true) ∧ Below w.heap.size w w' := by
  have g1 : ¬ (l.length : Int) > 500 := by omega
  have CA := Lib.hid (awake9 w tab.t6)
  have FZ := Lib.hid (fun u => Find_byte 0 l 0 (by omega) (Nat.zero_le _) u)
  rw [hf] at FZ
  have g3 : (k : Int) ≥ 0 := by omega
  have z1 := size_toArray l
  clear h hf tab
  generalize (⟨l.toArray⟩ : ByteArray) = S at *
  go_enter Tryz.func5, Tryz.ntmps5
  go_wp2_with fail
  refine (FZ.out _).mono ?_
  rintro e w0 ⟨rfl, rfl⟩
  go_wp2_with fail
  refine CA.out.mono ?_
  rintro e w1 ⟨rfl, hb⟩
  have B1 := Lib.hid hb
  clear hb CA
  go_wp2
  go_ret
  exact ⟨rfl, B1.out⟩
set_option maxHeartbeats 32000000 in
theorem walk_good (w : World) (l : List UInt8) (h : l.length ≤ 500) (hf : findB l 0 0 = -1) (hno : ∀ d ∈ l, d ≠ 0) (x : Int) (tab : T7 w) :
    Calls Tryz.prog 5 #[.string ⟨l.toArray⟩, .int .i64 x] w fun e w' => e = .returned (.bool true) ∧ Below w.heap.size w w' := by
  have g1 : ¬ (l.length : Int) > 500 := by omega
  have FZ := Lib.hid (fun u => Find_byte 0 l 0 (by omega) (Nat.zero_le _) u)
  rw [hf] at FZ
  have z1 := size_toArray l
  obtain ⟨v, hv⟩ : ∃ v, IntKind.u64.wrap x = v := ⟨_, rfl⟩
  have hv0 : 0 ≤ v := by rw [← hv, IntKind.wrap_u64]; omega
  obtain ⟨r, hr⟩ : ∃ r : Nat, v.tmod 9 = (r : Int) := by
    rw [Int.tmod_eq_emod_of_nonneg hv0]
    exact ⟨(v % 9).toNat, by omega⟩
  have hr9 : r < 9 := by rw [Int.tmod_eq_emod_of_nonneg hv0] at hr; omega
  have k4 : IntKind.i64.wrap (r : Int) = (r : Int) := IntWalk.i64_in _ (by omega)
  have k5 : IntKind.u64.wrap (r : Int) = (r : Int) := by rw [IntKind.wrap_u64]; omega
  have l1 : tB.length = 46 := rfl
  have l2 : pB.length = 48 := rfl
  have l3 : aB.length = 21 := rfl
  have l4 : cB.length = 24 := rfl
  have l5 : gB.length = 10 := rfl
  have l6 : eB.length = 15 := rfl
  have adPT := fun u => add_lists (P := Tryz.prog) u (pB) (tB) (by simp only [List.length_append, List.length_cons, List.length_nil, l1, l2, l3, l4, l5, l6]; omega)
  have adTE := fun u => add_lists (P := Tryz.prog) u (tB) (eB) (by simp only [List.length_append, List.length_cons, List.length_nil, l1, l2, l3, l4, l5, l6]; omega)
  have adTP := fun u => add_lists (P := Tryz.prog) u (tB) (pB) (by simp only [List.length_append, List.length_cons, List.length_nil, l1, l2, l3, l4, l5, l6]; omega)
  have adTT := fun u => add_lists (P := Tryz.prog) u (tB) (tB) (by simp only [List.length_append, List.length_cons, List.length_nil, l1, l2, l3, l4, l5, l6]; omega)
  have adPTA := fun u => add_lists (P := Tryz.prog) u (pB ++ tB) (aB) (by simp only [List.length_append, List.length_cons, List.length_nil, l1, l2, l3, l4, l5, l6]; omega)
  have adTEA := fun u => add_lists (P := Tryz.prog) u (tB ++ eB) (aB) (by simp only [List.length_append, List.length_cons, List.length_nil, l1, l2, l3, l4, l5, l6]; omega)
  have adTPA := fun u => add_lists (P := Tryz.prog) u (tB ++ pB) (aB) (by simp only [List.length_append, List.length_cons, List.length_nil, l1, l2, l3, l4, l5, l6]; omega)
  have adTPC := fun u => add_lists (P := Tryz.prog) u (tB ++ pB) (cB) (by simp only [List.length_append, List.length_cons, List.length_nil, l1, l2, l3, l4, l5, l6]; omega)
  have adTPP := fun u => add_lists (P := Tryz.prog) u (tB ++ pB) (pB) (by simp only [List.length_append, List.length_cons, List.length_nil, l1, l2, l3, l4, l5, l6]; omega)
  have adTTA := fun u => add_lists (P := Tryz.prog) u (tB ++ tB) (aB) (by simp only [List.length_append, List.length_cons, List.length_nil, l1, l2, l3, l4, l5, l6]; omega)
  have adPTAC := fun u => add_lists (P := Tryz.prog) u (pB ++ tB ++ aB) (cB) (by simp only [List.length_append, List.length_cons, List.length_nil, l1, l2, l3, l4, l5, l6]; omega)
  have adTEAC := fun u => add_lists (P := Tryz.prog) u (tB ++ eB ++ aB) (cB) (by simp only [List.length_append, List.length_cons, List.length_nil, l1, l2, l3, l4, l5, l6]; omega)
  have adTPAA := fun u => add_lists (P := Tryz.prog) u (tB ++ pB ++ aB) (aB) (by simp only [List.length_append, List.length_cons, List.length_nil, l1, l2, l3, l4, l5, l6]; omega)
  have adTPAC := fun u => add_lists (P := Tryz.prog) u (tB ++ pB ++ aB) (cB) (by simp only [List.length_append, List.length_cons, List.length_nil, l1, l2, l3, l4, l5, l6]; omega)
  have adTPAN := fun u => add_lists (P := Tryz.prog) u (tB ++ pB ++ aB) ([10]) (by simp only [List.length_append, List.length_cons, List.length_nil, l1, l2, l3, l4, l5, l6]; omega)
  have adTPCA := fun u => add_lists (P := Tryz.prog) u (tB ++ pB ++ cB) (aB) (by simp only [List.length_append, List.length_cons, List.length_nil, l1, l2, l3, l4, l5, l6]; omega)
  have adTPPA := fun u => add_lists (P := Tryz.prog) u (tB ++ pB ++ pB) (aB) (by simp only [List.length_append, List.length_cons, List.length_nil, l1, l2, l3, l4, l5, l6]; omega)
  have adTTAC := fun u => add_lists (P := Tryz.prog) u (tB ++ tB ++ aB) (cB) (by simp only [List.length_append, List.length_cons, List.length_nil, l1, l2, l3, l4, l5, l6]; omega)
  have adPTACN := fun u => add_lists (P := Tryz.prog) u (pB ++ tB ++ aB ++ cB) ([10]) (by simp only [List.length_append, List.length_cons, List.length_nil, l1, l2, l3, l4, l5, l6]; omega)
  have adTEACN := fun u => add_lists (P := Tryz.prog) u (tB ++ eB ++ aB ++ cB) ([10]) (by simp only [List.length_append, List.length_cons, List.length_nil, l1, l2, l3, l4, l5, l6]; omega)
  have adTPAAC := fun u => add_lists (P := Tryz.prog) u (tB ++ pB ++ aB ++ aB) (cB) (by simp only [List.length_append, List.length_cons, List.length_nil, l1, l2, l3, l4, l5, l6]; omega)
  have adTPACG := fun u => add_lists (P := Tryz.prog) u (tB ++ pB ++ aB ++ cB) (gB) (by simp only [List.length_append, List.length_cons, List.length_nil, l1, l2, l3, l4, l5, l6]; omega)
  have adTPACN := fun u => add_lists (P := Tryz.prog) u (tB ++ pB ++ aB ++ cB) ([10]) (by simp only [List.length_append, List.length_cons, List.length_nil, l1, l2, l3, l4, l5, l6]; omega)
  have adTPANX := fun u => add_lists (P := Tryz.prog) u (tB ++ pB ++ aB ++ [10]) (l) (by simp only [List.length_append, List.length_cons, List.length_nil, l1, l2, l3, l4, l5, l6]; omega)
  have adTPCAN := fun u => add_lists (P := Tryz.prog) u (tB ++ pB ++ cB ++ aB) ([10]) (by simp only [List.length_append, List.length_cons, List.length_nil, l1, l2, l3, l4, l5, l6]; omega)
  have adTPPAC := fun u => add_lists (P := Tryz.prog) u (tB ++ pB ++ pB ++ aB) (cB) (by simp only [List.length_append, List.length_cons, List.length_nil, l1, l2, l3, l4, l5, l6]; omega)
  have adTTACN := fun u => add_lists (P := Tryz.prog) u (tB ++ tB ++ aB ++ cB) ([10]) (by simp only [List.length_append, List.length_cons, List.length_nil, l1, l2, l3, l4, l5, l6]; omega)
  have adPTACNX := fun u => add_lists (P := Tryz.prog) u (pB ++ tB ++ aB ++ cB ++ [10]) (l) (by simp only [List.length_append, List.length_cons, List.length_nil, l1, l2, l3, l4, l5, l6]; omega)
  have adTEACNX := fun u => add_lists (P := Tryz.prog) u (tB ++ eB ++ aB ++ cB ++ [10]) (l) (by simp only [List.length_append, List.length_cons, List.length_nil, l1, l2, l3, l4, l5, l6]; omega)
  have adTPAACN := fun u => add_lists (P := Tryz.prog) u (tB ++ pB ++ aB ++ aB ++ cB) ([10]) (by simp only [List.length_append, List.length_cons, List.length_nil, l1, l2, l3, l4, l5, l6]; omega)
  have adTPACGX := fun u => add_lists (P := Tryz.prog) u (tB ++ pB ++ aB ++ cB ++ gB) (l) (by simp only [List.length_append, List.length_cons, List.length_nil, l1, l2, l3, l4, l5, l6]; omega)
  have adTPACNX := fun u => add_lists (P := Tryz.prog) u (tB ++ pB ++ aB ++ cB ++ [10]) (l) (by simp only [List.length_append, List.length_cons, List.length_nil, l1, l2, l3, l4, l5, l6]; omega)
  have adTPCANX := fun u => add_lists (P := Tryz.prog) u (tB ++ pB ++ cB ++ aB ++ [10]) (l) (by simp only [List.length_append, List.length_cons, List.length_nil, l1, l2, l3, l4, l5, l6]; omega)
  have adTPPACN := fun u => add_lists (P := Tryz.prog) u (tB ++ pB ++ pB ++ aB ++ cB) ([10]) (by simp only [List.length_append, List.length_cons, List.length_nil, l1, l2, l3, l4, l5, l6]; omega)
  have adTTACNX := fun u => add_lists (P := Tryz.prog) u (tB ++ tB ++ aB ++ cB ++ [10]) (l) (by simp only [List.length_append, List.length_cons, List.length_nil, l1, l2, l3, l4, l5, l6]; omega)
  have adTPAACNX := fun u => add_lists (P := Tryz.prog) u (tB ++ pB ++ aB ++ aB ++ cB ++ [10]) (l) (by simp only [List.length_append, List.length_cons, List.length_nil, l1, l2, l3, l4, l5, l6]; omega)
  have adTPPACNX := fun u => add_lists (P := Tryz.prog) u (tB ++ pB ++ pB ++ aB ++ cB ++ [10]) (l) (by simp only [List.length_append, List.length_cons, List.length_nil, l1, l2, l3, l4, l5, l6]; omega)
  have hcell : ∀ (u : World) (g : Nat), u.heap[g]? = some (.cells #[.string ⟨(pB ++ tB ++ aB ++ cB ++ [10] ++ l).toArray⟩, .string ⟨(tB ++ pB ++ cB ++ aB ++ [10] ++ l).toArray⟩, .string ⟨(tB ++ pB ++ aB ++ cB ++ gB ++ l).toArray⟩, .string ⟨(tB ++ tB ++ aB ++ cB ++ [10] ++ l).toArray⟩, .string ⟨(tB ++ pB ++ pB ++ aB ++ cB ++ [10] ++ l).toArray⟩, .string ⟨(tB ++ pB ++ aB ++ aB ++ cB ++ [10] ++ l).toArray⟩, .string ⟨(tB ++ pB ++ aB ++ cB).toArray⟩, .string ⟨(tB ++ pB ++ aB ++ [10] ++ l).toArray⟩, .string ⟨(tB ++ eB ++ aB ++ cB ++ [10] ++ l).toArray⟩] 9 (0, 0)) → u.cell? ⟨g, r, none⟩ = some (.string ⟨(badT l r).toArray⟩) := by
    intro u g h
    rw [Lib.cell_of_heap h]
    have : r = 0 ∨ r = 1 ∨ r = 2 ∨ r = 3 ∨ r = 4 ∨ r = 5 ∨ r = 6 ∨ r = 7 ∨ r = 8 := by omega
    rcases this with rfl | rfl | rfl | rfl | rfl | rfl | rfl | rfl | rfl <;> rfl
  have hbl := badT_len l r h
  have hgl : (tB ++ pB ++ aB ++ cB ++ [10] ++ l).length ≤ 1000 := by simp only [List.length_append, List.length_cons, List.length_nil, l1, l2, l3, l4, l5, l6]; omega
  have SG := Lib.hid (fun u => str_row u (tB ++ pB ++ aB ++ cB ++ [10] ++ l) (by omega))
  have SB := Lib.hid (fun u => str_row u (badT l r) (by omega))
  have hgi : parsedR (tB ++ pB ++ aB ++ cB ++ [10] ++ l) = (⟨oneD, [twoI], who5, who6, l⟩, 0) := by
    have e := good_is l h hno
    rw [← e]
    congr 1
  have CG := Lib.hid (fun u (hu : Below w.heap.size w u) xa xn xc (hb : BAt u xa (tB ++ pB ++ aB ++ cB ++ [10] ++ l)) (hx : xn = (tB ++ pB ++ aB ++ cB ++ [10] ++ l).length) => Parse9_is xa xn xc (tB ++ pB ++ aB ++ cB ++ [10] ++ l) u (tab.keep hu) hx hb (by omega))
  have CB := Lib.hid (fun u (hu : Below w.heap.size w u) xa xn xc (hb : BAt u xa (badT l r)) (hx : xn = (badT l r).length) => Parse9_is xa xn xc (badT l r) u (tab.keep hu) hx hb (by omega))
  rw [hgi] at CG
  rw [badT_none l r] at CB
  simp only at CG CB
  have hsT : (⟨#[116, 114, 101, 101, 32, 48, 49, 48, 48, 48, 48, 48, 48, 48, 48, 48, 48, 48, 48, 48, 48, 48, 48, 48, 48, 48, 48, 48, 48, 48, 48, 48, 48, 48, 48, 48, 48, 48, 48, 48, 48, 48, 48, 48, 48, 10]⟩ : ByteArray) = ⟨tB.toArray⟩ := rfl
  have hsP : (⟨#[112, 97, 114, 101, 110, 116, 32, 48, 50, 48, 48, 48, 48, 48, 48, 48, 48, 48, 48, 48, 48, 48, 48, 48, 48, 48, 48, 48, 48, 48, 48, 48, 48, 48, 48, 48, 48, 48, 48, 48, 48, 48, 48, 48, 48, 48, 48, 10]⟩ : ByteArray) = ⟨pB.toArray⟩ := rfl
  have hsA : (⟨#[97, 117, 116, 104, 111, 114, 32, 65, 32, 60, 97, 62, 32, 53, 32, 43, 48, 48, 48, 48, 10]⟩ : ByteArray) = ⟨aB.toArray⟩ := rfl
  have hsC : (⟨#[99, 111, 109, 109, 105, 116, 116, 101, 114, 32, 66, 32, 60, 98, 62, 32, 54, 32, 45, 48, 49, 48, 48, 10]⟩ : ByteArray) = ⟨cB.toArray⟩ := rfl
  have hsG : (⟨#[103, 112, 103, 115, 105, 103, 32, 120, 10, 10]⟩ : ByteArray) = ⟨gB.toArray⟩ := rfl
  have hsE : (⟨#[101, 110, 99, 111, 100, 105, 110, 103, 32, 117, 116, 102, 45, 56, 10]⟩ : ByteArray) = ⟨eB.toArray⟩ := rfl
  obtain ⟨BT, hBT⟩ : ∃ BT, badT l r = BT := ⟨_, rfl⟩
  obtain ⟨GT, hGT⟩ : ∃ GT, tB ++ pB ++ aB ++ cB ++ [10] ++ l = GT := ⟨_, rfl⟩
  rw [hBT] at SB CB hcell
  rw [hGT] at SG CG adTPACNX
  obtain ⟨sBT, hsBT⟩ : ∃ s : ByteArray, ⟨BT.toArray⟩ = s := ⟨_, rfl⟩
  obtain ⟨sTPACNX, hsGT⟩ : ∃ s : ByteArray, ⟨GT.toArray⟩ = s := ⟨_, rfl⟩
  rw [hsBT] at SB hcell
  rw [hsGT] at SG adTPACNX
  have CA := Lib.hid (fun u (hu : Below w.heap.size w u) => awake9 u (tab.keep hu).t6)
  clear hf hno tab hbl hgl hgi hBT hGT hsBT hsGT h hv0
  generalize (⟨(tB ++ pB ++ aB ++ aB ++ cB ++ [10] ++ l).toArray⟩ : ByteArray) = sTPAACNX at *
  generalize (⟨(tB ++ pB ++ pB ++ aB ++ cB ++ [10] ++ l).toArray⟩ : ByteArray) = sTPPACNX at *
  generalize (⟨(pB ++ tB ++ aB ++ cB ++ [10] ++ l).toArray⟩ : ByteArray) = sPTACNX at *
  generalize (⟨(tB ++ eB ++ aB ++ cB ++ [10] ++ l).toArray⟩ : ByteArray) = sTEACNX at *
  generalize (⟨(tB ++ pB ++ aB ++ aB ++ cB ++ [10]).toArray⟩ : ByteArray) = sTPAACN at *
  generalize (⟨(tB ++ pB ++ aB ++ cB ++ gB ++ l).toArray⟩ : ByteArray) = sTPACGX at *
  generalize (⟨(tB ++ pB ++ cB ++ aB ++ [10] ++ l).toArray⟩ : ByteArray) = sTPCANX at *
  generalize (⟨(tB ++ pB ++ pB ++ aB ++ cB ++ [10]).toArray⟩ : ByteArray) = sTPPACN at *
  generalize (⟨(tB ++ tB ++ aB ++ cB ++ [10] ++ l).toArray⟩ : ByteArray) = sTTACNX at *
  generalize (⟨(pB ++ tB ++ aB ++ cB ++ [10]).toArray⟩ : ByteArray) = sPTACN at *
  generalize (⟨(tB ++ eB ++ aB ++ cB ++ [10]).toArray⟩ : ByteArray) = sTEACN at *
  generalize (⟨(tB ++ pB ++ aB ++ aB ++ cB).toArray⟩ : ByteArray) = sTPAAC at *
  generalize (⟨(tB ++ pB ++ aB ++ cB ++ gB).toArray⟩ : ByteArray) = sTPACG at *
  generalize (⟨(tB ++ pB ++ aB ++ cB ++ [10]).toArray⟩ : ByteArray) = sTPACN at *
  generalize (⟨(tB ++ pB ++ aB ++ [10] ++ l).toArray⟩ : ByteArray) = sTPANX at *
  generalize (⟨(tB ++ pB ++ cB ++ aB ++ [10]).toArray⟩ : ByteArray) = sTPCAN at *
  generalize (⟨(tB ++ pB ++ pB ++ aB ++ cB).toArray⟩ : ByteArray) = sTPPAC at *
  generalize (⟨(tB ++ tB ++ aB ++ cB ++ [10]).toArray⟩ : ByteArray) = sTTACN at *
  generalize (⟨(pB ++ tB ++ aB ++ cB).toArray⟩ : ByteArray) = sPTAC at *
  generalize (⟨(tB ++ eB ++ aB ++ cB).toArray⟩ : ByteArray) = sTEAC at *
  generalize (⟨(tB ++ pB ++ aB ++ aB).toArray⟩ : ByteArray) = sTPAA at *
  generalize (⟨(tB ++ pB ++ aB ++ cB).toArray⟩ : ByteArray) = sTPAC at *
  generalize (⟨(tB ++ pB ++ aB ++ [10]).toArray⟩ : ByteArray) = sTPAN at *
  generalize (⟨(tB ++ pB ++ cB ++ aB).toArray⟩ : ByteArray) = sTPCA at *
  generalize (⟨(tB ++ pB ++ pB ++ aB).toArray⟩ : ByteArray) = sTPPA at *
  generalize (⟨(tB ++ tB ++ aB ++ cB).toArray⟩ : ByteArray) = sTTAC at *
  generalize (⟨(pB ++ tB ++ aB).toArray⟩ : ByteArray) = sPTA at *
  generalize (⟨(tB ++ eB ++ aB).toArray⟩ : ByteArray) = sTEA at *
  generalize (⟨(tB ++ pB ++ aB).toArray⟩ : ByteArray) = sTPA at *
  generalize (⟨(tB ++ pB ++ cB).toArray⟩ : ByteArray) = sTPC at *
  generalize (⟨(tB ++ pB ++ pB).toArray⟩ : ByteArray) = sTPP at *
  generalize (⟨(tB ++ tB ++ aB).toArray⟩ : ByteArray) = sTTA at *
  generalize (⟨(pB ++ tB).toArray⟩ : ByteArray) = sPT at *
  generalize (⟨(tB ++ eB).toArray⟩ : ByteArray) = sTE at *
  generalize (⟨(tB ++ pB).toArray⟩ : ByteArray) = sTP at *
  generalize (⟨(tB ++ tB).toArray⟩ : ByteArray) = sTT at *
  generalize (⟨tB.toArray⟩ : ByteArray) = sT at *
  generalize (⟨pB.toArray⟩ : ByteArray) = sP at *
  generalize (⟨aB.toArray⟩ : ByteArray) = sA at *
  generalize (⟨cB.toArray⟩ : ByteArray) = sC at *
  generalize (⟨gB.toArray⟩ : ByteArray) = sG at *
  generalize (⟨eB.toArray⟩ : ByteArray) = sE at *
  generalize hsX : (⟨l.toArray⟩ : ByteArray) = sX at *
  have HSX := Lib.hid hsX
  clear hsX
  have HCELL := Lib.hid hcell
  clear hcell l1 l2 l3 l4 l5 l6
  obtain ⟨z, hz0, hzs, hzv, hzb, hz1⟩ := zRec_any
  have ZS := Lib.hid hzs; have ZB := Lib.hid hzb; have Z0 := Lib.hid hz0
  clear hz0 hzs hzb hz1
  obtain ⟨bl, hbl⟩ : ∃ n, BT.length = n := ⟨_, rfl⟩
  obtain ⟨gl, hgl⟩ : ∃ n, GT.length = n := ⟨_, rfl⟩
  rw [hbl] at SB CB
  rw [hgl] at SG CG
  clear hbl hgl
  have qc := HCELL.out _ _ (heap_alloc_new w (.cells #[.string sPTACNX, .string sTPCANX, .string sTPACGX, .string sTTACNX, .string sTPPACNX, .string sTPAACNX, .string sTPAC, .string sTPANX, .string sTEACNX] 9))
  obtain ⟨cap, w4, cv, b4, r4⟩ := SG.out (w.alloc (.cells #[.string sPTACNX, .string sTPCANX, .string sTPACGX, .string sTTACNX, .string sTPPACNX, .string sTPAACNX, .string sTPAC, .string sTPANX, .string sTEACNX] 9))
  have hE : (w.alloc (.cells #[.string sPTACNX, .string sTPCANX, .string sTPACGX, .string sTTACNX, .string sTPPACNX, .string sTPAACNX, .string sTPAC, .string sTPANX, .string sTEACNX] 9)).heap.size = w.heap.size + 1 := by simp
  have ha := (Below.refl w.heap.size w).alloc (Nat.le_refl _) (.cells #[.string sPTACNX, .string sTPCANX, .string sTPACGX, .string sTTACNX, .string sTPPACNX, .string sTPAACNX, .string sTPAC, .string sTPANX, .string sTEACNX] 9)
  have B4 := Lib.hid (ha.trans (b4.mono (by rw [hE]; exact Nat.le_succ _)))
  rw [hE] at cv r4
  have R4 := Lib.hid r4
  clear b4 r4 hE ha
  go_enter Tryz.func5, Tryz.ntmps5
  rw [hsT, hsP, hsA, hsC, hsG, hsE]
  clear hsT hsP hsA hsC hsG hsE
  go_wp2_with fail
  refine (FZ.out _).mono ?_
  rintro e w0 ⟨rfl, rfl⟩
  go_wp2_with fail
  refine (CG.out _ B4.out _ _ _ R4.out.bat rfl).mono ?_
  rintro e w5 ⟨AU, rfl, hu5, hb5⟩
  have B5 := Lib.hid (B4.out.trans (hb5.mono B4.out.size))
  have U5 := Lib.hid hu5
  obtain ⟨aus, auo⟩ := rec_size hu5
  have AUS := Lib.hid aus; have AUO := Lib.hid auo
  have IU := Lib.hid (infoC_arr AU aus)
  clear hb5 hu5 aus auo cv qc
  go_wp2_with (first
    | (with_reducible refine wpList_store_all rfl 28 (.tmp 11) (.tmp 133) rfl w5.heap.size AU rfl rfl 28 z (heap_alloc_new w5 _) IU.out (AUS.out.trans ZS.out.symm) AUO.out ?_)
    | fail)
  intro w6 hg6 ho6 hs6
  have hb6 := ((Below.refl w5.heap.size w5).alloc (Nat.le_refl _) (.cells z 28)).trans (ho6.below (Nat.le_refl _) (by simp))
  have B6 := Lib.hid (B5.out.trans (hb6.mono B5.out.size))
  have U6 := Lib.hid (U5.out.keep hb6)
  have KU6 := Lib.hid hg6
  clear hg6 ho6 hs6 hb6 U5
  generalize w5.heap.size = gu at *
  obtain ⟨cap2, w7, cv2, b7, r7⟩ := SB.out w6
  have B7 := Lib.hid (B6.out.trans (b7.mono B6.out.size))
  have U7 := Lib.hid (U6.out.keep b7)
  have KU7 := Lib.hid (heap_keep KU6.out b7)
  have R7 := Lib.hid r7
  clear b7 r7 U6 KU6
  go_wp2_with fail
  refine (CB.out _ B7.out _ _ _ R7.out.bat rfl).mono ?_
  rintro e w8 ⟨AV, rfl, hv8, hb8⟩
  have B8 := Lib.hid (B7.out.trans (hb8.mono B7.out.size))
  have U8 := Lib.hid (U7.out.keep hb8)
  have KU8 := Lib.hid (heap_keep KU7.out hb8)
  have V8 := Lib.hid hv8
  obtain ⟨avs, avo⟩ := rec_size hv8
  have AVS := Lib.hid avs; have AVO := Lib.hid avo
  have IV := Lib.hid (infoC_arr AV avs)
  clear hb8 hv8 avs avo cv2 U7 KU7
  go_wp2_with (first
    | (with_reducible refine wpList_store_all rfl 28 (.tmp 13) (.tmp 139) rfl w8.heap.size AV rfl rfl 28 z (heap_alloc_new w8 _) IV.out (AVS.out.trans ZS.out.symm) AVO.out ?_)
    | fail)
  intro w9 hg9 ho9 hs9
  have hb9 := ((Below.refl w8.heap.size w8).alloc (Nat.le_refl _) (.cells z 28)).trans (ho9.below (Nat.le_refl _) (by simp))
  have B9 := Lib.hid (B8.out.trans (hb9.mono B8.out.size))
  have U9 := Lib.hid (U8.out.keep hb9)
  have KU9 := Lib.hid (heap_keep KU8.out hb9)
  have V9 := Lib.hid (V8.out.keep hb9)
  have KV9 := Lib.hid hg9
  clear hg9 ho9 hs9 hb9 U8 KU8 V8
  generalize w8.heap.size = gv at *
  have RU := Lib.hid (fun u (hu : Below w9.heap.size w9 u) => (show ∃ pa cap, RecAt u gu oneD (.slice pa 1 cap) who5 who6 l from by
    obtain ⟨_, pa, cap, hA, _⟩ := U9.out
    have h := heap_keep KU9.out hu
    rw [hA] at h
    exact ⟨pa, cap, recAt_of rfl h⟩))
  obtain ⟨pa, pcap, hrec⟩ : ∃ pa cap, AU = arrC oneD (.slice pa 1 cap) who5 who6 l := by
    obtain ⟨_, pa, cap, hA, _⟩ := U9.out
    exact ⟨pa, cap, hA⟩
  have RA := Lib.hid (fun u (hu : Below w9.heap.size w9 u) => (show RecAt u gu oneD (.slice pa 1 pcap) who5 who6 l from by
    have h := heap_keep KU9.out hu
    rw [hrec] at h
    exact recAt_of rfl h))
  have LV := Lib.hid (fun u (hu : Below w9.heap.size w9 u) => row_arrD (heap_keep KV9.out hu))
  have QX := Lib.hid (fun u (hu : Below w9.heap.size w9 u) => (show u.cell? ⟨gu, 29, none⟩ = some (.string sX) from by rw [(RA.out u hu).text, HSX.out]))
  have QW := Lib.hid (fun u (hu : Below w9.heap.size w9 u) => (show u.cell? ⟨gu, 23, none⟩ = some (.int .i64 5) from (RA.out u hu).author 2 _ rfl))
  have QZ := Lib.hid (fun u (hu : Below w9.heap.size w9 u) => (show u.cell? ⟨gu, 28, none⟩ = some (.int .i64 (-60)) from (RA.out u hu).committer 3 _ rfl))
  have QP := Lib.hid (fun u (hu : Below w9.heap.size w9 u) => (show u.cell? ⟨gu, 20, none⟩ = some (.slice pa 1 pcap) from (RA.out u hu).parents))
  have CA9 := Lib.hid (fun u (hu : Below w9.heap.size w9 u) => CA.out u (B9.out.trans (hu.mono B9.out.size)))
  have CRC := Lib.hid (fun u (hu : Below w9.heap.size w9 u) => record_red AV z rcdZ u (V9.out.keep hu) (by rw [Z0.out]; exact recRed_zero u) (by decide))
  clear hrec
  go_wp2_with fail
  refine (CA9.out _ (Below.refl _ _)).mono ?_
  rintro e w10 ⟨rfl, hI⟩
  have qx := QX.out w10 hI
  have qw := QW.out w10 hI
  have qz := QZ.out w10 hI
  have qp := QP.out w10 hI
  have KV10 := Lib.hid (heap_keep KV9.out hI)
  have HI := Lib.hid hI
  clear hI
  go_wp2_with (first
    | (refine wpList_build_none rfl 28 rfl _ ZB.out ?_)
    | (with_reducible refine wpList_load_all 28 (.tmp 13) rfl (by kernel_rfl) gv AV 28 (0, 0) rfl KV10.out _ Tryz.underlying28 rfl IV.out ?_)
    | fail)
  refine (CRC.out _ HI.out).mono ?_
  rintro e w11 ⟨rfl, hI2⟩
  have BE := Lib.hid (B9.out.trans ((HI.out.trans (hI2.mono HI.out.size)).mono B9.out.size))
  clear hI2
  go_wp2
  go_ret
  exact ⟨rfl, BE.out⟩
theorem walk (w : World) (l : List UInt8) (hm : l.length ≤ maxLen) (x : Int) (h0 : -9223372036854775808 ≤ x) (h1 : x ≤ 9223372036854775807) (tab : T7 w) :
    Calls Tryz.prog 5 #[.string ⟨l.toArray⟩, .int .i64 x] w fun e w' => e = .returned (.bool true) ∧ Below w.heap.size w w' := by
  by_cases h : l.length ≤ 500
  · rcases find_zero l with ⟨hf, hno⟩ | ⟨k, hf, hno⟩
    · exact walk_good w l h hf hno x tab
    · exact walk_zero w l h k hf x tab
  · exact walk_long w l (by omega) hm x tab
end Go.Proofs.YtonkclkopmdahaaGreatDoor.commitHeaders
