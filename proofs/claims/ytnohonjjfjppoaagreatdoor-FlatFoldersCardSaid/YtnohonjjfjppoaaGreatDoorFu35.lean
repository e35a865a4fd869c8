/-
  Texts that belong together, one behind the other.
-/
import Derived.Test.YtnohonjjfjppoaaGreatDoorFu33
import Derived.Test.YtnohonjjfjppoaaGreatDoorFu05
import Derived.OwnWalk
import Derived.WalkSmall
import Derived.IntWalk
import Derived.Lib.Hide
import Derived.Test.YtnohonjjfjppoaaGreatDoorFu07
import Derived.Test.YtnohonjjfjppoaaGreatDoorFu09
/-
  Layer 13: the folders of the law FlatFolders, reckoned. (Made by tools/genfol13.py.)
-/
namespace Go.Proofs.YtnohonjjfjppoaaGreatDoor
set_option linter.unusedVariables false
set_option linter.unusedSimpArgs false
set_option maxRecDepth 20000
def nmF : Nat → List UInt8
  | 0 => [97]
  | 1 => [98]
  | _ => [122]
def xF (a : Nat) : Nat → Itm
  | 0 => ⟨4, nmF a, dgE⟩
  | 1 => ⟨4, nmF a, one9⟩
  | 2 => ⟨4, nmF a, dgX⟩
  | _ => ⟨1, nmF a, one9⟩
def idF : Nat → Nat → List UInt8
  | 0, 0 => dgFa0 | 0, 1 => dgFa1 | 0, 2 => dgFa2 | 0, _ => dgFa3
  | 1, 0 => dgFb0 | 1, 1 => dgFb1 | 1, 2 => dgFb2 | 1, _ => dgFb3
  | _, 0 => dgFz0 | _, 1 => dgFz1 | _, 2 => dgFz2 | _, _ => dgFz3
def eF : Nat → Int
  | 0 => 4
  | 1 => 6
  | 2 => 10
  | _ => 0
def rF (a : Nat) : Nat → Option Fil
  | 0 => none
  | 1 => none
  | 2 => none
  | _ => some ⟨nmF a, 1, one9⟩
theorem sum_F : ∀ a b, a < 3 → b < 4 → sumO 2 (flatI [xF a b]) = idF a b
  | 0, 0, _, _ => dgFa0_is
  | 0, 1, _, _ => dgFa1_is
  | 0, 2, _, _ => dgFa2_is
  | 0, 3, _, _ => dgFa3_is
  | 1, 0, _, _ => dgFb0_is
  | 1, 1, _, _ => dgFb1_is
  | 1, 2, _, _ => dgFb2_is
  | 1, 3, _, _ => dgFb3_is
  | 2, 0, _, _ => dgFz0_is
  | 2, 1, _, _ => dgFz1_is
  | 2, 2, _, _ => dgFz2_is
  | 2, 3, _, _ => dgFz3_is
  | a + 3, _, h, _ => absurd h (by omega)
  | 0, b + 4, _, h => absurd h (by omega)
  | 1, b + 4, _, h => absurd h (by omega)
  | 2, b + 4, _, h => absurd h (by omega)
theorem ids_F : ∀ a, a < 3 → ∀ b, b < 4 → (idF a b).length = 20 ∧ (idF a b == dgE) = false ∧ idF a b ≠ dgE ∧ idF a b ≠ dgX ∧ idF a b ≠ one9 ∧ oneI (xF a b) = true ∧ (xF a b).id.length = 20 ∧ pathL (nmF a) = true := by decide +kernel
def M1F : List Cel := [⟨dgE, 2, []⟩, ⟨dgX, 1, [120]⟩]
def M2F (a b : Nat) : List Cel := M1F ++ [⟨idF a b, 2, flatI [xF a b]⟩]
theorem put1_F : putM [] 2 [] = ([⟨dgE, 2, []⟩], dgE, 0) := putM_new (M := []) (print2_ok [] (by decide)) dgE_is rfl
theorem put2_F : putM [⟨dgE, 2, []⟩] 1 [120] = (M1F, dgX, 0) := putM_new (M := [⟨dgE, 2, []⟩]) (by rw [printO_ok 1 [120] (by unfold kindO; omega) (by decide)]) dgX_is (by
  unfold getM
  rw [List.find?_eq_none]
  intro c hc
  rw [List.mem_singleton.1 hc]
  decide)
theorem put3_F (a b : Nat) (ha : a < 3) (hb : b < 4) : putM M1F 2 (flatI [xF a b]) = (M2F a b, idF a b, 0) := by
  have h := ids_F a ha b hb
  have hp := printT_single h.2.2.2.2.2.1 h.2.2.2.2.2.2.1
  refine putM_new (print2_ok _ (by omega)) (sum_F a b ha hb) ?_
  unfold getM
  rw [List.find?_eq_none]
  intro c hc he
  have he : c.id = idF a b := by simpa using he
  simp only [M1F, List.mem_cons, List.not_mem_nil, or_false] at hc
  rcases hc with rfl | rfl
  · exact h.2.2.1 he.symm
  · exact h.2.2.2.1 he.symm
theorem get_own (a b : Nat) (ha : a < 3) (hb : b < 4) : getM (M2F a b) (idF a b) = some ⟨idF a b, 2, flatI [xF a b]⟩ := by
  have h := ids_F a ha b hb
  unfold getM M2F M1F
  simp [List.find?, beq_false_of_ne (Ne.symm h.2.2.1), beq_false_of_ne (Ne.symm h.2.2.2.1)]
theorem get_E (a b : Nat) : getM (M2F a b) dgE = some ⟨dgE, 2, []⟩ := by
  unfold getM M2F M1F
  simp [List.find?]
theorem get_X (a b : Nat) : getM (M2F a b) dgX = some ⟨dgX, 1, [120]⟩ := by
  have h : (dgE == dgX) = false := by decide
  unfold getM M2F M1F
  simp [List.find?, h]
theorem get_9 (a b : Nat) (ha : a < 3) (hb : b < 4) : getM (M2F a b) one9 = none := by
  have h := ids_F a ha b hb
  have h1 : (dgE == one9) = false := by decide
  have h2 : (dgX == one9) = false := by decide
  unfold getM M2F M1F
  simp [List.find?, h1, h2, beq_false_of_ne h.2.2.2.2.1]
theorem rd_F : ∀ a b, a < 3 → b < 4 → Rd (M2F a b) (idF a b) [] (rF a b) (eF b) := by
  intro a b ha hb
  have h := ids_F a ha b hb
  have hT := tree_single h.2.2.2.2.2.1 h.2.2.2.2.2.2.1 (get_own a b ha hb)
  match b, hb with
  | 0, hb =>
    refine Rd.tree (x := xF a 0) hT rfl rfl h.2.2.2.2.2.2.2 (Rd.empty ?_)
    show TreeS (getM (M2F a 0) dgE) [] 0
    rw [get_E]
    exact .inr (.inl ⟨by decide, rfl, rfl, (fun i hi => by cases hi), .inl rfl⟩)
  | 1, hb =>
    refine Rd.tree (x := xF a 1) hT rfl rfl h.2.2.2.2.2.2.2 (Rd.bad (p := []) ?_ (by decide))
    show TreeS (getM (M2F a 1) one9) [] 6
    rw [get_9 a 1 ha hb]
    exact ⟨rfl, rfl⟩
  | 2, hb =>
    refine Rd.tree (x := xF a 2) hT rfl rfl h.2.2.2.2.2.2.2 (Rd.bad (p := []) ?_ (by decide))
    show TreeS (getM (M2F a 2) dgX) [] 10
    rw [get_X]
    exact ⟨rfl, rfl⟩
  | 3, hb => exact Rd.file (x := xF a 3) hT rfl (by show (1 : Int) ≠ 4; decide) h.2.2.2.2.2.2.2
end Go.Proofs.YtnohonjjfjppoaaGreatDoor

/-
  Helpers of the statements: Find of a byte, from a place on.
-/
namespace Go.Proofs.YtnohonjjfjppoaaGreatDoor
set_option maxRecDepth 20000
open Go.RowKit
set_option linter.unusedVariables false
set_option linter.unusedSimpArgs false
/-- Where a byte stands first, from a place on; -1. -/
def findB (s : List UInt8) (c : UInt8) (k : Nat) : Int := if (s.drop k).findIdx (· == c) < (s.drop k).length then k + ((s.drop k).findIdx (· == c) : Nat) else -1
theorem findB_at (s : List UInt8) (c d : UInt8) (hd : d ≠ c) (k i : Nat) (hk : k ≤ i) (hi : i < s.length) (h : s.getD i d = c) (hn : ∀ j, k ≤ j → j < i → s.getD j d ≠ c) : findB s c k = i := by
  have hl : (s.drop k).length = s.length - k := List.length_drop
  have e : (s.drop k).findIdx (· == c) = i - k := by
    rw [List.findIdx_eq (by omega)]
    refine ⟨?_, fun j hj => ?_⟩
    · rw [List.getD_eq_getElem?_getD, List.getElem?_eq_getElem hi] at h
      simp only [Option.getD_some] at h
      rw [List.getElem_drop]
      simp only [show k + (i - k) = i by omega, h]
      simp
    · have := hn (k + j) (by omega) (by omega)
      rw [List.getD_eq_getElem?_getD, List.getElem?_eq_getElem (by omega)] at this
      simp only [Option.getD_some] at this
      rw [List.getElem_drop]
      exact beq_false_of_ne this
  unfold findB
  rw [e, if_pos (by omega)]
  omega
theorem findB_no (s : List UInt8) (c d : UInt8) (k : Nat) (hn : ∀ j, k ≤ j → j < s.length → s.getD j d ≠ c) : findB s c k = -1 := by
  unfold findB
  rw [if_neg]
  intro h
  have hl : (s.drop k).length = s.length - k := List.length_drop
  have h2 := List.findIdx_getElem (p := (· == c)) (w := h)
  rw [List.getElem_drop] at h2
  have := hn (k + (s.drop k).findIdx (· == c)) (by omega) (by omega)
  rw [List.getD_eq_getElem?_getD, List.getElem?_eq_getElem (by omega)] at this
  simp only [Option.getD_some] at this
  exact this (eq_of_beq h2)
theorem cut_oneB (s : List UInt8) (d : UInt8) (i : Nat) (hi : i < s.length) : (⟨s.toArray⟩ : ByteArray).extract i (i + 1) = ⟨[s.getD i d].toArray⟩ := by
  rw [ext_list, Nat.add_sub_cancel_left, List.getD_eq_getElem?_getD, List.getElem?_eq_getElem hi]
  rw [List.drop_eq_getElem_cons hi]
  rfl
theorem other_byte (c : UInt8) : ∃ d : UInt8, d ≠ c := ⟨c + 1, by intro h; have := congrArg UInt8.toNat h; rw [UInt8.toNat_add] at this; simp at this; have h2 := c.toNat_lt; omega⟩
set_option maxHeartbeats 4000000 in
theorem Find_byte (c : UInt8) (s : List UInt8) (k : Nat) (hs : s.length ≤ 1000000) (hk : k ≤ s.length) (w : World) :
    Calls Tryz.prog 97 #[.string ⟨s.toArray⟩, .string ⟨#[c]⟩, .int .i64 k] w fun e w' => e = .returned (.int .i64 (findB s c k)) ∧ w = w' := by
  obtain ⟨d, hd⟩ := other_byte c
  have z1 := size_toArray s
  have z2 : (⟨#[c]⟩ : ByteArray).size = 1 := rfl
  have CO := Lib.hid (fun i hi => cut_oneB s d i hi)
  have FA := Lib.hid (fun i h1 h2 h3 h4 => findB_at s c d hd k i h1 h2 h3 h4)
  have FN := Lib.hid (fun h => findB_no s c d k h)
  obtain ⟨R, hR⟩ : ∃ R, findB s c k = R := ⟨_, rfl⟩
  rw [hR] at FA FN ⊢
  clear hR
  generalize (⟨s.toArray⟩ : ByteArray) = S at *
  go_enter Tryz.func97, Tryz.ntmps97
  go_wp2_with fail
  go_loop [7] (fun v => ∃ i : Nat, k ≤ i ∧ i ≤ s.length ∧ v = .int .i64 i ∧ ∀ j, k ≤ j → j < i → s.getD j d ≠ c) (fun v => s.length - (intOf v).toNat)
  case atStart => exact ⟨k, Nat.le_refl _, hk, rfl, fun j h1 hj => absurd hj (Nat.not_lt.2 h1)⟩
  case round =>
    obtain ⟨i, hki, hi, rfl, hno⟩ := hrel
    have HNO := Lib.hid hno
    clear hno
    by_cases hlt : i < s.length
    · have ex := CO.out i hlt
      by_cases h0 : s.getD i d = c
      · have hz := FA.out i hki hlt h0 HNO.out
        rw [h0] at ex
        subst hz
        clear h0
        go_wp2
        go_ret
        exact ⟨rfl, rfl⟩
      · have hb2 : (s.getD i d == c) = false := beq_false_of_ne h0
        have H0 := Lib.hid h0
        clear h0
        generalize hg : s.getD i d = x at ex hb2
        have HG := Lib.hid hg
        clear hg
        go_wp2
        go_round
        case rel =>
          refine ⟨i + 1, by omega, by omega, by go_num, fun j h1 hj => ?_⟩
          by_cases h : j < i
          · exact HNO.out j h1 h
          · obtain rfl : j = i := by omega
            exact H0.out
        case measure => simp [intOf]; omega
    · have hi2 : i = s.length := by omega
      have hz := FN.out (fun j h1 hj => HNO.out j h1 (by omega))
      subst hz
      go_wp2
      go_ret
      exact ⟨rfl, rfl⟩
end Go.Proofs.YtnohonjjfjppoaaGreatDoor

/-
  Layer 3: paths of the reference.
-/
namespace Go.Proofs.YtnohonjjfjppoaaGreatDoor
open Go.RowKit
set_option linter.unusedVariables false
set_option linter.unusedSimpArgs false
theorem path_short (l : List UInt8) (h : l.length < 1 ∨ 400 < l.length ∨ Lib.validD l = false) : pathL l = false := by
  unfold pathL
  rcases h with h | h | h
  · simp [show ¬ 1 ≤ l.length by omega]
  · simp [show ¬ l.length ≤ 400 by omega]
  · simp [h]
/-- How far the names are told. -/
def Told (l : List UInt8) (i a n : Nat) : Prop :=
  (i ≤ l.length ∧ a ≤ i ∧ n ≤ i + 1 ∧ PathAt l a n ∧ (∀ j, a ≤ j → j < i → (l.getD j 0).toNat ≠ 47) ∧ ∀ j, j < i → (l.getD j 0).toNat ≠ 0) ∨ (i = l.length + 1 ∧ n ≤ l.length + 1 ∧ pathL l = decide (n ≤ 16))
set_option maxHeartbeats 8000000 in
set_option maxRecDepth 100000 in
theorem rPath_is (l : List UInt8) (w : World) (hn : l.length ≤ 1000000) (hV : ∀ w', Below w.heap.size w w' → Calls Tryz.prog 71 #[.string ⟨l.toArray⟩] w' fun e w'' => e = .returned (.bool (Lib.validD l)) ∧ Below w'.heap.size w' w'') :
    Calls Tryz.prog 38 #[.string ⟨l.toArray⟩] w fun e w' => e = .returned (.bool (pathL l)) ∧ Below w.heap.size w w' := by
  have hsz := size_toArray l
  have hget : ∀ i, i < l.length → ∀ h2 : i < (⟨l.toArray⟩ : ByteArray).size, (⟨l.toArray⟩ : ByteArray)[i]'h2 = l.getD i 0 := fun i h h2 => getD_str l i h h2
  have hcut : ∀ a i, (⟨l.toArray⟩ : ByteArray).extract a i = ⟨(cutL l a i).toArray⟩ := fun a i => ext_list l a i
  obtain ⟨s, hs⟩ : ∃ s : ByteArray, s = ⟨l.toArray⟩ := ⟨_, rfl⟩
  rw [← hs] at hsz hget hV hcut ⊢
  have HGET := Lib.hid hget
  have HCUT := Lib.hid hcut
  have cV := hV w (Below.refl _ _)
  clear hs hget hV hcut
  by_cases h1 : l.length < 1
  · have R := Lib.hid (path_short l (.inl h1))
    clear cV
    go_enter Tryz.func38, Tryz.ntmps38
    go_wp2
    go_ret
    exact ⟨ret_bool R.out.symm, Below.refl _ _⟩
  by_cases h2 : 400 < l.length
  · have R := Lib.hid (path_short l (.inr (.inl h2)))
    clear cV
    go_enter Tryz.func38, Tryz.ntmps38
    go_wp2
    go_ret
    exact ⟨ret_bool R.out.symm, Below.refl _ _⟩
  cases hv : Lib.validD l with
  | false =>
    have R := Lib.hid (path_short l (.inr (.inr hv)))
    rw [hv] at cV
    clear hv
    go_enter Tryz.func38, Tryz.ntmps38
    go_wp2_with fail
    refine cV.mono ?_
    rintro e w1 ⟨rfl, b1⟩
    go_wp2
    go_ret
    exact ⟨ret_bool R.out.symm, b1⟩
  | true =>
    rw [hv] at cV
    have HV := Lib.hid hv
    clear hv
    go_enter Tryz.func38, Tryz.ntmps38
    go_wp2_with fail
    refine cV.mono ?_
    rintro e w1 ⟨rfl, b1⟩
    clear cV
    go_wp2_with fail
    go_loopw [3, 4, 5] (fun vn va vi wr => ∃ (i a n : Nat), vn = .int .i64 n ∧ va = .int .i64 a ∧ vi = .int .i64 i ∧ Below w.heap.size w wr ∧ i ≤ l.length + 1 ∧ n ≤ l.length + 1 ∧ Hid (Told l i a n)) (fun _ _ vi _ => l.length + 2 - (intOf vi).toNat)
    case atStart => exact ⟨0, 0, 1, rfl, rfl, rfl, b1, by omega, by omega, Lib.hid (.inl ⟨Nat.zero_le _, Nat.le_refl _, by omega, PathAt.start l, fun j _ h => absurd h (Nat.not_lt_zero _), fun j h => absurd h (Nat.not_lt_zero _)⟩)⟩
    case round =>
      obtain ⟨i, a, n, rfl, rfl, rfl, hbr, hi, hnn, TO⟩ := hrel
      by_cases hend : i = l.length + 1
      · have R : Hid (pathL l = decide (n ≤ 16)) := Lib.hid (by
          rcases TO.out with ⟨h, _⟩ | ⟨_, _, h⟩
          · omega
          · exact h)
        have hle : ¬ (i : Int) ≤ (l.length : Int) := by omega
        clear hend
        go_wp2
        go_ret
        refine ⟨ret_bool ?_, hbr⟩
        rw [R.out, decide_eq_decide]
        omega
      · obtain ⟨hil, hai, hni, hpa, hno, hz⟩ : i ≤ l.length ∧ a ≤ i ∧ n ≤ i + 1 ∧ PathAt l a n ∧ (∀ j, a ≤ j → j < i → (l.getD j 0).toNat ≠ 47) ∧ ∀ j, j < i → (l.getD j 0).toNat ≠ 0 := by
          rcases TO.out with h | ⟨h, _⟩
          · exact h
          · exact absurd h hend
        have cN := fun w => rname_is (cutL l a i) w (by unfold cutL; simp; omega)
        have hx := HCUT.out a i
        have hle : (i : Int) ≤ (l.length : Int) := by omega
        have haz : (a : Int) ≤ (i : Int) := by omega
        obtain ⟨t, ht⟩ : ∃ t : ByteArray, t = ⟨(cutL l a i).toArray⟩ := ⟨_, rfl⟩
        rw [← ht] at cN hx
        have PA := Lib.hid hpa
        have NO := Lib.hid hno
        have HZ := Lib.hid hz
        clear ht hend TO hpa hno hz
        by_cases hlt : i < l.length
        · have hc := HGET.out i hlt (by omega)
          obtain ⟨x, hxe⟩ : ∃ x : UInt8, x = l.getD i 0 := ⟨_, rfl⟩
          rw [← hxe] at hc
          have XE := Lib.hid hxe
          clear hxe
          by_cases x0 : x.toNat = 0
          · have f0 : ((x.toNat : Int) == 0) = true := by simp [x0]
            have R := Lib.hid (zero_bad l i hlt (by rw [← XE.out]; exact x0))
            clear x0 cN
            go_wp2
            go_ret
            exact ⟨ret_bool R.out.symm, hbr⟩
          · have f0 : ((x.toNat : Int) == 0) = false := by simp; omega
            have fe : ((i : Int) == (l.length : Int)) = false := by simp; omega
            have NZ : Hid (∀ j, j < i + 1 → (l.getD j 0).toNat ≠ 0) := Lib.hid fun j hj => by
              by_cases h : j < i
              · exact HZ.out j h
              · obtain rfl : j = i := by omega
                rw [← XE.out]; exact x0
            by_cases x47 : x.toNat = 47
            · have f1 : ((x.toNat : Int) == 47) = true := by simp [x47]
              have S := Lib.hid (show (l.getD i 0).toNat = 47 by rw [← XE.out]; exact x47)
              cases hN : nameL (cutL l a i) with
              | false =>
                rw [hN] at cN
                have R := Lib.hid (PA.out.bad hai hil NO.out (fun _ => S.out) hN)
                clear x0 x47 hN
                go_wp2_with fail
                refine (cN _).mono ?_
                rintro e w2 ⟨rfl, b2⟩
                go_wp2
                go_ret
                exact ⟨ret_bool R.out.symm, hbr.trans (b2.mono hbr.size)⟩
              | true =>
                rw [hN] at cN
                have R := Lib.hid (PA.out.next hai hlt NO.out S.out hN)
                clear x0 x47 hN
                go_wp2_with fail
                refine (cN _).mono ?_
                rintro e w2 ⟨rfl, b2⟩
                go_wp2
                go_roundw
                case rel => exact ⟨i + 1, i + 1, n + 1, by go_num, by go_num, by go_num, hbr.trans (b2.mono hbr.size), by omega, by omega, Lib.hid (.inl ⟨by omega, by omega, by omega, R.out, fun j h1 h2 => by omega, NZ.out⟩)⟩
                case measure => simp [intOf]; omega
            · have f1 : ((x.toNat : Int) == 47) = false := by simp; omega
              have NS : Hid (∀ j, a ≤ j → j < i + 1 → (l.getD j 0).toNat ≠ 47) := Lib.hid fun j h1 hj => by
                by_cases h : j < i
                · exact NO.out j h1 h
                · obtain rfl : j = i := by omega
                  rw [← XE.out]; exact x47
              clear x0 x47 cN
              go_wp2
              go_roundw
              case rel => exact ⟨i + 1, a, n, rfl, rfl, by go_num, hbr, by omega, by omega, Lib.hid (.inl ⟨by omega, by omega, by omega, PA.out, NS.out, NZ.out⟩)⟩
              case measure => simp [intOf]; omega
        · obtain rfl : i = l.length := by omega
          have fe : ((l.length : Int) == (l.length : Int)) = true := by simp
          cases hN : nameL (cutL l a l.length) with
          | false =>
            rw [hN] at cN
            have R := Lib.hid (PA.out.bad hai hil NO.out (fun h => absurd h (by omega)) hN)
            clear hN
            go_wp2_with fail
            refine (cN _).mono ?_
            rintro e w2 ⟨rfl, b2⟩
            go_wp2
            go_ret
            exact ⟨ret_bool R.out.symm, hbr.trans (b2.mono hbr.size)⟩
          | true =>
            rw [hN] at cN
            have R := Lib.hid (PA.out.fin NO.out hN (by omega) (by omega) HV.out HZ.out)
            clear hN
            go_wp2_with fail
            refine (cN _).mono ?_
            rintro e w2 ⟨rfl, b2⟩
            go_wp2
            go_roundw
            case rel => exact ⟨l.length + 1, l.length + 1, n, rfl, by go_num, by go_num, hbr.trans (b2.mono hbr.size), by omega, by omega, Lib.hid (.inr ⟨rfl, by omega, R.out⟩)⟩
            case measure => simp [intOf]
end Go.Proofs.YtnohonjjfjppoaaGreatDoor

/-
  Layer 8: Name of the document's answers.
-/
namespace Go.Proofs.YtnohonjjfjppoaaGreatDoor
set_option maxRecDepth 20000
open Go.RowKit
set_option linter.unusedVariables false
set_option linter.unusedSimpArgs false
theorem find_any (s : List UInt8) (c : UInt8) : decide (findB s c 0 < 0) = !s.any (fun x => x == c) := by
  unfold findB
  rw [List.drop_zero]
  by_cases h : s.findIdx (· == c) < s.length
  · rw [if_pos h]
    have h2 : s.any (fun x => x == c) = true := by
      rw [List.any_eq_true]
      exact ⟨s[s.findIdx (· == c)], List.getElem_mem h, List.findIdx_getElem (p := (· == c)) (w := h)⟩
    rw [h2]
    simp
  · rw [if_neg h]
    have h2 : s.any (fun x => x == c) = false := by
      rw [List.any_eq_false]
      intro x hx hc
      exact h (List.findIdx_lt_length.2 ⟨x, hx, hc⟩)
    rw [h2]
    rfl
set_option maxHeartbeats 2000000 in
theorem rName_is (s : List UInt8) (w : World) (hs : s.length ≤ 1000000) (tab : QTab w) :
    Calls Tryz.prog 87 #[.string ⟨s.toArray⟩] w fun e w' => e = .returned (.bool (nameI s)) ∧ Below w.heap.size w w' := by
  have c1 := rPath_is s w hs (fun w' hb => valid_is s w' (by omega) (Utf8Tabs_below tab.utf hb))
  have c2 := fun w => Find_byte 47 s 0 hs (Nat.zero_le _) w
  have hf := find_any s 47
  unfold nameI
  obtain ⟨z, hz⟩ : ∃ z, findB s 47 0 = z := ⟨_, rfl⟩
  rw [hz] at c2 hf
  generalize (⟨s.toArray⟩ : ByteArray) = S at *
  generalize (!s.any fun x => x == 47) = r at *
  cases hp : pathL s with
  | false =>
    rw [hp] at c1
    clear hz hs tab c2 hf
    go_enter Tryz.func87, Tryz.ntmps87
    go_wp2_with fail
    refine c1.mono ?_
    rintro e w1 ⟨rfl, b1⟩
    have B1 := Lib.hid b1
    clear b1
    go_wp2
    go_ret
    exact ⟨rfl, B1.out⟩
  | true =>
    rw [hp] at c1
    clear hz hs tab
    go_enter Tryz.func87, Tryz.ntmps87
    go_wp2_with fail
    refine c1.mono ?_
    rintro e w1 ⟨rfl, b1⟩
    have B1 := Lib.hid b1
    clear b1
    go_wp2_with fail
    refine (c2 _).mono ?_
    rintro e w2 ⟨rfl, rfl⟩
    go_wp2
    go_ret
    exact ⟨by simp, B1.out⟩
end Go.Proofs.YtnohonjjfjppoaaGreatDoor
