/-
  Layer 3: paths of the reference.
-/
import Derived.Test.YtkhfgddjnnibdaaDoorQn
namespace Go.Proofs.YtkhfgddjnnibdaaDoor
open Go.RowKit
set_option linter.unusedVariables false
set_option linter.unusedSimpArgs false

theorem path_short (l : List UInt8) (h : l.length < 1 ∨ 400 < l.length ∨ Lib.validD l = false) : pathL l = false := by
  unfold pathL
  rcases h with h | h | h
  · simp [show ¬ 1 ≤ l.length by omega]
  · simp [show ¬ l.length ≤ 400 by omega]
  · simp [h]

/-- How far the names are told. -/
def Told (l : List UInt8) (i a n : Nat) : Prop :=
  (i ≤ l.length ∧ a ≤ i ∧ n ≤ i + 1 ∧ PathAt l a n ∧ (∀ j, a ≤ j → j < i → (l.getD j 0).toNat ≠ 47) ∧ ∀ j, j < i → (l.getD j 0).toNat ≠ 0) ∨ (i = l.length + 1 ∧ n ≤ l.length + 1 ∧ pathL l = decide (n ≤ 16))

set_option maxHeartbeats 8000000 in
set_option maxRecDepth 100000 in
theorem rPath_is (l : List UInt8) (w : World) (hn : l.length ≤ 1000000) (hV : ∀ w', Below w.heap.size w w' → Calls Tryd.prog 17 #[.string ⟨l.toArray⟩] w' fun e w'' => e = .returned (.bool (Lib.validD l)) ∧ Below w'.heap.size w' w'') :
    Calls Tryd.prog 10 #[.string ⟨l.toArray⟩] w fun e w' => e = .returned (.bool (pathL l)) ∧ Below w.heap.size w w' := by
  have hsz := size_toArray l
  have hget : ∀ i, i < l.length → ∀ h2 : i < (⟨l.toArray⟩ : ByteArray).size, (⟨l.toArray⟩ : ByteArray)[i]'h2 = l.getD i 0 := fun i h h2 => getD_str l i h h2
  have hcut : ∀ a i, (⟨l.toArray⟩ : ByteArray).extract a i = ⟨(cutL l a i).toArray⟩ := fun a i => ext_list l a i
  obtain ⟨s, hs⟩ : ∃ s : ByteArray, s = ⟨l.toArray⟩ := ⟨_, rfl⟩
  rw [← hs] at hsz hget hV hcut ⊢
  have HGET := Lib.hid hget
  have HCUT := Lib.hid hcut
  have cV := hV w (Below.refl _ _)
  clear hs hget hV hcut
  by_cases h1 : l.length < 1
  · have R := Lib.hid (path_short l (.inl h1))
    clear cV
    go_enter Tryd.func10, Tryd.ntmps10
    go_wp2
    go_ret
    exact ⟨ret_bool R.out.symm, Below.refl _ _⟩
  by_cases h2 : 400 < l.length
  · have R := Lib.hid (path_short l (.inr (.inl h2)))
    clear cV
    go_enter Tryd.func10, Tryd.ntmps10
    go_wp2
    go_ret
    exact ⟨ret_bool R.out.symm, Below.refl _ _⟩
  cases hv : Lib.validD l with
  | false =>
    have R := Lib.hid (path_short l (.inr (.inr hv)))
    rw [hv] at cV
    clear hv
    go_enter Tryd.func10, Tryd.ntmps10
    go_wp2_with fail
    refine cV.mono ?_
    rintro e w1 ⟨rfl, b1⟩
    go_wp2
    go_ret
    exact ⟨ret_bool R.out.symm, b1⟩
  | true =>
    rw [hv] at cV
    have HV := Lib.hid hv
    clear hv
    go_enter Tryd.func10, Tryd.ntmps10
    go_wp2_with fail
    refine cV.mono ?_
    rintro e w1 ⟨rfl, b1⟩
    clear cV
    go_wp2_with fail
    go_loopw [3, 4, 5] (fun vn va vi wr => ∃ (i a n : Nat), vn = .int .i64 n ∧ va = .int .i64 a ∧ vi = .int .i64 i ∧ Below w.heap.size w wr ∧ i ≤ l.length + 1 ∧ n ≤ l.length + 1 ∧ Hid (Told l i a n)) (fun _ _ vi _ => l.length + 2 - (intOf vi).toNat)
    case atStart => exact ⟨0, 0, 1, rfl, rfl, rfl, b1, by omega, by omega, Lib.hid (.inl ⟨Nat.zero_le _, Nat.le_refl _, by omega, PathAt.start l, fun j _ h => absurd h (Nat.not_lt_zero _), fun j h => absurd h (Nat.not_lt_zero _)⟩)⟩
    case round =>
      obtain ⟨i, a, n, rfl, rfl, rfl, hbr, hi, hnn, TO⟩ := hrel
      by_cases hend : i = l.length + 1
      · have R : Hid (pathL l = decide (n ≤ 16)) := Lib.hid (by
          rcases TO.out with ⟨h, _⟩ | ⟨_, _, h⟩
          · omega
          · exact h)
        have hle : ¬ (i : Int) ≤ (l.length : Int) := by omega
        clear hend
        go_wp2
        go_ret
        refine ⟨ret_bool ?_, hbr⟩
        rw [R.out, decide_eq_decide]
        omega
      · obtain ⟨hil, hai, hni, hpa, hno, hz⟩ : i ≤ l.length ∧ a ≤ i ∧ n ≤ i + 1 ∧ PathAt l a n ∧ (∀ j, a ≤ j → j < i → (l.getD j 0).toNat ≠ 47) ∧ ∀ j, j < i → (l.getD j 0).toNat ≠ 0 := by
          rcases TO.out with h | ⟨h, _⟩
          · exact h
          · exact absurd h hend
        have cN := fun w => rname_is (cutL l a i) w (by unfold cutL; simp; omega)
        have hx := HCUT.out a i
        have hle : (i : Int) ≤ (l.length : Int) := by omega
        have haz : (a : Int) ≤ (i : Int) := by omega
        obtain ⟨t, ht⟩ : ∃ t : ByteArray, t = ⟨(cutL l a i).toArray⟩ := ⟨_, rfl⟩
        rw [← ht] at cN hx
        have PA := Lib.hid hpa
        have NO := Lib.hid hno
        have HZ := Lib.hid hz
        clear ht hend TO hpa hno hz
        by_cases hlt : i < l.length
        · have hc := HGET.out i hlt (by omega)
          obtain ⟨x, hxe⟩ : ∃ x : UInt8, x = l.getD i 0 := ⟨_, rfl⟩
          rw [← hxe] at hc
          have XE := Lib.hid hxe
          clear hxe
          by_cases x0 : x.toNat = 0
          · have f0 : ((x.toNat : Int) == 0) = true := by simp [x0]
            have R := Lib.hid (zero_bad l i hlt (by rw [← XE.out]; exact x0))
            clear x0 cN
            go_wp2
            go_ret
            exact ⟨ret_bool R.out.symm, hbr⟩
          · have f0 : ((x.toNat : Int) == 0) = false := by simp; omega
            have fe : ((i : Int) == (l.length : Int)) = false := by simp; omega
            have NZ : Hid (∀ j, j < i + 1 → (l.getD j 0).toNat ≠ 0) := Lib.hid fun j hj => by
              by_cases h : j < i
              · exact HZ.out j h
              · obtain rfl : j = i := by omega
                rw [← XE.out]; exact x0
            by_cases x47 : x.toNat = 47
            · have f1 : ((x.toNat : Int) == 47) = true := by simp [x47]
              have S := Lib.hid (show (l.getD i 0).toNat = 47 by rw [← XE.out]; exact x47)
              cases hN : nameL (cutL l a i) with
              | false =>
                rw [hN] at cN
                have R := Lib.hid (PA.out.bad hai hil NO.out (fun _ => S.out) hN)
                clear x0 x47 hN
                go_wp2_with fail
                refine (cN _).mono ?_
                rintro e w2 ⟨rfl, b2⟩
                go_wp2
                go_ret
                exact ⟨ret_bool R.out.symm, hbr.trans (b2.mono hbr.size)⟩
              | true =>
                rw [hN] at cN
                have R := Lib.hid (PA.out.next hai hlt NO.out S.out hN)
                clear x0 x47 hN
                go_wp2_with fail
                refine (cN _).mono ?_
                rintro e w2 ⟨rfl, b2⟩
                go_wp2
                go_roundw
                case rel => exact ⟨i + 1, i + 1, n + 1, by go_num, by go_num, by go_num, hbr.trans (b2.mono hbr.size), by omega, by omega, Lib.hid (.inl ⟨by omega, by omega, by omega, R.out, fun j h1 h2 => by omega, NZ.out⟩)⟩
                case measure => simp [intOf]; omega
            · have f1 : ((x.toNat : Int) == 47) = false := by simp; omega
              have NS : Hid (∀ j, a ≤ j → j < i + 1 → (l.getD j 0).toNat ≠ 47) := Lib.hid fun j h1 hj => by
                by_cases h : j < i
                · exact NO.out j h1 h
                · obtain rfl : j = i := by omega
                  rw [← XE.out]; exact x47
              clear x0 x47 cN
              go_wp2
              go_roundw
              case rel => exact ⟨i + 1, a, n, rfl, rfl, by go_num, hbr, by omega, by omega, Lib.hid (.inl ⟨by omega, by omega, by omega, PA.out, NS.out, NZ.out⟩)⟩
              case measure => simp [intOf]; omega
        · obtain rfl : i = l.length := by omega
          have fe : ((l.length : Int) == (l.length : Int)) = true := by simp
          cases hN : nameL (cutL l a l.length) with
          | false =>
            rw [hN] at cN
            have R := Lib.hid (PA.out.bad hai hil NO.out (fun h => absurd h (by omega)) hN)
            clear hN
            go_wp2_with fail
            refine (cN _).mono ?_
            rintro e w2 ⟨rfl, b2⟩
            go_wp2
            go_ret
            exact ⟨ret_bool R.out.symm, hbr.trans (b2.mono hbr.size)⟩
          | true =>
            rw [hN] at cN
            have R := Lib.hid (PA.out.fin NO.out hN (by omega) (by omega) HV.out HZ.out)
            clear hN
            go_wp2_with fail
            refine (cN _).mono ?_
            rintro e w2 ⟨rfl, b2⟩
            go_wp2
            go_roundw
            case rel => exact ⟨l.length + 1, l.length + 1, n, rfl, by go_num, by go_num, hbr.trans (b2.mono hbr.size), by omega, by omega, Lib.hid (.inr ⟨rfl, by omega, R.out⟩)⟩
            case measure => simp [intOf]
end Go.Proofs.YtkhfgddjnnibdaaDoor
