/-
  Layer 1: TakeNumber of the reference.
-/
import Derived.Test.YtagfnnpklefhhaaDoorHk
namespace Go.Proofs.YtagfnnpklefhhaaDoor
open Go.RowKit
set_option linter.unusedVariables false

theorem decL_lt (l : List UInt8) (h : ∀ i, i < l.length → isD (l.getD i 0)) : ∀ k, k ≤ l.length → decL (l.take k) < 10 ^ k := by
  intro k
  induction k with
  | zero => intro _; simp [decL]
  | succ k ih =>
    intro hk
    have a := ih (by omega)
    have b := h k (by omega)
    unfold isD at b
    rw [decL_take l k (by omega), Nat.pow_succ]
    omega
theorem decL_ge (l : List UInt8) (a : Nat) : a * 10 ^ l.length ≤ l.foldl (fun a c => 10 * a + (c.toNat - 48)) a := by
  induction l generalizing a with
  | nil => simp
  | cons c r ih =>
    have h := ih (10 * a + (c.toNat - 48))
    simp only [List.foldl_cons, List.length_cons]
    have e : a * 10 ^ (r.length + 1) = (10 * a) * 10 ^ r.length := by rw [Nat.pow_succ, Nat.mul_comm 10 a, Nat.mul_assoc, Nat.mul_comm (10 ^ r.length) 10]
    rw [e]
    exact Nat.le_trans (Nat.mul_le_mul_right _ (by omega)) h
theorem decL_big (e : UInt8) (t : List UInt8) (he : isD e) (h48 : e ≠ 48) (hl : 19 ≤ t.length) : 10000000000000000000 ≤ decL (e :: t) := by
  have h := decL_ge t (e.toNat - 48)
  have h1 : 1 ≤ e.toNat - 48 := by
    unfold isD at he
    have : e.toNat ≠ 48 := fun h => h48 (UInt8.toNat.inj h)
    omega
  have h2 : 10 ^ 19 ≤ 10 ^ t.length := Nat.pow_le_pow_right (by omega) hl
  have h3 : 1 * 10 ^ t.length ≤ (e.toNat - 48) * 10 ^ t.length := Nat.mul_le_mul_right _ h1
  have e2 : decL (e :: t) = t.foldl (fun a c => 10 * a + (c.toNat - 48)) (e.toNat - 48) := by simp [decL]
  rw [e2]
  have e3 : (10 : Nat) ^ 19 = 10000000000000000000 := by decide
  omega

theorem cut_one (r : List UInt8) : (⟨(45 :: r).toArray⟩ : ByteArray).extract 1 (r.length + 1) = ⟨r.toArray⟩ := by
  apply ByteArray.ext
  simp

set_option maxHeartbeats 400000 in
theorem rTake_empty (w : World) :
    Calls Tryd.prog 20 #[.string ⟨#[]⟩] w fun e w' => e = .returned (.tuple #[.int .i64 0, .int .i64 3]) ∧ w = w' := by
  go_enter Tryd.func20, Tryd.ntmps20
  go_wp2
  go_ret2
  exact ⟨rfl, rfl⟩
set_option maxHeartbeats 400000 in
theorem rTake_dash (w : World) :
    Calls Tryd.prog 20 #[.string ⟨#[45]⟩] w fun e w' => e = .returned (.tuple #[.int .i64 0, .int .i64 4]) ∧ w = w' := by
  have hi : ((⟨#[45]⟩ : ByteArray)[0]'(by decide)).toNat = 45 := rfl
  have hc : (⟨#[45]⟩ : ByteArray).extract 1 1 = ⟨#[]⟩ := by decide
  go_enter Tryd.func20, Tryd.ntmps20
  go_wp2
  go_ret2
  exact ⟨rfl, rfl⟩
set_option maxHeartbeats 1000000 in
theorem rTake_minus (e : UInt8) (t : List UInt8) (hl : t.length + 1 ≤ 19) (h48 : e ≠ 48) (w : World) :
    Calls Tryd.prog 20 #[.string ⟨(45 :: e :: t).toArray⟩] w fun x w' => TPost (e :: t) true w x w' := by
  have hi : ((⟨(45 :: e :: t).toArray⟩ : ByteArray)[0]'(by simp [ByteArray.size])).toNat = 45 := rfl
  have hc := cut_one (e :: t)
  rw [List.length_cons] at hc
  have hi2 : ((⟨(e :: t).toArray⟩ : ByteArray)[0]'(by simp [ByteArray.size])).toNat = e.toNat := rfl
  have hne : ¬ e.toNat = 48 := fun h => h48 (UInt8.toNat.inj h)
  have hb : ((e.toNat : Int) == 48) = false := by simp; omega
  have hdl : decide ((19 : Int) < (t.length : Int) + 1) = false := by simp; omega
  have HNE := Lib.hid hne
  clear h48 hne
  go_enter Tryd.func20, Tryd.ntmps20
  go_wp2_with fail
  go_loop [6, 7] (fun a i => ∃ (k : Nat) (v : Int), k ≤ t.length + 1 ∧ i = .int .i64 k ∧ a = .int .u64 v ∧ v = decL ((e :: t).take k) ∧ ∀ j, j < k → isD ((e :: t).getD j 0)) (fun _ i => t.length + 1 - (intOf i).toNat)
  case atStart => exact ⟨0, 0, Nat.zero_le _, rfl, rfl, by simp [decL], fun j hj => absurd hj (Nat.not_lt_zero _)⟩
  case round =>
    obtain ⟨k, v, hk, rfl, rfl, hv, hdig⟩ := hrel
    have HV := Lib.hid hv; clear hv
    have HDIG := Lib.hid hdig; clear hdig
    have hv0 : 0 ≤ v := by rw [HV.out]; omega
    by_cases hlt : k < t.length + 1
    · have hvb : v ≤ 999999999999999999 := by
        have h := decL_lt ((e :: t).take k) (fun j hj => by
          rw [List.length_take] at hj
          have h := HDIG.out j (by omega)
          rwa [List.getD_eq_getElem?_getD, List.getElem?_take, if_pos (by omega), ← List.getD_eq_getElem?_getD]) k (by simp; omega)
        rw [List.take_take, Nat.min_self] at h
        have h2 : 10 ^ k ≤ 10 ^ 18 := Nat.pow_le_pow_right (by omega) (by omega)
        have h3 : (10 : Nat) ^ 18 = 1000000000000000000 := by decide
        have h4 := HV.out
        omega
      have hx : ((⟨(e :: t).toArray⟩ : ByteArray)[k]'(by simp [ByteArray.size]; omega)) = (e :: t).getD k 0 := by
        rw [List.getD_eq_getElem?_getD, List.getElem?_eq_getElem (by simp; omega)]; rfl
      obtain ⟨c, hce⟩ : ∃ c : Nat, c = ((⟨(e :: t).toArray⟩ : ByteArray)[k]'(by simp [ByteArray.size]; omega)).toNat := ⟨_, rfl⟩
      have hcd : c = ((e :: t).getD k 0).toNat := by rw [hce, hx]
      have HCD := Lib.hid hcd; clear hcd hx
      have hce2 := hce.symm
      clear hce
      have hc256 : c < 256 := by rw [HCD.out]; exact ((e :: t).getD k 0).toNat_lt
      by_cases hd : 48 ≤ c ∧ c ≤ 57
      · obtain ⟨hd0, hd1⟩ := hd
        go_wp2
        go_round
        case rel =>
          refine ⟨k + 1, _, by omega, by go_num, rfl, ?_, ?_⟩
          · rw [decL_take _ _ (by simp; omega), ← HCD.out]
            have := HV.out
            omega
          · intro j hj
            by_cases h : j < k
            · exact HDIG.out j h
            · obtain rfl : j = k := by omega
              unfold isD; rw [← HCD.out]; omega
        case measure => simp [intOf]; omega
      · have hbad : ¬ isD ((e :: t).getD k 0) := by unfold isD; rw [← HCD.out]; exact hd
        have HBAD := Lib.hid hbad; clear hbad
        by_cases h1 : c < 48
        · go_wp2
          go_ret2
          exact ⟨Below.refl _ _, .inl ⟨rfl, .inl ⟨k, by simp; omega, HBAD.out⟩⟩⟩
        · have h2 : 57 < c := by omega
          go_wp2
          go_ret2
          exact ⟨Below.refl _ _, .inl ⟨rfl, .inl ⟨k, by simp; omega, HBAD.out⟩⟩⟩
    · obtain rfl : k = t.length + 1 := by omega
      have hvd : v = decL (e :: t) := by have h := HV.out; rwa [List.take_of_length_le (by simp)] at h
      have HVD := Lib.hid hvd; clear hvd
      have hv1 : 1 ≤ v := by
        have h := decL_ge t (e.toNat - 48)
        have e2 : decL (e :: t) = t.foldl (fun a c => 10 * a + (c.toNat - 48)) (e.toNat - 48) := by simp [decL]
        have h0 := HDIG.out 0 (by omega)
        unfold isD at h0
        have h0' : (([e] ++ t : List UInt8).getD 0 0) = e := rfl
        have h0'' : 48 ≤ e.toNat := h0.1
        have h4 : e.toNat ≠ 48 := HNE.out
        have h5 : 1 * 10 ^ t.length ≤ (e.toNat - 48) * 10 ^ t.length := Nat.mul_le_mul_right _ (by omega)
        have h6 : 1 ≤ 10 ^ t.length := Nat.one_le_pow _ _ (by omega)
        have h7 := HV.out
        rw [List.take_of_length_le (by simp)] at h7
        omega
      have hvb : v ≤ 9999999999999999999 := by
        have h := decL_lt (e :: t) (fun j hj => HDIG.out j (by simpa using hj)) (t.length + 1) (by simp)
        rw [List.take_of_length_le (by simp)] at h
        have h2 : 10 ^ (t.length + 1) ≤ 10 ^ 19 := Nat.pow_le_pow_right (by omega) (by omega)
        have h3 : (10 : Nat) ^ 19 = 10000000000000000000 := by decide
        have h4 := HVD.out
        omega
      by_cases hbig : v ≤ 9223372036854775808
      · skip
        go_wp2
        go_ret2
        exact ⟨Below.refl _ _, .inr ⟨tup_int (by have := HVD.out; rw [if_pos rfl]; omega), fun i hi => HDIG.out i (by simpa using hi), by have := HVD.out; rw [if_pos rfl]; omega⟩⟩
      · have hfin : (decL (e :: t) : Int) > (if true = true then 9223372036854775808 else 9223372036854775807) := by have := HVD.out; rw [if_pos rfl]; omega
        have HF := Lib.hid hfin; clear hfin
        go_wp2
        go_ret2
        exact ⟨Below.refl _ _, .inl ⟨rfl, .inr HF.out⟩⟩
set_option maxHeartbeats 1000000 in
theorem rTake_plus (e : UInt8) (t : List UInt8) (hl : t.length + 1 ≤ 19) (h48 : e ≠ 48) (h45 : e ≠ 45) (w : World) :
    Calls Tryd.prog 20 #[.string ⟨(e :: t).toArray⟩] w fun x w' => TPost (e :: t) false w x w' := by
  have h45b : ((e.toNat : Int) == 45) = false := by
    have : ¬ e.toNat = 45 := fun h => h45 (UInt8.toNat.inj h)
    simp; omega
  clear h45
  have hi2 : ((⟨(e :: t).toArray⟩ : ByteArray)[0]'(by simp [ByteArray.size])).toNat = e.toNat := rfl
  have hne : ¬ e.toNat = 48 := fun h => h48 (UInt8.toNat.inj h)
  have hb : ((e.toNat : Int) == 48) = false := by simp; omega
  have hdl : decide ((19 : Int) < (t.length : Int) + 1) = false := by simp; omega
  have HNE := Lib.hid hne
  clear h48 hne
  go_enter Tryd.func20, Tryd.ntmps20
  go_wp2_with fail
  go_loop [6, 7] (fun a i => ∃ (k : Nat) (v : Int), k ≤ t.length + 1 ∧ i = .int .i64 k ∧ a = .int .u64 v ∧ v = decL ((e :: t).take k) ∧ ∀ j, j < k → isD ((e :: t).getD j 0)) (fun _ i => t.length + 1 - (intOf i).toNat)
  case atStart => exact ⟨0, 0, Nat.zero_le _, rfl, rfl, by simp [decL], fun j hj => absurd hj (Nat.not_lt_zero _)⟩
  case round =>
    obtain ⟨k, v, hk, rfl, rfl, hv, hdig⟩ := hrel
    have HV := Lib.hid hv; clear hv
    have HDIG := Lib.hid hdig; clear hdig
    have hv0 : 0 ≤ v := by rw [HV.out]; omega
    by_cases hlt : k < t.length + 1
    · have hvb : v ≤ 999999999999999999 := by
        have h := decL_lt ((e :: t).take k) (fun j hj => by
          rw [List.length_take] at hj
          have h := HDIG.out j (by omega)
          rwa [List.getD_eq_getElem?_getD, List.getElem?_take, if_pos (by omega), ← List.getD_eq_getElem?_getD]) k (by simp; omega)
        rw [List.take_take, Nat.min_self] at h
        have h2 : 10 ^ k ≤ 10 ^ 18 := Nat.pow_le_pow_right (by omega) (by omega)
        have h3 : (10 : Nat) ^ 18 = 1000000000000000000 := by decide
        have h4 := HV.out
        omega
      have hx : ((⟨(e :: t).toArray⟩ : ByteArray)[k]'(by simp [ByteArray.size]; omega)) = (e :: t).getD k 0 := by
        rw [List.getD_eq_getElem?_getD, List.getElem?_eq_getElem (by simp; omega)]; rfl
      obtain ⟨c, hce⟩ : ∃ c : Nat, c = ((⟨(e :: t).toArray⟩ : ByteArray)[k]'(by simp [ByteArray.size]; omega)).toNat := ⟨_, rfl⟩
      have hcd : c = ((e :: t).getD k 0).toNat := by rw [hce, hx]
      have HCD := Lib.hid hcd; clear hcd hx
      have hce2 := hce.symm
      clear hce
      have hc256 : c < 256 := by rw [HCD.out]; exact ((e :: t).getD k 0).toNat_lt
      by_cases hd : 48 ≤ c ∧ c ≤ 57
      · obtain ⟨hd0, hd1⟩ := hd
        go_wp2
        go_round
        case rel =>
          refine ⟨k + 1, _, by omega, by go_num, rfl, ?_, ?_⟩
          · rw [decL_take _ _ (by simp; omega), ← HCD.out]
            have := HV.out
            omega
          · intro j hj
            by_cases h : j < k
            · exact HDIG.out j h
            · obtain rfl : j = k := by omega
              unfold isD; rw [← HCD.out]; omega
        case measure => simp [intOf]; omega
      · have hbad : ¬ isD ((e :: t).getD k 0) := by unfold isD; rw [← HCD.out]; exact hd
        have HBAD := Lib.hid hbad; clear hbad
        by_cases h1 : c < 48
        · go_wp2
          go_ret2
          exact ⟨Below.refl _ _, .inl ⟨rfl, .inl ⟨k, by simp; omega, HBAD.out⟩⟩⟩
        · have h2 : 57 < c := by omega
          go_wp2
          go_ret2
          exact ⟨Below.refl _ _, .inl ⟨rfl, .inl ⟨k, by simp; omega, HBAD.out⟩⟩⟩
    · obtain rfl : k = t.length + 1 := by omega
      have hvd : v = decL (e :: t) := by have h := HV.out; rwa [List.take_of_length_le (by simp)] at h
      have HVD := Lib.hid hvd; clear hvd
      have hvb : v ≤ 9999999999999999999 := by
        have h := decL_lt (e :: t) (fun j hj => HDIG.out j (by simpa using hj)) (t.length + 1) (by simp)
        rw [List.take_of_length_le (by simp)] at h
        have h2 : 10 ^ (t.length + 1) ≤ 10 ^ 19 := Nat.pow_le_pow_right (by omega) (by omega)
        have h3 : (10 : Nat) ^ 19 = 10000000000000000000 := by decide
        have h4 := HVD.out
        omega
      by_cases hbig : v ≤ 9223372036854775807
      · have hq : (v == 9223372036854775808) = false := by simp; omega
        go_wp2
        go_ret2
        exact ⟨Below.refl _ _, .inr ⟨tup_int (by have := HVD.out; rw [if_neg (by decide)]; omega), fun i hi => HDIG.out i (by simpa using hi), by have := HVD.out; rw [if_neg (by decide)]; omega⟩⟩
      · have hfin : (decL (e :: t) : Int) > (if false = true then 9223372036854775808 else 9223372036854775807) := by have := HVD.out; rw [if_neg (by decide)]; omega
        have HF := Lib.hid hfin; clear hfin
        by_cases hb3 : 9223372036854775808 < v
        · go_wp2
          go_ret2
          exact ⟨Below.refl _ _, .inl ⟨rfl, .inr HF.out⟩⟩
        · have hq : (v == 9223372036854775808) = true := by simp; omega
          go_wp2
          go_ret2
          exact ⟨Below.refl _ _, .inl ⟨rfl, .inr HF.out⟩⟩
end Go.Proofs.YtagfnnpklefhhaaDoor
