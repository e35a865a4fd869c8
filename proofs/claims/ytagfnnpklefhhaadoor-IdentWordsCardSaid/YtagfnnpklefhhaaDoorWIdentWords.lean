/-
  The law IdentWords: its walk.
-/
import Derived.Test.YtagfnnpklefhhaaDoorKf
import Derived.Deep.RegionHeld3
namespace Go.Proofs.YtagfnnpklefhhaaDoor.identWords
open Go.RowKit
set_option linter.unusedVariables false
set_option linter.unusedSimpArgs false

theorem word_nil : wordL [] = true := rfl
theorem right_name (l : List UInt8) : rightI ⟨l, [], 0, 0⟩ = wordL l := by
  unfold rightI
  rw [word_nil]
  simp
theorem right_email (l : List UInt8) : rightI ⟨[], l, 0, 0⟩ = wordL l := by
  unfold rightI
  rw [word_nil]
  simp
theorem word_in (l : List UInt8) (k : Nat) (hk : k ≤ l.length) (c : UInt8) (hc : barB c = true) : wordL (l.take k ++ [c] ++ l.drop k) = false := by
  have hlen : (l.take k).length = k := by rw [List.length_take]; omega
  refine word_bad _ k (by simp; omega) ?_
  rw [List.getD_eq_getElem?_getD, List.append_assoc, List.getElem?_append_right (by omega), hlen, Nat.sub_self]
  exact hc
theorem word_ahead (l : List UInt8) : wordL ([32] ++ l) = false :=
  word_false _ fun h => (h.2.2.2 (by simp)).1 rfl
theorem word_behind (l : List UInt8) : wordL (l ++ [32]) = false :=
  word_false _ fun h => (h.2.2.2 (by simp)).2 (by
    rw [List.length_append, List.length_singleton, Nat.add_sub_cancel, List.getD_eq_getElem?_getD, List.getElem?_append_right (Nat.le_refl _), Nat.sub_self]; rfl)

theorem u64_nonneg (a : Int) : 0 ≤ IntKind.u64.wrap a := by
  rw [IntKind.wrap_u64]
  exact Int.emod_nonneg _ (by decide)
theorem u64_rem (a : Int) (n : Nat) : ∃ k : Nat, k ≤ n ∧ (IntKind.u64.wrap a).tmod ((n : Int) + 1) = (k : Int) := by
  have h := u64_nonneg a
  generalize IntKind.u64.wrap a = u at h
  rw [IntWalk.rem_in u _ h]
  have h1 := Int.emod_nonneg u (show (n : Int) + 1 ≠ 0 by omega)
  have h2 := Int.emod_lt_of_pos u (show 0 < (n : Int) + 1 by omega)
  exact ⟨(u % ((n : Int) + 1)).toNat, by omega, by omega⟩
set_option maxHeartbeats 16000000 in
set_option maxRecDepth 100000 in
theorem walk_0 (w : World) (l : List UInt8) (h0 : 0 < l.length) (h1 : l.length ≤ 199) (hw : wordL l = true) (a b : Int) (hm : (IntKind.u64.wrap b).tmod 4 = 0) (tab : T6 w) :
    Calls Tryd.prog 7 #[.string ⟨l.toArray⟩, .int .i64 a, .int .i64 b] w fun e w' => e = .returned (.bool true) ∧ Below w.heap.size w w' := by
  have cQ := fun w t => rRight_is ⟨l, [], 0, 0⟩ (show l.length ≤ 1000000 by omega) (by simp) w t
  have cA := fun w t => awake_ident w t
  have cN := fun w t => Right_is ⟨l, [], 0, 0⟩ (show l.length ≤ 1000000 by omega) (by simp) w t
  have cE := fun w t => Right_is ⟨[], l, 0, 0⟩ (by simp) (show l.length ≤ 1000000 by omega) w t
  have cH := fun w t => Right_is ⟨[32] ++ l, [], 0, 0⟩ (by simp; omega) (by simp) w t
  have cT := fun w t => Right_is ⟨l ++ [32], [], 0, 0⟩ (by simp; omega) (by simp) w t
  obtain ⟨k, hk, ek⟩ := u64_rem a l.length
  have bl : (l.take k ++ [0] ++ l.drop k).length ≤ 1000000 := by simp only [List.length_append, List.length_take, List.length_drop, List.length_singleton]; omega
  have cM := fun w t => Right_is ⟨l.take k ++ [0] ++ l.drop k, [], 0, 0⟩ bl (by simp) w t
  have cF := fun w t => Right_is ⟨[], l.take k ++ [0] ++ l.drop k, 0, 0⟩ (by simp) bl w t
  rw [right_name, hw] at cQ cN
  rw [right_email, hw] at cE
  rw [right_name, word_ahead] at cH
  rw [right_name, word_behind] at cT
  rw [right_name, word_in l k hk 0 rfl] at cM
  rw [right_email, word_in l k hk 0 rfl] at cF
  unfold idtV at cQ cN cE cH cT cM cF
  simp only at cQ cN cE cH cT cM cF
  have hsz := size_toArray l
  have f0 : (((l.length : Nat) : Int) == 0) = false := by rw [beq_eq_false_iff_ne]; omega
  have f1 : ¬ (((l.length : Nat) : Int) > 199) := by omega
  have e1 : (⟨l.toArray⟩ : ByteArray).extract 0 k = ⟨(l.take k).toArray⟩ := ext_upto l k
  have e2 : (⟨l.toArray⟩ : ByteArray).extract k l.length = ⟨(l.drop k).toArray⟩ := ext_from l k l.length rfl
  have ad1 := fun w => add_lists (P := Tryd.prog) w (l.take k) [0] (by rw [List.length_take]; simp; omega)
  have ad2 := fun w => add_lists (P := Tryd.prog) w (l.take k ++ [0]) (l.drop k) (by rw [List.length_append, List.length_take, List.length_drop]; simp; omega)
  have ad3 := fun w => add_lists (P := Tryd.prog) w [32] l (by simp; omega)
  have ad4 := fun w => add_lists (P := Tryd.prog) w l [32] (by simp; omega)
  have k0 : (0 : Int) ≤ (k : Int) := by omega
  have k1 : (k : Int) ≤ ((⟨l.toArray⟩ : ByteArray).size : Int) := by omega
  have k2 : (k : Int) ≤ (l.length : Int) := by omega
  generalize (⟨(l.take k ++ [0] ++ l.drop k).toArray⟩ : ByteArray) = sb at ad2 cM cF
  generalize (⟨(l.take k ++ [0]).toArray⟩ : ByteArray) = sa at ad1 ad2
  generalize (⟨(l.take k).toArray⟩ : ByteArray) = s1 at e1 ad1
  generalize (⟨(l.drop k).toArray⟩ : ByteArray) = s2 at e2 ad2
  generalize (⟨([32] ++ l).toArray⟩ : ByteArray) = s3 at ad3 cH
  generalize (⟨(l ++ [32]).toArray⟩ : ByteArray) = s4 at ad4 cT
  generalize (⟨l.toArray⟩ : ByteArray) = s at *
  have TAB := Lib.hid tab
  clear tab hw bl
  go_enter Tryd.func7, Tryd.ntmps7
  go_wp2_with fail
  refine (cQ _ TAB.out).mono ?_
  rintro e w1 ⟨rfl, b1⟩
  have B1 := Lib.hid b1.drew
  go_wp2_with fail
  go_region
  have hb2 := (b1.alloc b1.size (.cells #[.string ⟨#[0]⟩, .string ⟨#[10]⟩, .string ⟨#[60]⟩, .string ⟨#[62]⟩] 9)).drew
  have B2 := Lib.hid hb2
  have T2 := Lib.hid (TAB.out.keep hb2)
  clear hb2 B1 b1 cQ ad1 ad2 e1 e2 ek hm k0 k1 k2
  go_wp2_with fail
  refine (cA _ T2.out).mono ?_
  rintro e w3 ⟨rfl, b3⟩
  have B3 := Lib.hid (B2.out.trans (b3.mono B2.out.size))
  have T3 := Lib.hid (T2.out.keep b3)
  clear b3 B2 T2 cA
  go_wp2_with fail
  refine (cN _ T3.out).mono ?_
  rintro e w4 ⟨rfl, b4⟩
  have B4 := Lib.hid (B3.out.trans (b4.mono B3.out.size))
  have T4 := Lib.hid (T3.out.keep b4)
  clear b4 B3 T3 cN
  go_wp2_with fail
  refine (cE _ T4.out).mono ?_
  rintro e w5 ⟨rfl, b5⟩
  have B5 := Lib.hid (B4.out.trans (b5.mono B4.out.size))
  have T5 := Lib.hid (T4.out.keep b5)
  clear b5 B4 T4 cE
  go_wp2_with fail
  refine (cM _ T5.out).mono ?_
  rintro e w6 ⟨rfl, b6⟩
  have B6 := Lib.hid (B5.out.trans (b6.mono B5.out.size))
  have T6 := Lib.hid (T5.out.keep b6)
  clear b6 B5 T5 cM
  go_wp2_with fail
  refine (cF _ T6.out).mono ?_
  rintro e w7 ⟨rfl, b7⟩
  have B7 := Lib.hid (B6.out.trans (b7.mono B6.out.size))
  have T7 := Lib.hid (T6.out.keep b7)
  clear b7 B6 T6 cF
  go_wp2_with fail
  refine (cH _ T7.out).mono ?_
  rintro e w8 ⟨rfl, b8⟩
  have B8 := Lib.hid (B7.out.trans (b8.mono B7.out.size))
  have T8 := Lib.hid (T7.out.keep b8)
  clear b8 B7 T7 cH
  go_wp2_with fail
  refine (cT _ T8.out).mono ?_
  rintro e w9 ⟨rfl, b9⟩
  have B9 := Lib.hid (B8.out.trans (b9.mono B8.out.size))
  have T9 := Lib.hid (T8.out.keep b9)
  clear b9 B8 T8 cT
  go_wp2
  go_ret
  exact ⟨by first | rfl | (apply ret_bool; simp), B9.out⟩
set_option maxHeartbeats 16000000 in
set_option maxRecDepth 100000 in
theorem walk_10 (w : World) (l : List UInt8) (h0 : 0 < l.length) (h1 : l.length ≤ 199) (hw : wordL l = true) (a b : Int) (hm : (IntKind.u64.wrap b).tmod 4 = 1) (tab : T6 w) :
    Calls Tryd.prog 7 #[.string ⟨l.toArray⟩, .int .i64 a, .int .i64 b] w fun e w' => e = .returned (.bool true) ∧ Below w.heap.size w w' := by
  have cQ := fun w t => rRight_is ⟨l, [], 0, 0⟩ (show l.length ≤ 1000000 by omega) (by simp) w t
  have cA := fun w t => awake_ident w t
  have cN := fun w t => Right_is ⟨l, [], 0, 0⟩ (show l.length ≤ 1000000 by omega) (by simp) w t
  have cE := fun w t => Right_is ⟨[], l, 0, 0⟩ (by simp) (show l.length ≤ 1000000 by omega) w t
  have cH := fun w t => Right_is ⟨[32] ++ l, [], 0, 0⟩ (by simp; omega) (by simp) w t
  have cT := fun w t => Right_is ⟨l ++ [32], [], 0, 0⟩ (by simp; omega) (by simp) w t
  obtain ⟨k, hk, ek⟩ := u64_rem a l.length
  have bl : (l.take k ++ [10] ++ l.drop k).length ≤ 1000000 := by simp only [List.length_append, List.length_take, List.length_drop, List.length_singleton]; omega
  have cM := fun w t => Right_is ⟨l.take k ++ [10] ++ l.drop k, [], 0, 0⟩ bl (by simp) w t
  have cF := fun w t => Right_is ⟨[], l.take k ++ [10] ++ l.drop k, 0, 0⟩ (by simp) bl w t
  rw [right_name, hw] at cQ cN
  rw [right_email, hw] at cE
  rw [right_name, word_ahead] at cH
  rw [right_name, word_behind] at cT
  rw [right_name, word_in l k hk 10 rfl] at cM
  rw [right_email, word_in l k hk 10 rfl] at cF
  unfold idtV at cQ cN cE cH cT cM cF
  simp only at cQ cN cE cH cT cM cF
  have hsz := size_toArray l
  have f0 : (((l.length : Nat) : Int) == 0) = false := by rw [beq_eq_false_iff_ne]; omega
  have f1 : ¬ (((l.length : Nat) : Int) > 199) := by omega
  have e1 : (⟨l.toArray⟩ : ByteArray).extract 0 k = ⟨(l.take k).toArray⟩ := ext_upto l k
  have e2 : (⟨l.toArray⟩ : ByteArray).extract k l.length = ⟨(l.drop k).toArray⟩ := ext_from l k l.length rfl
  have ad1 := fun w => add_lists (P := Tryd.prog) w (l.take k) [10] (by rw [List.length_take]; simp; omega)
  have ad2 := fun w => add_lists (P := Tryd.prog) w (l.take k ++ [10]) (l.drop k) (by rw [List.length_append, List.length_take, List.length_drop]; simp; omega)
  have ad3 := fun w => add_lists (P := Tryd.prog) w [32] l (by simp; omega)
  have ad4 := fun w => add_lists (P := Tryd.prog) w l [32] (by simp; omega)
  have k0 : (0 : Int) ≤ (k : Int) := by omega
  have k1 : (k : Int) ≤ ((⟨l.toArray⟩ : ByteArray).size : Int) := by omega
  have k2 : (k : Int) ≤ (l.length : Int) := by omega
  generalize (⟨(l.take k ++ [10] ++ l.drop k).toArray⟩ : ByteArray) = sb at ad2 cM cF
  generalize (⟨(l.take k ++ [10]).toArray⟩ : ByteArray) = sa at ad1 ad2
  generalize (⟨(l.take k).toArray⟩ : ByteArray) = s1 at e1 ad1
  generalize (⟨(l.drop k).toArray⟩ : ByteArray) = s2 at e2 ad2
  generalize (⟨([32] ++ l).toArray⟩ : ByteArray) = s3 at ad3 cH
  generalize (⟨(l ++ [32]).toArray⟩ : ByteArray) = s4 at ad4 cT
  generalize (⟨l.toArray⟩ : ByteArray) = s at *
  have TAB := Lib.hid tab
  clear tab hw bl
  go_enter Tryd.func7, Tryd.ntmps7
  go_wp2_with fail
  refine (cQ _ TAB.out).mono ?_
  rintro e w1 ⟨rfl, b1⟩
  have B1 := Lib.hid b1.drew
  go_wp2_with fail
  go_region
  have hb2 := (b1.alloc b1.size (.cells #[.string ⟨#[0]⟩, .string ⟨#[10]⟩, .string ⟨#[60]⟩, .string ⟨#[62]⟩] 9)).drew
  have B2 := Lib.hid hb2
  have T2 := Lib.hid (TAB.out.keep hb2)
  clear hb2 B1 b1 cQ ad1 ad2 e1 e2 ek hm k0 k1 k2
  go_wp2_with fail
  refine (cA _ T2.out).mono ?_
  rintro e w3 ⟨rfl, b3⟩
  have B3 := Lib.hid (B2.out.trans (b3.mono B2.out.size))
  have T3 := Lib.hid (T2.out.keep b3)
  clear b3 B2 T2 cA
  go_wp2_with fail
  refine (cN _ T3.out).mono ?_
  rintro e w4 ⟨rfl, b4⟩
  have B4 := Lib.hid (B3.out.trans (b4.mono B3.out.size))
  have T4 := Lib.hid (T3.out.keep b4)
  clear b4 B3 T3 cN
  go_wp2_with fail
  refine (cE _ T4.out).mono ?_
  rintro e w5 ⟨rfl, b5⟩
  have B5 := Lib.hid (B4.out.trans (b5.mono B4.out.size))
  have T5 := Lib.hid (T4.out.keep b5)
  clear b5 B4 T4 cE
  go_wp2_with fail
  refine (cM _ T5.out).mono ?_
  rintro e w6 ⟨rfl, b6⟩
  have B6 := Lib.hid (B5.out.trans (b6.mono B5.out.size))
  have T6 := Lib.hid (T5.out.keep b6)
  clear b6 B5 T5 cM
  go_wp2_with fail
  refine (cF _ T6.out).mono ?_
  rintro e w7 ⟨rfl, b7⟩
  have B7 := Lib.hid (B6.out.trans (b7.mono B6.out.size))
  have T7 := Lib.hid (T6.out.keep b7)
  clear b7 B6 T6 cF
  go_wp2_with fail
  refine (cH _ T7.out).mono ?_
  rintro e w8 ⟨rfl, b8⟩
  have B8 := Lib.hid (B7.out.trans (b8.mono B7.out.size))
  have T8 := Lib.hid (T7.out.keep b8)
  clear b8 B7 T7 cH
  go_wp2_with fail
  refine (cT _ T8.out).mono ?_
  rintro e w9 ⟨rfl, b9⟩
  have B9 := Lib.hid (B8.out.trans (b9.mono B8.out.size))
  have T9 := Lib.hid (T8.out.keep b9)
  clear b9 B8 T8 cT
  go_wp2
  go_ret
  exact ⟨by first | rfl | (apply ret_bool; simp), B9.out⟩
set_option maxHeartbeats 16000000 in
set_option maxRecDepth 100000 in
theorem walk_60 (w : World) (l : List UInt8) (h0 : 0 < l.length) (h1 : l.length ≤ 199) (hw : wordL l = true) (a b : Int) (hm : (IntKind.u64.wrap b).tmod 4 = 2) (tab : T6 w) :
    Calls Tryd.prog 7 #[.string ⟨l.toArray⟩, .int .i64 a, .int .i64 b] w fun e w' => e = .returned (.bool true) ∧ Below w.heap.size w w' := by
  have cQ := fun w t => rRight_is ⟨l, [], 0, 0⟩ (show l.length ≤ 1000000 by omega) (by simp) w t
  have cA := fun w t => awake_ident w t
  have cN := fun w t => Right_is ⟨l, [], 0, 0⟩ (show l.length ≤ 1000000 by omega) (by simp) w t
  have cE := fun w t => Right_is ⟨[], l, 0, 0⟩ (by simp) (show l.length ≤ 1000000 by omega) w t
  have cH := fun w t => Right_is ⟨[32] ++ l, [], 0, 0⟩ (by simp; omega) (by simp) w t
  have cT := fun w t => Right_is ⟨l ++ [32], [], 0, 0⟩ (by simp; omega) (by simp) w t
  obtain ⟨k, hk, ek⟩ := u64_rem a l.length
  have bl : (l.take k ++ [60] ++ l.drop k).length ≤ 1000000 := by simp only [List.length_append, List.length_take, List.length_drop, List.length_singleton]; omega
  have cM := fun w t => Right_is ⟨l.take k ++ [60] ++ l.drop k, [], 0, 0⟩ bl (by simp) w t
  have cF := fun w t => Right_is ⟨[], l.take k ++ [60] ++ l.drop k, 0, 0⟩ (by simp) bl w t
  rw [right_name, hw] at cQ cN
  rw [right_email, hw] at cE
  rw [right_name, word_ahead] at cH
  rw [right_name, word_behind] at cT
  rw [right_name, word_in l k hk 60 rfl] at cM
  rw [right_email, word_in l k hk 60 rfl] at cF
  unfold idtV at cQ cN cE cH cT cM cF
  simp only at cQ cN cE cH cT cM cF
  have hsz := size_toArray l
  have f0 : (((l.length : Nat) : Int) == 0) = false := by rw [beq_eq_false_iff_ne]; omega
  have f1 : ¬ (((l.length : Nat) : Int) > 199) := by omega
  have e1 : (⟨l.toArray⟩ : ByteArray).extract 0 k = ⟨(l.take k).toArray⟩ := ext_upto l k
  have e2 : (⟨l.toArray⟩ : ByteArray).extract k l.length = ⟨(l.drop k).toArray⟩ := ext_from l k l.length rfl
  have ad1 := fun w => add_lists (P := Tryd.prog) w (l.take k) [60] (by rw [List.length_take]; simp; omega)
  have ad2 := fun w => add_lists (P := Tryd.prog) w (l.take k ++ [60]) (l.drop k) (by rw [List.length_append, List.length_take, List.length_drop]; simp; omega)
  have ad3 := fun w => add_lists (P := Tryd.prog) w [32] l (by simp; omega)
  have ad4 := fun w => add_lists (P := Tryd.prog) w l [32] (by simp; omega)
  have k0 : (0 : Int) ≤ (k : Int) := by omega
  have k1 : (k : Int) ≤ ((⟨l.toArray⟩ : ByteArray).size : Int) := by omega
  have k2 : (k : Int) ≤ (l.length : Int) := by omega
  generalize (⟨(l.take k ++ [60] ++ l.drop k).toArray⟩ : ByteArray) = sb at ad2 cM cF
  generalize (⟨(l.take k ++ [60]).toArray⟩ : ByteArray) = sa at ad1 ad2
  generalize (⟨(l.take k).toArray⟩ : ByteArray) = s1 at e1 ad1
  generalize (⟨(l.drop k).toArray⟩ : ByteArray) = s2 at e2 ad2
  generalize (⟨([32] ++ l).toArray⟩ : ByteArray) = s3 at ad3 cH
  generalize (⟨(l ++ [32]).toArray⟩ : ByteArray) = s4 at ad4 cT
  generalize (⟨l.toArray⟩ : ByteArray) = s at *
  have TAB := Lib.hid tab
  clear tab hw bl
  go_enter Tryd.func7, Tryd.ntmps7
  go_wp2_with fail
  refine (cQ _ TAB.out).mono ?_
  rintro e w1 ⟨rfl, b1⟩
  have B1 := Lib.hid b1.drew
  go_wp2_with fail
  go_region
  have hb2 := (b1.alloc b1.size (.cells #[.string ⟨#[0]⟩, .string ⟨#[10]⟩, .string ⟨#[60]⟩, .string ⟨#[62]⟩] 9)).drew
  have B2 := Lib.hid hb2
  have T2 := Lib.hid (TAB.out.keep hb2)
  clear hb2 B1 b1 cQ ad1 ad2 e1 e2 ek hm k0 k1 k2
  go_wp2_with fail
  refine (cA _ T2.out).mono ?_
  rintro e w3 ⟨rfl, b3⟩
  have B3 := Lib.hid (B2.out.trans (b3.mono B2.out.size))
  have T3 := Lib.hid (T2.out.keep b3)
  clear b3 B2 T2 cA
  go_wp2_with fail
  refine (cN _ T3.out).mono ?_
  rintro e w4 ⟨rfl, b4⟩
  have B4 := Lib.hid (B3.out.trans (b4.mono B3.out.size))
  have T4 := Lib.hid (T3.out.keep b4)
  clear b4 B3 T3 cN
  go_wp2_with fail
  refine (cE _ T4.out).mono ?_
  rintro e w5 ⟨rfl, b5⟩
  have B5 := Lib.hid (B4.out.trans (b5.mono B4.out.size))
  have T5 := Lib.hid (T4.out.keep b5)
  clear b5 B4 T4 cE
  go_wp2_with fail
  refine (cM _ T5.out).mono ?_
  rintro e w6 ⟨rfl, b6⟩
  have B6 := Lib.hid (B5.out.trans (b6.mono B5.out.size))
  have T6 := Lib.hid (T5.out.keep b6)
  clear b6 B5 T5 cM
  go_wp2_with fail
  refine (cF _ T6.out).mono ?_
  rintro e w7 ⟨rfl, b7⟩
  have B7 := Lib.hid (B6.out.trans (b7.mono B6.out.size))
  have T7 := Lib.hid (T6.out.keep b7)
  clear b7 B6 T6 cF
  go_wp2_with fail
  refine (cH _ T7.out).mono ?_
  rintro e w8 ⟨rfl, b8⟩
  have B8 := Lib.hid (B7.out.trans (b8.mono B7.out.size))
  have T8 := Lib.hid (T7.out.keep b8)
  clear b8 B7 T7 cH
  go_wp2_with fail
  refine (cT _ T8.out).mono ?_
  rintro e w9 ⟨rfl, b9⟩
  have B9 := Lib.hid (B8.out.trans (b9.mono B8.out.size))
  have T9 := Lib.hid (T8.out.keep b9)
  clear b9 B8 T8 cT
  go_wp2
  go_ret
  exact ⟨by first | rfl | (apply ret_bool; simp), B9.out⟩
set_option maxHeartbeats 16000000 in
set_option maxRecDepth 100000 in
theorem walk_62 (w : World) (l : List UInt8) (h0 : 0 < l.length) (h1 : l.length ≤ 199) (hw : wordL l = true) (a b : Int) (hm : (IntKind.u64.wrap b).tmod 4 = 3) (tab : T6 w) :
    Calls Tryd.prog 7 #[.string ⟨l.toArray⟩, .int .i64 a, .int .i64 b] w fun e w' => e = .returned (.bool true) ∧ Below w.heap.size w w' := by
  have cQ := fun w t => rRight_is ⟨l, [], 0, 0⟩ (show l.length ≤ 1000000 by omega) (by simp) w t
  have cA := fun w t => awake_ident w t
  have cN := fun w t => Right_is ⟨l, [], 0, 0⟩ (show l.length ≤ 1000000 by omega) (by simp) w t
  have cE := fun w t => Right_is ⟨[], l, 0, 0⟩ (by simp) (show l.length ≤ 1000000 by omega) w t
  have cH := fun w t => Right_is ⟨[32] ++ l, [], 0, 0⟩ (by simp; omega) (by simp) w t
  have cT := fun w t => Right_is ⟨l ++ [32], [], 0, 0⟩ (by simp; omega) (by simp) w t
  obtain ⟨k, hk, ek⟩ := u64_rem a l.length
  have bl : (l.take k ++ [62] ++ l.drop k).length ≤ 1000000 := by simp only [List.length_append, List.length_take, List.length_drop, List.length_singleton]; omega
  have cM := fun w t => Right_is ⟨l.take k ++ [62] ++ l.drop k, [], 0, 0⟩ bl (by simp) w t
  have cF := fun w t => Right_is ⟨[], l.take k ++ [62] ++ l.drop k, 0, 0⟩ (by simp) bl w t
  rw [right_name, hw] at cQ cN
  rw [right_email, hw] at cE
  rw [right_name, word_ahead] at cH
  rw [right_name, word_behind] at cT
  rw [right_name, word_in l k hk 62 rfl] at cM
  rw [right_email, word_in l k hk 62 rfl] at cF
  unfold idtV at cQ cN cE cH cT cM cF
  simp only at cQ cN cE cH cT cM cF
  have hsz := size_toArray l
  have f0 : (((l.length : Nat) : Int) == 0) = false := by rw [beq_eq_false_iff_ne]; omega
  have f1 : ¬ (((l.length : Nat) : Int) > 199) := by omega
  have e1 : (⟨l.toArray⟩ : ByteArray).extract 0 k = ⟨(l.take k).toArray⟩ := ext_upto l k
  have e2 : (⟨l.toArray⟩ : ByteArray).extract k l.length = ⟨(l.drop k).toArray⟩ := ext_from l k l.length rfl
  have ad1 := fun w => add_lists (P := Tryd.prog) w (l.take k) [62] (by rw [List.length_take]; simp; omega)
  have ad2 := fun w => add_lists (P := Tryd.prog) w (l.take k ++ [62]) (l.drop k) (by rw [List.length_append, List.length_take, List.length_drop]; simp; omega)
  have ad3 := fun w => add_lists (P := Tryd.prog) w [32] l (by simp; omega)
  have ad4 := fun w => add_lists (P := Tryd.prog) w l [32] (by simp; omega)
  have k0 : (0 : Int) ≤ (k : Int) := by omega
  have k1 : (k : Int) ≤ ((⟨l.toArray⟩ : ByteArray).size : Int) := by omega
  have k2 : (k : Int) ≤ (l.length : Int) := by omega
  generalize (⟨(l.take k ++ [62] ++ l.drop k).toArray⟩ : ByteArray) = sb at ad2 cM cF
  generalize (⟨(l.take k ++ [62]).toArray⟩ : ByteArray) = sa at ad1 ad2
  generalize (⟨(l.take k).toArray⟩ : ByteArray) = s1 at e1 ad1
  generalize (⟨(l.drop k).toArray⟩ : ByteArray) = s2 at e2 ad2
  generalize (⟨([32] ++ l).toArray⟩ : ByteArray) = s3 at ad3 cH
  generalize (⟨(l ++ [32]).toArray⟩ : ByteArray) = s4 at ad4 cT
  generalize (⟨l.toArray⟩ : ByteArray) = s at *
  have TAB := Lib.hid tab
  clear tab hw bl
  go_enter Tryd.func7, Tryd.ntmps7
  go_wp2_with fail
  refine (cQ _ TAB.out).mono ?_
  rintro e w1 ⟨rfl, b1⟩
  have B1 := Lib.hid b1.drew
  go_wp2_with fail
  go_region
  have hb2 := (b1.alloc b1.size (.cells #[.string ⟨#[0]⟩, .string ⟨#[10]⟩, .string ⟨#[60]⟩, .string ⟨#[62]⟩] 9)).drew
  have B2 := Lib.hid hb2
  have T2 := Lib.hid (TAB.out.keep hb2)
  clear hb2 B1 b1 cQ ad1 ad2 e1 e2 ek hm k0 k1 k2
  go_wp2_with fail
  refine (cA _ T2.out).mono ?_
  rintro e w3 ⟨rfl, b3⟩
  have B3 := Lib.hid (B2.out.trans (b3.mono B2.out.size))
  have T3 := Lib.hid (T2.out.keep b3)
  clear b3 B2 T2 cA
  go_wp2_with fail
  refine (cN _ T3.out).mono ?_
  rintro e w4 ⟨rfl, b4⟩
  have B4 := Lib.hid (B3.out.trans (b4.mono B3.out.size))
  have T4 := Lib.hid (T3.out.keep b4)
  clear b4 B3 T3 cN
  go_wp2_with fail
  refine (cE _ T4.out).mono ?_
  rintro e w5 ⟨rfl, b5⟩
  have B5 := Lib.hid (B4.out.trans (b5.mono B4.out.size))
  have T5 := Lib.hid (T4.out.keep b5)
  clear b5 B4 T4 cE
  go_wp2_with fail
  refine (cM _ T5.out).mono ?_
  rintro e w6 ⟨rfl, b6⟩
  have B6 := Lib.hid (B5.out.trans (b6.mono B5.out.size))
  have T6 := Lib.hid (T5.out.keep b6)
  clear b6 B5 T5 cM
  go_wp2_with fail
  refine (cF _ T6.out).mono ?_
  rintro e w7 ⟨rfl, b7⟩
  have B7 := Lib.hid (B6.out.trans (b7.mono B6.out.size))
  have T7 := Lib.hid (T6.out.keep b7)
  clear b7 B6 T6 cF
  go_wp2_with fail
  refine (cH _ T7.out).mono ?_
  rintro e w8 ⟨rfl, b8⟩
  have B8 := Lib.hid (B7.out.trans (b8.mono B7.out.size))
  have T8 := Lib.hid (T7.out.keep b8)
  clear b8 B7 T7 cH
  go_wp2_with fail
  refine (cT _ T8.out).mono ?_
  rintro e w9 ⟨rfl, b9⟩
  have B9 := Lib.hid (B8.out.trans (b9.mono B8.out.size))
  have T9 := Lib.hid (T8.out.keep b9)
  clear b9 B8 T8 cT
  go_wp2
  go_ret
  exact ⟨by first | rfl | (apply ret_bool; simp), B9.out⟩
set_option maxHeartbeats 8000000 in
set_option maxRecDepth 100000 in
theorem walk_other (w : World) (l : List UInt8) (hn : l.length ≤ maxLen) (a b : Int) (h : ¬ (0 < l.length ∧ l.length ≤ 199 ∧ wordL l = true)) (tab : T6 w) :
    Calls Tryd.prog 7 #[.string ⟨l.toArray⟩, .int .i64 a, .int .i64 b] w fun e w' => e = .returned (.bool true) ∧ Below w.heap.size w w' := by
  have cA := fun w t => awake_ident w t
  have TAB := Lib.hid tab
  have hsz := size_toArray l
  unfold maxLen at hn
  clear tab
  by_cases h0 : l.length = 0
  · have f0 : (((l.length : Nat) : Int) == 0) = true := by rw [beq_iff_eq]; omega
    clear h h0
    generalize (⟨l.toArray⟩ : ByteArray) = s at *
    go_enter Tryd.func7, Tryd.ntmps7
    go_wp2_with fail
    refine (cA _ TAB.out).mono ?_
    rintro e w1 ⟨rfl, b1⟩
    go_wp2
    go_ret
    exact ⟨rfl, b1⟩
  have f0 : (((l.length : Nat) : Int) == 0) = false := by rw [beq_eq_false_iff_ne]; omega
  by_cases h1 : 199 < l.length
  · have f1 : ((l.length : Nat) : Int) > 199 := by omega
    clear h h0 h1
    generalize (⟨l.toArray⟩ : ByteArray) = s at *
    go_enter Tryd.func7, Tryd.ntmps7
    go_wp2_with fail
    refine (cA _ TAB.out).mono ?_
    rintro e w1 ⟨rfl, b1⟩
    go_wp2
    go_ret
    exact ⟨rfl, b1⟩
  have f1 : ¬ (((l.length : Nat) : Int) > 199) := by omega
  have hw : wordL l = false := by
    cases e : wordL l with
    | false => rfl
    | true => exact absurd ⟨by omega, by omega, e⟩ h
  have cQ := fun w t => rRight_is ⟨l, [], 0, 0⟩ (show l.length ≤ 1000000 by omega) (by simp) w t
  rw [right_name, hw] at cQ
  unfold idtV at cQ
  simp only at cQ
  clear h h0 h1 hw
  generalize (⟨l.toArray⟩ : ByteArray) = s at *
  go_enter Tryd.func7, Tryd.ntmps7
  go_wp2_with fail
  refine (cQ _ TAB.out).mono ?_
  rintro e w1 ⟨rfl, b1⟩
  go_wp2_with fail
  refine (cA _ (TAB.out.keep b1)).mono ?_
  rintro e w2 ⟨rfl, b2⟩
  go_wp2
  go_ret
  exact ⟨rfl, b1.trans (b2.mono b1.size)⟩
theorem walk (w : World) (l : List UInt8) (hn : l.length ≤ maxLen) (a : Int) (ha0 : -9223372036854775808 ≤ a) (ha1 : a ≤ 9223372036854775807) (b : Int) (hb0 : -9223372036854775808 ≤ b) (hb1 : b ≤ 9223372036854775807) (tab : T6 w) :
    Calls Tryd.prog 7 #[.string ⟨l.toArray⟩, .int .i64 a, .int .i64 b] w fun e w' => e = .returned (.bool true) ∧ Below w.heap.size w w' := by
  by_cases h : 0 < l.length ∧ l.length ≤ 199 ∧ wordL l = true
  · obtain ⟨m, hm, em⟩ := u64_rem b 3
    have em : (IntKind.u64.wrap b).tmod 4 = (m : Int) := em
    obtain rfl | rfl | rfl | rfl : m = 0 ∨ m = 1 ∨ m = 2 ∨ m = 3 := by omega
    · exact walk_0 w l h.1 h.2.1 h.2.2 a b em tab
    · exact walk_10 w l h.1 h.2.1 h.2.2 a b em tab
    · exact walk_60 w l h.1 h.2.1 h.2.2 a b em tab
    · exact walk_62 w l h.1 h.2.1 h.2.2 a b em tab
  · exact walk_other w l hn a b h tab
end Go.Proofs.YtagfnnpklefhhaaDoor.identWords
