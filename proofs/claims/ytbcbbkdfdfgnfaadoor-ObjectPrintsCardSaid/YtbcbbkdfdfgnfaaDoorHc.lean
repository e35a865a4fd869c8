/-
  Layer 1: Number of the program and of its reference.
-/
import Derived.Test.YtbcbbkdfdfgnfaaDoorMm
import Derived.Test.YtbcbbkdfdfgnfaaDoorShelf
import Derived.Lib.LaidTab
import Derived.Lib.ItoaNum
import Derived.WalkSmall
import Derived.IntWalk
import Derived.Lib.AppendIntMem
namespace Go.Proofs.YtbcbbkdfdfgnfaaDoor
set_option maxRecDepth 20000
open Go.RowKit
set_option linter.unusedVariables false

/-- strconv's table of powers holds what its initialiser lays. -/
def Tab (w : World) : Prop := Lib.TabIs Tryd.prog w "internal/strconv.uint64pow10" .u64 Lib.pow10Tab ∧ 1 < w.heap.size
theorem gPow : Tryd.prog.globalNamed "internal/strconv.uint64pow10" = some 1 := by kernel_rfl
theorem Tab.keep {w w' : World} (h : Tab w) (hb : Below w.heap.size w w') : Tab w' :=
  ⟨var?_below hb gPow h.2 h.1, Nat.lt_of_lt_of_le h.2 hb.size⟩

set_option maxHeartbeats 400000 in
theorem Number_any (n : Int) (h0 : -9223372036854775808 ≤ n) (h1 : n ≤ 9223372036854775807) (w : World) (htab : Tab w) :
    Calls Tryd.prog 37 #[.int .i64 n] w fun e w' => e = .returned (.string ⟨(Lib.itoa n).toArray⟩) ∧ Below w.heap.size w w' := by
  go_enter Tryd.func37, Tryd.ntmps37
  go_wp2_with fail
  refine (Tryd.strconv_FormatInt_10 n h0 h1 _ htab.1).mono ?_
  rintro e w1 ⟨rfl, k, os, rfl⟩
  go_wp2
  go_ret
  exact ⟨rfl, Lib.below_grow _ _ (Nat.le_refl _) _ _⟩

theorem conv_cell (b : Nat) (x : Int) (w : World) (h : w.cell? ⟨b, 0, none⟩ = some (.int .u8 x)) :
    (convert 22 9 (.slice (some ⟨b, 0, none⟩) 1 1)).run Tryd.prog w = .ok (.string ⟨[UInt8.ofNat x.toNat].toArray⟩) w :=
  run_convert_bytes_arg _ 22 5 Tryd.underlying22 Tryd.underlying5 b 0 1 1 [x] rfl (fun i hi => by
    obtain rfl : i = 0 := by omega
    exact h) 9 Tryd.underlying9
theorem conv_one (x : Int) (w : World) :
    (convert 22 9 (.slice (some ⟨w.heap.size, 0, none⟩) 1 1)).run Tryd.prog (w.alloc (.cells #[.int .u8 x] 5)) = .ok (.string ⟨[UInt8.ofNat x.toNat].toArray⟩) (w.alloc (.cells #[.int .u8 x] 5)) :=
  run_convert_bytes_arg _ 22 5 Tryd.underlying22 Tryd.underlying5 w.heap.size 0 1 1 [x] rfl (fun i hi => by
    obtain rfl : i = 0 := by omega
    exact Lib.cell_of_heap (heap_alloc_new _ _) 0) 9 Tryd.underlying9

set_option maxHeartbeats 400000 in
theorem rdigits_small (u : Int) (w : World) (h0 : 0 ≤ u) (h1 : u < 10) :
    Calls Tryd.prog 36 #[.int .u64 u] w fun e w' => e = .returned (.string ⟨(Lib.decDigits u.toNat).toArray⟩) ∧ Below w.heap.size w w' := by
  have hcv := conv_one (48 + u) w
  go_enter Tryd.func36, Tryd.ntmps36
  go_wp2
  go_ret
  refine ⟨ret_str ?_, (Below.refl _ w).alloc (Nat.le_refl _) _⟩
  rw [Lib.decDigits_one (by omega), show (48 + u).toNat = 48 + u.toNat by omega]

theorem nDigits_le (u : Nat) (h : u ≤ 18446744073709551615) : Lib.nDigits u ≤ 20 := by
  rw [← Lib.decDigits_length]
  have key : ∀ (k u : Nat), u < 10 ^ (k + 1) → (Lib.decDigits u).length ≤ k + 1 := by
    intro k
    induction k with
    | zero => intro u hu; rw [Lib.decDigits_one (by omega)]; simp
    | succ k ih =>
      intro u hu
      rw [Lib.decDigits]
      split
      · simp
      · have := ih (u / 10) (by rw [Nat.div_lt_iff_lt_mul (by omega)]; rw [Nat.pow_succ] at hu; omega)
        simp; omega
  exact key 19 u (by omega)

set_option maxHeartbeats 4000000 in
set_option maxRecDepth 100000 in
theorem rdigits_step (u : Int) (w : World) (h0 : 10 ≤ u) (h1 : u ≤ 18446744073709551615) (sd sl : ByteArray)
    (hcv : ∀ w : World, (convert 22 9 (.slice (some ⟨w.heap.size, 0, none⟩) 1 1)).run Tryd.prog (w.alloc (.cells #[.int .u8 (48 + u % 10)] 5)) = .ok (.string sl) (w.alloc (.cells #[.int .u8 (48 + u % 10)] 5)))
    (hcl : ∀ W : World, W.cell? ⟨w.heap.size, 0, none⟩ = some (.int .u8 (48 + u % 10)) → (convert 22 9 (.slice (some ⟨w.heap.size, 0, none⟩) 1 1)).run Tryd.prog W = .ok (.string sl) W)
    (hadd : ∀ w : World, (Op.stringOp .add sd sl).run Tryd.prog w = .ok (.string (sd ++ sl)) w)
    (ih : ∀ w, Calls Tryd.prog 36 #[.int .u64 (u / 10)] w fun e w' => e = .returned (.string sd) ∧ Below w.heap.size w w') :
    Calls Tryd.prog 36 #[.int .u64 u] w fun e w' => e = .returned (.string (sd ++ sl)) ∧ Below w.heap.size w w' := by
  have IH := Lib.hid ih; clear ih
  have hcd := hcl (w.alloc (.cells #[.int .u8 (48 + u % 10)] 5)).drew (Lib.cell_of_heap (heap_alloc_new w _) 0)
  have HCL := Lib.hid hcl; clear hcl
  have q1 := IntWalk.u64_quo u 10 (by omega)
  have q2 := IntWalk.rem_in u 10 (by omega)
  have q3 := IntWalk.u64_in (48 + u % 10) (by omega)
  have q4 := IntWalk.u8_in (48 + u % 10) (by omega)
  have H1 := Lib.hid h1
  clear h1
  go_enter Tryd.func36, Tryd.ntmps36
  go_wp2_with fail
  go_region_with (go_at_call 36; refine (IH.out _).mono ?_; rintro e w' ⟨rfl, hb⟩; try have hcw := HCL.out w' ((hb.cell (p := ⟨w.heap.size, 0, none⟩) (by simp)).trans (Lib.cell_of_heap (heap_alloc_new w _) 0)))
  all_goals (try go_wp2)
  all_goals go_ret
  all_goals refine ⟨rfl, ?_⟩
  all_goals first
    | exact (((Below.refl _ w).alloc (Nat.le_refl _) _).drew).trans (hb.mono (by simp))
    | exact ((Below.refl _ w).drew.trans hb).alloc hb.size _

theorem rdigits (u : Int) (w : World) (h0 : 0 ≤ u) (h1 : u ≤ 18446744073709551615) :
    Calls Tryd.prog 36 #[.int .u64 u] w fun e w' => e = .returned (.string ⟨(Lib.decDigits u.toNat).toArray⟩) ∧ Below w.heap.size w w' := by
  have key : ∀ (m : Nat) (u : Int), u.toNat ≤ m → 0 ≤ u → u ≤ 18446744073709551615 → ∀ w : World,
      Calls Tryd.prog 36 #[.int .u64 u] w fun e w' => e = .returned (.string ⟨(Lib.decDigits u.toNat).toArray⟩) ∧ Below w.heap.size w w' := by
    intro m
    induction m with
    | zero => intro u hm h0 h1 w; exact rdigits_small u w h0 (by omega)
    | succ m ih =>
      intro u hm h0 h1 w
      by_cases h10 : u < 10
      · exact rdigits_small u w h0 h10
      · have e := rdigits_step u w (by omega) h1 ⟨(Lib.decDigits (u / 10).toNat).toArray⟩ ⟨[UInt8.ofNat (48 + u % 10).toNat].toArray⟩
          (fun w => conv_one _ w) (fun W h => conv_cell _ _ W h)
          (fun w => run_string_add_sum w _ _ (by
            rw [size_toArray, size_toArray, Lib.decDigits_length]
            have := nDigits_le (u / 10).toNat (by omega)
            simp; omega))
          (ih (u / 10) (by omega) (by omega) (by omega))
        refine e.mono ?_
        rintro e w' ⟨rfl, hb⟩
        refine ⟨?_, hb⟩
        have hh : ¬ u.toNat < 10 := by omega
        rw [Lib.decDigits.eq_1 u.toNat, dif_neg hh, show (u / 10).toNat = u.toNat / 10 by omega, show (48 + u % 10).toNat = 48 + u.toNat % 10 by omega, bytes_append]
  exact key u.toNat u (Nat.le_refl _) h0 h1 w

set_option maxHeartbeats 400000 in
theorem rNumber_pos (n : Int) (h0 : 0 ≤ n) (h1 : n ≤ 9223372036854775807) (w : World) :
    Calls Tryd.prog 21 #[.int .i64 n] w fun e w' => e = .returned (.string ⟨(Lib.itoa n).toArray⟩) ∧ Below w.heap.size w w' := by
  go_enter Tryd.func21, Tryd.ntmps21
  go_wp2_with fail
  refine (rdigits n _ h0 (by omega)).mono ?_
  rintro e w1 ⟨rfl, hb⟩
  go_wp2
  go_ret
  exact ⟨ret_str (by rw [Lib.itoa, if_neg (by omega)]), hb⟩
set_option maxHeartbeats 400000 in
theorem rNumber_neg (n : Int) (h0 : n < 0) (h1 : -9223372036854775808 ≤ n) (w : World) :
    Calls Tryd.prog 21 #[.int .i64 n] w fun e w' => e = .returned (.string ⟨(Lib.itoa n).toArray⟩) ∧ Below w.heap.size w w' := by
  go_enter Tryd.func21, Tryd.ntmps21
  go_wp2_with fail
  have c := fun w => rdigits (-(n + 1) + 1) w (by omega) (by omega)
  rw [show (-(n + 1) + 1).toNat = n.natAbs by omega] at c
  refine (c _).mono ?_
  rintro e w1 ⟨rfl, hb⟩
  clear c
  have hadd := add_lists (P := Tryd.prog) w1 [45] (Lib.decDigits n.natAbs) (by
    rw [Lib.decDigits_length]
    have := nDigits_le n.natAbs (by omega)
    simp; omega)
  go_wp2
  go_ret
  refine ⟨?_, hb⟩
  rw [Lib.itoa, if_pos h0]
  rfl
theorem rNumber (n : Int) (h0 : -9223372036854775808 ≤ n) (h1 : n ≤ 9223372036854775807) (w : World) :
    Calls Tryd.prog 21 #[.int .i64 n] w fun e w' => e = .returned (.string ⟨(Lib.itoa n).toArray⟩) ∧ Below w.heap.size w w' := by
  by_cases h : n < 0
  · exact rNumber_neg n h h0 w
  · exact rNumber_pos n (by omega) h1 w
end Go.Proofs.YtbcbbkdfdfgnfaaDoor
