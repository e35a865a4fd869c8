/-
  Layer 2: the small calls on words: RotateLeft32, join; of the reference left, mix.
-/
import Derived.Test.YtbcbbkdfdfgnfaaDoorSp
import Derived.Test.YtbcbbkdfdfgnfaaDoorMm
import Derived.IntWalk
import Derived.WalkSmall
namespace Go.Proofs.YtbcbbkdfdfgnfaaDoor
open Go.RowKit
set_option linter.unusedVariables false
set_option linter.unusedSimpArgs false

theorem ret_tup {k m : IntKind} {a b c d : Int} (h : a = b) (g : c = d) : Ending.returned (.tuple #[.int k a, .int m c]) = .returned (.tuple #[.int k b, .int m d]) := by rw [h, g]
theorem rot_flip {P : Program} {f : Nat} {args : Array Value} {w : World} {v : Value} (h : Calls P f args w fun e w' => e = .returned v ∧ w = w') : Calls P f args w fun e w' => e = .returned v ∧ w' = w := h.mono fun _ _ h => ⟨h.1, h.2.symm⟩
theorem shl_i (x : BitVec 32) (n : Nat) (m : Int) (hm : m = 2 ^ n) (X : Int) (hX : X = x.toNat) : X * m % 4294967296 = ((x <<< n).toNat : Int) := by subst hm; subst hX; exact b_shl x n
theorem shr_i (x : BitVec 32) (n : Nat) (m : Int) (hm : m = 2 ^ n) (X : Int) (hX : X = x.toNat) : X / m = ((x >>> n).toNat : Int) := by subst hm; subst hX; exact b_shr x n
theorem rl_1 (x : BitVec 32) : bits BinOp.or .u32 ((x.toNat : Int) * 2 % 4294967296) ((x.toNat : Int) / 2147483648) = (rl x 1).toNat := by
  rw [shl_i x 1 2 (by decide) _ rfl, shr_i x 31 2147483648 (by decide) _ rfl, b_or]
  rfl
theorem rl_5 (x : BitVec 32) : bits BinOp.or .u32 ((x.toNat : Int) * 32 % 4294967296) ((x.toNat : Int) / 134217728) = (rl x 5).toNat := by
  rw [shl_i x 5 32 (by decide) _ rfl, shr_i x 27 134217728 (by decide) _ rfl, b_or]
  rfl
theorem rl_30 (x : BitVec 32) : bits BinOp.or .u32 ((x.toNat : Int) * 1073741824 % 4294967296) ((x.toNat : Int) / 4) = (rl x 30).toNat := by
  rw [shl_i x 30 1073741824 (by decide) _ rfl, shr_i x 2 4 (by decide) _ rfl, b_or]
  rfl
theorem c_0 : (1518500249 : Int) = (0x5a827999#32).toNat := by decide
theorem c_1 : (1859775393 : Int) = (0x6ed9eba1#32).toNat := by decide
theorem c_2 : (2400959708 : Int) = (0x8f1bbcdc#32).toNat := by decide
theorem c_3 : (3395469782 : Int) = (0xca62c1d6#32).toNat := by decide
set_option maxHeartbeats 400000 in
theorem rot_1 (x : BitVec 32) (w : World) :
    Calls Tryd.prog 49 #[.int .u32 x.toNat, .int .i64 1] w fun e w' => e = .returned (.int .u32 (rl x 1).toNat) ∧ w = w' := by
  have hk : bits BinOp.and IntKind.u64 1 31 = 1 := by decide
  go_enter Tryd.func49, Tryd.ntmps49
  go_wp2
  go_ret
  exact ⟨ret_int (rl_1 x), rfl⟩
set_option maxHeartbeats 400000 in
theorem left_1 (x : BitVec 32) (w : World) :
    Calls Tryd.prog 34 #[.int .u32 x.toNat, .int .i64 1] w fun e w' => e = .returned (.int .u32 (rl x 1).toNat) ∧ w = w' := by
  have hk : bits BinOp.and IntKind.u64 1 31 = 1 := by decide
  go_enter Tryd.func34, Tryd.ntmps34
  go_wp2
  go_ret
  exact ⟨ret_int (rl_1 x), rfl⟩
set_option maxHeartbeats 400000 in
theorem rot_5 (x : BitVec 32) (w : World) :
    Calls Tryd.prog 49 #[.int .u32 x.toNat, .int .i64 5] w fun e w' => e = .returned (.int .u32 (rl x 5).toNat) ∧ w = w' := by
  have hk : bits BinOp.and IntKind.u64 5 31 = 5 := by decide
  go_enter Tryd.func49, Tryd.ntmps49
  go_wp2
  go_ret
  exact ⟨ret_int (rl_5 x), rfl⟩
set_option maxHeartbeats 400000 in
theorem left_5 (x : BitVec 32) (w : World) :
    Calls Tryd.prog 34 #[.int .u32 x.toNat, .int .i64 5] w fun e w' => e = .returned (.int .u32 (rl x 5).toNat) ∧ w = w' := by
  have hk : bits BinOp.and IntKind.u64 5 31 = 5 := by decide
  go_enter Tryd.func34, Tryd.ntmps34
  go_wp2
  go_ret
  exact ⟨ret_int (rl_5 x), rfl⟩
set_option maxHeartbeats 400000 in
theorem rot_30 (x : BitVec 32) (w : World) :
    Calls Tryd.prog 49 #[.int .u32 x.toNat, .int .i64 30] w fun e w' => e = .returned (.int .u32 (rl x 30).toNat) ∧ w = w' := by
  have hk : bits BinOp.and IntKind.u64 30 31 = 30 := by decide
  go_enter Tryd.func49, Tryd.ntmps49
  go_wp2
  go_ret
  exact ⟨ret_int (rl_30 x), rfl⟩
set_option maxHeartbeats 400000 in
theorem left_30 (x : BitVec 32) (w : World) :
    Calls Tryd.prog 34 #[.int .u32 x.toNat, .int .i64 30] w fun e w' => e = .returned (.int .u32 (rl x 30).toNat) ∧ w = w' := by
  have hk : bits BinOp.and IntKind.u64 30 31 = 30 := by decide
  go_enter Tryd.func34, Tryd.ntmps34
  go_wp2
  go_ret
  exact ⟨ret_int (rl_30 x), rfl⟩
set_option maxHeartbeats 400000 in
theorem join_0 (t : Nat) (h1 : t < 20) (b c d : BitVec 32) (w : World) :
    Calls Tryd.prog 50 #[.int .i64 t, .int .u32 b.toNat, .int .u32 c.toNat, .int .u32 d.toNat] w fun e w' => e = .returned (.int .u32 (fk t b c d).toNat) ∧ w = w' := by
  go_enter Tryd.func50, Tryd.ntmps50
  go_wp2
  go_ret
  refine ⟨ret_int ?_, rfl⟩
  unfold fk fF kF
  simp only [if_pos h1, b_and, b_or, b_xor, b_not, b_add, c_0, c_1, c_2, c_3, ch_xor, maj_xor]
set_option maxHeartbeats 400000 in
theorem rmix_0 (t : Nat) (h1 : t < 20) (b c d : BitVec 32) (w : World) :
    Calls Tryd.prog 35 #[.int .i64 t, .int .u32 b.toNat, .int .u32 c.toNat, .int .u32 d.toNat] w fun e w' => e = .returned (.tuple #[.int .u32 (fF t b c d).toNat, .int .u32 (kF t).toNat]) ∧ w = w' := by
  go_enter Tryd.func35, Tryd.ntmps35
  go_wp2
  go_ret2
  refine ⟨ret_tup ?_ ?_, rfl⟩
  · unfold fF
    simp only [if_pos h1, b_and, b_or, b_xor, b_not, b_add, c_0, c_1, c_2, c_3, ch_xor, maj_xor]
  · unfold kF
    simp only [if_pos h1]
    rfl
set_option maxHeartbeats 400000 in
theorem join_1 (t : Nat) (h0 : 20 ≤ t) (h1 : t < 40) (b c d : BitVec 32) (w : World) :
    Calls Tryd.prog 50 #[.int .i64 t, .int .u32 b.toNat, .int .u32 c.toNat, .int .u32 d.toNat] w fun e w' => e = .returned (.int .u32 (fk t b c d).toNat) ∧ w = w' := by
  go_enter Tryd.func50, Tryd.ntmps50
  go_wp2
  go_ret
  refine ⟨ret_int ?_, rfl⟩
  unfold fk fF kF
  simp only [if_neg (show ¬ t < 20 by omega), if_pos h1, b_and, b_or, b_xor, b_not, b_add, c_0, c_1, c_2, c_3, ch_xor, maj_xor]
set_option maxHeartbeats 400000 in
theorem rmix_1 (t : Nat) (h0 : 20 ≤ t) (h1 : t < 40) (b c d : BitVec 32) (w : World) :
    Calls Tryd.prog 35 #[.int .i64 t, .int .u32 b.toNat, .int .u32 c.toNat, .int .u32 d.toNat] w fun e w' => e = .returned (.tuple #[.int .u32 (fF t b c d).toNat, .int .u32 (kF t).toNat]) ∧ w = w' := by
  go_enter Tryd.func35, Tryd.ntmps35
  go_wp2
  go_ret2
  refine ⟨ret_tup ?_ ?_, rfl⟩
  · unfold fF
    simp only [if_neg (show ¬ t < 20 by omega), if_pos h1, b_and, b_or, b_xor, b_not, b_add, c_0, c_1, c_2, c_3, ch_xor, maj_xor]
  · unfold kF
    simp only [if_neg (show ¬ t < 20 by omega), if_pos h1]
    rfl
set_option maxHeartbeats 400000 in
theorem join_2 (t : Nat) (h0 : 40 ≤ t) (h1 : t < 60) (b c d : BitVec 32) (w : World) :
    Calls Tryd.prog 50 #[.int .i64 t, .int .u32 b.toNat, .int .u32 c.toNat, .int .u32 d.toNat] w fun e w' => e = .returned (.int .u32 (fk t b c d).toNat) ∧ w = w' := by
  go_enter Tryd.func50, Tryd.ntmps50
  go_wp2
  go_ret
  refine ⟨ret_int ?_, rfl⟩
  unfold fk fF kF
  simp only [if_neg (show ¬ t < 20 by omega), if_neg (show ¬ t < 40 by omega), if_pos h1, b_and, b_or, b_xor, b_not, b_add, c_0, c_1, c_2, c_3, ch_xor, maj_xor]
set_option maxHeartbeats 400000 in
theorem rmix_2 (t : Nat) (h0 : 40 ≤ t) (h1 : t < 60) (b c d : BitVec 32) (w : World) :
    Calls Tryd.prog 35 #[.int .i64 t, .int .u32 b.toNat, .int .u32 c.toNat, .int .u32 d.toNat] w fun e w' => e = .returned (.tuple #[.int .u32 (fF t b c d).toNat, .int .u32 (kF t).toNat]) ∧ w = w' := by
  go_enter Tryd.func35, Tryd.ntmps35
  go_wp2
  go_ret2
  refine ⟨ret_tup ?_ ?_, rfl⟩
  · unfold fF
    simp only [if_neg (show ¬ t < 20 by omega), if_neg (show ¬ t < 40 by omega), if_pos h1, b_and, b_or, b_xor, b_not, b_add, c_0, c_1, c_2, c_3, ch_xor, maj_xor]
  · unfold kF
    simp only [if_neg (show ¬ t < 20 by omega), if_neg (show ¬ t < 40 by omega), if_pos h1]
    rfl
set_option maxHeartbeats 400000 in
theorem join_3 (t : Nat) (h0 : 60 ≤ t) (h1 : t < 80) (b c d : BitVec 32) (w : World) :
    Calls Tryd.prog 50 #[.int .i64 t, .int .u32 b.toNat, .int .u32 c.toNat, .int .u32 d.toNat] w fun e w' => e = .returned (.int .u32 (fk t b c d).toNat) ∧ w = w' := by
  go_enter Tryd.func50, Tryd.ntmps50
  go_wp2
  go_ret
  refine ⟨ret_int ?_, rfl⟩
  unfold fk fF kF
  simp only [if_neg (show ¬ t < 20 by omega), if_neg (show ¬ t < 40 by omega), if_neg (show ¬ t < 60 by omega), b_and, b_or, b_xor, b_not, b_add, c_0, c_1, c_2, c_3, ch_xor, maj_xor]
set_option maxHeartbeats 400000 in
theorem rmix_3 (t : Nat) (h0 : 60 ≤ t) (h1 : t < 80) (b c d : BitVec 32) (w : World) :
    Calls Tryd.prog 35 #[.int .i64 t, .int .u32 b.toNat, .int .u32 c.toNat, .int .u32 d.toNat] w fun e w' => e = .returned (.tuple #[.int .u32 (fF t b c d).toNat, .int .u32 (kF t).toNat]) ∧ w = w' := by
  go_enter Tryd.func35, Tryd.ntmps35
  go_wp2
  go_ret2
  refine ⟨ret_tup ?_ ?_, rfl⟩
  · unfold fF
    simp only [if_neg (show ¬ t < 20 by omega), if_neg (show ¬ t < 40 by omega), if_neg (show ¬ t < 60 by omega), b_and, b_or, b_xor, b_not, b_add, c_0, c_1, c_2, c_3, ch_xor, maj_xor]
  · unfold kF
    simp only [if_neg (show ¬ t < 20 by omega), if_neg (show ¬ t < 40 by omega), if_neg (show ¬ t < 60 by omega)]
    rfl
theorem rot_1i (X : Int) (x : BitVec 32) (h : X = x.toNat) (w : World) : Calls Tryd.prog 49 #[.int .u32 X, .int .i64 1] w fun e w' => e = .returned (.int .u32 (rl x 1).toNat) ∧ w = w' := by subst h; exact rot_1 x w
theorem rot_5i (X : Int) (x : BitVec 32) (h : X = x.toNat) (w : World) : Calls Tryd.prog 49 #[.int .u32 X, .int .i64 5] w fun e w' => e = .returned (.int .u32 (rl x 5).toNat) ∧ w = w' := by subst h; exact rot_5 x w
theorem rot_30i (X : Int) (x : BitVec 32) (h : X = x.toNat) (w : World) : Calls Tryd.prog 49 #[.int .u32 X, .int .i64 30] w fun e w' => e = .returned (.int .u32 (rl x 30).toNat) ∧ w = w' := by subst h; exact rot_30 x w
theorem left_1i (X : Int) (x : BitVec 32) (h : X = x.toNat) (w : World) : Calls Tryd.prog 34 #[.int .u32 X, .int .i64 1] w fun e w' => e = .returned (.int .u32 (rl x 1).toNat) ∧ w = w' := by subst h; exact left_1 x w
theorem left_5i (X : Int) (x : BitVec 32) (h : X = x.toNat) (w : World) : Calls Tryd.prog 34 #[.int .u32 X, .int .i64 5] w fun e w' => e = .returned (.int .u32 (rl x 5).toNat) ∧ w = w' := by subst h; exact left_5 x w
theorem left_30i (X : Int) (x : BitVec 32) (h : X = x.toNat) (w : World) : Calls Tryd.prog 34 #[.int .u32 X, .int .i64 30] w fun e w' => e = .returned (.int .u32 (rl x 30).toNat) ∧ w = w' := by subst h; exact left_30 x w
theorem join_any (t : Nat) (h : t < 80) (b c d : BitVec 32) (w : World) :
    Calls Tryd.prog 50 #[.int .i64 t, .int .u32 b.toNat, .int .u32 c.toNat, .int .u32 d.toNat] w fun e w' => e = .returned (.int .u32 (fk t b c d).toNat) ∧ w = w' := by
  by_cases h1 : t < 20
  · exact join_0 t h1 b c d w
  · by_cases h2 : t < 40
    · exact join_1 t (by omega) h2 b c d w
    · by_cases h3 : t < 60
      · exact join_2 t (by omega) h3 b c d w
      · exact join_3 t (by omega) h b c d w
theorem rmix_any (t : Nat) (h : t < 80) (b c d : BitVec 32) (w : World) :
    Calls Tryd.prog 35 #[.int .i64 t, .int .u32 b.toNat, .int .u32 c.toNat, .int .u32 d.toNat] w fun e w' => e = .returned (.tuple #[.int .u32 (fF t b c d).toNat, .int .u32 (kF t).toNat]) ∧ w = w' := by
  by_cases h1 : t < 20
  · exact rmix_0 t h1 b c d w
  · by_cases h2 : t < 40
    · exact rmix_1 t (by omega) h2 b c d w
    · by_cases h3 : t < 60
      · exact rmix_2 t (by omega) h3 b c d w
      · exact rmix_3 t (by omega) h b c d w
end Go.Proofs.YtbcbbkdfdfgnfaaDoor
