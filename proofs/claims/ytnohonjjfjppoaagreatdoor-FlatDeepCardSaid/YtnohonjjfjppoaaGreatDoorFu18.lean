/-
  Texts that belong together, one behind the other.
-/
import Derived.Laws.Entries
import Derived.Laws.BitsAllLaws
import Derived.Test.YtnohonjjfjppoaaGreatDoorFu02
import Derived.IntWalk
import Derived.WalkSmall
import Derived.Test.YtnohonjjfjppoaaGreatDoorFu04
import Derived.Laws.CopyRow
import Derived.Laws.CopyOwn
import Derived.Laws.Rows
import Derived.Laws.Tables
import Derived.Deep.WholeRow
import Derived.Lib.BytesEntry
import Derived.Deep.QuietTactic
import Derived.BigQuiet
import Derived.BigRegion
import Derived.StillTailTactics
/-
  Layer 2, plain: SHA-1 over words of 32 bits, as lists and functions; nothing of the program.
-/
namespace Go.Proofs.YtnohonjjfjppoaaGreatDoor
open Go
set_option linter.unusedVariables false
structure H5 where
  a : BitVec 32
  b : BitVec 32
  c : BitVec 32
  d : BitVec 32
  e : BitVec 32
def H5.get (h : H5) : Nat → BitVec 32
  | 0 => h.a
  | 1 => h.b
  | 2 => h.c
  | 3 => h.d
  | _ => h.e
def h0 : H5 := ⟨0x67452301#32, 0xefcdab89#32, 0x98badcfe#32, 0x10325476#32, 0xc3d2e1f0#32⟩
/-- Turned to9 the left. -/
def rl (x : BitVec 32) (n : Nat) : BitVec 32 := (x <<< n) ||| (x >>> (32 - n))
/-- What a step makes of three words. -/
def fF (t : Nat) (b c d : BitVec 32) : BitVec 32 :=
  if t < 20 then (b &&& c) ||| (~~~b &&& d)
  else if t < 40 then b ^^^ c ^^^ d
  else if t < 60 then (b &&& c) ||| (b &&& d) ||| (c &&& d)
  else b ^^^ c ^^^ d
/-- The constant of a step. -/
def kF (t : Nat) : BitVec 32 :=
  if t < 20 then 0x5a827999#32
  else if t < 40 then 0x6ed9eba1#32
  else if t < 60 then 0x8f1bbcdc#32
  else 0xca62c1d6#32
def fk (t : Nat) (b c d : BitVec 32) : BitVec 32 := fF t b c d + kF t
def stepH (t : Nat) (w : BitVec 32) (s : H5) : H5 := ⟨rl s.a 5 + fk t s.b s.c s.d + s.e + w, s.a, rl s.b 30, s.c, s.d⟩
/-- Four bytes, the first one the greatest. -/
def word (p q r s : UInt8) : BitVec 32 := (p.toBitVec.setWidth 32 <<< 24) ||| (q.toBitVec.setWidth 32 <<< 16) ||| (r.toBitVec.setWidth 32 <<< 8) ||| s.toBitVec.setWidth 32
def nextW (m : Nat → UInt8) (l : List (BitVec 32)) (k : Nat) : BitVec 32 :=
  if k < 16 then word (m (4 * k)) (m (4 * k + 1)) (m (4 * k + 2)) (m (4 * k + 3))
  else rl (l.getD (k - 3) 0 ^^^ l.getD (k - 8) 0 ^^^ l.getD (k - 14) 0 ^^^ l.getD (k - 16) 0) 1
def sched (m : Nat → UInt8) : Nat → List (BitVec 32)
  | 0 => []
  | k + 1 => sched m k ++ [nextW m (sched m k) k]
theorem sched_len (m : Nat → UInt8) : ∀ k, (sched m k).length = k
  | 0 => rfl
  | k + 1 => by simp [sched, sched_len m k]
theorem sched_getD (m : Nat → UInt8) (i : Nat) : ∀ k, i < k → (sched m k).getD i 0 = nextW m (sched m i) i
  | 0, h => absurd h (Nat.not_lt_zero _)
  | k + 1, h => by
    rw [sched, List.getD_eq_getElem?_getD]
    by_cases hi : i < k
    · rw [List.getElem?_append_left (by rw [sched_len]; exact hi), ← List.getD_eq_getElem?_getD]
      exact sched_getD m i k hi
    · obtain rfl : i = k := by omega
      rw [List.getElem?_append_right (by rw [sched_len]; exact Nat.le_refl _), sched_len]
      simp
def W80 (m : Nat → UInt8) (j : Nat) : BitVec 32 := (sched m 80).getD j 0
theorem W80_lo (m : Nat → UInt8) (j : Nat) (h : j < 16) : W80 m j = word (m (4 * j)) (m (4 * j + 1)) (m (4 * j + 2)) (m (4 * j + 3)) := by
  unfold W80; rw [sched_getD m j 80 (by omega)]; unfold nextW; rw [if_pos h]
theorem W80_hi (m : Nat → UInt8) (j : Nat) (h : 16 ≤ j) (h2 : j < 80) : W80 m j = rl (W80 m (j - 3) ^^^ W80 m (j - 8) ^^^ W80 m (j - 14) ^^^ W80 m (j - 16)) 1 := by
  unfold W80
  rw [sched_getD m j 80 h2]; unfold nextW; rw [if_neg (by omega)]
  have e : ∀ i, i < j → (sched m j).getD i 0 = (sched m 80).getD i 0 := fun i hi => by rw [sched_getD m i 80 (by omega), sched_getD m i j hi]
  rw [e _ (by omega), e _ (by omega), e _ (by omega), e _ (by omega)]
def rounds (l : List (BitVec 32)) (s : H5) : Nat → H5
  | 0 => s
  | t + 1 => stepH t (l.getD t 0) (rounds l s t)
theorem rounds80 (m : Nat → UInt8) (h : H5) (k : Nat) : stepH k (W80 m k) (rounds (sched m 80) h k) = rounds (sched m 80) h (k + 1) := by
  rw [W80, rounds]
theorem step_b (t : Nat) (w : BitVec 32) (s : H5) : (stepH t w s).b = s.a := rfl
theorem step_c (t : Nat) (w : BitVec 32) (s : H5) : (stepH t w s).c = rl s.b 30 := rfl
theorem step_d (t : Nat) (w : BitVec 32) (s : H5) : (stepH t w s).d = s.c := rfl
theorem step_e (t : Nat) (w : BitVec 32) (s : H5) : (stepH t w s).e = s.d := rfl
def addH (h s : H5) : H5 := ⟨h.a + s.a, h.b + s.b, h.c + s.c, h.d + s.d, h.e + s.e⟩
def comp (m : Nat → UInt8) (h : H5) : H5 := addH h (rounds (sched m 80) h 80)
/-- The words behind k blocks of a text. -/
def hs (T : Nat → UInt8) : Nat → H5
  | 0 => h0
  | k + 1 => comp (fun i => T (64 * k + i)) (hs T k)
/-- How many bytes a text of n bytes has when it is closed. -/
def padLen (n : Nat) : Nat := 64 * ((n + 8) / 64 + 1)
/-- The bytes of a text that is closed. -/
def padF (l : List UInt8) (i : Nat) : UInt8 :=
  if i < l.length then l.getD i 0
  else if i = l.length then 0x80
  else if i < padLen l.length - 8 then 0
  else UInt8.ofNat (8 * l.length / 2 ^ (8 * (padLen l.length - 1 - i)))
theorem padF_in (l : List UInt8) (i : Nat) (h : i < l.length) : padF l i = l.getD i 0 := by unfold padF; rw [if_pos h]
theorem padF_0 (l : List UInt8) : padF l l.length = 0x80 := by unfold padF; rw [if_neg (by omega), if_pos rfl]
theorem padF_z (l : List UInt8) (i : Nat) (h : l.length < i) (h2 : i < padLen l.length - 8) : padF l i = 0 := by unfold padF; rw [if_neg (by omega), if_neg (by omega), if_pos h2]
theorem padF_t (l : List UInt8) (i k : Nat) (h : l.length < i) (hk : k < 8) (h2 : i + 8 = padLen l.length + k) : padF l i = UInt8.ofNat (8 * l.length / 2 ^ (8 * (7 - k))) := by
  unfold padF; rw [if_neg (by omega), if_neg (by omega), if_neg (by omega), show padLen l.length - 1 - i = 7 - k by omega]
theorem pad_z (n : Nat) : n + (1 + (119 - n % 64) % 64 + 8) = padLen n := by unfold padLen; omega
theorem pad_val (l : List UInt8) (i k : Nat) (h : l.length < i) (hk : k < 8) (h2 : i + 8 = padLen l.length + k) : (((l.length : Nat) : Int) * 8 / 2 ^ (8 * (7 - k)) % 256) = ((padF l i).toNat : Int) := by
  rw [padF_t l i k h hk h2, UInt8.toNat_ofNat', Int.natCast_emod, Int.natCast_ediv, Int.natCast_mul, Int.natCast_pow, Int.mul_comm]
  rfl
def outB (h : H5) (i : Nat) : UInt8 := UInt8.ofNat ((h.get (i / 4)).toNat / 2 ^ (8 * (3 - i % 4)))
def digest (h : H5) : List UInt8 := (List.range 20).map (outB h)
theorem digest_len (h : H5) : (digest h).length = 20 := by simp [digest]
def sumL (l : List UInt8) : List UInt8 := digest (hs (padF l) (padLen l.length / 64))
theorem ofInt32 (a : BitVec 32) : BitVec.ofInt 32 (a.toNat : Int) = a := by
  rw [BitVec.ofInt_natCast, BitVec.ofNat_toNat, BitVec.setWidth_eq]
theorem wrap32 (a : BitVec 32) : IntKind.u32.wrap (a.toNat : Int) = a.toNat := by
  rw [IntKind.wrap_u32']; have := a.isLt; omega
theorem b_and (a b : BitVec 32) : bits BinOp.and .u32 a.toNat b.toNat = (a &&& b).toNat := by
  show IntKind.u32.wrap (BitVec.toNat (BitVec.ofInt 32 _ &&& BitVec.ofInt 32 _) : Int) = _
  rw [ofInt32, ofInt32, wrap32]
theorem b_or (a b : BitVec 32) : bits BinOp.or .u32 a.toNat b.toNat = (a ||| b).toNat := by
  show IntKind.u32.wrap (BitVec.toNat (BitVec.ofInt 32 _ ||| BitVec.ofInt 32 _) : Int) = _
  rw [ofInt32, ofInt32, wrap32]
theorem b_xor (a b : BitVec 32) : bits BinOp.xor .u32 a.toNat b.toNat = (a ^^^ b).toNat := by
  show IntKind.u32.wrap (BitVec.toNat (BitVec.ofInt 32 _ ^^^ BitVec.ofInt 32 _) : Int) = _
  rw [ofInt32, ofInt32, wrap32]
theorem b_not (a : BitVec 32) : bits BinOp.xor .u32 IntKind.u32.max a.toNat = (~~~a).toNat := by
  show IntKind.u32.wrap (BitVec.toNat (BitVec.ofInt 32 IntKind.u32.max ^^^ BitVec.ofInt 32 _) : Int) = _
  rw [ofInt32, show BitVec.ofInt 32 IntKind.u32.max = BitVec.allOnes 32 by decide, BitVec.allOnes_xor, wrap32]
theorem b_add (a b : BitVec 32) : ((a.toNat : Int) + b.toNat) % 4294967296 = (a + b).toNat := by
  rw [BitVec.toNat_add]; omega
theorem step_a (t : Nat) (w : BitVec 32) (s : H5) : ((((((rl s.a 5).toNat : Int) + (fk t s.b s.c s.d).toNat) % 4294967296 + s.e.toNat) % 4294967296 + w.toNat) % 4294967296 : Int) = ((stepH t w s).a.toNat : Int) := by
  rw [b_add, b_add, b_add]
  rfl
theorem step_a2 (t : Nat) (w : BitVec 32) (s : H5) : ((((rl s.a 5).toNat : Int) + (fk t s.b s.c s.d).toNat + s.e.toNat + w.toNat) % 4294967296 : Int) = ((stepH t w s).a.toNat : Int) := by
  rw [← step_a]
  omega
theorem b_shl (a : BitVec 32) (n : Nat) : ((a.toNat : Int) * 2 ^ n) % 4294967296 = (a <<< n).toNat := by
  rw [BitVec.toNat_shiftLeft, Nat.shiftLeft_eq, show (2 : Nat) ^ 32 = 4294967296 from rfl, Int.natCast_emod, Int.natCast_mul, Int.natCast_pow]
  rfl
theorem b_shr (a : BitVec 32) (n : Nat) : (a.toNat : Int) / 2 ^ n = (a >>> n).toNat := by
  rw [BitVec.toNat_ushiftRight, Nat.shiftRight_eq_div_pow, Int.natCast_ediv, Int.natCast_pow]
  rfl
theorem byte_shl (p : UInt8) (n : Nat) (h : n ≤ 24) : ((p.toBitVec.setWidth 32 <<< n).toNat : Int) = (p.toNat : Int) * 2 ^ n := by
  have h1 := p.toNat_lt
  have h2 : 2 ^ n ≤ 2 ^ 24 := Nat.pow_le_pow_right (by decide) h
  rw [BitVec.toNat_shiftLeft, BitVec.toNat_setWidth, Nat.shiftLeft_eq]
  have e : p.toBitVec.toNat = p.toNat := rfl
  rw [e, Nat.mod_eq_of_lt (a := p.toNat) (by omega), Nat.mod_eq_of_lt]
  · push_cast; rfl
  · exact Nat.lt_of_le_of_lt (Nat.mul_le_mul (show p.toNat ≤ 255 by omega) h2) (by decide)
theorem word_int (p q r s : UInt8) : bits BinOp.or .u32 (bits BinOp.or .u32 (bits BinOp.or .u32 ((p.toNat : Int) * 16777216) ((q.toNat : Int) * 65536)) ((r.toNat : Int) * 256)) (s.toNat : Int) = (word p q r s).toNat := by
  have e1 := byte_shl p 24 (by decide)
  have e2 := byte_shl q 16 (by decide)
  have e3 := byte_shl r 8 (by decide)
  have e4 := byte_shl s 0 (by decide)
  rw [BitVec.shiftLeft_zero] at e4
  rw [show (2 : Int) ^ 24 = 16777216 by decide] at e1
  rw [show (2 : Int) ^ 16 = 65536 by decide] at e2
  rw [show (2 : Int) ^ 8 = 256 by decide] at e3
  rw [show (2 : Int) ^ 0 = 1 by decide, Int.mul_one] at e4
  rw [← e1, ← e2, ← e3, ← e4, b_or, b_or, b_or]
  rfl
theorem ch_xor (b c d : BitVec 32) : (b &&& c) ^^^ (~~~b &&& d) = (b &&& c) ||| (~~~b &&& d) := by
  apply BitVec.eq_of_getElem_eq
  intro i hi
  simp only [BitVec.getElem_xor, BitVec.getElem_or, BitVec.getElem_and, BitVec.getElem_not]
  cases b[i] <;> cases c[i] <;> cases d[i] <;> rfl
theorem maj_xor (b c d : BitVec 32) : (b &&& c) ^^^ (b &&& d) ^^^ (c &&& d) = (b &&& c) ||| (b &&& d) ||| (c &&& d) := by
  apply BitVec.eq_of_getElem_eq
  intro i hi
  simp only [BitVec.getElem_xor, BitVec.getElem_or, BitVec.getElem_and]
  cases b[i] <;> cases c[i] <;> cases d[i] <;> rfl
end Go.Proofs.YtnohonjjfjppoaaGreatDoor

/-
  Layer 2: the small calls on words: RotateLeft32, join; of the reference left, mix.
-/
namespace Go.Proofs.YtnohonjjfjppoaaGreatDoor
open Go.RowKit
set_option linter.unusedVariables false
set_option linter.unusedSimpArgs false
theorem rot_flip {P : Program} {f : Nat} {args : Array Value} {w : World} {v : Value} (h : Calls P f args w fun e w' => e = .returned v ∧ w = w') : Calls P f args w fun e w' => e = .returned v ∧ w' = w := h.mono fun _ _ h => ⟨h.1, h.2.symm⟩
theorem shl_i (x : BitVec 32) (n : Nat) (m : Int) (hm : m = 2 ^ n) (X : Int) (hX : X = x.toNat) : X * m % 4294967296 = ((x <<< n).toNat : Int) := by subst hm; subst hX; exact b_shl x n
theorem shr_i (x : BitVec 32) (n : Nat) (m : Int) (hm : m = 2 ^ n) (X : Int) (hX : X = x.toNat) : X / m = ((x >>> n).toNat : Int) := by subst hm; subst hX; exact b_shr x n
theorem rl_1 (x : BitVec 32) : bits BinOp.or .u32 ((x.toNat : Int) * 2 % 4294967296) ((x.toNat : Int) / 2147483648) = (rl x 1).toNat := by
  rw [shl_i x 1 2 (by decide) _ rfl, shr_i x 31 2147483648 (by decide) _ rfl, b_or]
  rfl
theorem rl_5 (x : BitVec 32) : bits BinOp.or .u32 ((x.toNat : Int) * 32 % 4294967296) ((x.toNat : Int) / 134217728) = (rl x 5).toNat := by
  rw [shl_i x 5 32 (by decide) _ rfl, shr_i x 27 134217728 (by decide) _ rfl, b_or]
  rfl
theorem rl_30 (x : BitVec 32) : bits BinOp.or .u32 ((x.toNat : Int) * 1073741824 % 4294967296) ((x.toNat : Int) / 4) = (rl x 30).toNat := by
  rw [shl_i x 30 1073741824 (by decide) _ rfl, shr_i x 2 4 (by decide) _ rfl, b_or]
  rfl
theorem c_0 : (1518500249 : Int) = (0x5a827999#32).toNat := by decide
theorem c_1 : (1859775393 : Int) = (0x6ed9eba1#32).toNat := by decide
theorem c_2 : (2400959708 : Int) = (0x8f1bbcdc#32).toNat := by decide
theorem c_3 : (3395469782 : Int) = (0xca62c1d6#32).toNat := by decide
set_option maxHeartbeats 400000 in
theorem rot_1 (x : BitVec 32) (w : World) :
    Calls Tryz.prog 157 #[.int .u32 x.toNat, .int .i64 1] w fun e w' => e = .returned (.int .u32 (rl x 1).toNat) ∧ w = w' := by
  have hk : bits BinOp.and IntKind.u64 1 31 = 1 := by decide
  go_enter Tryz.func157, Tryz.ntmps157
  go_wp2
  go_ret
  exact ⟨ret_int (rl_1 x), rfl⟩
set_option maxHeartbeats 400000 in
theorem rot_5 (x : BitVec 32) (w : World) :
    Calls Tryz.prog 157 #[.int .u32 x.toNat, .int .i64 5] w fun e w' => e = .returned (.int .u32 (rl x 5).toNat) ∧ w = w' := by
  have hk : bits BinOp.and IntKind.u64 5 31 = 5 := by decide
  go_enter Tryz.func157, Tryz.ntmps157
  go_wp2
  go_ret
  exact ⟨ret_int (rl_5 x), rfl⟩
set_option maxHeartbeats 400000 in
theorem rot_30 (x : BitVec 32) (w : World) :
    Calls Tryz.prog 157 #[.int .u32 x.toNat, .int .i64 30] w fun e w' => e = .returned (.int .u32 (rl x 30).toNat) ∧ w = w' := by
  have hk : bits BinOp.and IntKind.u64 30 31 = 30 := by decide
  go_enter Tryz.func157, Tryz.ntmps157
  go_wp2
  go_ret
  exact ⟨ret_int (rl_30 x), rfl⟩
set_option maxHeartbeats 400000 in
theorem join_0 (t : Nat) (h1 : t < 20) (b c d : BitVec 32) (w : World) :
    Calls Tryz.prog 158 #[.int .i64 t, .int .u32 b.toNat, .int .u32 c.toNat, .int .u32 d.toNat] w fun e w' => e = .returned (.int .u32 (fk t b c d).toNat) ∧ w = w' := by
  go_enter Tryz.func158, Tryz.ntmps158
  go_wp2
  go_ret
  refine ⟨ret_int ?_, rfl⟩
  unfold fk fF kF
  simp only [if_pos h1, b_and, b_or, b_xor, b_not, b_add, c_0, c_1, c_2, c_3, ch_xor, maj_xor]
set_option maxHeartbeats 400000 in
theorem join_1 (t : Nat) (h0 : 20 ≤ t) (h1 : t < 40) (b c d : BitVec 32) (w : World) :
    Calls Tryz.prog 158 #[.int .i64 t, .int .u32 b.toNat, .int .u32 c.toNat, .int .u32 d.toNat] w fun e w' => e = .returned (.int .u32 (fk t b c d).toNat) ∧ w = w' := by
  go_enter Tryz.func158, Tryz.ntmps158
  go_wp2
  go_ret
  refine ⟨ret_int ?_, rfl⟩
  unfold fk fF kF
  simp only [if_neg (show ¬ t < 20 by omega), if_pos h1, b_and, b_or, b_xor, b_not, b_add, c_0, c_1, c_2, c_3, ch_xor, maj_xor]
set_option maxHeartbeats 400000 in
theorem join_2 (t : Nat) (h0 : 40 ≤ t) (h1 : t < 60) (b c d : BitVec 32) (w : World) :
    Calls Tryz.prog 158 #[.int .i64 t, .int .u32 b.toNat, .int .u32 c.toNat, .int .u32 d.toNat] w fun e w' => e = .returned (.int .u32 (fk t b c d).toNat) ∧ w = w' := by
  go_enter Tryz.func158, Tryz.ntmps158
  go_wp2
  go_ret
  refine ⟨ret_int ?_, rfl⟩
  unfold fk fF kF
  simp only [if_neg (show ¬ t < 20 by omega), if_neg (show ¬ t < 40 by omega), if_pos h1, b_and, b_or, b_xor, b_not, b_add, c_0, c_1, c_2, c_3, ch_xor, maj_xor]
set_option maxHeartbeats 400000 in
theorem join_3 (t : Nat) (h0 : 60 ≤ t) (h1 : t < 80) (b c d : BitVec 32) (w : World) :
    Calls Tryz.prog 158 #[.int .i64 t, .int .u32 b.toNat, .int .u32 c.toNat, .int .u32 d.toNat] w fun e w' => e = .returned (.int .u32 (fk t b c d).toNat) ∧ w = w' := by
  go_enter Tryz.func158, Tryz.ntmps158
  go_wp2
  go_ret
  refine ⟨ret_int ?_, rfl⟩
  unfold fk fF kF
  simp only [if_neg (show ¬ t < 20 by omega), if_neg (show ¬ t < 40 by omega), if_neg (show ¬ t < 60 by omega), b_and, b_or, b_xor, b_not, b_add, c_0, c_1, c_2, c_3, ch_xor, maj_xor]
theorem join_any (t : Nat) (h : t < 80) (b c d : BitVec 32) (w : World) :
    Calls Tryz.prog 158 #[.int .i64 t, .int .u32 b.toNat, .int .u32 c.toNat, .int .u32 d.toNat] w fun e w' => e = .returned (.int .u32 (fk t b c d).toNat) ∧ w = w' := by
  by_cases h1 : t < 20
  · exact join_0 t h1 b c d w
  · by_cases h2 : t < 40
    · exact join_1 t (by omega) h2 b c d w
    · by_cases h3 : t < 60
      · exact join_2 t (by omega) h3 b c d w
      · exact join_3 t (by omega) h b c d w
end Go.Proofs.YtnohonjjfjppoaaGreatDoor

/-
  Layer 2: what the blocks of the program hold: arrays of words, the state.
-/
namespace Go.Proofs.YtnohonjjfjppoaaGreatDoor
open Go.RowKit
set_option linter.unusedVariables false
set_option linter.unusedSimpArgs false
/-- Words as values. -/
def wv (l : List (BitVec 32)) : List Value := l.map fun x => .int .u32 x.toNat
theorem wv_len (l : List (BitVec 32)) : (wv l).length = l.length := by simp [wv]
theorem wv_at (l : List (BitVec 32)) (i : Nat) (h : i < l.length) : (wv l)[i]? = some (.int .u32 (l.getD i 0).toNat) := by
  simp [wv, h]
theorem wv_one (l : List (BitVec 32)) : ∀ v ∈ wv l, v.oneCell' = true := by
  intro v hv; simp [wv] at hv; obtain ⟨x, _, rfl⟩ := hv; rfl
theorem arr_wv {arr : Array Value} {l : List (BitVec 32)} (hs : arr.size = l.length) (h : ∀ j, j < l.length → arr[j]? = some (.int .u32 (l.getD j 0).toNat)) : arr = (wv l).toArray := by
  apply Array.ext_getElem?
  intro i
  have e : (wv l).toArray[i]? = (wv l)[i]? := by simp
  by_cases hi : i < l.length
  · rw [h i hi, e, wv_at l i hi]
  · rw [Array.getElem?_eq_none (by omega), e, List.getElem?_eq_none (by rw [wv_len]; omega)]
theorem wv_all (l : List (BitVec 32)) : (wv l).toArray.all (·.oneCell') = true := by
  rw [Array.all_eq_true]
  intro i hi
  exact wv_one l _ (by simp)
theorem info43 : (Tryz.prog.info? 179).map (·.size) = some 80 := by kernel_rfl
theorem info40 : (Tryz.prog.info? 177).map (·.size) = some 71 := by kernel_rfl
theorem z43 : ∃ z : Array Value, (Tryz.prog.info? 179).map (fun i => (i.zero, i.size)) = some (some (.agg z), 80) ∧ z = Array.replicate 80 (.int .u32 0) := ⟨Array.replicate 80 (.int .u32 0), by kernel_rfl, rfl⟩
def zer40 : Array Value := (List.replicate 5 (Value.int .u32 0) ++ (List.replicate 64 (Value.int .u8 0) ++ [Value.int .i64 0, Value.int .u64 0])).toArray
theorem z40 : (Tryz.prog.info? 177).map (fun i => (i.zero, i.size)) = some (some (.agg zer40), 71) := by kernel_rfl
theorem size_u8 (w : World) : (sizeOf 5).run Tryz.prog w = .ok 1 w := Tryz.sizeOf5 w
theorem slice64_lh (w : World) (g k : Nat) (hk : k < 16) (l h : Int) (hl : l = 4 * (k : Int)) (hh : h = 4 * (k : Int) + 4) :
    (Instr.sliceAt 174 (.pointer (some ⟨g, 5, none⟩)) (some (.int .i64 l)) (some (.int .i64 h)) none).run Tryz.prog w = .ok (.slice (some ⟨g, 5 + 4 * k, none⟩) 4 (64 - 4 * k)) w := by
  have ea : Tryz.prog.arrayLen 174 = 64 := by kernel_rfl
  have ee : Tryz.prog.elem 174 = 5 := by kernel_rfl
  rw [run_sliceAt_array_lh w 174 ⟨g, 5, none⟩ (by rw [ea, ee]; exact Tryz.underlying174) .i64 .i64 l h (by omega) (by omega) (by rw [ea]; omega), ea, ee, size_u8]
  simp only [Result.andThen_ok, slicedAt]
  rw [if_neg (by omega), show h.toNat - l.toNat = 4 by omega, show l.toNat = 4 * k by omega]
  unfold Addr.add
  simp only [Nat.mul_one]
  split
  · rename_i h0; simp [show k = 0 by omega]
  · rfl
theorem slice64_l (w : World) (g k : Nat) (hk : k < 64) (l : Int) (hl : l = (k : Int)) :
    (Instr.sliceAt 174 (.pointer (some ⟨g, 5, none⟩)) (some (.int .i64 l)) none none).run Tryz.prog w = .ok (.slice (some ⟨g, 5 + k, none⟩) (64 - k) (64 - k)) w := by
  have ea : Tryz.prog.arrayLen 174 = 64 := by kernel_rfl
  have ee : Tryz.prog.elem 174 = 5 := by kernel_rfl
  rw [run_sliceAt_array_l w 174 ⟨g, 5, none⟩ (by rw [ea, ee]; exact Tryz.underlying174) .i64 l (by omega) (by rw [ea]; omega), ea, ee, size_u8]
  simp only [Result.andThen_ok, slicedAt]
  rw [if_neg (by omega), show l.toNat = k by omega]
  unfold Addr.add
  simp only [Nat.mul_one]
  split
  · rename_i h0; simp [show k = 0 by omega]
  · rfl
theorem index_arr80 (w : World) (b k : Nat) (hk : k < 80) (i : Int) (hi : i = (k : Int)) :
    (Instr.indexAt 179 (.pointer (some ⟨b, 0, none⟩)) (.int .i64 i)).run Tryz.prog w = .ok (.pointer (some ⟨b, k, none⟩)) w := by
  have ea : Tryz.prog.arrayLen 179 = 80 := by kernel_rfl
  have ee : Tryz.prog.elem 179 = 172 := by kernel_rfl
  rw [run_indexAt_array w 179 ⟨b, 0, none⟩ .i64 i (by rw [ea, ee]; exact Tryz.underlying179), if_pos (by rw [ea]; omega), ee, Tryz.sizeOf172 w]
  simp only [Result.andThen_ok, show i.toNat = k by omega, Nat.mul_one]
  unfold Addr.add
  split
  · rename_i h0; simp [h0]
  · simp
theorem index_arr5 (w : World) (b k : Nat) (hk : k < 5) (i : Int) (hi : i = (k : Int)) :
    (Instr.indexAt 173 (.pointer (some ⟨b, 0, none⟩)) (.int .i64 i)).run Tryz.prog w = .ok (.pointer (some ⟨b, k, none⟩)) w := by
  have ea : Tryz.prog.arrayLen 173 = 5 := by kernel_rfl
  have ee : Tryz.prog.elem 173 = 172 := by kernel_rfl
  rw [run_indexAt_array w 173 ⟨b, 0, none⟩ .i64 i (by rw [ea, ee]; exact Tryz.underlying173), if_pos (by rw [ea]; omega), ee, Tryz.sizeOf172 w]
  simp only [Result.andThen_ok, show i.toNat = k by omega, Nat.mul_one]
  unfold Addr.add
  split
  · rename_i h0; simp [h0]
  · simp
theorem index_arr20 (w : World) (b k : Nat) (hk : k < 20) (i : Int) (hi : i = (k : Int)) :
    (Instr.indexAt 27 (.pointer (some ⟨b, 0, none⟩)) (.int .i64 i)).run Tryz.prog w = .ok (.pointer (some ⟨b, k, none⟩)) w := by
  have ea : Tryz.prog.arrayLen 27 = 20 := by kernel_rfl
  have ee : Tryz.prog.elem 27 = 5 := by kernel_rfl
  rw [run_indexAt_array w 27 ⟨b, 0, none⟩ .i64 i (by rw [ea, ee]; exact Tryz.underlying27), if_pos (by rw [ea]; omega), ee, Tryz.sizeOf5 w]
  simp only [Result.andThen_ok, show i.toNat = k by omega, Nat.mul_one]
  unfold Addr.add
  split
  · rename_i h0; simp [h0]
  · simp
theorem index_agg80 (w : World) (cs : Array Value) (k : Nat) (hk : k < 80) (v : Value) (hv : cs[k]? = some v) (i : Int) (hi : i = (k : Int)) :
    (Instr.index 179 (.agg cs) (.int .i64 i)).run Tryz.prog w = .ok v w := by
  subst hi
  have h1 : 0 ≤ (k : Int) ∧ (k : Int) < (80 : Nat) := by omega
  have ha : (isAgg 172).run Tryz.prog w = .ok false w := by unfold isAgg; rw [Sem.run_bind, run_underlying Tryz.underlying172 w]; rfl
  simp [Instr.index, run_underlying Tryz.underlying179, asIntOf, h1, go_sem, part, ha, Tryz.sizeOf172 w, hv]
  omega
theorem slice_u8_l (w : World) (a : Option Addr) (len cap k : Nat) (h : k ≤ len) (l : Int) (hl : l = (k : Int)) :
    (Instr.sliceAt 50 (.slice a len cap) (some (.int .i64 l)) none none).run Tryz.prog w = .ok (.slice (if cap = k then a else a.map (·.add k)) (len - k) (cap - k)) w := by
  have ee : Tryz.prog.elem 50 = 5 := by kernel_rfl
  rw [run_sliceAt_slice (P := Tryz.prog) (w := w) 50 _ _ _ _ (by rw [ee]; exact Tryz.underlying50), run_slice_l (P := Tryz.prog) (w := w) 50 a len cap (by rw [ee]; exact Tryz.underlying50) .i64 l (by omega) (by omega), ee, size_u8]
  simp only [Result.andThen_ok, sliced, show l.toNat = k by omega, Nat.mul_one]
theorem addr_add (b o k : Nat) : (⟨b, o, none⟩ : Addr).add k = ⟨b, o + k, none⟩ := by unfold Addr.add; split <;> simp_all
end Go.Proofs.YtnohonjjfjppoaaGreatDoor

/-
  Layer 2: schedule.
-/
namespace Go.Proofs.YtnohonjjfjppoaaGreatDoor
set_option maxRecDepth 20000
open Go.RowKit
set_option linter.unusedVariables false
set_option linter.unusedSimpArgs false
set_option maxHeartbeats 400000 in
theorem schedule_any (w : World) (g : Nat) (cs : Array Value) (fr : Nat × Nat) (m : Nat → UInt8) (hg : w.heap[g]? = some (.cells cs 177 fr)) (hb : ∀ i, i < 64 → cs[5 + i]? = some (.int .u8 (m i).toNat)) :
    Calls Tryz.prog 156 #[.pointer (some ⟨g, 0, none⟩)] w fun e w' => e = .returned (.agg (wv (sched m 80)).toArray) ∧ Below w.heap.size w w' := by
  obtain ⟨z, hz, hze⟩ := z43
  have hzv := zero_arr hz
  have HZ := Lib.hid hz; clear hz
  have HZE := Lib.hid hze; clear hze
  have HB := Lib.hid hb; clear hb
  have HG := Lib.hid hg; clear hg
  go_enter Tryz.func156, Tryz.ntmps156
  go_wp2_with fail
  go_loopw [7] (fun i wr => ∃ (k : Nat) (arr : Array Value), k ≤ 16 ∧ i = .int .i64 k ∧ wr.heap[w.heap.size + 1]? = some (.cells arr 179 (0, 0)) ∧ wr.heap[w.heap.size]? = some (.cells z 179 (0, 0)) ∧ arr.size = 80 ∧
      (∀ j, j < k → arr[j]? = some (.int .u32 (W80 m j).toNat)) ∧ Below w.heap.size w wr) (fun i _ => 16 - (intOf i).toNat)
  case atStart => exact ⟨0, z, Nat.zero_le _, rfl, by rw [show w.heap.size + 1 = (w.alloc (.cells z 179)).heap.size by simp]; exact heap_alloc_new _ _, two_new w _ _, by rw [HZE.out]; simp, fun j hj => absurd hj (Nat.not_lt_zero _), ((Below.refl _ w).alloc (Nat.le_refl _) _).alloc (by simp) _⟩
  case round =>
    obtain ⟨k, arr, hk, rfl, ha, h2, hsz, har, hbr⟩ := hrel
    have HA := Lib.hid ha; clear ha
    have H2 := Lib.hid h2; clear h2
    have HAR := Lib.hid har; clear har
    have hgw : wr.heap[g]? = some (.cells cs 177 fr) := (hbr.block g (lt_of_heap HG.out)).trans HG.out
    by_cases hlt : k < 16
    · have hsl := fun w => slice64_lh w g k hlt (4 * (k : Int)) (4 * (k : Int) + 4) rfl rfl
      have hx : ∀ j, j < 4 → wr.cell? ⟨g, 5 + 4 * k + j, none⟩ = some (.int .u8 (m (4 * k + j)).toNat) := fun j hj => by
        rw [cell_of_row wr g _ cs _ fr hgw, Nat.add_assoc, HB.out (4 * k + j) (by omega)]
      have q0 := hx 0 (by omega); have q1 := hx 1 (by omega); have q2 := hx 2 (by omega); have q3 := hx 3 (by omega)
      clear hx
      rw [Nat.add_zero] at q0
      obtain ⟨x0, e0⟩ : ∃ x : Int, x = (m (4 * k + 0)).toNat := ⟨_, rfl⟩
      obtain ⟨x1, e1⟩ : ∃ x : Int, x = (m (4 * k + 1)).toNat := ⟨_, rfl⟩
      obtain ⟨x2, e2⟩ : ∃ x : Int, x = (m (4 * k + 2)).toNat := ⟨_, rfl⟩
      obtain ⟨x3, e3⟩ : ∃ x : Int, x = (m (4 * k + 3)).toNat := ⟨_, rfl⟩
      rw [← e0] at q0; rw [← e1] at q1; rw [← e2] at q2; rw [← e3] at q3
      have l0 : 0 ≤ x0 ∧ x0 < 256 := by rw [e0]; exact u8_lt _
      have l1 : 0 ≤ x1 ∧ x1 < 256 := by rw [e1]; exact u8_lt _
      have l2 : 0 ≤ x2 ∧ x2 < 256 := by rw [e2]; exact u8_lt _
      have l3 : 0 ≤ x3 ∧ x3 < 256 := by rw [e3]; exact u8_lt _
      obtain ⟨l0a, l0b⟩ := l0; obtain ⟨l1a, l1b⟩ := l1; obtain ⟨l2a, l2b⟩ := l2; obtain ⟨l3a, l3b⟩ := l3
      have E0 := Lib.hid e0; have E1 := Lib.hid e1; have E2 := Lib.hid e2; have E3 := Lib.hid e3
      clear e0 e1 e2 e3 hgw
      obtain ⟨old, ho⟩ : ∃ v, wr.cell? ⟨w.heap.size + 1, k, none⟩ = some v := ⟨arr[k]'(by omega), by rw [cell_of_row wr _ k arr _ _ HA.out]; simp⟩
      have hf : wr.frozen? ⟨w.heap.size + 1, k, none⟩ = false := not_frozen HA.out k
      have hix := fun u => index_arr80 u (w.heap.size + 1) k (by omega) k rfl
      go_wp2_with fail
      go_still_tail 24, (by kernel_rfl)
      change wpList _ _ _ _ _ wr.drew
      go_wp2
      go_roundw
      case rel =>
        refine ⟨k + 1, arr.setIfInBounds k _, by omega, by go_num, heap_set HA.out k _, ?_, by simpa using hsz, ?_, ?_⟩
        · exact (Below.heap_setCell wr ⟨w.heap.size + 1, k, none⟩ _ w.heap.size (by simp)).trans H2.out
        · intro j hj
          rw [set_get _ _ _ _ (by omega)]
          split
          · rename_i e; subst e
            rw [E0.out, E1.out, E2.out, E3.out, W80_lo m _ hlt, ← word_int]; rfl
          · exact HAR.out j (by omega)
        · exact (hbr.setCell (by simp) _).drew
      case measure => simp [intOf]; omega
    · have hk16 : k = 16 := by omega
      subst hk16
      clear hlt
      go_wp2_with fail
      go_loopw [6] (fun i wr => ∃ (k : Nat) (arr : Array Value), 16 ≤ k ∧ k ≤ 80 ∧ i = .int .i64 k ∧ wr.heap[w.heap.size + 1]? = some (.cells arr 179 (0, 0)) ∧ wr.heap[w.heap.size]? = some (.cells z 179 (0, 0)) ∧ arr.size = 80 ∧
        (∀ j, j < k → arr[j]? = some (.int .u32 (W80 m j).toNat)) ∧ Below w.heap.size w wr) (fun i _ => 80 - (intOf i).toNat)
      case atStart => exact ⟨16, arr, Nat.le_refl _, by omega, rfl, HA.out, H2.out, hsz, HAR.out, hbr⟩
      case round =>
        clear hbr HA H2 HAR hsz hgw
        clear arr
        obtain ⟨k, arr, hk0, hk, rfl, ha, h2, hsz, har, hbr⟩ := hrel
        rename_i wr0 wr
        have HA := Lib.hid ha; clear ha
        have H2 := Lib.hid h2; clear h2
        have HAR := Lib.hid har; clear har
        by_cases hlt : k < 80
        · go_wp2_with fail
          have hx : ∀ j, j < k → wr.cell? ⟨w.heap.size + 1, j, none⟩ = some (.int .u32 (W80 m j).toNat) := fun j hj => by
            rw [cell_of_row wr _ j arr _ _ HA.out, HAR.out j hj]
          have hy := W80_hi m k hk0 hlt
          obtain ⟨a3, f3⟩ : ∃ a, a = k - 3 := ⟨_, rfl⟩
          have q3 := hx a3 (by omega)
          have i3 := fun u => index_arr80 u (w.heap.size + 1) a3 (by omega) ((k : Int) - 3) (by omega)
          rw [← f3] at hy
          have w3 : IntKind.i64.wrap ((k : Int) - 3) = (k : Int) - 3 := by rw [IntKind.wrap_i64]; omega
          generalize W80 m a3 = y3 at hy q3
          obtain ⟨a8, f8⟩ : ∃ a, a = k - 8 := ⟨_, rfl⟩
          have q8 := hx a8 (by omega)
          have i8 := fun u => index_arr80 u (w.heap.size + 1) a8 (by omega) ((k : Int) - 8) (by omega)
          rw [← f8] at hy
          have w8 : IntKind.i64.wrap ((k : Int) - 8) = (k : Int) - 8 := by rw [IntKind.wrap_i64]; omega
          generalize W80 m a8 = y8 at hy q8
          obtain ⟨a14, f14⟩ : ∃ a, a = k - 14 := ⟨_, rfl⟩
          have q14 := hx a14 (by omega)
          have i14 := fun u => index_arr80 u (w.heap.size + 1) a14 (by omega) ((k : Int) - 14) (by omega)
          rw [← f14] at hy
          have w14 : IntKind.i64.wrap ((k : Int) - 14) = (k : Int) - 14 := by rw [IntKind.wrap_i64]; omega
          generalize W80 m a14 = y14 at hy q14
          obtain ⟨a16, f16⟩ : ∃ a, a = k - 16 := ⟨_, rfl⟩
          have q16 := hx a16 (by omega)
          have i16 := fun u => index_arr80 u (w.heap.size + 1) a16 (by omega) ((k : Int) - 16) (by omega)
          rw [← f16] at hy
          have w16 : IntKind.i64.wrap ((k : Int) - 16) = (k : Int) - 16 := by rw [IntKind.wrap_i64]; omega
          generalize W80 m a16 = y16 at hy q16
          have hix := fun u => index_arr80 u (w.heap.size + 1) k (by omega) k rfl
          obtain ⟨old, ho⟩ : ∃ v, wr.cell? ⟨w.heap.size + 1, k, none⟩ = some v := ⟨arr[k]'(by omega), by rw [cell_of_row wr _ k arr _ _ HA.out]; simp⟩
          have hf : wr.frozen? ⟨w.heap.size + 1, k, none⟩ = false := not_frozen HA.out k
          obtain ⟨x, hxe⟩ : ∃ x, x = y3 ^^^ y8 ^^^ y14 ^^^ y16 := ⟨_, rfl⟩
          rw [← hxe] at hy
          have HY := Lib.hid hy
          have hX : bits BinOp.xor .u32 (bits BinOp.xor .u32 (bits BinOp.xor .u32 (y3.toNat : Int) (y8.toNat : Int)) (y14.toNat : Int)) (y16.toNat : Int) = (x.toNat : Int) := by rw [hxe, b_xor, b_xor, b_xor]
          clear hxe
          clear hy hx f3 f8 f14 f16
          go_still_tail 22, (by kernel_rfl)
          still_call (rot_flip (rot_1 x _))
          repeat still_step
          refine wpStill_nil ?_
          change wpList _ _ _ _ _ wr.drew
          go_wp2
          refine ⟨?_, ?me2⟩
          (repeat apply Exists.intro)
          refine ⟨?re2, rfl⟩
          case re2 =>
            refine ⟨k + 1, arr.setIfInBounds k _, by omega, by omega, by go_num, heap_set HA.out k _, ?_, by simpa using hsz, ?_, ?_⟩
            · exact (Below.heap_setCell wr ⟨w.heap.size + 1, k, none⟩ _ w.heap.size (by simp)).trans H2.out
            · intro j hj
              rw [set_get _ _ _ _ (by omega)]
              split
              · rename_i e; subst e
                rw [HY.out]
              · exact HAR.out j (by omega)
            · exact (hbr.setCell (by simp) _).drew
          case me2 => simp [intOf]; omega
        · obtain rfl : k = 80 := by omega
          have harr : arr = (wv (sched m 80)).toArray := arr_wv (by rw [hsz, sched_len]) (fun j hj => HAR.out j (by rwa [sched_len] at hj))
          have hall := wv_all (sched m 80)
          rw [← harr] at hall
          have HARR := Lib.hid harr; clear harr
          have HALL := Lib.hid hall; clear hall
          go_wp2_with (first
            | (with_reducible refine wpList_load_row rfl 179 (.tmp 3) rfl (w.heap.size + 1) rfl 179 arr (0, 0) _ ?lg Tryz.underlying179 rfl ?li ?_)
            | (with_reducible refine wpList_store_row rfl 179 _ _ rfl w.heap.size arr rfl rfl 179 z ?sg ?si ?so ?s1 ?_))
          case lg => exact HA.out
          case li => rw [info43, hsz]
          case sg => exact H2.out
          case si => rw [info43, hsz]
          case so => rw [HZE.out, hsz]; simp
          case s1 => exact HALL.out
          refine bodyPost_ret (results_cell_row Tryz.results156 _ _ w.heap.size 179 arr (0, 0) _ rfl (setRow_heap wr w.heap.size z arr _ (0, 0) H2.out) Tryz.underlying179 rfl (by rw [info43, hsz])) rfl ⟨by rw [HARR.out], below_setRow hbr (Nat.le_refl _) arr⟩
end Go.Proofs.YtnohonjjfjppoaaGreatDoor
