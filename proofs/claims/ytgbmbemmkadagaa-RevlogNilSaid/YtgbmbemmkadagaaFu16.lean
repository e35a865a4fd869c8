/-
  Texts that belong together, one behind the other.
-/
import Derived.Test.YtgbmbemmkadagaaFu12
import Derived.Test.YtgbmbemmkadagaaFu15
import Derived.Test.YtgbmbemmkadagaaFu13
import Derived.Laws.Entries
import Derived.Laws.BitsAllLaws
/-
  Layer 15, plain: the delta of two texts as bytes; applied it gives the second text.
-/
namespace Go.Proofs.Ytgbmbemmkadagaa
open Go
set_option linter.unusedVariables false
set_option linter.unusedSimpArgs false

/-- The edits between two texts. -/
def mkE (a b : List UInt8) : List Edx := if a = b then [] else [((fromL a b : Nat), ((a.length - tailL a b : Nat) : Int), putL a b)]
theorem made_mkE (a b : List UInt8) (ad : Option Addr) (c : Nat) : (madeL a b ad c).map Edc.x = mkE a b := by
  unfold madeL mkE
  split
  · rfl
  · rfl
theorem mkE_ok (a b : List UInt8) : okE (mkE a b) 0 a.length = true := by
  unfold mkE
  split
  · rfl
  · exact ok_made a b
theorem mkE_app (a b : List UInt8) : appE a (mkE a b) = b := by
  unfold mkE
  split
  · rename_i h
    subst h
    simp [appE, preE, lastE]
  · exact app_made a b
theorem mkE_sum (a b : List UInt8) : sumE (mkE a b) ≤ b.length := by
  have hp := putL_len a b
  unfold mkE
  split
  · exact Nat.zero_le _
  · show (putL a b).length + 0 ≤ b.length
    omega
theorem mkE_len (a b : List UInt8) : (mkE a b).length ≤ 1 := by
  unfold mkE
  split
  · exact Nat.zero_le _
  · exact Nat.le_refl _
/-- The delta of two texts. -/
def dlB (a b : List UInt8) : List UInt8 := printE (mkE a b)
theorem dlB_len (a b : List UInt8) : (dlB a b).length = 12 * (mkE a b).length + sumE (mkE a b) := printE_len _
theorem dlB_few (a b : List UInt8) : (dlB a b).length ≤ 12 + b.length := by
  have h1 := mkE_len a b
  have h2 := mkE_sum a b
  rw [dlB_len]
  omega
theorem dlB_same (a : List UInt8) : dlB a a = [] := by unfold dlB mkE; rw [if_pos rfl]; rfl
end Go.Proofs.Ytgbmbemmkadagaa

/-
  Layer 2, plain: SHA-1 over words of 32 bits, as lists and functions; nothing of the program.
-/
namespace Go.Proofs.Ytgbmbemmkadagaa
open Go
set_option linter.unusedVariables false

structure H5 where
  a : BitVec 32
  b : BitVec 32
  c : BitVec 32
  d : BitVec 32
  e : BitVec 32
def H5.get (h : H5) : Nat → BitVec 32
  | 0 => h.a
  | 1 => h.b
  | 2 => h.c
  | 3 => h.d
  | _ => h.e
def h0 : H5 := ⟨0x67452301#32, 0xefcdab89#32, 0x98badcfe#32, 0x10325476#32, 0xc3d2e1f0#32⟩
/-- Turned to9 the left. -/
def rl (x : BitVec 32) (n : Nat) : BitVec 32 := (x <<< n) ||| (x >>> (32 - n))
/-- What a step makes of three words. -/
def fF (t : Nat) (b c d : BitVec 32) : BitVec 32 :=
  if t < 20 then (b &&& c) ||| (~~~b &&& d)
  else if t < 40 then b ^^^ c ^^^ d
  else if t < 60 then (b &&& c) ||| (b &&& d) ||| (c &&& d)
  else b ^^^ c ^^^ d
/-- The constant of a step. -/
def kF (t : Nat) : BitVec 32 :=
  if t < 20 then 0x5a827999#32
  else if t < 40 then 0x6ed9eba1#32
  else if t < 60 then 0x8f1bbcdc#32
  else 0xca62c1d6#32
def fk (t : Nat) (b c d : BitVec 32) : BitVec 32 := fF t b c d + kF t
def stepH (t : Nat) (w : BitVec 32) (s : H5) : H5 := ⟨rl s.a 5 + fk t s.b s.c s.d + s.e + w, s.a, rl s.b 30, s.c, s.d⟩
/-- Four bytes, the first one the greatest. -/
def word (p q r s : UInt8) : BitVec 32 := (p.toBitVec.setWidth 32 <<< 24) ||| (q.toBitVec.setWidth 32 <<< 16) ||| (r.toBitVec.setWidth 32 <<< 8) ||| s.toBitVec.setWidth 32
def nextW (m : Nat → UInt8) (l : List (BitVec 32)) (k : Nat) : BitVec 32 :=
  if k < 16 then word (m (4 * k)) (m (4 * k + 1)) (m (4 * k + 2)) (m (4 * k + 3))
  else rl (l.getD (k - 3) 0 ^^^ l.getD (k - 8) 0 ^^^ l.getD (k - 14) 0 ^^^ l.getD (k - 16) 0) 1
def sched (m : Nat → UInt8) : Nat → List (BitVec 32)
  | 0 => []
  | k + 1 => sched m k ++ [nextW m (sched m k) k]
theorem sched_len (m : Nat → UInt8) : ∀ k, (sched m k).length = k
  | 0 => rfl
  | k + 1 => by simp [sched, sched_len m k]
theorem sched_getD (m : Nat → UInt8) (i : Nat) : ∀ k, i < k → (sched m k).getD i 0 = nextW m (sched m i) i
  | 0, h => absurd h (Nat.not_lt_zero _)
  | k + 1, h => by
    rw [sched, List.getD_eq_getElem?_getD]
    by_cases hi : i < k
    · rw [List.getElem?_append_left (by rw [sched_len]; exact hi), ← List.getD_eq_getElem?_getD]
      exact sched_getD m i k hi
    · obtain rfl : i = k := by omega
      rw [List.getElem?_append_right (by rw [sched_len]; exact Nat.le_refl _), sched_len]
      simp
def W80 (m : Nat → UInt8) (j : Nat) : BitVec 32 := (sched m 80).getD j 0
theorem W80_lo (m : Nat → UInt8) (j : Nat) (h : j < 16) : W80 m j = word (m (4 * j)) (m (4 * j + 1)) (m (4 * j + 2)) (m (4 * j + 3)) := by
  unfold W80; rw [sched_getD m j 80 (by omega)]; unfold nextW; rw [if_pos h]
theorem W80_hi (m : Nat → UInt8) (j : Nat) (h : 16 ≤ j) (h2 : j < 80) : W80 m j = rl (W80 m (j - 3) ^^^ W80 m (j - 8) ^^^ W80 m (j - 14) ^^^ W80 m (j - 16)) 1 := by
  unfold W80
  rw [sched_getD m j 80 h2]; unfold nextW; rw [if_neg (by omega)]
  have e : ∀ i, i < j → (sched m j).getD i 0 = (sched m 80).getD i 0 := fun i hi => by rw [sched_getD m i 80 (by omega), sched_getD m i j hi]
  rw [e _ (by omega), e _ (by omega), e _ (by omega), e _ (by omega)]
def rounds (l : List (BitVec 32)) (s : H5) : Nat → H5
  | 0 => s
  | t + 1 => stepH t (l.getD t 0) (rounds l s t)
theorem rounds80 (m : Nat → UInt8) (h : H5) (k : Nat) : stepH k (W80 m k) (rounds (sched m 80) h k) = rounds (sched m 80) h (k + 1) := by
  rw [W80, rounds]
theorem step_b (t : Nat) (w : BitVec 32) (s : H5) : (stepH t w s).b = s.a := rfl
theorem step_c (t : Nat) (w : BitVec 32) (s : H5) : (stepH t w s).c = rl s.b 30 := rfl
theorem step_d (t : Nat) (w : BitVec 32) (s : H5) : (stepH t w s).d = s.c := rfl
theorem step_e (t : Nat) (w : BitVec 32) (s : H5) : (stepH t w s).e = s.d := rfl
def addH (h s : H5) : H5 := ⟨h.a + s.a, h.b + s.b, h.c + s.c, h.d + s.d, h.e + s.e⟩
def comp (m : Nat → UInt8) (h : H5) : H5 := addH h (rounds (sched m 80) h 80)
/-- The words behind k blocks of a text. -/
def hs (T : Nat → UInt8) : Nat → H5
  | 0 => h0
  | k + 1 => comp (fun i => T (64 * k + i)) (hs T k)
/-- How many bytes a text of n bytes has when it is closed. -/
def padLen (n : Nat) : Nat := 64 * ((n + 8) / 64 + 1)
/-- The bytes of a text that is closed. -/
def padF (l : List UInt8) (i : Nat) : UInt8 :=
  if i < l.length then l.getD i 0
  else if i = l.length then 0x80
  else if i < padLen l.length - 8 then 0
  else UInt8.ofNat (8 * l.length / 2 ^ (8 * (padLen l.length - 1 - i)))
theorem padF_in (l : List UInt8) (i : Nat) (h : i < l.length) : padF l i = l.getD i 0 := by unfold padF; rw [if_pos h]
theorem padF_0 (l : List UInt8) : padF l l.length = 0x80 := by unfold padF; rw [if_neg (by omega), if_pos rfl]
theorem padF_z (l : List UInt8) (i : Nat) (h : l.length < i) (h2 : i < padLen l.length - 8) : padF l i = 0 := by unfold padF; rw [if_neg (by omega), if_neg (by omega), if_pos h2]
theorem padF_t (l : List UInt8) (i k : Nat) (h : l.length < i) (hk : k < 8) (h2 : i + 8 = padLen l.length + k) : padF l i = UInt8.ofNat (8 * l.length / 2 ^ (8 * (7 - k))) := by
  unfold padF; rw [if_neg (by omega), if_neg (by omega), if_neg (by omega), show padLen l.length - 1 - i = 7 - k by omega]
theorem pad_z (n : Nat) : n + (1 + (119 - n % 64) % 64 + 8) = padLen n := by unfold padLen; omega
theorem pad_val (l : List UInt8) (i k : Nat) (h : l.length < i) (hk : k < 8) (h2 : i + 8 = padLen l.length + k) : (((l.length : Nat) : Int) * 8 / 2 ^ (8 * (7 - k)) % 256) = ((padF l i).toNat : Int) := by
  rw [padF_t l i k h hk h2, UInt8.toNat_ofNat', Int.natCast_emod, Int.natCast_ediv, Int.natCast_mul, Int.natCast_pow, Int.mul_comm]
  rfl
def outB (h : H5) (i : Nat) : UInt8 := UInt8.ofNat ((h.get (i / 4)).toNat / 2 ^ (8 * (3 - i % 4)))
def digest (h : H5) : List UInt8 := (List.range 20).map (outB h)
theorem digest_len (h : H5) : (digest h).length = 20 := by simp [digest]
def sumL (l : List UInt8) : List UInt8 := digest (hs (padF l) (padLen l.length / 64))

theorem get_add (h s : H5) (i : Nat) (hi : i < 5) : (addH h s).get i = h.get i + s.get i := by
  match i, hi with
  | 0, _ => rfl
  | 1, _ => rfl
  | 2, _ => rfl
  | 3, _ => rfl
  | 4, _ => rfl
theorem hs_next (T : Nat → UInt8) (k : Nat) : hs T (k + 1) = addH (hs T k) (rounds (sched (fun i => T (64 * k + i)) 80) (hs T k) 80) := rfl
/-! The model's words on words of 32 bits. -/
theorem lt32 (a : BitVec 32) : (a.toNat : Int) < 4294967296 := by have := a.isLt; omega
theorem ofInt32 (a : BitVec 32) : BitVec.ofInt 32 (a.toNat : Int) = a := by
  rw [BitVec.ofInt_natCast, BitVec.ofNat_toNat, BitVec.setWidth_eq]
theorem wrap32 (a : BitVec 32) : IntKind.u32.wrap (a.toNat : Int) = a.toNat := by
  rw [IntKind.wrap_u32']; have := a.isLt; omega
theorem b_and (a b : BitVec 32) : bits BinOp.and .u32 a.toNat b.toNat = (a &&& b).toNat := by
  show IntKind.u32.wrap (BitVec.toNat (BitVec.ofInt 32 _ &&& BitVec.ofInt 32 _) : Int) = _
  rw [ofInt32, ofInt32, wrap32]
theorem b_or (a b : BitVec 32) : bits BinOp.or .u32 a.toNat b.toNat = (a ||| b).toNat := by
  show IntKind.u32.wrap (BitVec.toNat (BitVec.ofInt 32 _ ||| BitVec.ofInt 32 _) : Int) = _
  rw [ofInt32, ofInt32, wrap32]
theorem b_xor (a b : BitVec 32) : bits BinOp.xor .u32 a.toNat b.toNat = (a ^^^ b).toNat := by
  show IntKind.u32.wrap (BitVec.toNat (BitVec.ofInt 32 _ ^^^ BitVec.ofInt 32 _) : Int) = _
  rw [ofInt32, ofInt32, wrap32]
theorem b_not (a : BitVec 32) : bits BinOp.xor .u32 IntKind.u32.max a.toNat = (~~~a).toNat := by
  show IntKind.u32.wrap (BitVec.toNat (BitVec.ofInt 32 IntKind.u32.max ^^^ BitVec.ofInt 32 _) : Int) = _
  rw [ofInt32, show BitVec.ofInt 32 IntKind.u32.max = BitVec.allOnes 32 by decide, BitVec.allOnes_xor, wrap32]
theorem b_add (a b : BitVec 32) : ((a.toNat : Int) + b.toNat) % 4294967296 = (a + b).toNat := by
  rw [BitVec.toNat_add]; omega
theorem step_a (t : Nat) (w : BitVec 32) (s : H5) : ((((((rl s.a 5).toNat : Int) + (fk t s.b s.c s.d).toNat) % 4294967296 + s.e.toNat) % 4294967296 + w.toNat) % 4294967296 : Int) = ((stepH t w s).a.toNat : Int) := by
  rw [b_add, b_add, b_add]
  rfl
theorem step_a2 (t : Nat) (w : BitVec 32) (s : H5) : ((((rl s.a 5).toNat : Int) + (fk t s.b s.c s.d).toNat + s.e.toNat + w.toNat) % 4294967296 : Int) = ((stepH t w s).a.toNat : Int) := by
  rw [← step_a]
  omega
theorem step_a3 (t : Nat) (w : BitVec 32) (s : H5) : (((((rl s.a 5).toNat : Int) + (fF t s.b s.c s.d).toNat + s.e.toNat + (kF t).toNat) % 4294967296 + w.toNat) % 4294967296 : Int) = ((stepH t w s).a.toNat : Int) := by
  rw [← step_a, show fk t s.b s.c s.d = fF t s.b s.c s.d + kF t from rfl, ← b_add]
  omega
theorem b_shl (a : BitVec 32) (n : Nat) : ((a.toNat : Int) * 2 ^ n) % 4294967296 = (a <<< n).toNat := by
  rw [BitVec.toNat_shiftLeft, Nat.shiftLeft_eq, show (2 : Nat) ^ 32 = 4294967296 from rfl, Int.natCast_emod, Int.natCast_mul, Int.natCast_pow]
  rfl
theorem b_shr (a : BitVec 32) (n : Nat) : (a.toNat : Int) / 2 ^ n = (a >>> n).toNat := by
  rw [BitVec.toNat_ushiftRight, Nat.shiftRight_eq_div_pow, Int.natCast_ediv, Int.natCast_pow]
  rfl
theorem byte_shl (p : UInt8) (n : Nat) (h : n ≤ 24) : ((p.toBitVec.setWidth 32 <<< n).toNat : Int) = (p.toNat : Int) * 2 ^ n := by
  have h1 := p.toNat_lt
  have h2 : 2 ^ n ≤ 2 ^ 24 := Nat.pow_le_pow_right (by decide) h
  rw [BitVec.toNat_shiftLeft, BitVec.toNat_setWidth, Nat.shiftLeft_eq]
  have e : p.toBitVec.toNat = p.toNat := rfl
  rw [e, Nat.mod_eq_of_lt (a := p.toNat) (by omega), Nat.mod_eq_of_lt]
  · push_cast; rfl
  · exact Nat.lt_of_le_of_lt (Nat.mul_le_mul (show p.toNat ≤ 255 by omega) h2) (by decide)
theorem word_int (p q r s : UInt8) : bits BinOp.or .u32 (bits BinOp.or .u32 (bits BinOp.or .u32 ((p.toNat : Int) * 16777216) ((q.toNat : Int) * 65536)) ((r.toNat : Int) * 256)) (s.toNat : Int) = (word p q r s).toNat := by
  have e1 := byte_shl p 24 (by decide)
  have e2 := byte_shl q 16 (by decide)
  have e3 := byte_shl r 8 (by decide)
  have e4 := byte_shl s 0 (by decide)
  rw [BitVec.shiftLeft_zero] at e4
  rw [show (2 : Int) ^ 24 = 16777216 by decide] at e1
  rw [show (2 : Int) ^ 16 = 65536 by decide] at e2
  rw [show (2 : Int) ^ 8 = 256 by decide] at e3
  rw [show (2 : Int) ^ 0 = 1 by decide, Int.mul_one] at e4
  rw [← e1, ← e2, ← e3, ← e4, b_or, b_or, b_or]
  rfl
theorem ch_xor (b c d : BitVec 32) : (b &&& c) ^^^ (~~~b &&& d) = (b &&& c) ||| (~~~b &&& d) := by
  apply BitVec.eq_of_getElem_eq
  intro i hi
  simp only [BitVec.getElem_xor, BitVec.getElem_or, BitVec.getElem_and, BitVec.getElem_not]
  cases b[i] <;> cases c[i] <;> cases d[i] <;> rfl
theorem maj_xor (b c d : BitVec 32) : (b &&& c) ^^^ (b &&& d) ^^^ (c &&& d) = (b &&& c) ||| (b &&& d) ||| (c &&& d) := by
  apply BitVec.eq_of_getElem_eq
  intro i hi
  simp only [BitVec.getElem_xor, BitVec.getElem_or, BitVec.getElem_and]
  cases b[i] <;> cases c[i] <;> cases d[i] <;> rfl
end Go.Proofs.Ytgbmbemmkadagaa
