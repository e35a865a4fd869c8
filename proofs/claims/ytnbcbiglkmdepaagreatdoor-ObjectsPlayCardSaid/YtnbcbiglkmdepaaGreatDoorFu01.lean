/-
  Texts that belong together, one behind the other.
-/
import Derived.Laws.Entries
import Derived.Laws.BitsAllLaws
import Derived.Test.YtnbcbiglkmdepaaGreatDoorProg
import Derived.WalkKit
import Derived.WalkSpells
import Derived.WalkLawsBesides
import Derived.Laws.BytesArg
import Derived.Lib.UnsafeStr
import Derived.Lib.Hide
import Derived.IntWalk
import Derived.WalkSmall
import Derived.Below
import Derived.Laws.CopyRow
import Derived.Laws.CopyOwn
import Derived.Laws.Rows
import Derived.Laws.Tables
import Derived.Deep.WholeRow
import Derived.Stop.BytesEq
import Derived.Lib.BytesEntry
import Derived.Deep.QuietTactic
import Derived.BigQuiet
import Derived.BigRegion
import Derived.StillTailTactics
import Derived.OwnWalk
import Derived.OrdersHeld
import Derived.Deep.RegionHeld
set_option maxHeartbeats 64000000
set_option linter.unusedVariables false
set_option linter.unusedSimpArgs false
open Go.Lib renaming hid → hyd
namespace Go.Proofs.YtnbcbiglkmdepaaGreatDoor
open Go
structure H5 where
 a : BitVec 32
 b : BitVec 32
 c : BitVec 32
 d : BitVec 32
 e : BitVec 32
def H5.get (h : H5) : Nat → BitVec 32
 | 0 => h.a
 | 1 => h.b
 | 2 => h.c
 | 3 => h.d
 | _ => h.e
def h0 : H5 := ⟨0x67452301#32, 0xefcdab89#32, 0x98badcfe#32, 0x10325476#32, 0xc3d2e1f0#32⟩
def rl (x : BitVec 32) (n : Nat) : BitVec 32 := (x <<< n) ||| (x >>> (32 - n))
def fF (t : Nat) (b c d : BitVec 32) : BitVec 32 :=
 if t < 20 then (b &&& c) ||| (~~~b &&& d)
 else if t < 40 then b ^^^ c ^^^ d
 else if t < 60 then (b &&& c) ||| (b &&& d) ||| (c &&& d)
 else b ^^^ c ^^^ d
def kF (t : Nat) : BitVec 32 :=
 if t < 20 then 0x5a827999#32
 else if t < 40 then 0x6ed9eba1#32
 else if t < 60 then 0x8f1bbcdc#32
 else 0xca62c1d6#32
def fk (t : Nat) (b c d : BitVec 32) : BitVec 32 := fF t b c d + kF t
def stepH (t : Nat) (w : BitVec 32) (s : H5) : H5 := ⟨rl s.a 5 + fk t s.b s.c s.d + s.e + w, s.a, rl s.b 30, s.c, s.d⟩
def word (p q r s : UInt8) : BitVec 32 := (p.toBitVec.setWidth 32 <<< 24) ||| (q.toBitVec.setWidth 32 <<< 16) ||| (r.toBitVec.setWidth 32 <<< 8) ||| s.toBitVec.setWidth 32
def nextW (m : Nat → UInt8) (l : List (BitVec 32)) (k : Nat) : BitVec 32 :=
 if k < 16 then word (m (4 * k)) (m (4 * k + 1)) (m (4 * k + 2)) (m (4 * k + 3))
 else rl (l.getD (k - 3) 0 ^^^ l.getD (k - 8) 0 ^^^ l.getD (k - 14) 0 ^^^ l.getD (k - 16) 0) 1
def sched (m : Nat → UInt8) : Nat → List (BitVec 32)
 | 0 => []
 | k + 1 => sched m k ++ [nextW m (sched m k) k]
theorem sched_len (m : Nat → UInt8) : ∀ k, (sched m k).length = k
 | 0 => rfl
 | k + 1 => by simp [sched, sched_len m k]
theorem sched_getD (m : Nat → UInt8) (i : Nat) : ∀ k, i < k → (sched m k).getD i 0 = nextW m (sched m i) i
 | 0, h => absurd h (Nat.not_lt_zero _)
 | k + 1, h => by
  rw [sched, List.getD_eq_getElem?_getD]
  by_cases hi : i < k
  ·rw [List.getElem?_append_left (by rw [sched_len]; exact hi), ← List.getD_eq_getElem?_getD]
   exact sched_getD m i k hi
  ·obtain rfl : i = k := by omega
   rw [List.getElem?_append_right (by rw [sched_len]; exact Nat.le_refl _), sched_len]
   simp
def W80 (m : Nat → UInt8) (j : Nat) : BitVec 32 := (sched m 80).getD j 0
theorem W80_lo (m : Nat → UInt8) (j : Nat) (h : j < 16) : W80 m j = word (m (4 * j)) (m (4 * j + 1)) (m (4 * j + 2)) (m (4 * j + 3)) := by
 unfold W80; rw [sched_getD m j 80 (by omega)]; unfold nextW; rw [if_pos h]
theorem W80_hi (m : Nat → UInt8) (j : Nat) (h : 16 ≤ j) (h2 : j < 80) : W80 m j = rl (W80 m (j - 3) ^^^ W80 m (j - 8) ^^^ W80 m (j - 14) ^^^ W80 m (j - 16)) 1 := by
 unfold W80; rw [sched_getD m j 80 h2]; unfold nextW; rw [if_neg (by omega)]
 have e : ∀ i, i < j → (sched m j).getD i 0 = (sched m 80).getD i 0 := fun i hi => by rw [sched_getD m i 80 (by omega), sched_getD m i j hi]
 rw [e _ (by omega), e _ (by omega), e _ (by omega), e _ (by omega)]
def rounds (l : List (BitVec 32)) (s : H5) : Nat → H5
 | 0 => s
 | t + 1 => stepH t (l.getD t 0) (rounds l s t)
theorem rounds80 (m : Nat → UInt8) (h : H5) (k : Nat) : stepH k (W80 m k) (rounds (sched m 80) h k) = rounds (sched m 80) h (k + 1) := by
 rw [W80, rounds]
theorem step_b (t : Nat) (w : BitVec 32) (s : H5) : (stepH t w s).b = s.a := rfl
theorem step_c (t : Nat) (w : BitVec 32) (s : H5) : (stepH t w s).c = rl s.b 30 := rfl
theorem step_d (t : Nat) (w : BitVec 32) (s : H5) : (stepH t w s).d = s.c := rfl
theorem step_e (t : Nat) (w : BitVec 32) (s : H5) : (stepH t w s).e = s.d := rfl
def addH (h s : H5) : H5 := ⟨h.a + s.a, h.b + s.b, h.c + s.c, h.d + s.d, h.e + s.e⟩
def comp (m : Nat → UInt8) (h : H5) : H5 := addH h (rounds (sched m 80) h 80)
def hs (T : Nat → UInt8) : Nat → H5
 | 0 => h0
 | k + 1 => comp (fun i => T (64 * k + i)) (hs T k)
def padLen (n : Nat) : Nat := 64 * ((n + 8) / 64 + 1)
def padF (l : List UInt8) (i : Nat) : UInt8 :=
 if i < l.length then l.getD i 0
 else if i = l.length then 0x80
 else if i < padLen l.length - 8 then 0
 else UInt8.ofNat (8 * l.length / 2 ^ (8 * (padLen l.length - 1 - i)))
theorem padF_in (l : List UInt8) (i : Nat) (h : i < l.length) : padF l i = l.getD i 0 := by unfold padF; rw [if_pos h]
theorem padF_0 (l : List UInt8) : padF l l.length = 0x80 := by unfold padF; rw [if_neg (by omega), if_pos rfl]
theorem padF_z (l : List UInt8) (i : Nat) (h : l.length < i) (h2 : i < padLen l.length - 8) : padF l i = 0 := by unfold padF; rw [if_neg (by omega), if_neg (by omega), if_pos h2]
theorem padF_t (l : List UInt8) (i k : Nat) (h : l.length < i) (hk : k < 8) (h2 : i + 8 = padLen l.length + k) : padF l i = UInt8.ofNat (8 * l.length / 2 ^ (8 * (7 - k))) := by
 unfold padF; rw [if_neg (by omega), if_neg (by omega), if_neg (by omega), show padLen l.length - 1 - i = 7 - k by omega]
theorem pad_z (n : Nat) : n + (1 + (119 - n % 64) % 64 + 8) = padLen n := by unfold padLen; omega
theorem pad_val (l : List UInt8) (i k : Nat) (h : l.length < i) (hk : k < 8) (h2 : i + 8 = padLen l.length + k) : (((l.length : Nat) : Int) * 8 / 2 ^ (8 * (7 - k)) % 256) = ((padF l i).toNat : Int) := by
 rw [padF_t l i k h hk h2, UInt8.toNat_ofNat', Int.natCast_emod, Int.natCast_ediv, Int.natCast_mul, Int.natCast_pow, Int.mul_comm]
 rfl
def outB (h : H5) (i : Nat) : UInt8 := UInt8.ofNat ((h.get (i / 4)).toNat / 2 ^ (8 * (3 - i % 4)))
def digest (h : H5) : List UInt8 := (List.range 20).map (outB h)
theorem digest_len (h : H5) : (digest h).length = 20 := by simp [digest]
def sumL (l : List UInt8) : List UInt8 := digest (hs (padF l) (padLen l.length / 64))
theorem get_add (h s : H5) (i : Nat) (hi : i < 5) : (addH h s).get i = h.get i + s.get i := by
 match i, hi with
 | 0, _ => rfl
 | 1, _ => rfl
 | 2, _ => rfl
 | 3, _ => rfl
 | 4, _ => rfl
theorem hs_next (T : Nat → UInt8) (k : Nat) : hs T (k + 1) = addH (hs T k) (rounds (sched (fun i => T (64 * k + i)) 80) (hs T k) 80) := rfl
theorem ofInt32 (a : BitVec 32) : BitVec.ofInt 32 (a.toNat : Int) = a := by
 rw [BitVec.ofInt_natCast, BitVec.ofNat_toNat, BitVec.setWidth_eq]
theorem wrap32 (a : BitVec 32) : IntKind.u32.wrap (a.toNat : Int) = a.toNat := by
 rw [IntKind.wrap_u32']; have := a.isLt; omega
theorem b_and (a b : BitVec 32) : bits BinOp.and .u32 a.toNat b.toNat = (a &&& b).toNat := by
 show IntKind.u32.wrap (BitVec.toNat (BitVec.ofInt 32 _ &&& BitVec.ofInt 32 _) : Int) = _
 rw [ofInt32, ofInt32, wrap32]
theorem b_or (a b : BitVec 32) : bits BinOp.or .u32 a.toNat b.toNat = (a ||| b).toNat := by
 show IntKind.u32.wrap (BitVec.toNat (BitVec.ofInt 32 _ ||| BitVec.ofInt 32 _) : Int) = _
 rw [ofInt32, ofInt32, wrap32]
theorem b_xor (a b : BitVec 32) : bits BinOp.xor .u32 a.toNat b.toNat = (a ^^^ b).toNat := by
 show IntKind.u32.wrap (BitVec.toNat (BitVec.ofInt 32 _ ^^^ BitVec.ofInt 32 _) : Int) = _
 rw [ofInt32, ofInt32, wrap32]
theorem b_not (a : BitVec 32) : bits BinOp.xor .u32 IntKind.u32.max a.toNat = (~~~a).toNat := by
 show IntKind.u32.wrap (BitVec.toNat (BitVec.ofInt 32 IntKind.u32.max ^^^ BitVec.ofInt 32 _) : Int) = _
 rw [ofInt32, show BitVec.ofInt 32 IntKind.u32.max = BitVec.allOnes 32 by decide, BitVec.allOnes_xor, wrap32]
theorem b_add (a b : BitVec 32) : ((a.toNat : Int) + b.toNat) % 4294967296 = (a + b).toNat := by
 rw [BitVec.toNat_add]; omega
theorem step_a (t : Nat) (w : BitVec 32) (s : H5) : ((((((rl s.a 5).toNat : Int) + (fk t s.b s.c s.d).toNat) % 4294967296 + s.e.toNat) % 4294967296 + w.toNat) % 4294967296 : Int) = ((stepH t w s).a.toNat : Int) := by
 rw [b_add, b_add, b_add]
 rfl
theorem step_a2 (t : Nat) (w : BitVec 32) (s : H5) : ((((rl s.a 5).toNat : Int) + (fk t s.b s.c s.d).toNat + s.e.toNat + w.toNat) % 4294967296 : Int) = ((stepH t w s).a.toNat : Int) := by
 rw [← step_a]
 omega
theorem step_a3 (t : Nat) (w : BitVec 32) (s : H5) : (((((rl s.a 5).toNat : Int) + (fF t s.b s.c s.d).toNat + s.e.toNat + (kF t).toNat) % 4294967296 + w.toNat) % 4294967296 : Int) = ((stepH t w s).a.toNat : Int) := by
 rw [← step_a, show fk t s.b s.c s.d = fF t s.b s.c s.d + kF t from rfl, ← b_add]
 omega
theorem b_shl (a : BitVec 32) (n : Nat) : ((a.toNat : Int) * 2 ^ n) % 4294967296 = (a <<< n).toNat := by
 rw [BitVec.toNat_shiftLeft, Nat.shiftLeft_eq, show (2 : Nat) ^ 32 = 4294967296 from rfl, Int.natCast_emod, Int.natCast_mul, Int.natCast_pow]
 rfl
theorem b_shr (a : BitVec 32) (n : Nat) : (a.toNat : Int) / 2 ^ n = (a >>> n).toNat := by
 rw [BitVec.toNat_ushiftRight, Nat.shiftRight_eq_div_pow, Int.natCast_ediv, Int.natCast_pow]
 rfl
theorem byte_shl (p : UInt8) (n : Nat) (h : n ≤ 24) : ((p.toBitVec.setWidth 32 <<< n).toNat : Int) = (p.toNat : Int) * 2 ^ n := by
 have h1 := p.toNat_lt; have h2 : 2 ^ n ≤ 2 ^ 24 := Nat.pow_le_pow_right (by decide) h; rw [BitVec.toNat_shiftLeft, BitVec.toNat_setWidth, Nat.shiftLeft_eq]; have e : p.toBitVec.toNat = p.toNat := rfl; rw [e, Nat.mod_eq_of_lt (a := p.toNat) (by omega), Nat.mod_eq_of_lt]
 ·push_cast; rfl
 ·exact Nat.lt_of_le_of_lt (Nat.mul_le_mul (show p.toNat ≤ 255 by omega) h2) (by decide)
theorem word_int (p q r s : UInt8) : bits BinOp.or .u32 (bits BinOp.or .u32 (bits BinOp.or .u32 ((p.toNat : Int) * 16777216) ((q.toNat : Int) * 65536)) ((r.toNat : Int) * 256)) (s.toNat : Int) = (word p q r s).toNat := by
 have e1 := byte_shl p 24 (by decide); have e2 := byte_shl q 16 (by decide); have e3 := byte_shl r 8 (by decide); have e4 := byte_shl s 0 (by decide); rw [BitVec.shiftLeft_zero] at e4; rw [show (2 : Int) ^ 24 = 16777216 by decide] at e1; rw [show (2 : Int) ^ 16 = 65536 by decide] at e2; rw [show (2 : Int) ^ 8 = 256 by decide] at e3; rw [show (2 : Int) ^ 0 = 1 by decide, Int.mul_one] at e4; rw [← e1, ← e2, ← e3, ← e4, b_or, b_or, b_or]
 rfl
theorem ch_xor (b c d : BitVec 32) : (b &&& c) ^^^ (~~~b &&& d) = (b &&& c) ||| (~~~b &&& d) := by
 apply BitVec.eq_of_getElem_eq
 intro i hi; simp only [BitVec.getElem_xor, BitVec.getElem_or, BitVec.getElem_and, BitVec.getElem_not]
 cases b[i] <;> cases c[i] <;> cases d[i] <;> rfl
theorem maj_xor (b c d : BitVec 32) : (b &&& c) ^^^ (b &&& d) ^^^ (c &&& d) = (b &&& c) ||| (b &&& d) ||| (c &&& d) := by
 apply BitVec.eq_of_getElem_eq
 intro i hi; simp only [BitVec.getElem_xor, BitVec.getElem_or, BitVec.getElem_and]
 cases b[i] <;> cases c[i] <;> cases d[i] <;> rfl
end Go.Proofs.YtnbcbiglkmdepaaGreatDoor
namespace Go.Proofs.YtnbcbiglkmdepaaGreatDoor
open Go.RowKit
theorem tup_int {k : IntKind} {a b : Int} {v : Value} (h : a = b) : Ending.returned (.tuple #[.int k a, v]) = .returned (.tuple #[.int k b, v]) := by rw [h]
theorem ret_int {k : IntKind} {a b : Int} (h : a = b) : Ending.returned (.int k a) = .returned (.int k b) := by rw [h]
theorem ret_str {a b : List UInt8} (h : a = b) : Ending.returned (.string ⟨a.toArray⟩) = .returned (.string ⟨b.toArray⟩) := by rw [h]
theorem ret_bool {a b : Bool} (h : a = b) : Ending.returned (.bool a) = .returned (.bool b) := by rw [h]
def BAt (w : World) (a : Option Addr) (l : List UInt8) : Prop :=
 0 < l.length → ∃ b o, a = some ⟨b, o, none⟩ ∧ b < w.heap.size ∧ ∀ i (h : i < l.length), w.cell? ⟨b, o + i, none⟩ = some (.int .u8 (l[i]).toNat)
theorem BAt.nil (w : World) (a : Option Addr) : BAt w a [] := fun h => absurd h (Nat.lt_irrefl 0)
theorem BAt.below {w w' : World} {a : Option Addr} {l : List UInt8} (h : BAt w a l) {B : Nat} (hb : Below B w w') (hB : w.heap.size ≤ B) : BAt w' a l := fun hp => by
 obtain ⟨b, o, rfl, hlt, hc⟩ := h hp; exact ⟨b, o, rfl, Nat.lt_of_lt_of_le hlt hb.size, fun i hi => (hb.cell (p := ⟨b, o + i, none⟩) (by show b < B; omega)).trans (hc i hi)⟩
theorem BAt.keep {w w' : World} {a : Option Addr} {l : List UInt8} (h : BAt w a l) (hb : Below w.heap.size w w') : BAt w' a l := h.below hb (Nat.le_refl _)
theorem size_toArray (l : List UInt8) : (⟨l.toArray⟩ : ByteArray).size = l.length := by simp [ByteArray.size]
theorem bytes_append (a b : List UInt8) : (⟨a.toArray⟩ ++ ⟨b.toArray⟩ : ByteArray) = ⟨(a ++ b).toArray⟩ := by
 apply ByteArray.ext
 simp
theorem add_lists {P : Program} (w : World) (a b : List UInt8) (h : a.length + b.length ≤ 9223372036854775807) :
  (Op.stringOp .add ⟨a.toArray⟩ ⟨b.toArray⟩).run P w = .ok (.string ⟨(a ++ b).toArray⟩) w := by
 rw [← bytes_append]; exact run_string_add_sum w _ _ (by rw [size_toArray, size_toArray]; exact h)
theorem strOfNums_toNat (l : List UInt8) : strOfNums (l.map fun c => (c.toNat : Int)) = ⟨l.toArray⟩ := by
 unfold strOfNums
 congr 2
 rw [List.map_map]
 conv => rhs; rw [← List.map_id l]
 apply List.map_congr_left
 intro c _
 simp
theorem BAt.conv {P : Program} {w : World} {a : Option Addr} {l : List UInt8} (h : BAt w a l) (c : Nat) (src e : TypeId) (hs : P.underlying src = some (.slice e)) (he : P.underlying e = some (.int .u8)) :
  ∀ dst, P.underlying dst = some .string → (convert src dst (.slice a l.length c)).run P w = .ok (.string ⟨l.toArray⟩) w := by
 intro dst hd
 by_cases hp : 0 < l.length
 ·obtain ⟨b, o, rfl, _, hc⟩ := h hp
  rw [← strOfNums_toNat]; exact run_convert_bytes_arg w src e hs he b o l.length c (l.map fun c => (c.toNat : Int)) (by simp) (fun i hi => by rw [hc i hi]; simp [List.getD, hi]) dst hd
 ·obtain rfl : l = [] := List.eq_nil_of_length_eq_zero (by omega)
  rw [run_convert_bytes_string w src dst e _ _ c hs he hd]
  cases a <;> simp [Conv.bytesToString, loadCells]
  all_goals rfl
theorem ret_tup {k m : IntKind} {a b c d : Int} (h : a = b) (g : c = d) : Ending.returned (.tuple #[.int k a, .int m c]) = .returned (.tuple #[.int k b, .int m d]) := by rw [h, g]
theorem rot_flip {P : Program} {f : Nat} {args : Array Value} {w : World} {v : Value} (h : Calls P f args w fun e w' => e = .returned v ∧ w = w') : Calls P f args w fun e w' => e = .returned v ∧ w' = w := h.mono fun _ _ h => ⟨h.1, h.2.symm⟩
theorem shl_i (x : BitVec 32) (n : Nat) (m : Int) (hm : m = 2 ^ n) (X : Int) (hX : X = x.toNat) : X * m % 4294967296 = ((x <<< n).toNat : Int) := by subst hm; subst hX; exact b_shl x n
theorem shr_i (x : BitVec 32) (n : Nat) (m : Int) (hm : m = 2 ^ n) (X : Int) (hX : X = x.toNat) : X / m = ((x >>> n).toNat : Int) := by subst hm; subst hX; exact b_shr x n
theorem rl_1 (x : BitVec 32) : bits BinOp.or .u32 ((x.toNat : Int) * 2 % 4294967296) ((x.toNat : Int) / 2147483648) = (rl x 1).toNat := by
 rw [shl_i x 1 2 (by decide) _ rfl, shr_i x 31 2147483648 (by decide) _ rfl, b_or]
 rfl
theorem rl_5 (x : BitVec 32) : bits BinOp.or .u32 ((x.toNat : Int) * 32 % 4294967296) ((x.toNat : Int) / 134217728) = (rl x 5).toNat := by
 rw [shl_i x 5 32 (by decide) _ rfl, shr_i x 27 134217728 (by decide) _ rfl, b_or]
 rfl
theorem rl_30 (x : BitVec 32) : bits BinOp.or .u32 ((x.toNat : Int) * 1073741824 % 4294967296) ((x.toNat : Int) / 4) = (rl x 30).toNat := by
 rw [shl_i x 30 1073741824 (by decide) _ rfl, shr_i x 2 4 (by decide) _ rfl, b_or]
 rfl
theorem c_0 : (1518500249 : Int) = (0x5a827999#32).toNat := by decide
theorem c_1 : (1859775393 : Int) = (0x6ed9eba1#32).toNat := by decide
theorem c_2 : (2400959708 : Int) = (0x8f1bbcdc#32).toNat := by decide
theorem c_3 : (3395469782 : Int) = (0xca62c1d6#32).toNat := by decide
theorem rot_1 (x : BitVec 32) (w : World) :
  Calls Tryz.prog 128 #[.int .u32 x.toNat, .int .i64 1] w fun e w' => e = .returned (.int .u32 (rl x 1).toNat) ∧ w = w' := by
 have hk : bits BinOp.and IntKind.u64 1 31 = 1 := by decide
 go_enter Tryz.func128, Tryz.ntmps128
 go_wp2; go_ret; exact ⟨ret_int (rl_1 x), rfl⟩
theorem left_1 (x : BitVec 32) (w : World) :
  Calls Tryz.prog 78 #[.int .u32 x.toNat, .int .i64 1] w fun e w' => e = .returned (.int .u32 (rl x 1).toNat) ∧ w = w' := by
 have hk : bits BinOp.and IntKind.u64 1 31 = 1 := by decide
 go_enter Tryz.func78, Tryz.ntmps78
 go_wp2; go_ret; exact ⟨ret_int (rl_1 x), rfl⟩
theorem rot_5 (x : BitVec 32) (w : World) :
  Calls Tryz.prog 128 #[.int .u32 x.toNat, .int .i64 5] w fun e w' => e = .returned (.int .u32 (rl x 5).toNat) ∧ w = w' := by
 have hk : bits BinOp.and IntKind.u64 5 31 = 5 := by decide
 go_enter Tryz.func128, Tryz.ntmps128
 go_wp2; go_ret; exact ⟨ret_int (rl_5 x), rfl⟩
theorem left_5 (x : BitVec 32) (w : World) :
  Calls Tryz.prog 78 #[.int .u32 x.toNat, .int .i64 5] w fun e w' => e = .returned (.int .u32 (rl x 5).toNat) ∧ w = w' := by
 have hk : bits BinOp.and IntKind.u64 5 31 = 5 := by decide
 go_enter Tryz.func78, Tryz.ntmps78
 go_wp2; go_ret; exact ⟨ret_int (rl_5 x), rfl⟩
theorem rot_30 (x : BitVec 32) (w : World) :
  Calls Tryz.prog 128 #[.int .u32 x.toNat, .int .i64 30] w fun e w' => e = .returned (.int .u32 (rl x 30).toNat) ∧ w = w' := by
 have hk : bits BinOp.and IntKind.u64 30 31 = 30 := by decide
 go_enter Tryz.func128, Tryz.ntmps128
 go_wp2; go_ret; exact ⟨ret_int (rl_30 x), rfl⟩
theorem left_30 (x : BitVec 32) (w : World) :
  Calls Tryz.prog 78 #[.int .u32 x.toNat, .int .i64 30] w fun e w' => e = .returned (.int .u32 (rl x 30).toNat) ∧ w = w' := by
 have hk : bits BinOp.and IntKind.u64 30 31 = 30 := by decide
 go_enter Tryz.func78, Tryz.ntmps78
 go_wp2; go_ret; exact ⟨ret_int (rl_30 x), rfl⟩
theorem join_0 (t : Nat) (h1 : t < 20) (b c d : BitVec 32) (w : World) :
  Calls Tryz.prog 129 #[.int .i64 t, .int .u32 b.toNat, .int .u32 c.toNat, .int .u32 d.toNat] w fun e w' => e = .returned (.int .u32 (fk t b c d).toNat) ∧ w = w' := by
 go_enter Tryz.func129, Tryz.ntmps129
 go_wp2; go_ret; refine ⟨ret_int ?_, rfl⟩; unfold fk fF kF; simp only [if_pos h1, b_and, b_or, b_xor, b_not, b_add, c_0, c_1, c_2, c_3, ch_xor, maj_xor]
theorem rmix_0 (t : Nat) (h1 : t < 20) (b c d : BitVec 32) (w : World) :
  Calls Tryz.prog 79 #[.int .i64 t, .int .u32 b.toNat, .int .u32 c.toNat, .int .u32 d.toNat] w fun e w' => e = .returned (.tuple #[.int .u32 (fF t b c d).toNat, .int .u32 (kF t).toNat]) ∧ w = w' := by
 go_enter Tryz.func79, Tryz.ntmps79
 go_wp2
 go_ret2
 refine ⟨ret_tup ?_ ?_, rfl⟩
 ·unfold fF
  simp only [if_pos h1, b_and, b_or, b_xor, b_not, b_add, c_0, c_1, c_2, c_3, ch_xor, maj_xor]
 ·unfold kF
  simp only [if_pos h1]
  rfl
theorem join_1 (t : Nat) (h0 : 20 ≤ t) (h1 : t < 40) (b c d : BitVec 32) (w : World) :
  Calls Tryz.prog 129 #[.int .i64 t, .int .u32 b.toNat, .int .u32 c.toNat, .int .u32 d.toNat] w fun e w' => e = .returned (.int .u32 (fk t b c d).toNat) ∧ w = w' := by
 go_enter Tryz.func129, Tryz.ntmps129
 go_wp2; go_ret; refine ⟨ret_int ?_, rfl⟩; unfold fk fF kF; simp only [if_neg (show ¬ t < 20 by omega), if_pos h1, b_and, b_or, b_xor, b_not, b_add, c_0, c_1, c_2, c_3, ch_xor, maj_xor]
theorem rmix_1 (t : Nat) (h0 : 20 ≤ t) (h1 : t < 40) (b c d : BitVec 32) (w : World) :
  Calls Tryz.prog 79 #[.int .i64 t, .int .u32 b.toNat, .int .u32 c.toNat, .int .u32 d.toNat] w fun e w' => e = .returned (.tuple #[.int .u32 (fF t b c d).toNat, .int .u32 (kF t).toNat]) ∧ w = w' := by
 go_enter Tryz.func79, Tryz.ntmps79
 go_wp2
 go_ret2
 refine ⟨ret_tup ?_ ?_, rfl⟩
 ·unfold fF
  simp only [if_neg (show ¬ t < 20 by omega), if_pos h1, b_and, b_or, b_xor, b_not, b_add, c_0, c_1, c_2, c_3, ch_xor, maj_xor]
 ·unfold kF
  simp only [if_neg (show ¬ t < 20 by omega), if_pos h1]
  rfl
theorem join_2 (t : Nat) (h0 : 40 ≤ t) (h1 : t < 60) (b c d : BitVec 32) (w : World) :
  Calls Tryz.prog 129 #[.int .i64 t, .int .u32 b.toNat, .int .u32 c.toNat, .int .u32 d.toNat] w fun e w' => e = .returned (.int .u32 (fk t b c d).toNat) ∧ w = w' := by
 go_enter Tryz.func129, Tryz.ntmps129
 go_wp2; go_ret; refine ⟨ret_int ?_, rfl⟩; unfold fk fF kF; simp only [if_neg (show ¬ t < 20 by omega), if_neg (show ¬ t < 40 by omega), if_pos h1, b_and, b_or, b_xor, b_not, b_add, c_0, c_1, c_2, c_3, ch_xor, maj_xor]
theorem rmix_2 (t : Nat) (h0 : 40 ≤ t) (h1 : t < 60) (b c d : BitVec 32) (w : World) :
  Calls Tryz.prog 79 #[.int .i64 t, .int .u32 b.toNat, .int .u32 c.toNat, .int .u32 d.toNat] w fun e w' => e = .returned (.tuple #[.int .u32 (fF t b c d).toNat, .int .u32 (kF t).toNat]) ∧ w = w' := by
 go_enter Tryz.func79, Tryz.ntmps79
 go_wp2
 go_ret2
 refine ⟨ret_tup ?_ ?_, rfl⟩
 ·unfold fF
  simp only [if_neg (show ¬ t < 20 by omega), if_neg (show ¬ t < 40 by omega), if_pos h1, b_and, b_or, b_xor, b_not, b_add, c_0, c_1, c_2, c_3, ch_xor, maj_xor]
 ·unfold kF
  simp only [if_neg (show ¬ t < 20 by omega), if_neg (show ¬ t < 40 by omega), if_pos h1]
  rfl
theorem join_3 (t : Nat) (h0 : 60 ≤ t) (h1 : t < 80) (b c d : BitVec 32) (w : World) :
  Calls Tryz.prog 129 #[.int .i64 t, .int .u32 b.toNat, .int .u32 c.toNat, .int .u32 d.toNat] w fun e w' => e = .returned (.int .u32 (fk t b c d).toNat) ∧ w = w' := by
 go_enter Tryz.func129, Tryz.ntmps129
 go_wp2; go_ret; refine ⟨ret_int ?_, rfl⟩; unfold fk fF kF; simp only [if_neg (show ¬ t < 20 by omega), if_neg (show ¬ t < 40 by omega), if_neg (show ¬ t < 60 by omega), b_and, b_or, b_xor, b_not, b_add, c_0, c_1, c_2, c_3, ch_xor, maj_xor]
theorem rmix_3 (t : Nat) (h0 : 60 ≤ t) (h1 : t < 80) (b c d : BitVec 32) (w : World) :
  Calls Tryz.prog 79 #[.int .i64 t, .int .u32 b.toNat, .int .u32 c.toNat, .int .u32 d.toNat] w fun e w' => e = .returned (.tuple #[.int .u32 (fF t b c d).toNat, .int .u32 (kF t).toNat]) ∧ w = w' := by
 go_enter Tryz.func79, Tryz.ntmps79
 go_wp2
 go_ret2
 refine ⟨ret_tup ?_ ?_, rfl⟩
 ·unfold fF
  simp only [if_neg (show ¬ t < 20 by omega), if_neg (show ¬ t < 40 by omega), if_neg (show ¬ t < 60 by omega), b_and, b_or, b_xor, b_not, b_add, c_0, c_1, c_2, c_3, ch_xor, maj_xor]
 ·unfold kF
  simp only [if_neg (show ¬ t < 20 by omega), if_neg (show ¬ t < 40 by omega), if_neg (show ¬ t < 60 by omega)]
  rfl
theorem join_any (t : Nat) (h : t < 80) (b c d : BitVec 32) (w : World) :
  Calls Tryz.prog 129 #[.int .i64 t, .int .u32 b.toNat, .int .u32 c.toNat, .int .u32 d.toNat] w fun e w' => e = .returned (.int .u32 (fk t b c d).toNat) ∧ w = w' := by
 by_cases h1 : t < 20
 ·exact join_0 t h1 b c d w
 ·by_cases h2 : t < 40
  ·exact join_1 t (by omega) h2 b c d w
  ·by_cases h3 : t < 60
   ·exact join_2 t (by omega) h3 b c d w
   ·exact join_3 t (by omega) h b c d w
theorem rmix_any (t : Nat) (h : t < 80) (b c d : BitVec 32) (w : World) :
  Calls Tryz.prog 79 #[.int .i64 t, .int .u32 b.toNat, .int .u32 c.toNat, .int .u32 d.toNat] w fun e w' => e = .returned (.tuple #[.int .u32 (fF t b c d).toNat, .int .u32 (kF t).toNat]) ∧ w = w' := by
 by_cases h1 : t < 20
 ·exact rmix_0 t h1 b c d w
 ·by_cases h2 : t < 40
  ·exact rmix_1 t (by omega) h2 b c d w
  ·by_cases h3 : t < 60
   ·exact rmix_2 t (by omega) h3 b c d w
   ·exact rmix_3 t (by omega) h b c d w
def idv (l : List UInt8) : Value := .agg (Lib.byteCells l).toArray
theorem info29 : (Tryz.prog.info? 24).map (·.size) = some 20 := by kernel_rfl
theorem two_new (w : World) (A B : Obj) : ((w.alloc A).alloc B).heap[w.heap.size]? = some A :=
 (Below.heap_alloc (w.alloc A) B w.heap.size (by simp)).trans (heap_alloc_new w A)
set_option maxRecDepth 20000
theorem lt_of_heap {w : World} {b : Nat} {o : Obj} (h : w.heap[b]? = some o) : b < w.heap.size := by
 rcases Nat.lt_or_ge b w.heap.size with h' | h'
 ·exact h'
 ·simp [Array.getElem?_eq_none h'] at h
theorem not_frozen {w : World} {g : Nat} {cs : Array Value} {t : TypeId} (h : w.heap[g]? = some (.cells cs t (0, 0))) (i : Nat) : w.frozen? ⟨g, i, none⟩ = false := by
 simp [World.frozen?, h]
theorem u8_lt (b : UInt8) : (0 : Int) ≤ b.toNat ∧ (b.toNat : Int) < 256 := by have := b.toNat_lt; omega
theorem heap_set {w : World} {g : Nat} {cs : Array Value} {t : TypeId} {fr : Nat × Nat} (h : w.heap[g]? = some (.cells cs t fr)) (i : Nat) (v : Value) : (w.setCell ⟨g, i, none⟩ v).heap[g]? = some (.cells (cs.setIfInBounds i v) t fr) := by
 simp [World.setCell, Array.getElem?_modify, h]
theorem set_get (cs : Array Value) (i j : Nat) (v : Value) (h : i < cs.size) : (cs.setIfInBounds i v)[j]? = if j = i then some v else cs[j]? := by
 rw [Array.getElem?_setIfInBounds]
 by_cases e : j = i
 ·subst e; simp [h]
 ·rw [if_neg (fun q => e q.symm), if_neg e]
theorem bc_len (l : List UInt8) : (Lib.byteCells l).length = l.length := by simp [Lib.byteCells]
theorem bc_at (l : List UInt8) (i : Nat) (h : i < l.length) : (Lib.byteCells l)[i]? = some (.int .u8 (l.getD i 0).toNat) := by simp [Lib.byteCells, h]
theorem arr_bc {arr : Array Value} {l : List UInt8} (hs : arr.size = l.length) (h : ∀ j, j < l.length → arr[j]? = some (.int .u8 (l.getD j 0).toNat)) : arr = (Lib.byteCells l).toArray := by
 apply Array.ext_getElem?
 intro i
 have e : (Lib.byteCells l).toArray[i]? = (Lib.byteCells l)[i]? := by simp
 by_cases hi : i < l.length
 ·rw [h i hi, e, bc_at l i hi]
 ·rw [Array.getElem?_eq_none (by omega), e, List.getElem?_eq_none (by rw [bc_len]; omega)]
theorem bc_all (l : List UInt8) : (Lib.byteCells l).toArray.all (·.oneCell') = true := by
 rw [Array.all_eq_true]; intro i hi
 simp [Lib.byteCells, Value.oneCell']
theorem zero_arr {t : TypeId} {n : Nat} {z : Array Value} (h : (Tryz.prog.info? t).map (fun i => (i.zero, i.size)) = some (some (.agg z), n)) : ∀ w, (zeroValue t).run Tryz.prog w = .ok (.agg z) w := (zero_of_info h).1
theorem z29 : ∃ z : Array Value, (Tryz.prog.info? 24).map (fun i => (i.zero, i.size)) = some (some (.agg z), 20) ∧ z = Array.replicate 20 (.int .u8 0) := ⟨Array.replicate 20 (.int .u8 0), by kernel_rfl, rfl⟩
theorem eql_idv (w : World) (l m : List UInt8) (h : l.length = 20) (h' : m.length = 20) : (binOp .eql 24 (idv l) (idv m)).run Tryz.prog w = .ok (.bool (l == m)) w :=
 run_eql_bytes (P := Tryz.prog) w 24 5 20 Tryz.underlying24 Tryz.underlying5 Tryz.sizeOf5 l m h h'
theorem neq_idv (w : World) (l m : List UInt8) (h : l.length = 20) (h' : m.length = 20) : (binOp .neq 24 (idv l) (idv m)).run Tryz.prog w = .ok (.bool (!(l == m))) w := by
 have e := run_equalIn_bytes (P := Tryz.prog) w 9998 24 5 20 Tryz.underlying24 Tryz.underlying5 Tryz.sizeOf5 l m h h'; unfold idv; rw [run_neq_struct]
 erw [e]
 rfl
theorem heap_keep {w w' : World} {g : Nat} {o : Obj} (h : w.heap[g]? = some o) (b : Below w.heap.size w w') : w'.heap[g]? = some o := (b.block g (Array.getElem?_eq_some_iff.1 h).1).trans h
def wv (l : List (BitVec 32)) : List Value := l.map fun x => .int .u32 x.toNat
theorem wv_len (l : List (BitVec 32)) : (wv l).length = l.length := by simp [wv]
theorem wv_at (l : List (BitVec 32)) (i : Nat) (h : i < l.length) : (wv l)[i]? = some (.int .u32 (l.getD i 0).toNat) := by
 simp [wv, h]
theorem wv_one (l : List (BitVec 32)) : ∀ v ∈ wv l, v.oneCell' = true := by
 intro v hv; simp [wv] at hv; obtain ⟨x, _, rfl⟩ := hv; rfl
theorem arr_wv {arr : Array Value} {l : List (BitVec 32)} (hs : arr.size = l.length) (h : ∀ j, j < l.length → arr[j]? = some (.int .u32 (l.getD j 0).toNat)) : arr = (wv l).toArray := by
 apply Array.ext_getElem?
 intro i
 have e : (wv l).toArray[i]? = (wv l)[i]? := by simp
 by_cases hi : i < l.length
 ·rw [h i hi, e, wv_at l i hi]
 ·rw [Array.getElem?_eq_none (by omega), e, List.getElem?_eq_none (by rw [wv_len]; omega)]
theorem wv_all (l : List (BitVec 32)) : (wv l).toArray.all (·.oneCell') = true := by
 rw [Array.all_eq_true]; intro i hi; exact wv_one l _ (by simp)
theorem info43 : (Tryz.prog.info? 137).map (·.size) = some 80 := by kernel_rfl
theorem info36 : (Tryz.prog.info? 124).map (·.size) = some 5 := by kernel_rfl
theorem info40 : (Tryz.prog.info? 128).map (·.size) = some 71 := by kernel_rfl
theorem z43 : ∃ z : Array Value, (Tryz.prog.info? 137).map (fun i => (i.zero, i.size)) = some (some (.agg z), 80) ∧ z = Array.replicate 80 (.int .u32 0) := ⟨Array.replicate 80 (.int .u32 0), by kernel_rfl, rfl⟩
theorem z36 : ∃ z : Array Value, (Tryz.prog.info? 124).map (fun i => (i.zero, i.size)) = some (some (.agg z), 5) ∧ z = Array.replicate 5 (.int .u32 0) := ⟨Array.replicate 5 (.int .u32 0), by kernel_rfl, rfl⟩
def zer40 : Array Value := (List.replicate 5 (Value.int .u32 0) ++ (List.replicate 64 (Value.int .u8 0) ++ [Value.int .i64 0, Value.int .u64 0])).toArray
theorem z40 : (Tryz.prog.info? 128).map (fun i => (i.zero, i.size)) = some (some (.agg zer40), 71) := by kernel_rfl
theorem size_u8 (w : World) : (sizeOf 5).run Tryz.prog w = .ok 1 w := Tryz.sizeOf5 w
theorem slice64_lh (w : World) (g k : Nat) (hk : k < 16) (l h : Int) (hl : l = 4 * (k : Int)) (hh : h = 4 * (k : Int) + 4) :
  (Instr.sliceAt 125 (.pointer (some ⟨g, 5, none⟩)) (some (.int .i64 l)) (some (.int .i64 h)) none).run Tryz.prog w = .ok (.slice (some ⟨g, 5 + 4 * k, none⟩) 4 (64 - 4 * k)) w := by
 have ea : Tryz.prog.arrayLen 125 = 64 := by kernel_rfl
 have ee : Tryz.prog.elem 125 = 5 := by kernel_rfl
 rw [run_sliceAt_array_lh w 125 ⟨g, 5, none⟩ (by rw [ea, ee]; exact Tryz.underlying125) .i64 .i64 l h (by omega) (by omega) (by rw [ea]; omega), ea, ee, size_u8]; simp only [Result.andThen_ok, slicedAt]; rw [if_neg (by omega), show h.toNat - l.toNat = 4 by omega, show l.toNat = 4 * k by omega]; unfold Addr.add; simp only [Nat.mul_one]
 split
 ·rename_i h0; simp [show k = 0 by omega]
 ·rfl
theorem slice64_l (w : World) (g k : Nat) (hk : k < 64) (l : Int) (hl : l = (k : Int)) :
  (Instr.sliceAt 125 (.pointer (some ⟨g, 5, none⟩)) (some (.int .i64 l)) none none).run Tryz.prog w = .ok (.slice (some ⟨g, 5 + k, none⟩) (64 - k) (64 - k)) w := by
 have ea : Tryz.prog.arrayLen 125 = 64 := by kernel_rfl
 have ee : Tryz.prog.elem 125 = 5 := by kernel_rfl
 rw [run_sliceAt_array_l w 125 ⟨g, 5, none⟩ (by rw [ea, ee]; exact Tryz.underlying125) .i64 l (by omega) (by rw [ea]; omega), ea, ee, size_u8]; simp only [Result.andThen_ok, slicedAt]; rw [if_neg (by omega), show l.toNat = k by omega]; unfold Addr.add; simp only [Nat.mul_one]
 split
 ·rename_i h0; simp [show k = 0 by omega]
 ·rfl
theorem index_arr80 (w : World) (b k : Nat) (hk : k < 80) (i : Int) (hi : i = (k : Int)) :
  (Instr.indexAt 137 (.pointer (some ⟨b, 0, none⟩)) (.int .i64 i)).run Tryz.prog w = .ok (.pointer (some ⟨b, k, none⟩)) w := by
 have ea : Tryz.prog.arrayLen 137 = 80 := by kernel_rfl
 have ee : Tryz.prog.elem 137 = 123 := by kernel_rfl
 rw [run_indexAt_array w 137 ⟨b, 0, none⟩ .i64 i (by rw [ea, ee]; exact Tryz.underlying137), if_pos (by rw [ea]; omega), ee, Tryz.sizeOf123 w]; simp only [Result.andThen_ok, show i.toNat = k by omega, Nat.mul_one]; unfold Addr.add
 split
 ·rename_i h0; simp [h0]
 ·simp
theorem index_arr5 (w : World) (b k : Nat) (hk : k < 5) (i : Int) (hi : i = (k : Int)) :
  (Instr.indexAt 124 (.pointer (some ⟨b, 0, none⟩)) (.int .i64 i)).run Tryz.prog w = .ok (.pointer (some ⟨b, k, none⟩)) w := by
 have ea : Tryz.prog.arrayLen 124 = 5 := by kernel_rfl
 have ee : Tryz.prog.elem 124 = 123 := by kernel_rfl
 rw [run_indexAt_array w 124 ⟨b, 0, none⟩ .i64 i (by rw [ea, ee]; exact Tryz.underlying124), if_pos (by rw [ea]; omega), ee, Tryz.sizeOf123 w]; simp only [Result.andThen_ok, show i.toNat = k by omega, Nat.mul_one]; unfold Addr.add
 split
 ·rename_i h0; simp [h0]
 ·simp
theorem index_arr20 (w : World) (b k : Nat) (hk : k < 20) (i : Int) (hi : i = (k : Int)) :
  (Instr.indexAt 24 (.pointer (some ⟨b, 0, none⟩)) (.int .i64 i)).run Tryz.prog w = .ok (.pointer (some ⟨b, k, none⟩)) w := by
 have ea : Tryz.prog.arrayLen 24 = 20 := by kernel_rfl
 have ee : Tryz.prog.elem 24 = 5 := by kernel_rfl
 rw [run_indexAt_array w 24 ⟨b, 0, none⟩ .i64 i (by rw [ea, ee]; exact Tryz.underlying24), if_pos (by rw [ea]; omega), ee, Tryz.sizeOf5 w]; simp only [Result.andThen_ok, show i.toNat = k by omega, Nat.mul_one]; unfold Addr.add
 split
 ·rename_i h0; simp [h0]
 ·simp
theorem index_agg80 (w : World) (cs : Array Value) (k : Nat) (hk : k < 80) (v : Value) (hv : cs[k]? = some v) (i : Int) (hi : i = (k : Int)) :
  (Instr.index 137 (.agg cs) (.int .i64 i)).run Tryz.prog w = .ok v w := by
 subst hi
 have h1 : 0 ≤ (k : Int) ∧ (k : Int) < (80 : Nat) := by omega
 have ha : (isAgg 123).run Tryz.prog w = .ok false w := by unfold isAgg; rw [Sem.run_bind, run_underlying Tryz.underlying123 w]; rfl
 simp [Instr.index, run_underlying Tryz.underlying137, asIntOf, h1, go_sem, part, ha, Tryz.sizeOf123 w, hv]
 omega
theorem slice_u8_l (w : World) (a : Option Addr) (len cap k : Nat) (h : k ≤ len) (l : Int) (hl : l = (k : Int)) :
  (Instr.sliceAt 32 (.slice a len cap) (some (.int .i64 l)) none none).run Tryz.prog w = .ok (.slice (if cap = k then a else a.map (·.add k)) (len - k) (cap - k)) w := by
 have ee : Tryz.prog.elem 32 = 5 := by kernel_rfl
 rw [run_sliceAt_slice (P := Tryz.prog) (w := w) 32 _ _ _ _ (by rw [ee]; exact Tryz.underlying32), run_slice_l (P := Tryz.prog) (w := w) 32 a len cap (by rw [ee]; exact Tryz.underlying32) .i64 l (by omega) (by omega), ee, size_u8]; simp only [Result.andThen_ok, sliced, show l.toNat = k by omega, Nat.mul_one]
theorem addr_add (b o k : Nat) : (⟨b, o, none⟩ : Addr).add k = ⟨b, o + k, none⟩ := by unfold Addr.add; split <;> simp_all
theorem schedule_any (w : World) (g : Nat) (cs : Array Value) (fr : Nat × Nat) (m : Nat → UInt8) (hg : w.heap[g]? = some (.cells cs 128 fr)) (hb : ∀ i, i < 64 → cs[5 + i]? = some (.int .u8 (m i).toNat)) :
  Calls Tryz.prog 127 #[.pointer (some ⟨g, 0, none⟩)] w fun e w' => e = .returned (.agg (wv (sched m 80)).toArray) ∧ Below w.heap.size w w' := by
 obtain ⟨z, hz, hze⟩ := z43; have hzv := zero_arr hz; have HZ := hyd hz; clear hz; have HZE := hyd hze; clear hze; have HB := hyd hb; clear hb; have HG := hyd hg; clear hg
 go_enter Tryz.func127, Tryz.ntmps127
 go_wp2_with fail
 go_loopw [7] (fun i wr => ∃ (k : Nat) (arr : Array Value), k ≤ 16 ∧ i = .int .i64 k ∧ wr.heap[w.heap.size + 1]? = some (.cells arr 137 (0, 0)) ∧ wr.heap[w.heap.size]? = some (.cells z 137 (0, 0)) ∧ arr.size = 80 ∧
   (∀ j, j < k → arr[j]? = some (.int .u32 (W80 m j).toNat)) ∧ Below w.heap.size w wr) (fun i _ => 16 - (intOf i).toNat)
 case atStart => exact ⟨0, z, Nat.zero_le _, rfl, by rw [show w.heap.size + 1 = (w.alloc (.cells z 137)).heap.size by simp]; exact heap_alloc_new _ _, two_new w _ _, by rw [HZE.out]; simp, fun j hj => absurd hj (Nat.not_lt_zero _), ((Below.refl _ w).alloc (Nat.le_refl _) _).alloc (by simp) _⟩
 case round =>
  obtain ⟨k, arr, hk, rfl, ha, h2, hsz, har, hbr⟩ := hrel; have HA := hyd ha; clear ha; have H2 := hyd h2; clear h2; have HAR := hyd har; clear har; have hgw : wr.heap[g]? = some (.cells cs 128 fr) := (hbr.block g (lt_of_heap HG.out)).trans HG.out
  by_cases hlt : k < 16
  ·have hsl := fun w => slice64_lh w g k hlt (4 * (k : Int)) (4 * (k : Int) + 4) rfl rfl
   have hx : ∀ j, j < 4 → wr.cell? ⟨g, 5 + 4 * k + j, none⟩ = some (.int .u8 (m (4 * k + j)).toNat) := fun j hj => by
    rw [cell_of_row wr g _ cs _ fr hgw, Nat.add_assoc, HB.out (4 * k + j) (by omega)]
   have q0 := hx 0 (by omega); have q1 := hx 1 (by omega); have q2 := hx 2 (by omega); have q3 := hx 3 (by omega); clear hx; rw [Nat.add_zero] at q0; obtain ⟨x0, e0⟩ : ∃ x : Int, x = (m (4 * k + 0)).toNat := ⟨_, rfl⟩; obtain ⟨x1, e1⟩ : ∃ x : Int, x = (m (4 * k + 1)).toNat := ⟨_, rfl⟩; obtain ⟨x2, e2⟩ : ∃ x : Int, x = (m (4 * k + 2)).toNat := ⟨_, rfl⟩; obtain ⟨x3, e3⟩ : ∃ x : Int, x = (m (4 * k + 3)).toNat := ⟨_, rfl⟩; rw [← e0] at q0; rw [← e1] at q1; rw [← e2] at q2; rw [← e3] at q3
   have l0 : 0 ≤ x0 ∧ x0 < 256 := by rw [e0]; exact u8_lt _
   have l1 : 0 ≤ x1 ∧ x1 < 256 := by rw [e1]; exact u8_lt _
   have l2 : 0 ≤ x2 ∧ x2 < 256 := by rw [e2]; exact u8_lt _
   have l3 : 0 ≤ x3 ∧ x3 < 256 := by rw [e3]; exact u8_lt _
   obtain ⟨l0a, l0b⟩ := l0; obtain ⟨l1a, l1b⟩ := l1; obtain ⟨l2a, l2b⟩ := l2; obtain ⟨l3a, l3b⟩ := l3; have E0 := hyd e0; have E1 := hyd e1; have E2 := hyd e2; have E3 := hyd e3; clear e0 e1 e2 e3 hgw; obtain ⟨old, ho⟩ : ∃ v, wr.cell? ⟨w.heap.size + 1, k, none⟩ = some v := ⟨arr[k]'(by omega), by rw [cell_of_row wr _ k arr _ _ HA.out]; simp⟩; have hf : wr.frozen? ⟨w.heap.size + 1, k, none⟩ = false := not_frozen HA.out k
   have hix := fun u => index_arr80 u (w.heap.size + 1) k (by omega) k rfl
   go_wp2_with fail
   go_still_tail 24, (by kernel_rfl)
   change wpList _ _ _ _ _ wr.drew
   go_wp2
   go_roundw
   case rel =>
    refine ⟨k + 1, arr.setIfInBounds k _, by omega, by go_num, heap_set HA.out k _, ?_, by simpa using hsz, ?_, ?_⟩
    ·exact (Below.heap_setCell wr ⟨w.heap.size + 1, k, none⟩ _ w.heap.size (by simp)).trans H2.out
    ·intro j hj
     rw [set_get _ _ _ _ (by omega)]
     split
     ·rename_i e; subst e
      rw [E0.out, E1.out, E2.out, E3.out, W80_lo m _ hlt, ← word_int]; rfl
     ·exact HAR.out j (by omega)
    ·exact (hbr.setCell (by simp) _).drew
   case measure => simp [intOf]; omega
  ·have hk16 : k = 16 := by omega
   subst hk16; clear hlt
   go_wp2_with fail
   go_loopw [6] (fun i wr => ∃ (k : Nat) (arr : Array Value), 16 ≤ k ∧ k ≤ 80 ∧ i = .int .i64 k ∧ wr.heap[w.heap.size + 1]? = some (.cells arr 137 (0, 0)) ∧ wr.heap[w.heap.size]? = some (.cells z 137 (0, 0)) ∧ arr.size = 80 ∧
    (∀ j, j < k → arr[j]? = some (.int .u32 (W80 m j).toNat)) ∧ Below w.heap.size w wr) (fun i _ => 80 - (intOf i).toNat)
   case atStart => exact ⟨16, arr, Nat.le_refl _, by omega, rfl, HA.out, H2.out, hsz, HAR.out, hbr⟩
   case round =>
    clear hbr HA H2 HAR hsz hgw; clear arr; obtain ⟨k, arr, hk0, hk, rfl, ha, h2, hsz, har, hbr⟩ := hrel
    rename_i wr0 wr
    have HA := hyd ha; clear ha; have H2 := hyd h2; clear h2; have HAR := hyd har; clear har
    by_cases hlt : k < 80
    ·go_wp2_with fail
     have hx : ∀ j, j < k → wr.cell? ⟨w.heap.size + 1, j, none⟩ = some (.int .u32 (W80 m j).toNat) := fun j hj => by
      rw [cell_of_row wr _ j arr _ _ HA.out, HAR.out j hj]
     have hy := W80_hi m k hk0 hlt; obtain ⟨a3, f3⟩ : ∃ a, a = k - 3 := ⟨_, rfl⟩; have q3 := hx a3 (by omega)
     have i3 := fun u => index_arr80 u (w.heap.size + 1) a3 (by omega) ((k : Int) - 3) (by omega)
     rw [← f3] at hy
     have w3 : IntKind.i64.wrap ((k : Int) - 3) = (k : Int) - 3 := by rw [IntKind.wrap_i64]; omega
     generalize W80 m a3 = y3 at hy q3; obtain ⟨a8, f8⟩ : ∃ a, a = k - 8 := ⟨_, rfl⟩; have q8 := hx a8 (by omega)
     have i8 := fun u => index_arr80 u (w.heap.size + 1) a8 (by omega) ((k : Int) - 8) (by omega)
     rw [← f8] at hy
     have w8 : IntKind.i64.wrap ((k : Int) - 8) = (k : Int) - 8 := by rw [IntKind.wrap_i64]; omega
     generalize W80 m a8 = y8 at hy q8; obtain ⟨a14, f14⟩ : ∃ a, a = k - 14 := ⟨_, rfl⟩; have q14 := hx a14 (by omega)
     have i14 := fun u => index_arr80 u (w.heap.size + 1) a14 (by omega) ((k : Int) - 14) (by omega)
     rw [← f14] at hy
     have w14 : IntKind.i64.wrap ((k : Int) - 14) = (k : Int) - 14 := by rw [IntKind.wrap_i64]; omega
     generalize W80 m a14 = y14 at hy q14; obtain ⟨a16, f16⟩ : ∃ a, a = k - 16 := ⟨_, rfl⟩; have q16 := hx a16 (by omega)
     have i16 := fun u => index_arr80 u (w.heap.size + 1) a16 (by omega) ((k : Int) - 16) (by omega)
     rw [← f16] at hy
     have w16 : IntKind.i64.wrap ((k : Int) - 16) = (k : Int) - 16 := by rw [IntKind.wrap_i64]; omega
     generalize W80 m a16 = y16 at hy q16
     have hix := fun u => index_arr80 u (w.heap.size + 1) k (by omega) k rfl
     obtain ⟨old, ho⟩ : ∃ v, wr.cell? ⟨w.heap.size + 1, k, none⟩ = some v := ⟨arr[k]'(by omega), by rw [cell_of_row wr _ k arr _ _ HA.out]; simp⟩; have hf : wr.frozen? ⟨w.heap.size + 1, k, none⟩ = false := not_frozen HA.out k; obtain ⟨x, hxe⟩ : ∃ x, x = y3 ^^^ y8 ^^^ y14 ^^^ y16 := ⟨_, rfl⟩; rw [← hxe] at hy; have HY := hyd hy
     have hX : bits BinOp.xor .u32 (bits BinOp.xor .u32 (bits BinOp.xor .u32 (y3.toNat : Int) (y8.toNat : Int)) (y14.toNat : Int)) (y16.toNat : Int) = (x.toNat : Int) := by rw [hxe, b_xor, b_xor, b_xor]
     clear hxe; clear hy hx f3 f8 f14 f16
     go_still_tail 22, (by kernel_rfl)
     still_call (rot_flip (rot_1 x _))
     repeat still_step
     refine wpStill_nil ?_
     change wpList _ _ _ _ _ wr.drew
     go_wp2; refine ⟨?_, ?me2⟩
     (repeat apply Exists.intro)
     refine ⟨?re2, rfl⟩
     case re2 =>
      refine ⟨k + 1, arr.setIfInBounds k _, by omega, by omega, by go_num, heap_set HA.out k _, ?_, by simpa using hsz, ?_, ?_⟩
      ·exact (Below.heap_setCell wr ⟨w.heap.size + 1, k, none⟩ _ w.heap.size (by simp)).trans H2.out
      ·intro j hj
       rw [set_get _ _ _ _ (by omega)]
       split
       ·rename_i e; subst e
        rw [HY.out]
       ·exact HAR.out j (by omega)
      ·exact (hbr.setCell (by simp) _).drew
     case me2 => simp [intOf]; omega
    ·obtain rfl : k = 80 := by omega
     have harr : arr = (wv (sched m 80)).toArray := arr_wv (by rw [hsz, sched_len]) (fun j hj => HAR.out j (by rwa [sched_len] at hj)); have hall := wv_all (sched m 80); rw [← harr] at hall; have HARR := hyd harr; clear harr; have HALL := hyd hall; clear hall
     go_wp2_with (first
      | (with_reducible refine wpList_load_row rfl 137 (.tmp 3) rfl (w.heap.size + 1) rfl 137 arr (0, 0) _ ?lg Tryz.underlying137 rfl ?li ?_)
      | (with_reducible refine wpList_store_row rfl 137 _ _ rfl w.heap.size arr rfl rfl 137 z ?sg ?si ?so ?s1 ?_))
     case lg => exact HA.out
     case li => rw [info43, hsz]
     case sg => exact H2.out
     case si => rw [info43, hsz]
     case so => rw [HZE.out, hsz]; simp
     case s1 => exact HALL.out
     refine bodyPost_ret (results_cell_row Tryz.results127 _ _ w.heap.size 137 arr (0, 0) _ rfl (setRow_heap wr w.heap.size z arr _ (0, 0) H2.out) Tryz.underlying137 rfl (by rw [info43, hsz])) rfl ⟨by rw [HARR.out], below_setRow hbr (Nat.le_refl _) arr⟩
structure StB (cs : Array Value) (h : H5) : Prop where
 size : cs.size = 71
 word : ∀ i, i < 5 → cs[i]? = some (.int .u32 (h.get i).toNat)
theorem grown_of_below {w w' : World} (h : Below w.heap.size w w') (row : Option Nat) : w.grownBy w' row := ⟨h.os, h.tape, h.output, h.size, fun k hk _ => h.block k hk⟩
theorem grown_trans {a b c : World} {row : Option Nat} (h : a.grownBy b row) (k : b.grownBy c row) : a.grownBy c row :=
 ⟨k.os.trans h.os, k.tape.trans h.tape, k.output.trans h.output, Nat.le_trans h.size k.size, fun i hi hr => (k.block i (Nat.lt_of_lt_of_le hi h.size) hr).trans (h.block i hi hr)⟩
theorem grown_set (w : World) (g i : Nat) (v : Value) : w.grownBy (w.setCell ⟨g, i, none⟩ v) (some g) :=
 ⟨rfl, rfl, rfl, by simp [World.setCell], fun k hk hr => Below.heap_setCell _ _ _ _ (fun e => hr (by rw [e]))⟩
theorem grown_drew {w w' : World} {row : Option Nat} (h : w.grownBy w' row) : w.grownBy w'.drew row := ⟨h.os, h.tape, h.output, h.size, h.block⟩
theorem step_heap {u u' : World} {g : Nat} {cs : Array Value} {t : TypeId} {i : Nat} {v : Value} (h : u.heap[g]? = some (.cells cs t (0, 0))) (hw : (u.setCell ⟨g, i, none⟩ v).drew = u') : u'.heap[g]? = some (.cells (cs.setIfInBounds i v) t (0, 0)) := by
 subst hw; exact heap_set h i v
theorem step_grown {w u u' : World} {g i : Nat} {v : Value} (h : w.grownBy u (some g)) (hw : (u.setCell ⟨g, i, none⟩ v).drew = u') : w.grownBy u' (some g) := by
 subst hw; exact grown_drew (grown_trans h (grown_set u g i v))
theorem old_at1 {cs : Array Value} {v0 x : Value} (hs : cs.size = 71) (h : cs[1]? = some x) : (cs.setIfInBounds 0 v0)[1]? = some x := by
 rw [set_get _ _ _ _ (by simp [hs]), if_neg (by omega)]; exact h
theorem old_at2 {cs : Array Value} {v0 v1 x : Value} (hs : cs.size = 71) (h : cs[2]? = some x) : ((cs.setIfInBounds 0 v0).setIfInBounds 1 v1)[2]? = some x := by
 rw [set_get _ _ _ _ (by simp [hs]), if_neg (by omega), set_get _ _ _ _ (by simp [hs]), if_neg (by omega)]; exact h
theorem old_at3 {cs : Array Value} {v0 v1 v2 x : Value} (hs : cs.size = 71) (h : cs[3]? = some x) : (((cs.setIfInBounds 0 v0).setIfInBounds 1 v1).setIfInBounds 2 v2)[3]? = some x := by
 rw [set_get _ _ _ _ (by simp [hs]), if_neg (by omega), set_get _ _ _ _ (by simp [hs]), if_neg (by omega), set_get _ _ _ _ (by simp [hs]), if_neg (by omega)]; exact h
theorem old_at4 {cs : Array Value} {v0 v1 v2 v3 x : Value} (hs : cs.size = 71) (h : cs[4]? = some x) : ((((cs.setIfInBounds 0 v0).setIfInBounds 1 v1).setIfInBounds 2 v2).setIfInBounds 3 v3)[4]? = some x := by
 rw [set_get _ _ _ _ (by simp [hs]), if_neg (by omega), set_get _ _ _ _ (by simp [hs]), if_neg (by omega), set_get _ _ _ _ (by simp [hs]), if_neg (by omega), set_get _ _ _ _ (by simp [hs]), if_neg (by omega)]; exact h
theorem stB_added {cs : Array Value} (hz : cs.size = 71) (h s : H5) : StB (((((cs.setIfInBounds 0 (.int .u32 (((h.a.toNat : Int) + s.a.toNat) % 4294967296))).setIfInBounds 1 (.int .u32 (((h.b.toNat : Int) + s.b.toNat) % 4294967296))).setIfInBounds 2 (.int .u32 (((h.c.toNat : Int) + s.c.toNat) % 4294967296))).setIfInBounds 3 (.int .u32 (((h.d.toNat : Int) + s.d.toNat) % 4294967296))).setIfInBounds 4 (.int .u32 (((h.e.toNat : Int) + s.e.toNat) % 4294967296))) (addH h s) where
 size := by simp [hz]
 word := by
  intro i hi; rw [b_add, b_add, b_add, b_add, b_add]
  match i, hi with
  | 0, _ => rw [set_get _ _ _ _ (by simp [hz]), if_neg (by omega), set_get _ _ _ _ (by simp [hz]), if_neg (by omega), set_get _ _ _ _ (by simp [hz]), if_neg (by omega), set_get _ _ _ _ (by simp [hz]), if_neg (by omega), set_get _ _ _ _ (by simp [hz]), if_pos rfl]; rfl
  | 1, _ => rw [set_get _ _ _ _ (by simp [hz]), if_neg (by omega), set_get _ _ _ _ (by simp [hz]), if_neg (by omega), set_get _ _ _ _ (by simp [hz]), if_neg (by omega), set_get _ _ _ _ (by simp [hz]), if_pos rfl]; rfl
  | 2, _ => rw [set_get _ _ _ _ (by simp [hz]), if_neg (by omega), set_get _ _ _ _ (by simp [hz]), if_neg (by omega), set_get _ _ _ _ (by simp [hz]), if_pos rfl]; rfl
  | 3, _ => rw [set_get _ _ _ _ (by simp [hz]), if_neg (by omega), set_get _ _ _ _ (by simp [hz]), if_pos rfl]; rfl
  | 4, _ => rw [set_get _ _ _ _ (by simp [hz]), if_pos rfl]; rfl
set_option maxRecDepth 10000 in
theorem mix_any (w : World) (g : Nat) (cs : Array Value) (h : H5) (m : Nat → UInt8) (hg : w.heap[g]? = some (.cells cs 128 (0, 0))) (hs : StB cs h) (hb : ∀ i, i < 64 → cs[5 + i]? = some (.int .u8 (m i).toNat)) :
  Calls Tryz.prog 96 #[.pointer (some ⟨g, 0, none⟩)] w fun e w' => e = .returned (.tuple #[]) ∧ w.grownBy w' (some g) ∧
   ∃ cs', w'.heap[g]? = some (.cells cs' 128 (0, 0)) ∧ StB cs' (comp m h) ∧ ∀ i, 5 ≤ i → cs'[i]? = cs[i]? := by
 have hc : ∀ i, i < 5 → w.cell? ⟨g, i, none⟩ = some (.int .u32 (h.get i).toNat) := fun i hi => by rw [cell_of_row w g i cs _ _ hg, hs.word i hi]
 have q0 : w.cell? ⟨g, 0, none⟩ = some (.int .u32 h.a.toNat) := hc 0 (by omega); have q1 : w.cell? ⟨g, 1, none⟩ = some (.int .u32 h.b.toNat) := hc 1 (by omega); have q2 : w.cell? ⟨g, 2, none⟩ = some (.int .u32 h.c.toNat) := hc 2 (by omega); have q3 : w.cell? ⟨g, 3, none⟩ = some (.int .u32 h.d.toNat) := hc 3 (by omega); have q4 : w.cell? ⟨g, 4, none⟩ = some (.int .u32 h.e.toNat) := hc 4 (by omega); clear hc
 have i0 := fun u => index_arr5 u g 0 (by omega) 0 rfl
 have i1 := fun u => index_arr5 u g 1 (by omega) 1 rfl
 have i2 := fun u => index_arr5 u g 2 (by omega) 2 rfl
 have i3 := fun u => index_arr5 u g 3 (by omega) 3 rfl
 have i4 := fun u => index_arr5 u g 4 (by omega) 4 rfl
 have C := hyd (fun u (hu : Below w.heap.size w u) => schedule_any u g cs (0, 0) m ((hu.block g (lt_of_heap hg)).trans hg) hb); have HG := hyd hg; clear hg; have HS := hyd hs; clear hs; have HB := hyd hb; clear hb
 go_enter Tryz.func96, Tryz.ntmps96
 go_wp2_with fail
 go_quiet (fail)
 clear q0 q1 q2 q3 q4
 go_wp2_with fail
 refine (C.out _ (_root_.Go.below_drewN (Below.refl _ _) _)).mono ?_; rintro e w1 ⟨rfl, hb1⟩; have hb : Below w.heap.size w w1 := (_root_.Go.below_drewN (Below.refl _ _) _).trans (hb1.mono (Nat.le_refl _)); clear hb1 C; generalize hlst : wv (sched m 80) = lst
 have hwl : ∀ j, j < 80 → lst.toArray[j]? = some (.int .u32 (W80 m j).toNat) := fun j hj => by
  rw [← hlst, List.getElem?_toArray, wv_at _ _ (by rw [sched_len]; exact hj)]; rfl
 generalize lst.toArray = arr at hwl; clear hlst; have HWL := hyd hwl; clear hwl
 go_wp2_with fail
 go_loopw [2, 3, 4, 5, 6, 36] (fun a b c d e i wr => ∃ (k : Nat) (s : H5), k ≤ 80 ∧ i = .int .i64 k ∧ a = .int .u32 s.a.toNat ∧ b = .int .u32 s.b.toNat ∧ c = .int .u32 s.c.toNat ∧ d = .int .u32 s.d.toNat ∧ e = .int .u32 s.e.toNat ∧
   s = rounds (sched m 80) h k ∧ Below w.heap.size w wr) (fun _ _ _ _ _ i _ => 80 - (intOf i).toNat)
 case atStart => exact ⟨0, h, Nat.zero_le _, rfl, rfl, rfl, rfl, rfl, rfl, rfl, hb⟩
 case round =>
  clear hb; obtain ⟨k, s, hk, rfl, rfl, rfl, rfl, rfl, rfl, hs, hbr⟩ := hrel; have HSK := hyd hs; clear hs
  by_cases hlt : k < 80
  ·have hk1 : k + 1 ≤ 80 := hlt
   have hix := index_agg80 wr arr k hlt _ (HWL.out k hlt) k rfl; obtain ⟨y, hy⟩ : ∃ y : Int, y = (W80 m k).toNat := ⟨_, rfl⟩; rw [← hy] at hix; have HY := hyd hy; clear hy
   go_wp2_with fail
   clear hix; refine (rot_5 s.a _).mono ?_; rintro e w2 ⟨rfl, rfl⟩; generalize hr5 : (((rl s.a 5).toNat : Nat) : Int) = r5; have H5 := hyd hr5; clear hr5
   go_wp2_with fail
   refine (join_any k hlt s.b s.c s.d _).mono ?_; rintro e w2 ⟨rfl, rfl⟩; generalize hrj : (((fk k s.b s.c s.d).toNat : Nat) : Int) = rj; have HJ := hyd hrj; clear hrj
   go_wp2_with fail
   refine (rot_30 s.b _).mono ?_; rintro e w2 ⟨rfl, rfl⟩; generalize hr30 : (((rl s.b 30).toNat : Nat) : Int) = r30; have H30 := hyd hr30; clear hr30; go_wp2
   go_roundw
   case rel =>
    refine ⟨k + 1, stepH k (W80 m k) s, hk1, by go_num, ?_, ?_, ?_, ?_, ?_, ?_, hbr⟩
    ·rw [← H5.out, ← HJ.out, HY.out]
     exact congrArg (Value.int .u32) (step_a2 k _ s)
    ·rw [step_b]
    ·rw [← H30.out, step_c]
    ·rw [step_d]
    ·rw [step_e]
    ·rw [HSK.out, rounds80]
   case measure => simp [intOf]; omega
  ·obtain rfl : k = 80 := by omega
   clear HWL; have hgr : wr.heap[g]? = some (.cells cs 128 (0, 0)) := (hbr.block g (lt_of_heap HG.out)).trans HG.out; have hcs : ∀ i, i < 5 → cs[i]? = some (.int .u32 (h.get i).toNat) := HS.out.word; have hsz := HS.out.size; have HCS := hyd hcs; clear hcs; have HSZ := hyd hsz; clear hsz; have GR0 := hyd (grown_of_below hbr (some g)); have HGR0 := hyd hgr; clear hgr
   go_wp2_with fail
   have q : wr.cell? ⟨g, 0, none⟩ = some (.int .u32 h.a.toNat) := (cell_of_row wr g 0 _ _ _ HGR0.out).trans (HCS.out 0 (by omega)); have z := not_frozen HGR0.out 0
   go_still_tail 10, (by kernel_rfl)
   change wpList _ _ _ _ _ (World.drew wr)
   go_wp2_with fail
   clear q z; generalize hw : (wr.setCell ⟨g, 0, none⟩ (Value.int .u32 (((h.a.toNat : Int) + s.a.toNat) % 4294967296))).drew = w1; have HGR1 := hyd (step_heap HGR0.out hw); have GR1 := hyd (step_grown GR0.out hw); clear hw; have q : w1.cell? ⟨g, 1, none⟩ = some (.int .u32 h.b.toNat) := (cell_of_row w1 g 1 _ _ _ HGR1.out).trans (old_at1 HSZ.out (HCS.out 1 (by omega))); have z := not_frozen HGR1.out 1
   go_still_tail 10, (by kernel_rfl)
   change wpList _ _ _ _ _ (World.drew w1)
   go_wp2_with fail
   clear q z; generalize hw : (w1.setCell ⟨g, 1, none⟩ (Value.int .u32 (((h.b.toNat : Int) + s.b.toNat) % 4294967296))).drew = w2; have HGR2 := hyd (step_heap HGR1.out hw); have GR2 := hyd (step_grown GR1.out hw); clear hw; have q : w2.cell? ⟨g, 2, none⟩ = some (.int .u32 h.c.toNat) := (cell_of_row w2 g 2 _ _ _ HGR2.out).trans (old_at2 HSZ.out (HCS.out 2 (by omega))); have z := not_frozen HGR2.out 2
   go_still_tail 10, (by kernel_rfl)
   change wpList _ _ _ _ _ (World.drew w2)
   go_wp2_with fail
   clear q z; generalize hw : (w2.setCell ⟨g, 2, none⟩ (Value.int .u32 (((h.c.toNat : Int) + s.c.toNat) % 4294967296))).drew = w3; have HGR3 := hyd (step_heap HGR2.out hw); have GR3 := hyd (step_grown GR2.out hw); clear hw; have q : w3.cell? ⟨g, 3, none⟩ = some (.int .u32 h.d.toNat) := (cell_of_row w3 g 3 _ _ _ HGR3.out).trans (old_at3 HSZ.out (HCS.out 3 (by omega))); have z := not_frozen HGR3.out 3
   go_still_tail 10, (by kernel_rfl)
   change wpList _ _ _ _ _ (World.drew w3)
   go_wp2_with fail
   clear q z; generalize hw : (w3.setCell ⟨g, 3, none⟩ (Value.int .u32 (((h.d.toNat : Int) + s.d.toNat) % 4294967296))).drew = w4; have HGR4 := hyd (step_heap HGR3.out hw); have GR4 := hyd (step_grown GR3.out hw); clear hw; have q : w4.cell? ⟨g, 4, none⟩ = some (.int .u32 h.e.toNat) := (cell_of_row w4 g 4 _ _ _ HGR4.out).trans (old_at4 HSZ.out (HCS.out 4 (by omega))); have z := not_frozen HGR4.out 4
   go_still_tail 10, (by kernel_rfl)
   change wpList _ _ _ _ _ (World.drew w4)
   go_wp2_with fail
   clear q z
   go_end0
   refine ⟨rfl, grown_drew (grown_trans GR4.out (grown_set w4 g 4 _)), _, heap_set HGR4.out 4 _, ?_, ?_⟩
   ·rw [comp, ← HSK.out]
    exact stB_added HSZ.out h s
   ·intro i hi
    rw [set_get _ _ _ _ (by simp [HSZ.out]), if_neg (by omega), set_get _ _ _ _ (by simp [HSZ.out]), if_neg (by omega), set_get _ _ _ _ (by simp [HSZ.out]), if_neg (by omega), set_get _ _ _ _ (by simp [HSZ.out]), if_neg (by omega), set_get _ _ _ _ (by simp [HSZ.out]), if_neg (by omega)]
structure StC (cs : Array Value) (T : Nat → UInt8) (p n : Nat) : Prop where
 words : StB cs (hs T (p / 64))
 bytes : ∀ i, i < p % 64 → cs[5 + i]? = some (.int .u8 (T (64 * (p / 64) + i)).toNat)
 fill : cs[69]? = some (.int .i64 ((p % 64 : Nat) : Int))
 len : cs[70]? = some (.int .u64 (n : Int))
def StT (w : World) (g : Nat) (T : Nat → UInt8) (p n : Nat) : Prop := ∃ cs, w.heap[g]? = some (.cells cs 128 (0, 0)) ∧ StC cs T p n
theorem splice_get (cs : Array Value) (off : Nat) (ch : List Value) (hf : off + ch.length ≤ cs.size) (i : Nat) :
  (cs.toList.take off ++ (ch ++ cs.toList.drop (off + ch.length))).toArray[i]? = if i < off then cs[i]? else if i < off + ch.length then ch[i - off]? else cs[i]? := by
 have hl : (cs.toList.take off).length = off := by simp; omega
 have e : (cs.toList.take off ++ (ch ++ cs.toList.drop (off + ch.length))).toArray[i]? = (cs.toList.take off ++ (ch ++ cs.toList.drop (off + ch.length)))[i]? := by simp
 rw [e]
 by_cases h1 : i < off
 ·rw [if_pos h1, List.getElem?_append_left (by omega), List.getElem?_take, if_pos h1]; simp
 ·rw [if_neg h1, List.getElem?_append_right (by omega), hl]
  by_cases h2 : i < off + ch.length
  ·rw [if_pos h2, List.getElem?_append_left (by omega)]
  ·rw [if_neg h2, List.getElem?_append_right (by omega), List.getElem?_drop]
   rw [show off + ch.length + (i - off - ch.length) = i by omega]; simp
def chunk (T : Nat → UInt8) (p n : Nat) : List Value := (List.range n).map fun i => .int .u8 (T (p + i)).toNat
theorem chunk_len (T : Nat → UInt8) (p n : Nat) : (chunk T p n).length = n := by simp [chunk]
theorem chunk_at (T : Nat → UInt8) (p n i : Nat) (h : i < n) : (chunk T p n)[i]? = some (.int .u8 (T (p + i)).toNat) := by simp [chunk, h]
theorem chunk_one (T : Nat → UInt8) (p n : Nat) : ∀ v ∈ chunk T p n, v.oneCell' = true := by
 intro v hv; simp [chunk] at hv; obtain ⟨x, _, rfl⟩ := hv; rfl
def sliceLen : Value → Nat | .slice _ n _ => n | _ => 0
theorem info5' : (Tryz.prog.info? 5).map (·.size) = some 1 := by kernel_rfl
theorem add_some (w : World) (g : Nat) (T : Nat → UInt8) (p n : Nat) (b o N c : Nat) (hst : StT w g T p n) (hbg : b ≠ g) (hbl : b < w.heap.size) (hN : N ≤ c) (hNs : n + N ≤ 1099511627776)
  (hcell : ∀ i, i < N → w.cell? ⟨b, o + i, none⟩ = some (.int .u8 (T (p + i)).toNat)) :
  Calls Tryz.prog 73 #[.pointer (some ⟨g, 0, none⟩), .slice (some ⟨b, o, none⟩) N c] w fun e w' => e = .returned (.tuple #[]) ∧ w.grownBy w' (some g) ∧ StT w' g T (p + N) (n + N) := by
 obtain ⟨cs, hg, hc⟩ := hst; have HC := hyd hcell; clear hcell; have q70 : w.cell? ⟨g, 70, none⟩ = some (.int .u64 n) := (cell_of_row w g 70 cs _ _ hg).trans hc.len; have z70 := not_frozen hg 70; have hgl := lt_of_heap hg; have HG := hyd hg; clear hg; have HS := hyd hc; clear hc
 go_enter Tryz.func73, Tryz.ntmps73
 go_wp2_with fail
 generalize hw1 : w.setCell ⟨g, 70, none⟩ (.int .u64 ((n : Int) + (N : Int))) = w1
 have hst1 : StT w1 g T p (n + N) := by
  subst hw1
  have e : ∀ i, i ≠ 70 → (cs.setIfInBounds 70 (.int .u64 ((n : Int) + (N : Int))))[i]? = cs[i]? := fun i hi => by rw [set_get _ _ _ _ (by rw [HS.out.words.size]; omega), if_neg hi]
  refine ⟨_, heap_set HG.out 70 _, ⟨⟨by simp [HS.out.words.size], fun i hi => by rw [e i (by omega)]; exact HS.out.words.word i hi⟩, fun i hi => by rw [e _ (by omega)]; exact HS.out.bytes i hi, by rw [e 69 (by omega)]; exact HS.out.fill, ?_⟩⟩; rw [set_get _ _ _ _ (by rw [HS.out.words.size]; omega), if_pos rfl]; rfl
 have hgr1 : w.grownBy w1 (some g) := by subst hw1; exact grown_set w g 70 _
 clear hw1 q70 z70 HS HG
 go_loopw [1] (fun v wr => ∃ (j r : Nat) (A : Option Addr) (C : Nat), j + r = N ∧ v = .slice A r C ∧ r ≤ C ∧ (0 < r → A = some ⟨b, o + j, none⟩) ∧ StT wr g T (p + j) (n + N) ∧ w.grownBy wr (some g)) (fun v _ => sliceLen v)
 case atStart => exact ⟨0, N, _, c, Nat.zero_add _, rfl, hN, fun _ => rfl, hst1, hgr1⟩
 case round =>
  clear hst1 hgr1; obtain ⟨j, r, A, C, hj, rfl, hC, hA, hst, hgr⟩ := hrel
  by_cases hlt : 0 < r
  ·obtain rfl := hA hlt
   clear hA; obtain ⟨cs, hg, hc⟩ := hst; obtain ⟨f, hf⟩ : ∃ f, f = (p + j) % 64 := ⟨_, rfl⟩; obtain ⟨q, hq⟩ : ∃ q, q = (p + j) / 64 := ⟨_, rfl⟩
   have hf64 : f < 64 := by omega
   have hcw := hc.words; have hcb := hc.bytes; have hcf := hc.fill; have hcl := hc.len; rw [← hf] at hcb hcf; rw [← hq] at hcw hcb; clear hc; have hz := hcw.size; have q69 : wr.cell? ⟨g, 69, none⟩ = some (.int .i64 f) := (cell_of_row wr g 69 cs _ _ hg).trans hcf
   have hsl := fun u => slice64_l u g f hf64 f rfl
   have HF := hyd hf; have HQ := hyd hq; clear hf hq; have HCW := hyd hcw; have HCB := hyd hcb; have HCF := hyd hcf; have HCL := hyd hcl; have HZ := hyd hz; have HG := hyd hg; have HJ := hyd hj; clear hcw hcb hcf hcl hz hg hj
   go_wp2_with fail
   go_still_tail 9, (by kernel_rfl)
   change wpList _ _ _ _ _ wr.drew
   obtain ⟨k, hk⟩ : ∃ k, k = min r (64 - f) := ⟨_, rfl⟩
   have hk1 : k ≤ r := by omega
   have hk2 : k ≤ 64 - f := by omega
   have hk3 : 0 < k := by omega
   have hk4 : k < r → k = 64 - f := by omega
   have hj0 := HJ.out; have hz0 := HZ.out; refine wpList_copy_own rfl (.tmp 25) (.tmp 26) 32 32 rfl 5 Tryz.underlying32 info5' g (5 + f) (64 - f) (64 - f) ⟨b, o + j, none⟩ r C rfl rfl cs 128 HG.out (chunk T (p + j) k) (by rw [chunk_len, hk]) ?src (by rw [chunk_len]; omega) (chunk_one _ _ _) ?_
   case src =>
    intro i v hv
    have hi : i < k := by
     rcases Nat.lt_or_ge i k with h | h
     ·exact h
     ·rw [List.getElem?_eq_none (by rw [chunk_len]; exact h)] at hv; cases hv
    rw [chunk_at _ _ _ _ hi] at hv; have h1 : wr.heap[b]? = w.heap[b]? := hgr.block b hbl (fun e => hbg (by cases e; rfl)); have h2 := HC.out (j + i) (by omega)
    have h3 : (⟨b, o + j, none⟩ : Addr).add i = ⟨b, o + (j + i), none⟩ := by unfold Addr.add; split <;> simp_all [Nat.add_assoc]
    rw [h3]; rw [show wr.drew.cell? ⟨b, o + (j + i), none⟩ = w.cell? ⟨b, o + (j + i), none⟩ from World.cell?_of_block (w := w) (w' := wr.drew) h1, h2, show p + (j + i) = p + j + i by omega]; exact hv
   obtain ⟨cs2, hcs2⟩ : ∃ cs2, cs2 = (cs.toList.take (5 + f) ++ (chunk T (p + j) k ++ cs.toList.drop (5 + f + (chunk T (p + j) k).length))).toArray := ⟨_, rfl⟩; rw [← hcs2]
   have hget : ∀ i, cs2[i]? = if i < 5 + f then cs[i]? else if i < 5 + f + k then (chunk T (p + j) k)[i - (5 + f)]? else cs[i]? := fun i => by
    rw [hcs2, splice_get _ _ _ (by rw [chunk_len]; omega), chunk_len]
   have hsz2 : cs2.size = 71 := by rw [hcs2]; simp [chunk_len]; omega
   have hg2 : (wr.drew.setRow g cs2).heap[g]? = some (.cells cs2 128 (0, 0)) := setRow_heap wr.drew g cs cs2 _ _ HG.out; have hgr2 : w.grownBy (wr.drew.setRow g cs2) (some g) := grown_trans hgr ⟨rfl, rfl, rfl, by simp [World.setRow], fun i hi hr => setRow_other wr.drew g i cs2 (fun e => hr (by rw [e]))⟩; rw [chunk_len]; generalize wr.drew.setRow g cs2 = w2 at hg2 hgr2 ⊢; clear hcs2 hgr q69 hsl
   have hlo : ∀ i, i < 5 + f → cs2[i]? = cs[i]? := fun i hi => by rw [hget, if_pos hi]
   have hmid : ∀ i, i < k → cs2[5 + (f + i)]? = some (.int .u8 (T (p + j + i)).toNat) := fun i hi => by
    rw [hget, if_neg (by omega), if_pos (by omega), show 5 + (f + i) - (5 + f) = i by omega, chunk_at _ _ _ _ hi]
   have hhi : ∀ i, 69 ≤ i → cs2[i]? = cs[i]? := fun i hi => by rw [hget, if_neg (by omega), if_neg (by omega)]
   have hpj : p + j = 64 * q + f := by have := HF.out; have := HQ.out; omega
   have hby : ∀ i, i < f + k → cs2[5 + i]? = some (.int .u8 (T (64 * q + i)).toNat) := fun i hi => by
    by_cases h : i < f
    ·rw [hlo _ (by omega), HCB.out i h]
    ·rw [show 5 + i = 5 + (f + (i - f)) by omega, hmid (i - f) (by omega), show p + j + (i - f) = 64 * q + i by omega]
   have hwd : ∀ i, i < 5 → cs2[i]? = some (.int .u32 ((hs T q).get i).toNat) := fun i hi => by rw [hlo i (by omega), HCW.out.word i hi]
   have q69 : w2.cell? ⟨g, 69, none⟩ = some (.int .i64 f) := (cell_of_row w2 g 69 cs2 _ _ hg2).trans ((hhi 69 (by omega)).trans HCF.out); have z69 := not_frozen hg2 69; have hl70 : cs2[70]? = some (.int .u64 ((n + N : Nat) : Int)) := (hhi 70 (by omega)).trans HCL.out; have HBY := hyd hby; have HWD := hyd hwd; have HL70 := hyd hl70; have HG2 := hyd hg2; have HS2 := hyd hsz2; have HPJ := hyd hpj; clear hget hlo hmid hhi hby hwd hl70 hg2 hsz2 hpj HCW HCB HCF HCL HG HZ HF HQ hz0 hj0 hk; have HK4 := hyd hk4; clear hk4
   have hs2 := fun u => slice_u8_l u (some ⟨b, o + j, none⟩) r C k hk1 k rfl
   obtain ⟨A2, hA2⟩ : ∃ A2, A2 = (if C = k then (some ⟨b, o + j, none⟩ : Option Addr) else (some ⟨b, o + j, none⟩ : Option Addr).map (·.add k)) := ⟨_, rfl⟩; rw [← hA2] at hs2
   have hA3 : 0 < r - k → A2 = some ⟨b, o + (j + k), none⟩ := fun h => by
    rw [hA2, if_neg (by omega), Option.map_some, addr_add, Nat.add_assoc]
   have HA3 := hyd hA3; clear hA2 hA3
   have hnx : r - k < r := by omega
   by_cases h64 : f + k = 64
   ·have hb64 : (((f : Int) + (k : Int)) == 64) = true := by rw [beq_iff_eq]; omega
    have C3 := hyd (mix_any (w2.setCell ⟨g, 69, none⟩ (.int .i64 ((f : Int) + (k : Int)))) g _ (hs T q) (fun i => T (64 * q + i)) (heap_set HG2.out 69 _)
     ⟨by rw [Array.size_setIfInBounds]; exact HS2.out, fun i hi => by rw [set_get _ _ _ _ (by rw [HS2.out]; omega), if_neg (by omega)]; exact HWD.out i hi⟩
     (fun i hi => by rw [set_get _ _ _ _ (by rw [HS2.out]; omega), if_neg (by omega)]; exact HBY.out i (by omega)))
    have hg69 := grown_trans hgr2 (grown_set w2 g 69 (.int .i64 ((f : Int) + (k : Int))))
    go_wp2_with fail
    refine C3.out.mono ?_; rintro e w4 ⟨rfl, hgr4, cs4, hg4, hst4, hhi4⟩; have hgr5 := grown_trans hg69 hgr4; clear C3 hg69 hgr4 q69 z69 hgr2; have hsz4 := hst4.size; obtain ⟨old, ho⟩ : ∃ v, w4.cell? ⟨g, 69, none⟩ = some v := ⟨cs4[69]'(by omega), by rw [cell_of_row w4 g 69 cs4 _ _ hg4]; simp⟩; have z4 := not_frozen hg4 69; have HG4 := hyd hg4; have HST4 := hyd hst4; have HH4 := hyd hhi4; have HZ4 := hyd hsz4; clear hg4 hst4 hhi4 hsz4; go_wp2
    go_roundw
    case rel =>
     have hpj := HPJ.out; have hj0 := HJ.out; refine ⟨j + k, r - k, A2, C - k, by omega, rfl, by omega, HA3.out, ⟨_, heap_set HG4.out 69 _, ?_⟩, grown_trans hgr5 (grown_set w4 g 69 _)⟩
     have e1 : (p + (j + k)) % 64 = 0 := by omega
     have e2 : (p + (j + k)) / 64 = q + 1 := by omega
     refine ⟨⟨by rw [Array.size_setIfInBounds]; exact HZ4.out, fun i hi => ?_⟩, fun i hi => by rw [e1] at hi; exact absurd hi (Nat.not_lt_zero _), ?_, ?_⟩
     ·rw [set_get _ _ _ _ (by rw [HZ4.out]; omega), if_neg (by omega), e2]
      exact HST4.out.word i hi
     ·rw [set_get _ _ _ _ (by rw [HZ4.out]; omega), if_pos rfl, e1]; rfl
     ·rw [set_get _ _ _ _ (by rw [HZ4.out]; omega), if_neg (by omega), HH4.out 70 (by omega), set_get _ _ _ _ (by rw [HS2.out]; omega), if_neg (by omega)]
      exact HL70.out
    case measure => exact hnx
   ·have hb64 : (((f : Int) + (k : Int)) == 64) = false := by rw [beq_eq_false_iff_ne]; omega
    go_wp2; refine ⟨?re2, hnx⟩
    case re2 =>
     have hpj := HPJ.out; have hj0 := HJ.out; have hk5 := HK4.out; refine ⟨j + k, r - k, A2, C - k, by omega, rfl, by omega, HA3.out, ⟨_, heap_set HG2.out 69 _, ?_⟩, grown_trans hgr2 (grown_set w2 g 69 _)⟩
     have e1 : (p + (j + k)) % 64 = f + k := by omega
     have e2 : (p + (j + k)) / 64 = q := by omega
     refine ⟨⟨by rw [Array.size_setIfInBounds]; exact HS2.out, fun i hi => ?_⟩, fun i hi => ?_, ?_, ?_⟩
     ·rw [set_get _ _ _ _ (by rw [HS2.out]; omega), if_neg (by omega), e2]
      exact HWD.out i hi
     ·rw [e1] at hi
      rw [set_get _ _ _ _ (by rw [HS2.out]; omega), if_neg (by omega), e2]; exact HBY.out i hi
     ·rw [set_get _ _ _ _ (by rw [HS2.out]; omega), if_pos rfl, e1]; rfl
     ·rw [set_get _ _ _ _ (by rw [HS2.out]; omega), if_neg (by omega)]
      exact HL70.out
  ·obtain rfl : r = 0 := by omega
   go_wp2_with fail
   go_end0
   have e : j = N := by omega
   subst e; exact ⟨rfl, hgr, hst⟩
end Go.Proofs.YtnbcbiglkmdepaaGreatDoor
namespace Go.Proofs.YtnbcbiglkmdepaaGreatDoor
open Go.RowKit
variable {P : Program} {ops : Array Oper} {Q : Exit → Act → World → Prop} {md : Region.Mode} {S : World → Prop}
theorem lsA (l : List Value) (i : Nat) (x : Value) : l.toArray.setIfInBounds i x = (l.set i x).toArray := List.setIfInBounds_toArray l i x
theorem lsZ (x y : Value) (l : List Value) : (x :: l).set 0 y = y :: l := rfl
theorem lsS (x y : Value) (l : List Value) (i : Nat) : (x :: l).set (i + 1) y = x :: l.set i y := rfl
theorem tkH (i : Nat) {oi : Oper} {v : Value} {fuel : Nat} {listed : Array Bool} {a b : Act} {w : World} (hi : ops[i]? = some oi) (hy : YieldsIf P ops S oi v a) (hS : S w)
  (h : wpAnyH P md ops Q S fuel (listed.setIfInBounds i true) b w) (hs : Region.noSelect ops = true := by kernel_rfl) (hf : Region.free md ops listed i = true := by kernel_rfl)
  (hr : (Region.ready md ops listed).contains i = true := by kernel_rfl) (hQ : ∀ c a w, Q (.panic c) (a.put oi.dst v) w → Q (.panic c) a w := by exact fun _ _ _ h => h)
  (hb : a.put oi.dst v = b := by first | (simp only [Act.put, lsA, lsZ, lsS]; rfl) | rfl) : wpAnyH P md ops Q S (fuel + 1) listed a w :=
 wpAnyH_take hi hs hf hr hQ hy hS (hb ▸ h)
theorem tkV (i : Nat) {oi : Oper} {fuel : Nat} {listed : Array Bool} {a b : Act} {w : World} (hi : ops[i]? = some oi) (v : Value) (hy : ∀ w, S w → (execOp a.eval oi).run P w = .ok (.value v) w) (hS : S w)
  (h : wpAnyH P md ops Q S fuel (listed.setIfInBounds i true) b w) (hs : Region.noSelect ops = true := by kernel_rfl) (hf : Region.free md ops listed i = true := by kernel_rfl)
  (hr : (Region.ready md ops listed).contains i = true := by kernel_rfl) (hQ : ∀ c a w, Q (.panic c) (a.put oi.dst v) w → Q (.panic c) a w := by exact fun _ _ _ h => h) (hw : Region.wanted oi (yielded ops a.tmps) = true := by kernel_rfl)
  (hb : a.put oi.dst v = b := by first | (simp only [Act.put, lsA, lsZ, lsS]; rfl) | rfl) : wpAnyH P md ops Q S (fuel + 1) listed a w :=
 wpAnyH_take hi hs hf hr hQ (.inl ⟨hw, hy⟩) hS (hb ▸ h)
theorem tkW (i : Nat) {oi : Oper} {fuel : Nat} {listed : Array Bool} {a b : Act} {w : World} {v : Value} (hi : ops[i]? = some oi) (hS : S w)
  (h : wpAnyH P md ops Q S fuel (listed.setIfInBounds i true) b w) (hs : Region.noSelect ops = true := by kernel_rfl) (hf : Region.free md ops listed i = true := by kernel_rfl)
  (hr : (Region.ready md ops listed).contains i = true := by kernel_rfl) (hy : ∀ w, S w → (execOp a.eval oi).run P w = .ok (.value v) w := by intro u hu; go_simp; try with_reducible rfl)
  (hQ : ∀ c a w, Q (.panic c) (a.put oi.dst v) w → Q (.panic c) a w := by exact fun _ _ _ h => h) (hw : Region.wanted oi (yielded ops a.tmps) = true := by kernel_rfl)
  (hb : a.put oi.dst v = b := by first | (simp only [Act.put, lsA, lsZ, lsS]; rfl) | rfl) : wpAnyH P md ops Q S (fuel + 1) listed a w :=
 wpAnyH_take hi hs hf hr hQ (.inl ⟨hw, hy⟩) hS (hb ▸ h)
theorem tkU (i : Nat) {oi : Oper} {fuel : Nat} {listed : Array Bool} {a b : Act} {w : World} (hi : ops[i]? = some oi) (hS : S w)
  (h : wpAnyH P md ops Q S fuel (listed.setIfInBounds i true) b w) (hs : Region.noSelect ops = true := by kernel_rfl) (hf : Region.free md ops listed i = true := by kernel_rfl)
  (hr : (Region.ready md ops listed).contains i = true := by kernel_rfl) (hQ : ∀ c a w, Q (.panic c) (a.put oi.dst undef) w → Q (.panic c) a w := by exact fun _ _ _ h => h) (hw : Region.wanted oi (yielded ops a.tmps) = false := by kernel_rfl)
  (hb : a.put oi.dst undef = b := by first | (simp only [Act.put, lsA, lsZ, lsS]; rfl) | rfl) : wpAnyH P md ops Q S (fuel + 1) listed a w :=
 wpAnyH_take hi hs hf hr hQ (.inr ⟨hw, rfl⟩) hS (hb ▸ h)
theorem rdH (i : Nat) {o : Oper} {fuel : Nat} {listed : Array Bool} {a : Act} {w : World} (ho : ops[i]? = some o)
  (h : ∀ K' : Act → World → Prop, Shut (∀ a w, S w → (S w → wpAnyH P md ops Q S fuel (listed.setIfInBounds i true) a w) → K' a w) → if Region.wanted o (yielded ops a.tmps) = true then Oper.wp P o a w K' Q else K' (a.put o.dst undef) w)
  (hr : Region.ready md ops listed = [i] := by kernel_rfl) : wpAnyH P md ops Q S (fuel + 1) listed a w := wpAnyH_ready hr (by simp) (.cons ho h .nil)
theorem rgB {id : Nat} {a : Act} (W : World) (h : Below W.heap.size W W.drew → wpAnyH P .any ops Q (fun u => Below W.heap.size W u) ops.size (Array.replicate ops.size false) a W.drew)
  (hm : P.follows .mixedOrders = true := by kernel_rfl) : (Code.region id ops true).wp P Q a W := wp_region_held_drew (S := fun u => Below W.heap.size W u) hm (Below.refl _ _).drew h
end Go.Proofs.YtnbcbiglkmdepaaGreatDoor
