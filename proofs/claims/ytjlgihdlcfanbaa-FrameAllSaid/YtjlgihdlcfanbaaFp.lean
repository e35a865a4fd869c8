/-
  Layer 5, plain: frames as lists of bytes; nothing of the program.
-/
import Derived.Test.YtjlgihdlcfanbaaSp
import Derived.Laws.BitsLemmas
namespace Go.Proofs.Ytjlgihdlcfanbaa
open Go
set_option linter.unusedVariables false

def headL (k n : Nat) : List UInt8 := [0xfe, UInt8.ofNat k, UInt8.ofNat (n / 16777216), UInt8.ofNat (n / 65536), UInt8.ofNat (n / 256), UInt8.ofNat n]
def bodyL (k : Nat) (b : List UInt8) : List UInt8 := headL k b.length ++ b
def packL (k : Nat) (b : List UInt8) : List UInt8 := bodyL k b ++ (sumL (bodyL k b)).take 8
/-- Why there is no frame. -/
def packE (k : Int) (n : Nat) : Int := if k < 0 ∨ 255 < k then 1 else if 131172 < n then 5 else 0
def packR (k : Int) (b : List UInt8) : List UInt8 := if packE k b.length = 0 then packL k.toNat b else []
def lenOf (b : List UInt8) : Nat := (b.getD 2 0).toNat * 16777216 + (b.getD 3 0).toNat * 65536 + (b.getD 4 0).toNat * 256 + (b.getD 5 0).toNat
def sumOk (b : List UInt8) : Bool := (sumL (b.take (6 + lenOf b))).take 8 == (b.drop (6 + lenOf b)).take 8
def takeE (b : List UInt8) : Nat :=
  if b.length = 0 then 3
  else if b.getD 0 0 ≠ 0xfe then 4
  else if b.length < 6 then 3
  else if 131172 < lenOf b then 5
  else if b.length < 14 + lenOf b then 3
  else if sumOk b = true then 0 else 15
def takeK (b : List UInt8) : Nat := if takeE b = 0 then (b.getD 1 0).toNat else 0
def takeP (b : List UInt8) : List UInt8 := if takeE b = 0 then (b.drop 6).take (lenOf b) else []
def takeN (b : List UInt8) : Nat := if takeE b = 0 then 14 + lenOf b else 0

theorem sumL_len (l : List UInt8) : (sumL l).length = 20 := digest_len _
theorem headL_len (k n : Nat) : (headL k n).length = 6 := rfl
theorem bodyL_len (k : Nat) (b : List UInt8) : (bodyL k b).length = 6 + b.length := by rw [bodyL, List.length_append, headL_len]
theorem packL_len (k : Nat) (b : List UInt8) : (packL k b).length = b.length + 14 := by
  rw [packL, List.length_append, bodyL_len, List.length_take, sumL_len]; omega
theorem packR_len (k : Int) (b : List UInt8) : (packR k b).length ≤ b.length + 14 := by
  unfold packR; split
  · rw [packL_len]; exact Nat.le_refl _
  · exact Nat.zero_le _
theorem packL_app (k : Nat) (b m : List UInt8) : packL k b ++ m = headL k b.length ++ (b ++ ((sumL (bodyL k b)).take 8 ++ m)) := by
  rw [packL, bodyL, List.append_assoc, List.append_assoc]
theorem lenOf_head (k n : Nat) (r : List UInt8) (h : n < 4294967296) : lenOf (headL k n ++ r) = n := by
  show (UInt8.ofNat (n / 16777216)).toNat * 16777216 + (UInt8.ofNat (n / 65536)).toNat * 65536 + (UInt8.ofNat (n / 256)).toNat * 256 + (UInt8.ofNat n).toNat = n
  simp only [UInt8.toNat_ofNat']
  omega
theorem lenOf_take (b : List UInt8) (j : Nat) (h : 6 ≤ j) : lenOf (b.take j) = lenOf b := by
  have e : ∀ i, i < 6 → (b.take j).getD i 0 = b.getD i 0 := fun i hi => by
    rw [List.getD_eq_getElem?_getD, List.getD_eq_getElem?_getD, List.getElem?_take, if_pos (by omega)]
  unfold lenOf
  rw [e 2 (by omega), e 3 (by omega), e 4 (by omega), e 5 (by omega)]
theorem lenOf_pack (k : Nat) (b m : List UInt8) (h : b.length ≤ 131172) : lenOf (packL k b ++ m) = b.length := by
  rw [packL_app]; exact lenOf_head _ _ _ (by omega)
/-- What is packed is taken. -/
theorem take_pack (k : Nat) (b m : List UInt8) (hk : k < 256) (h : b.length ≤ 131172) :
    takeE (packL k b ++ m) = 0 ∧ takeK (packL k b ++ m) = k ∧ takeP (packL k b ++ m) = b ∧ takeN (packL k b ++ m) = b.length + 14 := by
  have hl := lenOf_pack k b m h
  have hn : (packL k b ++ m).length = b.length + 14 + m.length := by rw [List.length_append, packL_len]
  have h0 : (packL k b ++ m).getD 0 0 = 0xfe := by rw [packL_app]; rfl
  have hs : sumOk (packL k b ++ m) = true := by
    unfold sumOk
    rw [hl, packL, List.append_assoc, ← bodyL_len k b, List.take_left, List.drop_left]
    rw [List.take_left' (l₂ := m) (by rw [List.length_take, sumL_len]; rfl)]
    simp
  have he : takeE (packL k b ++ m) = 0 := by
    unfold takeE
    rw [if_neg (by omega), if_neg (fun h => h h0), if_neg (by omega), if_neg (by omega), if_neg (by omega), if_pos hs]
  refine ⟨he, ?_, ?_, ?_⟩
  · unfold takeK; rw [if_pos he, packL_app]
    show (UInt8.ofNat k).toNat = k
    rw [UInt8.toNat_ofNat']; omega
  · unfold takeP; rw [if_pos he, hl, packL_app, ← headL_len k b.length, List.drop_left, List.take_left]
  · unfold takeN; rw [if_pos he, hl]; omega
/-- A frame that is cut is too short. -/
theorem take_cut (k : Nat) (b : List UInt8) (h : b.length ≤ 131172) (j : Nat) (hj : j < b.length + 14) : takeE ((packL k b).take j) = 3 := by
  have hl : ((packL k b).take j).length = j := by rw [List.length_take, packL_len]; omega
  have hp := packL_app k b []
  rw [List.append_nil] at hp
  have hlo := lenOf_pack k b [] h
  rw [List.append_nil] at hlo
  unfold takeE
  by_cases h0 : j = 0
  · rw [if_pos (by omega)]
  · rw [if_neg (by omega), if_neg ?a]
    case a =>
      rw [List.getD_eq_getElem?_getD, List.getElem?_take, if_pos (by omega), hp]
      exact fun e => e rfl
    by_cases h6 : j < 6
    · rw [if_pos (by omega)]
    · rw [if_neg (by omega), lenOf_take _ _ (by omega), hlo, if_neg (by omega), if_pos (by omega)]
theorem takeP_len (b : List UInt8) : (takeP b).length ≤ 131172 := by
  unfold takeP
  split
  · rename_i h
    rw [List.length_take]
    have : lenOf b ≤ 131172 := by
      unfold takeE at h
      by_cases h5 : 131172 < lenOf b
      · repeat (split at h <;> try omega)
      · omega
    omega
  · exact Nat.zero_le _
/-- What stands behind a frame that is there. -/
theorem takeN_le (b : List UInt8) (h : takeE b = 0) : 0 < takeN b ∧ takeN b ≤ b.length ∧ (takeP b).length + 14 = takeN b := by
  unfold takeN takeP
  rw [if_pos h, if_pos h]
  have h2 : ¬ b.length < 14 + lenOf b := fun h5 => by
    unfold takeE at h
    repeat (split at h <;> try omega)
  rw [List.length_take, List.length_drop]
  omega
theorem wraps_i64 (n : Int) (h₀ : 0 ≤ n) (h₁ : n < 2 ^ 63) : IntKind.i64.wrap n = n := by rw [IntKind.wrap_i64]; omega
theorem wraps_u32 (n : Int) (h₀ : 0 ≤ n) (h₁ : n < 2 ^ 32) : IntKind.u32.wrap n = n := by rw [IntKind.wrap_u32]; omega
theorem word_or (k : IntKind) (j : Nat) (hb : (4294967296 : Int) ≤ 2 ^ j) (hj : j ≤ k.bits) (hk : ∀ n : Int, 0 ≤ n → n < 2 ^ j → k.wrap n = n) (p q r s : Int) (hp : 0 ≤ p ∧ p < 256) (hq : 0 ≤ q ∧ q < 256) (hr : 0 ≤ r ∧ r < 256) (hs : 0 ≤ s ∧ s < 256) :
    bits .or k (bits .or k (bits .or k (p * 16777216) (q * 65536)) (r * 256)) s = p * 16777216 + q * 65536 + r * 256 + s := by
  have e24 : (2 : Int) ^ 24 = 16777216 := by decide
  have e16 : (2 : Int) ^ 16 = 65536 := by decide
  have e8 : (2 : Int) ^ 8 = 256 := by decide
  have j1 : bits .or k (p * 16777216) (q * 65536) = p * 16777216 + q * 65536 := bits_join k j hj hk 24 _ _ (by omega) (by rw [e24]; omega) (by omega) (by omega) (by rw [e24]; omega) (by omega)
  have j2 : bits .or k (p * 16777216 + q * 65536) (r * 256) = p * 16777216 + q * 65536 + r * 256 := bits_join k j hj hk 16 _ _ (by omega) (by rw [e16]; omega) (by omega) (by omega) (by rw [e16]; omega) (by omega)
  have j3 : bits .or k (p * 16777216 + q * 65536 + r * 256) s = p * 16777216 + q * 65536 + r * 256 + s := bits_join k j hj hk 8 _ _ (by omega) (by rw [e8]; omega) (by omega) (by omega) (by rw [e8]; omega) (by omega)
  rw [j1, j2, j3]
theorem u8_in (p : UInt8) : 0 ≤ (p.toNat : Int) ∧ (p.toNat : Int) < 256 := ⟨by omega, by have := p.toNat_lt; omega⟩
theorem word_u32 (p q r s : UInt8) : bits .or .u32 (bits .or .u32 (bits .or .u32 ((p.toNat : Int) * 16777216) ((q.toNat : Int) * 65536)) ((r.toNat : Int) * 256)) (s.toNat : Int) = ((p.toNat * 16777216 + q.toNat * 65536 + r.toNat * 256 + s.toNat : Nat) : Int) :=
  (word_or .u32 32 (by decide) (by decide) wraps_u32 _ _ _ _ (u8_in p) (u8_in q) (u8_in r) (u8_in s)).trans (by omega)
theorem word_i64 (p q r s : UInt8) : bits .or .i64 (bits .or .i64 (bits .or .i64 ((p.toNat : Int) * 16777216) ((q.toNat : Int) * 65536)) ((r.toNat : Int) * 256)) (s.toNat : Int) = ((p.toNat * 16777216 + q.toNat * 65536 + r.toNat * 256 + s.toNat : Nat) : Int) :=
  (word_or .i64 63 (by decide) (by decide) wraps_i64 _ _ _ _ (u8_in p) (u8_in q) (u8_in r) (u8_in s)).trans (by omega)
theorem i64_and255 (n : Int) : bits .and .i64 n 255 = n % 256 := by
  have h255 : (BitVec.ofInt 64 255).toNat = 2 ^ 8 - 1 := by decide
  have key : (BitVec.ofInt 64 n &&& BitVec.ofInt 64 255).toNat = (n % ((2 ^ 64 : Nat) : Int)).toNat % 2 ^ 8 := by
    rw [BitVec.toNat_and, BitVec.toNat_ofInt, h255, Nat.and_two_pow_sub_one_eq_mod]
  show IntKind.i64.wrap ((BitVec.ofInt 64 n &&& BitVec.ofInt 64 255).toNat : Nat) = n % 256
  rw [key, IntKind.wrap_i64]
  omega
/-- Frames, one behind the other. -/
def allL (xs : List (Nat × List UInt8)) : List UInt8 := (xs.map fun x => packL x.1 x.2).flatten
theorem allL_snoc (xs : List (Nat × List UInt8)) (k : Nat) (b : List UInt8) : allL (xs ++ [(k, b)]) = allL xs ++ packL k b := by
  unfold allL
  rw [List.map_append, List.flatten_append, List.map_singleton, List.flatten_singleton]
end Go.Proofs.Ytjlgihdlcfanbaa
