/-
  Layer 4: both tapes, the program's and the reference's: each operation, in whatever state. (Made by tools/gentp.py.)
-/
import Derived.Test.YtghncdoophoieaaTo
namespace Go.Proofs.Ytghncdoophoieaa
open Go.RowKit
set_option linter.unusedVariables false

/-- What a tape is. -/
structure Sx where
  r : Nat
  l : List UInt8
  hd : Nat
  fu : Int
  dn : Bool
def TatS (w : World) (b : Nat) (v : Value) (s : Sx) : Prop := Tat w b v s.r s.l s.hd s.fu s.dn
def RatS (w : World) (b : Nat) (v : Value) (s : Sx) : Prop := Rat w b v s.r s.l s.hd s.fu s.dn
def errW (s : Sx) (n : Nat) : Int := if s.dn then 16 else if fits s.r s.l.length n then (if burns s.fu then 16 else 0) else 14
def nextW (s : Sx) (m : List UInt8) : Sx := if s.dn then s else if fits s.r s.l.length m.length then ⟨s.r, s.l ++ m, s.hd, burnt s.fu, burns s.fu⟩ else s
def errH (s : Sx) : Int := if s.dn then 16 else if burns s.fu then 16 else 0
def nextH (s : Sx) : Sx := if s.dn then s else ⟨s.r, s.l, if burns s.fu then s.hd else s.l.length, burnt s.fu, burns s.fu⟩
def errC (s : Sx) (k : Int) : Int := if s.dn then 16 else if 0 ≤ k ∧ k ≤ s.l.length then (if burns s.fu then 16 else 0) else 1
def nextC (s : Sx) (k : Int) : Sx := if s.dn then s else if 0 ≤ k ∧ k ≤ s.l.length then ⟨s.r, if burns s.fu then s.l else s.l.take k.toNat, if burns s.fu then s.hd else k.toNat, burnt s.fu, burns s.fu⟩ else s
def errS (s : Sx) (n : Nat) : Int := if s.dn then 16 else if n ≤ s.r then (if burns s.fu then 16 else 0) else 14
def nextS (s : Sx) (m : List UInt8) : Sx := if s.dn then s else if m.length ≤ s.r then ⟨s.r, if burns s.fu then s.l else m, if burns s.fu then s.hd else m.length, burnt s.fu, burns s.fu⟩ else s
def nextR (s : Sx) (n : Int) : Sx := ⟨clamp n, s.l, s.hd, s.fu, s.dn⟩
def nextF (s : Sx) (n : Int) : Sx := ⟨s.r, s.l, s.hd, max n 0, s.dn⟩
def nextL (s : Sx) (k : Int) : Sx := ⟨s.r, s.l.take (fell s.l.length s.hd k), fell s.l.length s.hd k, s.fu, true⟩
def nextU (s : Sx) : Sx := if s.dn then ⟨s.r, s.l.take s.hd, s.hd, s.fu, false⟩ else s

section
variable {r : Nat} {l : List UInt8} {hd : Nat} {fu : Int}
theorem errW_pos {n : Nat} (h : fits r l.length n) : errW ⟨r, l, hd, fu, false⟩ n = if burns fu then 16 else 0 := by
  show (if false = true then (16 : Int) else if fits r l.length n then (if burns fu then 16 else 0) else 14) = _; rw [if_neg Bool.false_ne_true, if_pos h]
theorem errW_neg {n : Nat} (h : ¬ fits r l.length n) : errW ⟨r, l, hd, fu, false⟩ n = 14 := by
  show (if false = true then (16 : Int) else if fits r l.length n then (if burns fu then 16 else 0) else 14) = _; rw [if_neg Bool.false_ne_true, if_neg h]
theorem nextW_pos {m : List UInt8} (h : fits r l.length m.length) : nextW ⟨r, l, hd, fu, false⟩ m = ⟨r, l ++ m, hd, burnt fu, burns fu⟩ := by
  show (if false = true then (⟨r, l, hd, fu, false⟩ : Sx) else if fits r l.length m.length then (⟨r, l ++ m, hd, burnt fu, burns fu⟩ : Sx) else ⟨r, l, hd, fu, false⟩) = _; rw [if_neg Bool.false_ne_true, if_pos h]
theorem nextW_neg {m : List UInt8} (h : ¬ fits r l.length m.length) : nextW ⟨r, l, hd, fu, false⟩ m = ⟨r, l, hd, fu, false⟩ := by
  show (if false = true then (⟨r, l, hd, fu, false⟩ : Sx) else if fits r l.length m.length then (⟨r, l ++ m, hd, burnt fu, burns fu⟩ : Sx) else ⟨r, l, hd, fu, false⟩) = _; rw [if_neg Bool.false_ne_true, if_neg h]
theorem errC_pos {k : Int} (h : 0 ≤ k ∧ k ≤ l.length) : errC ⟨r, l, hd, fu, false⟩ k = if burns fu then 16 else 0 := by
  show (if false = true then (16 : Int) else if 0 ≤ k ∧ k ≤ l.length then (if burns fu then 16 else 0) else 1) = _; rw [if_neg Bool.false_ne_true, if_pos h]
theorem errC_neg {k : Int} (h : ¬ (0 ≤ k ∧ k ≤ l.length)) : errC ⟨r, l, hd, fu, false⟩ k = 1 := by
  show (if false = true then (16 : Int) else if 0 ≤ k ∧ k ≤ l.length then (if burns fu then 16 else 0) else 1) = _; rw [if_neg Bool.false_ne_true, if_neg h]
theorem nextC_pos {k : Int} (h : 0 ≤ k ∧ k ≤ l.length) : nextC ⟨r, l, hd, fu, false⟩ k = ⟨r, if burns fu then l else l.take k.toNat, if burns fu then hd else k.toNat, burnt fu, burns fu⟩ := by
  show (if false = true then (⟨r, l, hd, fu, false⟩ : Sx) else if 0 ≤ k ∧ k ≤ l.length then (⟨r, if burns fu then l else l.take k.toNat, if burns fu then hd else k.toNat, burnt fu, burns fu⟩ : Sx) else ⟨r, l, hd, fu, false⟩) = _; rw [if_neg Bool.false_ne_true, if_pos h]
theorem nextC_neg {k : Int} (h : ¬ (0 ≤ k ∧ k ≤ l.length)) : nextC ⟨r, l, hd, fu, false⟩ k = ⟨r, l, hd, fu, false⟩ := by
  show (if false = true then (⟨r, l, hd, fu, false⟩ : Sx) else if 0 ≤ k ∧ k ≤ l.length then (⟨r, if burns fu then l else l.take k.toNat, if burns fu then hd else k.toNat, burnt fu, burns fu⟩ : Sx) else ⟨r, l, hd, fu, false⟩) = _; rw [if_neg Bool.false_ne_true, if_neg h]
theorem errS_pos {n : Nat} (h : n ≤ r) : errS ⟨r, l, hd, fu, false⟩ n = if burns fu then 16 else 0 := by
  show (if false = true then (16 : Int) else if n ≤ r then (if burns fu then 16 else 0) else 14) = _; rw [if_neg Bool.false_ne_true, if_pos h]
theorem errS_neg {n : Nat} (h : ¬ n ≤ r) : errS ⟨r, l, hd, fu, false⟩ n = 14 := by
  show (if false = true then (16 : Int) else if n ≤ r then (if burns fu then 16 else 0) else 14) = _; rw [if_neg Bool.false_ne_true, if_neg h]
theorem nextS_pos {m : List UInt8} (h : m.length ≤ r) : nextS ⟨r, l, hd, fu, false⟩ m = ⟨r, if burns fu then l else m, if burns fu then hd else m.length, burnt fu, burns fu⟩ := by
  show (if false = true then (⟨r, l, hd, fu, false⟩ : Sx) else if m.length ≤ r then (⟨r, if burns fu then l else m, if burns fu then hd else m.length, burnt fu, burns fu⟩ : Sx) else ⟨r, l, hd, fu, false⟩) = _; rw [if_neg Bool.false_ne_true, if_pos h]
theorem nextS_neg {m : List UInt8} (h : ¬ m.length ≤ r) : nextS ⟨r, l, hd, fu, false⟩ m = ⟨r, l, hd, fu, false⟩ := by
  show (if false = true then (⟨r, l, hd, fu, false⟩ : Sx) else if m.length ≤ r then (⟨r, if burns fu then l else m, if burns fu then hd else m.length, burnt fu, burns fu⟩ : Sx) else ⟨r, l, hd, fu, false⟩) = _; rw [if_neg Bool.false_ne_true, if_neg h]
theorem errH_up : errH ⟨r, l, hd, fu, false⟩ = if burns fu then 16 else 0 := by
  show (if false = true then (16 : Int) else if burns fu then 16 else 0) = _; rw [if_neg Bool.false_ne_true]
theorem nextH_up : nextH ⟨r, l, hd, fu, false⟩ = ⟨r, l, if burns fu then hd else l.length, burnt fu, burns fu⟩ := by
  show (if false = true then (⟨r, l, hd, fu, false⟩ : Sx) else (⟨r, l, if burns fu then hd else l.length, burnt fu, burns fu⟩ : Sx)) = _; rw [if_neg Bool.false_ne_true]
end
/-- What an operation on the tape at b leaves. -/
def StepT (w : World) (b : Nat) (v : Value) (s' : Sx) (w' : World) : Prop := ∃ v', TatS w' b v' s' ∧ Fresh w v v' ∧ Chg (Mine b v) w w'
def StepR (w : World) (b : Nat) (v : Value) (s' : Sx) (w' : World) : Prop := ∃ v', RatS w' b v' s' ∧ Fresh w v v' ∧ Chg (Mine b v) w w'
theorem StepT.same {w : World} {b : Nat} {v : Value} {s : Sx} (h : TatS w b v s) : StepT w b v s w := ⟨v, h, Fresh.refl _ _, Chg.refl _ _⟩
theorem StepR.same {w : World} {b : Nat} {v : Value} {s : Sx} (h : RatS w b v s) : StepR w b v s w := ⟨v, h, Fresh.refl _ _, Chg.refl _ _⟩
theorem StepT.keep {w w' : World} {b : Nat} {v : Value} {s : Sx} (h : TatS w b v s) (hb : Below w.heap.size w w') : StepT w b v s w' := ⟨v, Tat.keep h hb, Fresh.refl _ _, Chg.of_below hb⟩
theorem StepR.keep {w w' : World} {b : Nat} {v : Value} {s : Sx} (h : RatS w b v s) (hb : Below w.heap.size w w') : StepR w b v s w' := ⟨v, Rat.keep h hb, Fresh.refl _ _, Chg.of_below hb⟩
section
variable (b : Nat) (v : Value) (s : Sx) (w : World)
theorem tW (h : TatS w b v s) (D : Nat → Prop) (pa : Option Addr) (np pc : Nat) (ls : List (List UInt8)) (hp : PartsIn D w pa ls) (hn : np = ls.length) (hm : np ≤ maxLen) (hD : ∀ k, D k → ¬ Mine b v k ∧ k < w.heap.size) (m : List UInt8) (hms : ls.flatten = m) :
    Calls Try.prog 17 #[.pointer (some ⟨b, 0, none⟩), .slice pa np pc] w fun e w' => e = .returned (.int .i64 (errW s m.length)) ∧ StepT w b v (nextW s m) w' := by
  subst hms
  obtain ⟨r, l, hd, fu, dn⟩ := s
  cases dn with
  | true => exact (Write_down b w (Tat.c4 h) pa np pc).mono fun e w' ⟨h1, h2⟩ => ⟨h1, h2 ▸ StepT.same h⟩
  | false =>
    by_cases hf : fits r l.length ls.flatten.length
    · rw [errW_pos hf, nextW_pos hf]
      exact Write_done b v r l hd fu w h D pa np pc ls hp hn hm hD hf
    · rw [errW_neg hf, nextW_neg hf]
      exact (Write_full b v r l hd fu w h D pa np pc ls hp hn hm hf).mono fun e w' ⟨h1, h2⟩ => ⟨h1, StepT.keep h h2⟩
theorem rW (h : RatS w b v s) (pa : Option Addr) (np pc : Nat) (m : List UInt8) (hm : BAt w pa m) (hn : np = m.length) (hno : pa = none → np = 0 ∧ pc = 0) (hl : m.length ≤ 1600) :
    Calls Try.prog 19 #[.pointer (some ⟨b, 0, none⟩), .slice pa np pc] w fun e w' => e = .returned (.int .i64 (errW s m.length)) ∧ StepR w b v (nextW s m) w' := by
  obtain ⟨r, l, hd, fu, dn⟩ := s
  cases dn with
  | true => exact (rWrite_down b w (Rat.c4 h) _).mono fun e w' ⟨h1, h2⟩ => ⟨h1, h2 ▸ StepR.same h⟩
  | false =>
    by_cases hf : fits r l.length m.length
    · rw [errW_pos hf, nextW_pos hf]
      exact rWrite_done b v r l hd fu w h pa np pc m hm hn hno hf
    · rw [errW_neg hf, nextW_neg hf]
      exact (rWrite_full b v r l hd fu w h pa np pc (by unfold maxLen; omega) (by rw [hn]; exact hf)).mono fun e w' ⟨h1, h2⟩ => ⟨h1, StepR.keep h h2⟩
theorem tH (h : TatS w b v s) : Calls Try.prog 18 #[.pointer (some ⟨b, 0, none⟩)] w fun e w' => e = .returned (.int .i64 (errH s)) ∧ StepT w b v (nextH s) w' := by
  obtain ⟨r, l, hd, fu, dn⟩ := s
  cases dn with
  | true => exact (Hold_down b w (Tat.c4 h)).mono fun e w' ⟨h1, h2⟩ => ⟨h1, h2 ▸ StepT.same h⟩
  | false =>
    rw [errH_up, nextH_up]
    exact Hold_done b v r l hd fu w h
theorem rH (h : RatS w b v s) : Calls Try.prog 20 #[.pointer (some ⟨b, 0, none⟩)] w fun e w' => e = .returned (.int .i64 (errH s)) ∧ StepR w b v (nextH s) w' := by
  obtain ⟨r, l, hd, fu, dn⟩ := s
  cases dn with
  | true => exact (rHold_down b w (Rat.c4 h)).mono fun e w' ⟨h1, h2⟩ => ⟨h1, h2 ▸ StepR.same h⟩
  | false =>
    rw [errH_up, nextH_up]
    exact rHold_done b v r l hd fu w h
theorem tC (h : TatS w b v s) (k : Int) : Calls Try.prog 28 #[.pointer (some ⟨b, 0, none⟩), .int .i64 k] w fun e w' => e = .returned (.int .i64 (errC s k)) ∧ StepT w b v (nextC s k) w' := by
  obtain ⟨r, l, hd, fu, dn⟩ := s
  cases dn with
  | true => exact (Cut_down b w (Tat.c4 h) k).mono fun e w' ⟨h1, h2⟩ => ⟨h1, h2 ▸ StepT.same h⟩
  | false =>
    by_cases hk : 0 ≤ k ∧ k ≤ l.length
    · rw [errC_pos hk, nextC_pos hk]
      exact Cut_done b v r l hd fu w h k hk
    · rw [errC_neg hk, nextC_neg hk]
      exact (Cut_bad b v r l hd fu w h k (by omega)).mono fun e w' ⟨h1, h2⟩ => ⟨h1, StepT.keep h h2⟩
theorem rC (h : RatS w b v s) (k : Int) : Calls Try.prog 33 #[.pointer (some ⟨b, 0, none⟩), .int .i64 k] w fun e w' => e = .returned (.int .i64 (errC s k)) ∧ StepR w b v (nextC s k) w' := by
  obtain ⟨r, l, hd, fu, dn⟩ := s
  cases dn with
  | true => exact (rCut_down b w (Rat.c4 h) k).mono fun e w' ⟨h1, h2⟩ => ⟨h1, h2 ▸ StepR.same h⟩
  | false =>
    by_cases hk : 0 ≤ k ∧ k ≤ l.length
    · rw [errC_pos hk, nextC_pos hk]
      exact rCut_done b v r l hd fu w h k hk
    · rw [errC_neg hk, nextC_neg hk]
      exact (rCut_bad b v r l hd fu w h k (by omega)).mono fun e w' ⟨h1, h2⟩ => ⟨h1, h2 ▸ StepR.same h⟩
theorem tS (h : TatS w b v s) (pa : Option Addr) (np pc : Nat) (m : List UInt8) (hm : BAt w pa m) (hn : np = m.length) (hno : pa = none → np = 0 ∧ pc = 0) (hD : 0 < m.length → ∀ a, pa = some a → ¬ Mine b v a.block) (hl : m.length ≤ 1600) :
    Calls Try.prog 26 #[.pointer (some ⟨b, 0, none⟩), .slice pa np pc] w fun e w' => e = .returned (.int .i64 (errS s m.length)) ∧ StepT w b v (nextS s m) w' := by
  obtain ⟨r, l, hd, fu, dn⟩ := s
  cases dn with
  | true => exact (Swap_down b w (Tat.c4 h) pa np pc).mono fun e w' ⟨h1, h2⟩ => ⟨h1, h2 ▸ StepT.same h⟩
  | false =>
    by_cases hk : m.length ≤ r
    · rw [errS_pos hk, nextS_pos hk]
      exact Swap_done b v r l hd fu w h pa np pc m hm hn hno hD hk
    · rw [errS_neg hk, nextS_neg hk]
      exact (Swap_full b v r l hd fu w h pa np pc (by unfold maxLen; omega) (by omega)).mono fun e w' ⟨h1, h2⟩ => ⟨h1, StepT.keep h h2⟩
theorem rS (h : RatS w b v s) (pa : Option Addr) (np pc : Nat) (m : List UInt8) (hm : BAt w pa m) (hn : np = m.length) (hno : pa = none → np = 0 ∧ pc = 0) (hD : 0 < m.length → ∀ a, pa = some a → a.block ≠ b) (hl : m.length ≤ 1600) :
    Calls Try.prog 34 #[.pointer (some ⟨b, 0, none⟩), .slice pa np pc] w fun e w' => e = .returned (.int .i64 (errS s m.length)) ∧ StepR w b v (nextS s m) w' := by
  obtain ⟨r, l, hd, fu, dn⟩ := s
  cases dn with
  | true => exact (rSwap_down b w (Rat.c4 h) _).mono fun e w' ⟨h1, h2⟩ => ⟨h1, h2 ▸ StepR.same h⟩
  | false =>
    by_cases hk : m.length ≤ r
    · rw [errS_pos hk, nextS_pos hk]
      exact rSwap_done b v r l hd fu w h pa np pc m hm hn hno hD hk
    · rw [errS_neg hk, nextS_neg hk]
      exact (rSwap_full b v r l hd fu w h pa np pc (by unfold maxLen; omega) (by omega)).mono fun e w' ⟨h1, h2⟩ => ⟨h1, h2 ▸ StepR.same h⟩
theorem tR (h : TatS w b v s) (n : Int) : Calls Try.prog 27 #[.pointer (some ⟨b, 0, none⟩), .int .i64 n] w fun e w' => e = .returned (.tuple #[]) ∧ StepT w b v (nextR s n) w' :=
  (Room_at b v _ _ _ _ _ n w h).mono fun e w' ⟨h1, h2, h3⟩ => ⟨h1, v, h2, Fresh.refl _ _, h3⟩
theorem rR (h : RatS w b v s) (n : Int) : Calls Try.prog 29 #[.pointer (some ⟨b, 0, none⟩), .int .i64 n] w fun e w' => e = .returned (.tuple #[]) ∧ StepR w b v (nextR s n) w' :=
  (rRoom_at b v _ _ _ _ _ n w h).mono fun e w' ⟨h1, h2, h3⟩ => ⟨h1, v, h2, Fresh.refl _ _, h3⟩
theorem tF (h : TatS w b v s) (n : Int) (hn : n ≤ 9223372036854775807) : Calls Try.prog 22 #[.pointer (some ⟨b, 0, none⟩), .int .i64 n] w fun e w' => e = .returned (.tuple #[]) ∧ StepT w b v (nextF s n) w' :=
  (Fuse_at b v _ _ _ _ _ n hn w h).mono fun e w' ⟨h1, h2, h3⟩ => ⟨h1, v, h2, Fresh.refl _ _, h3⟩
theorem rF (h : RatS w b v s) (n : Int) (hn : n ≤ 9223372036854775807) : Calls Try.prog 35 #[.pointer (some ⟨b, 0, none⟩), .int .i64 n] w fun e w' => e = .returned (.tuple #[]) ∧ StepR w b v (nextF s n) w' :=
  (rFuse_at b v _ _ _ _ _ n hn w h).mono fun e w' ⟨h1, h2, h3⟩ => ⟨h1, v, h2, Fresh.refl _ _, h3⟩
theorem tL (h : TatS w b v s) (k : Int) : Calls Try.prog 23 #[.pointer (some ⟨b, 0, none⟩), .int .i64 k] w fun e w' => e = .returned (.tuple #[]) ∧ StepT w b v (nextL s k) w' :=
  (Fall_at b v _ _ _ _ _ k w h).mono fun e w' ⟨h1, v', h2, h3, h4⟩ => ⟨h1, v', h2, fun g hg => .inl (by rw [← h4]; exact hg), h3⟩
theorem rL (h : RatS w b v s) (k : Int) : Calls Try.prog 36 #[.pointer (some ⟨b, 0, none⟩), .int .i64 k] w fun e w' => e = .returned (.tuple #[]) ∧ StepR w b v (nextL s k) w' :=
  (rFall_at b v _ _ _ _ _ k w h).mono fun e w' ⟨h1, h2⟩ => ⟨h1, h2⟩
theorem tU (h : TatS w b v s) : Calls Try.prog 24 #[.pointer (some ⟨b, 0, none⟩)] w fun e w' => e = .returned (.tuple #[]) ∧ StepT w b v (nextU s) w' := by
  obtain ⟨r, l, hd, fu, dn⟩ := s
  cases dn with
  | true => exact (Rise_down b v r l hd fu w h).mono fun e w' ⟨h1, v', h2, h3, h4⟩ => ⟨h1, v', h2, fun g hg => .inl (by rw [← h4]; exact hg), h3⟩
  | false => exact (Rise_up b w (Tat.c4 h)).mono fun e w' ⟨h1, h2⟩ => ⟨h1, h2 ▸ StepT.same h⟩
theorem rU (h : RatS w b v s) : Calls Try.prog 37 #[.pointer (some ⟨b, 0, none⟩)] w fun e w' => e = .returned (.tuple #[]) ∧ StepR w b v (nextU s) w' := by
  obtain ⟨r, l, hd, fu, dn⟩ := s
  cases dn with
  | true => exact (rRise_down b v r l hd fu w h).mono fun e w' ⟨h1, h2⟩ => ⟨h1, h2⟩
  | false => exact (rRise_up b w (Rat.c4 h)).mono fun e w' ⟨h1, h2⟩ => ⟨h1, h2 ▸ StepR.same h⟩
end

/-- Both tapes, made behind w0, apart from each other, and from the blocks of X. -/
def Two (w0 w : World) (bt br : Nat) (X : Nat → Prop) (s t : Sx) : Prop :=
  ∃ v u, TatS w bt v s ∧ RatS w br u t ∧ Below w0.heap.size w0 w ∧ w0.heap.size ≤ bt ∧ w0.heap.size ≤ br ∧ (∀ g, foot v = some g → w0.heap.size ≤ g) ∧ (∀ g, foot u = some g → w0.heap.size ≤ g) ∧
    (∀ k, Mine bt v k → ¬ Mine br u k) ∧ ∀ k, X k → k < w.heap.size ∧ ¬ Mine bt v k ∧ ¬ Mine br u k
section
variable {w0 w w' : World} {bt br : Nat} {X : Nat → Prop} {s t : Sx}
theorem Two.bel (h : Two w0 w bt br X s t) : Below w0.heap.size w0 w := by obtain ⟨v, u, _, _, h, _⟩ := h; exact h
theorem Two.keep (h : Two w0 w bt br X s t) (hb : Below w.heap.size w w') {Y : Nat → Prop} (hY : ∀ k, Y k → X k ∨ (w.heap.size ≤ k ∧ k < w'.heap.size)) : Two w0 w' bt br Y s t := by
  obtain ⟨v, u, h1, h2, h3, h4, h5, h6, h7, h8, h9⟩ := h
  refine ⟨v, u, Tat.keep h1 hb, Rat.keep h2 hb, h3.trans (hb.mono h3.size), h4, h5, h6, h7, h8, fun k hk => ?_⟩
  rcases hY k hk with h | h
  · obtain ⟨a, b, c⟩ := h9 k h
    exact ⟨Nat.lt_of_lt_of_le a hb.size, b, c⟩
  · exact ⟨h.2, fun hm => by have := Tat.mine h1 k hm; omega, fun hm => by have := Rat.mine h2 k hm; omega⟩
/-- Other blocks have turned: those of Z. -/
theorem Two.other (h : Two w0 w bt br X s t) {Z : Nat → Prop} (hc : Chg Z w w') (hZ : ∀ k, Z k → X k ∧ w0.heap.size ≤ k) : Two w0 w' bt br X s t := by
  obtain ⟨v, u, h1, h2, h3, h4, h5, h6, h7, h8, h9⟩ := h
  exact ⟨v, u, Tat.chg h1 hc (fun k hk hz => (h9 k (hZ k hz).1).2.1 hk), Rat.chg h2 hc (fun k hk hz => (h9 k (hZ k hz).1).2.2 hk), h3.trans (hc.below h3.size fun i _ hi => (hZ i hi).2), h4, h5, h6, h7, h8,
    fun k hk => ⟨Nat.lt_of_lt_of_le (h9 k hk).1 hc.size, (h9 k hk).2⟩⟩
theorem Two.opT {F : FuncId} {args : Array Value} {E : Ending → Prop} {s' : Sx} (h : Two w0 w bt br X s t) (op : ∀ v, TatS w bt v s → (∀ k, X k → ¬ Mine bt v k ∧ k < w.heap.size) → Calls Try.prog F args w fun e w' => E e ∧ StepT w bt v s' w') :
    Calls Try.prog F args w fun e w' => E e ∧ Two w0 w' bt br X s' t ∧ Chg (fun k => ¬ X k) w w' := by
  obtain ⟨v, u, h1, h2, h3, h4, h5, h6, h7, h8, h9⟩ := h
  refine (op v h1 (fun k hk => ⟨(h9 k hk).2.1, (h9 k hk).1⟩)).mono fun e w' ⟨he, v', k1, k2, k3⟩ => ⟨he, ⟨v', u, k1, Rat.chg h2 k3 (fun k hk hm => h8 k hm hk), h3.trans (k3.below h3.size fun i _ hi => ?_), h4, h5, ?_, h7, ?_, ?_⟩, k3.weak fun i _ hi hx => (h9 i hx).2.1 hi⟩
  · rcases hi with rfl | hi
    · exact h4
    · exact h6 i hi
  · intro g hg
    rcases k2 g hg with h | h
    · exact h6 g h
    · exact Nat.le_trans h3.size h
  · intro k hk hm
    rcases hk with rfl | hk
    · exact h8 _ (.inl rfl) hm
    · rcases k2 k hk with h | h
      · exact h8 k (.inr h) hm
      · have := Rat.mine h2 k hm; omega
  · intro k hk
    refine ⟨Nat.lt_of_lt_of_le (h9 k hk).1 k3.size, fun hm => ?_, (h9 k hk).2.2⟩
    rcases hm with rfl | hm
    · exact (h9 _ hk).2.1 (.inl rfl)
    · rcases k2 k hm with h | h
      · exact (h9 k hk).2.1 (.inr h)
      · have := (h9 k hk).1; omega
theorem Two.opR {F : FuncId} {args : Array Value} {E : Ending → Prop} {t' : Sx} (h : Two w0 w bt br X s t) (op : ∀ u, RatS w br u t → (∀ k, X k → ¬ Mine br u k ∧ k < w.heap.size) → Calls Try.prog F args w fun e w' => E e ∧ StepR w br u t' w') :
    Calls Try.prog F args w fun e w' => E e ∧ Two w0 w' bt br X s t' ∧ Chg (fun k => ¬ X k) w w' := by
  obtain ⟨v, u, h1, h2, h3, h4, h5, h6, h7, h8, h9⟩ := h
  refine (op u h2 (fun k hk => ⟨(h9 k hk).2.2, (h9 k hk).1⟩)).mono fun e w' ⟨he, u', k1, k2, k3⟩ => ⟨he, ⟨v, u', Tat.chg h1 k3 (fun k hk hm => h8 k hk hm), k1, h3.trans (k3.below h3.size fun i _ hi => ?_), h4, h5, h6, ?_, ?_, ?_⟩, k3.weak fun i _ hi hx => (h9 i hx).2.2 hi⟩
  · rcases hi with rfl | hi
    · exact h5
    · exact h7 i hi
  · intro g hg
    rcases k2 g hg with h | h
    · exact h7 g h
    · exact Nat.le_trans h3.size h
  · intro k hk hm
    rcases hm with rfl | hm
    · exact h8 _ hk (.inl rfl)
    · rcases k2 k hm with h | h
      · exact h8 k hk (.inr h)
      · have := Tat.mine h1 k hk; omega
  · intro k hk
    refine ⟨Nat.lt_of_lt_of_le (h9 k hk).1 k3.size, (h9 k hk).2.1, fun hm => ?_⟩
    rcases hm with rfl | hm
    · exact (h9 _ hk).2.2 (.inl rfl)
    · rcases k2 k hm with h | h
      · exact (h9 k hk).2.2 (.inr h)
      · have := (h9 k hk).1; omega
end
/-- What is held stays. -/
def Inv (first : List UInt8) (s : Sx) : Prop := first <+: s.l ∧ first.length ≤ s.hd
theorem pre_take {f l : List UInt8} (h : f <+: l) (n : Nat) (hn : f.length ≤ n) : f <+: l.take n := by
  obtain ⟨t, rfl⟩ := h
  exact ⟨t.take (n - f.length), by rw [List.take_append, List.take_of_length_le hn]⟩
theorem Inv.w {f : List UInt8} {s : Sx} (h : Inv f s) (m : List UInt8) : Inv f (nextW s m) := by
  unfold nextW
  split
  · exact h
  · split
    · exact ⟨h.1.trans (List.prefix_append _ _), h.2⟩
    · exact h
theorem Inv.h {f : List UInt8} {s : Sx} (h : Inv f s) : Inv f (nextH s) := by
  unfold nextH
  split
  · exact h
  · refine ⟨h.1, ?_⟩
    show f.length ≤ if burns s.fu then s.hd else s.l.length
    split
    · exact h.2
    · exact h.1.length_le
theorem Inv.r {f : List UInt8} {s : Sx} (h : Inv f s) (n : Int) : Inv f (nextR s n) := h
theorem Inv.f {f : List UInt8} {s : Sx} (h : Inv f s) (n : Int) : Inv f (nextF s n) := h
theorem Inv.l {f : List UInt8} {s : Sx} (h : Inv f s) (k : Int) : Inv f (nextL s k) := by
  have h2 : s.hd ≤ fell s.l.length s.hd k := by unfold fell; omega
  exact ⟨pre_take h.1 _ (Nat.le_trans h.2 h2), Nat.le_trans h.2 h2⟩
theorem Inv.u {f : List UInt8} {s : Sx} (h : Inv f s) : Inv f (nextU s) := by
  unfold nextU
  split
  · exact ⟨pre_take h.1 _ h.2, h.2⟩
  · exact h
end Go.Proofs.Ytghncdoophoieaa
