/-
  Texts that belong together, one behind the other.
-/
import Derived.Test.YtpelehhmdcjikaaGreatDoorFu01
import Derived.Test.YtpelehhmdcjikaaGreatDoorProg
import Derived.WalkKit
import Derived.WalkSpells
import Derived.WalkLawsBesides
import Derived.Laws.BytesArg
import Derived.Lib.UnsafeStr
import Derived.Lib.Hide
import Derived.Below
import Derived.Laws.CopyRow
import Derived.Laws.CopyOwn
import Derived.Laws.Rows
import Derived.Laws.Tables
import Derived.Deep.WholeRow
import Derived.Stop.BytesEq
/-
  Layer 6, plain: zones, and what an ident's text is made of; nothing of the program.
-/
namespace Go.Proofs.YtpelehhmdcjikaaGreatDoor
set_option linter.unusedVariables false
set_option linter.unusedSimpArgs false
def twoD (n : Nat) : List UInt8 := [UInt8.ofNat (48 + n / 10), UInt8.ofNat (48 + n % 10)]
/-- A zone, written. -/
def zoneT (z : Int) : List UInt8 := (if z < 0 then 45 else 43) :: (twoD (z.natAbs / 60) ++ twoD (z.natAbs % 60))
def digV (c : UInt8) : Nat := c.toNat - 48
def digB (c : UInt8) : Bool := decide (48 ≤ c.toNat) && decide (c.toNat ≤ 57)
/-- A zone, read. -/
def zoneV (s a b c d : UInt8) : Option Int :=
  if (s.toNat = 43 ∨ s.toNat = 45) ∧ digB a = true ∧ digB b = true ∧ digB c = true ∧ digB d = true then
    if 59 < digV c * 10 + digV d ∨ 840 < (digV a * 10 + digV b) * 60 + (digV c * 10 + digV d) ∨ (s.toNat = 45 ∧ (digV a * 10 + digV b) * 60 + (digV c * 10 + digV d) = 0) then none
    else some (if s.toNat = 45 then -(((digV a * 10 + digV b) * 60 + (digV c * 10 + digV d) : Nat) : Int) else (((digV a * 10 + digV b) * 60 + (digV c * 10 + digV d) : Nat) : Int))
  else none
def zoneR : List UInt8 → Option Int
  | [s, a, b, c, d] => zoneV s a b c d
  | _ => none
theorem dig_of (n : Nat) (h : n < 10) : (UInt8.ofNat (48 + n)).toNat = 48 + n := by rw [UInt8.toNat_ofNat']; omega
theorem digB_of (n : Nat) (h : n < 10) : digB (UInt8.ofNat (48 + n)) = true ∧ digV (UInt8.ofNat (48 + n)) = n := by
  unfold digB digV; rw [dig_of n h]; exact ⟨by simp; omega, by omega⟩
theorem digB_iff (c : UInt8) (h : digB c = true) : c = UInt8.ofNat (48 + digV c) ∧ digV c < 10 := by
  unfold digB at h
  simp only [Bool.and_eq_true, decide_eq_true_eq] at h
  unfold digV
  refine ⟨?_, by omega⟩
  apply UInt8.toNat_inj.1
  rw [UInt8.toNat_ofNat']
  omega
theorem zone_len (z : Int) : (zoneT z).length = 5 := rfl
/-- What is written is read. -/
theorem zone_read (z : Int) (h0 : -840 ≤ z) (h1 : z ≤ 840) : zoneR (zoneT z) = some z := by
  obtain ⟨n, hn⟩ : ∃ n, z.natAbs = n := ⟨_, rfl⟩
  have hn840 : n ≤ 840 := by omega
  have e1 := digB_of (n / 60 / 10) (by omega)
  have e2 := digB_of (n / 60 % 10) (by omega)
  have e3 := digB_of (n % 60 / 10) (by omega)
  have e4 := digB_of (n % 60 % 10) (by omega)
  have hz : (n / 60 / 10 * 10 + n / 60 % 10) * 60 + (n % 60 / 10 * 10 + n % 60 % 10) = n := by omega
  have hm : ¬ 59 < n % 60 / 10 * 10 + n % 60 % 10 := by omega
  unfold zoneT twoD
  rw [hn]
  simp only [List.cons_append, List.nil_append]
  show zoneV _ _ _ _ _ = some z
  unfold zoneV
  rw [e1.1, e1.2, e2.1, e2.2, e3.1, e3.2, e4.1, e4.2, hz]
  by_cases hneg : z < 0
  · rw [if_pos hneg, if_pos ⟨.inr rfl, rfl, rfl, rfl, rfl⟩, if_neg, if_pos (by decide)]
    · congr 1; omega
    · rintro (h | h | h)
      · exact hm h
      · omega
      · omega
  · rw [if_neg hneg, if_pos ⟨.inl rfl, rfl, rfl, rfl, rfl⟩, if_neg, if_neg (by decide)]
    · congr 1; omega
    · rintro (h | h | h)
      · exact hm h
      · omega
      · exact absurd h.1 (by decide)
/-- What is read, written again, is the same text. -/
theorem zone_back (s : List UInt8) (z : Int) (h : zoneR s = some z) : zoneT z = s ∧ -840 ≤ z ∧ z ≤ 840 := by
  match s, h with
  | [s, a, b, c, d], h =>
    have h : zoneV s a b c d = some z := h
    unfold zoneV at h
    by_cases hd : (s.toNat = 43 ∨ s.toNat = 45) ∧ digB a = true ∧ digB b = true ∧ digB c = true ∧ digB d = true
    · rw [if_pos hd] at h
      obtain ⟨hs, ha, hb, hc, hdd⟩ := hd
      by_cases hn : 59 < digV c * 10 + digV d ∨ 840 < (digV a * 10 + digV b) * 60 + (digV c * 10 + digV d) ∨ (s.toNat = 45 ∧ (digV a * 10 + digV b) * 60 + (digV c * 10 + digV d) = 0)
      · rw [if_pos hn] at h; cases h
      · rw [if_neg hn] at h
        obtain ⟨a1, a2⟩ := digB_iff a ha
        obtain ⟨b1, b2⟩ := digB_iff b hb
        obtain ⟨c1, c2⟩ := digB_iff c hc
        obtain ⟨d1, d2⟩ := digB_iff d hdd
        generalize digV a = x at *
        generalize digV b = y at *
        generalize digV c = u at *
        generalize digV d = v at *
        have hm : u * 10 + v ≤ 59 := by omega
        have h840 : (x * 10 + y) * 60 + (u * 10 + v) ≤ 840 := by omega
        have hz : s.toNat = 45 → (x * 10 + y) * 60 + (u * 10 + v) ≠ 0 := fun e e2 => hn (.inr (.inr ⟨e, e2⟩))
        obtain ⟨n, hN⟩ : ∃ n, (x * 10 + y) * 60 + (u * 10 + v) = n := ⟨_, rfl⟩
        have q1 : n / 60 / 10 = x := by omega
        have q2 : n / 60 % 10 = y := by omega
        have q3 : n % 60 / 10 = u := by omega
        have q4 : n % 60 % 10 = v := by omega
        rw [hN] at h h840 hz
        have hsz : (s.toNat = 45 ∧ z = -(n : Int) ∧ 0 < n) ∨ (s.toNat = 43 ∧ z = (n : Int)) := by
          rcases hs with e | e
          · right; rw [if_neg (by omega)] at h; exact ⟨e, (Option.some.inj h).symm⟩
          · left; rw [if_pos e] at h; exact ⟨e, (Option.some.inj h).symm, by have := hz e; omega⟩
        have habs : z.natAbs = n := by omega
        refine ⟨?_, by omega, by omega⟩
        unfold zoneT twoD
        rw [habs, q1, q2, q3, q4, ← a1, ← b1, ← c1, ← d1]
        have hh : (if z < 0 then (45 : UInt8) else 43) = s := by
          rcases hsz with ⟨e, e2, e3⟩ | ⟨e, e2⟩
          · rw [if_pos (by omega)]; exact UInt8.toNat_inj.1 e.symm
          · rw [if_neg (by omega)]; exact UInt8.toNat_inj.1 e.symm
        rw [hh]; rfl
    · rw [if_neg hd] at h; cases h
  | [], h => cases h
  | [_], h => cases h
  | [_, _], h => cases h
  | [_, _, _], h => cases h
  | [_, _, _, _], h => cases h
  | _ :: _ :: _ :: _ :: _ :: _ :: _, h => cases h
def aheadT (name : List UInt8) : List UInt8 := if name = [] then [] else name ++ [32]
/-- The text of some parts: num the number's digits, zone five bytes. -/
def textT (name email num zone : List UInt8) : List UInt8 := aheadT name ++ 60 :: (email ++ 62 :: 32 :: (num ++ 32 :: zone))
theorem ahead_no (c : UInt8) (hc : c ≠ 32) (a : List UInt8) (h : ∀ d ∈ a, d ≠ c) : ∀ d ∈ aheadT a, d ≠ c := by
  unfold aheadT
  split
  · simp
  · intro d hd
    rcases List.mem_append.1 hd with hd | hd
    · exact h d hd
    · rw [List.mem_singleton.1 hd]; exact fun e => hc e.symm
theorem word_no {l : List UInt8} (h : wordL l = true) : (∀ d ∈ l, d ≠ 60) ∧ (∀ d ∈ l, d ≠ 62) := by
  have hb := ((word_iff l).1 h).1
  refine ⟨fun d hd e => ?_, fun d hd e => ?_⟩
  · have := hb d hd; rw [e] at this; exact absurd this (by decide)
  · have := hb d hd; rw [e] at this; exact absurd this (by decide)
end Go.Proofs.YtpelehhmdcjikaaGreatDoor

/-
  Layer 6, plain: idents, printed and parsed, over any writer and reader of numbers; nothing of the program.
-/
namespace Go.Proofs.YtpelehhmdcjikaaGreatDoor
set_option linter.unusedVariables false
set_option linter.unusedSimpArgs false
structure Idt where
  name : List UInt8
  email : List UInt8
  whn : Int
  zone : Int
def rightI (i : Idt) : Bool := wordL i.name && wordL i.email && decide (0 ≤ i.whn) && decide (i.whn ≤ 1099511627775) && decide (-840 ≤ i.zone) && decide (i.zone ≤ 840)
theorem right_iff (i : Idt) : rightI i = true ↔ wordL i.name = true ∧ wordL i.email = true ∧ 0 ≤ i.whn ∧ i.whn ≤ 1099511627775 ∧ -840 ≤ i.zone ∧ i.zone ≤ 840 := by
  unfold rightI
  simp only [Bool.and_eq_true, decide_eq_true_eq, and_assoc]
def printI (wr : Int → List UInt8) (i : Idt) : List UInt8 := if rightI i = true then textT i.name i.email (wr i.whn) (zoneT i.zone) else []
/-- A writer and a reader of numbers that fit. -/
structure Num (wr : Int → List UInt8) (rd : List UInt8 → Option Int) : Prop where
  back : ∀ v, 0 ≤ v → v ≤ 1099511627775 → rd (wr v) = some v
  some : ∀ v, 0 ≤ v → v ≤ 1099511627775 → 1 ≤ (wr v).length
instance (i : Idt) (wr : Int → List UInt8) (s : List UInt8) : Decidable (rightI i = true ∧ printI wr i = s) := inferInstance
def openI (s : List UInt8) : Nat := s.findIdx (· == 60)
def endI (s : List UInt8) : Nat := s.findIdx (· == 62)
def restI (s : List UInt8) : List UInt8 := s.drop (endI s + 1)
def badA (s : List UInt8) : Prop := s.length ≤ openI s ∨ s.length ≤ endI s ∨ endI s < openI s ∨ (0 < openI s ∧ s.getD (openI s - 1) 0 ≠ 32) ∨ openI s = 1
def badB (r : List UInt8) : Prop := r.length < 8 ∨ r.getD 0 0 ≠ 32 ∨ r.getD (r.length - 6) 0 ≠ 32
instance (s : List UInt8) : Decidable (badA s) := by unfold badA; exact inferInstance
instance (s : List UInt8) : Decidable (badB s) := by unfold badB; exact inferInstance
def candI (s : List UInt8) (v z : Int) : Idt := ⟨if 1 < openI s then s.take (openI s - 1) else [], (s.take (endI s)).drop (openI s + 1), v, z⟩
/-- The document's way to9 parse. -/
def parseR (wr : Int → List UInt8) (rd : List UInt8 → Option Int) (s : List UInt8) : Option Idt :=
  if badA s then none
  else if badB (restI s) then none
  else match rd (((restI s).take ((restI s).length - 6)).drop 1) with
    | none => none
    | some v => match zoneR ((restI s).drop ((restI s).length - 5)) with
      | none => none
      | some z => if rightI (candI s v z) = true ∧ printI wr (candI s v z) = s then some (candI s v z) else none
theorem find_at (c : UInt8) : ∀ (a x : List UInt8), (∀ d ∈ a, d ≠ c) → (a ++ c :: x).findIdx (· == c) = a.length
  | [], x, _ => by simp [List.findIdx_cons]
  | d :: a, x, h => by
    have hd : (d == c) = false := by rw [beq_eq_false_iff_ne]; exact h d (by simp)
    rw [List.cons_append, List.findIdx_cons, hd, find_at c a x (fun q hq => h q (by simp [hq]))]
    rfl
/-- What is parsed is right, and prints so. -/
theorem parse_only {wr : Int → List UInt8} {rd : List UInt8 → Option Int} {s : List UInt8} {i : Idt} (h : parseR wr rd s = some i) : rightI i = true ∧ printI wr i = s := by
  unfold parseR at h
  by_cases h1 : badA s
  · rw [if_pos h1] at h; cases h
  · rw [if_neg h1] at h
    by_cases h2 : badB (restI s)
    · rw [if_pos h2] at h; cases h
    · rw [if_neg h2] at h
      cases e1 : rd (((restI s).take ((restI s).length - 6)).drop 1) with
      | none => rw [e1] at h; cases h
      | some v =>
        cases e2 : zoneR ((restI s).drop ((restI s).length - 5)) with
        | none => rw [e1, e2] at h; cases h
        | some z =>
          rw [e1, e2] at h
          simp only at h
          by_cases hc : rightI (candI s v z) = true ∧ printI wr (candI s v z) = s
          · rw [if_pos hc] at h
            rw [← Option.some.inj h]; exact hc
          · rw [if_neg hc] at h; cases h
/-- What is printed is parsed. -/
theorem parse_print {wr : Int → List UInt8} {rd : List UInt8 → Option Int} (hn : Num wr rd) {i : Idt} (h : rightI i = true) : parseR wr rd (printI wr i) = some i := by
  obtain ⟨h1, h2, h3, h4, h5, h6⟩ := (right_iff i).1 h
  have hp : printI wr i = textT i.name i.email (wr i.whn) (zoneT i.zone) := by unfold printI; rw [if_pos h]
  obtain ⟨name, email, v, z⟩ := i
  simp only at h1 h2 h3 h4 h5 h6 hp
  have hrd := hn.back v h3 h4
  have hln := hn.some v h3 h4
  have hz := zone_read z h5 h6
  have hzl := zone_len z
  obtain ⟨s, hs⟩ : ∃ s, printI wr ⟨name, email, v, z⟩ = s := ⟨_, rfl⟩
  rw [hs] at hp ⊢
  generalize wr v = num at hrd hln hp
  generalize zoneT z = zt at hz hzl hp
  have ha60 := ahead_no 60 (by decide) name (word_no h1).1
  have ha62 := ahead_no 62 (by decide) name (word_no h1).2
  have ho : openI s = (aheadT name).length := by unfold openI; rw [hp]; exact find_at 60 _ _ ha60
  have he : endI s = (aheadT name).length + 1 + email.length := by
    unfold endI
    have e : s = (aheadT name ++ 60 :: email) ++ 62 :: 32 :: (num ++ 32 :: zt) := by rw [hp]; unfold textT; simp
    rw [e, find_at 62 _ _ ?_]
    · simp; omega
    · intro d hd
      rcases List.mem_append.1 hd with hd | hd
      · exact ha62 d hd
      · rcases List.mem_cons.1 hd with rfl | hd
        · decide
        · exact (word_no h2).2 d hd
  have hsl : s.length = (aheadT name).length + 1 + email.length + 1 + (1 + num.length + 1 + 5) := by
    rw [hp]; unfold textT; simp [hzl]; omega
  have hdrop : s.drop ((aheadT name).length + 1 + email.length + 1) = 32 :: (num ++ 32 :: zt) := by
    have e : s = (aheadT name ++ 60 :: email ++ [62]) ++ 32 :: (num ++ 32 :: zt) := by rw [hp]; unfold textT; simp
    rw [e]
    exact List.drop_left' (by simp; omega)
  have hrl : (32 :: (num ++ 32 :: zt)).length = num.length + 7 := by simp [hzl]
  have hname : (if 1 < (aheadT name).length then s.take ((aheadT name).length - 1) else []) = name ∧ (aheadT name).length ≠ 1 ∧ (0 < (aheadT name).length → s.getD ((aheadT name).length - 1) 0 = 32) := by
    by_cases hnm : name = []
    · subst hnm
      have : (aheadT []).length = 0 := rfl
      rw [this]
      exact ⟨rfl, by omega, by omega⟩
    · have hl : 0 < name.length := by cases name with | nil => exact absurd rfl hnm | cons _ _ => simp
      have e : aheadT name = name ++ [32] := by unfold aheadT; rw [if_neg hnm]
      have e2 : s = name ++ 32 :: (60 :: (email ++ 62 :: 32 :: (num ++ 32 :: zt))) := by rw [hp]; unfold textT; rw [e]; simp
      rw [e, List.length_append, List.length_singleton, Nat.add_sub_cancel]
      refine ⟨?_, by omega, fun _ => ?_⟩
      · rw [if_pos (by omega), e2]; exact List.take_left
      · rw [e2, List.getD_eq_getElem?_getD, List.getElem?_append_right (Nat.le_refl _), Nat.sub_self]; rfl
  have hemail : (s.take ((aheadT name).length + 1 + email.length)).drop ((aheadT name).length + 1) = email := by
    have e : s = (aheadT name ++ [60]) ++ (email ++ 62 :: 32 :: (num ++ 32 :: zt)) := by rw [hp]; unfold textT; simp
    have e3 : (aheadT name ++ [60]).length = (aheadT name).length + 1 := by simp
    rw [e, ← e3, List.take_length_add_append, List.drop_left, List.take_left]
  have hrest : restI s = 32 :: (num ++ 32 :: zt) := by unfold restI; rw [he]; exact hdrop
  have hcand : candI s v z = ⟨name, email, v, z⟩ := by unfold candI; rw [ho, he, hname.1, hemail]
  have hA : ¬ badA s := by
    unfold badA
    rw [ho, he]
    rintro (q | q | q | q | q)
    · omega
    · omega
    · omega
    · exact q.2 (hname.2.2 q.1)
    · exact hname.2.1 q
  have hB : ¬ badB (32 :: (num ++ 32 :: zt)) := by
    unfold badB
    rw [hrl]
    rintro (q | q | q)
    · omega
    · exact q rfl
    · apply q
      rw [show num.length + 7 - 6 = num.length + 1 by omega, List.getD_eq_getElem?_getD, List.getElem?_cons_succ, List.getElem?_append_right (Nat.le_refl _), Nat.sub_self]
      rfl
  have hnum : ((32 :: (num ++ 32 :: zt)).take (num.length + 7 - 6)).drop 1 = num := by
    rw [show num.length + 7 - 6 = num.length + 1 by omega, List.take_succ_cons, List.drop_succ_cons, List.drop_zero, List.take_left]
  have hzt : (32 :: (num ++ 32 :: zt)).drop (num.length + 7 - 5) = zt := by
    rw [show num.length + 7 - 5 = (num.length + 1) + 1 by omega, List.drop_succ_cons, show num ++ 32 :: zt = (num ++ [32]) ++ zt by simp]
    exact List.drop_left' (by simp)
  unfold parseR
  rw [if_neg hA, hrest, if_neg hB, hrl, hnum, hzt, hrd]
  simp only [hz, hcand]
  rw [if_pos ⟨h, hs⟩]
/-- Whoever answers so answers as the document does. -/
theorem parse_one {wr : Int → List UInt8} {rd : List UInt8 → Option Int} (hn : Num wr rd) (s : List UInt8) (i : Idt) (h : rightI i = true) (hs : printI wr i = s) : parseR wr rd s = some i := by
  rw [← hs]; exact parse_print hn h
theorem parse_none {wr : Int → List UInt8} {rd : List UInt8 → Option Int} (s : List UInt8) (h : ∀ i, rightI i = true → printI wr i ≠ s) : parseR wr rd s = none := by
  cases e : parseR wr rd s with
  | none => rfl
  | some i => exact absurd (parse_only e).2 (h i (parse_only e).1)
end Go.Proofs.YtpelehhmdcjikaaGreatDoor

/-
  Layer 9, plain: records, printed and parsed line by line, over any writer and reader of ids and idents; nothing of the program.
-/
namespace Go.Proofs.YtpelehhmdcjikaaGreatDoor
set_option linter.unusedVariables false
set_option linter.unusedSimpArgs false
structure Rcd where
  tree : List UInt8
  parents : List (List UInt8)
  author : Idt
  committer : Idt
  text : List UInt8
def idZ : List UInt8 := List.replicate 20 0
def treeW : List UInt8 := [116, 114, 101, 101, 32]
def parentW : List UInt8 := [112, 97, 114, 101, 110, 116, 32]
def authorW : List UInt8 := [97, 117, 116, 104, 111, 114, 32]
def committerW : List UInt8 := [99, 111, 109, 109, 105, 116, 116, 101, 114, 32]
/-- Ids have twenty bytes: so says their type. -/
structure Rcd.Fit (c : Rcd) : Prop where
  tree : c.tree.length = 20
  parents : ∀ p ∈ c.parents, p.length = 20
def parentsR (ps : List (List UInt8)) : Bool := decide (∀ p ∈ ps, p ≠ idZ) && decide ps.Nodup
def rightR (c : Rcd) : Bool := decide (c.tree ≠ idZ) && decide (c.parents.length ≤ 16) && parentsR c.parents && rightI c.author && rightI c.committer && decide (c.text.length ≤ 32768) && decide (∀ d ∈ c.text, d ≠ 0)
theorem rightR_iff (c : Rcd) : rightR c = true ↔ c.tree ≠ idZ ∧ c.parents.length ≤ 16 ∧ parentsR c.parents = true ∧ rightI c.author = true ∧ rightI c.committer = true ∧ c.text.length ≤ 32768 ∧ ∀ d ∈ c.text, d ≠ 0 := by
  unfold rightR
  simp only [Bool.and_eq_true, decide_eq_true_eq, and_assoc]
/-- None is zero and none stands ahead of itself: by places. -/
theorem parentsR_iff (ps : List (List UInt8)) : parentsR ps = true ↔ ∀ j (h : j < ps.length), ps[j] ≠ idZ ∧ ps[j] ∉ ps.take j := by
  unfold parentsR
  rw [Bool.and_eq_true, decide_eq_true_eq, decide_eq_true_eq]
  constructor
  · rintro ⟨h1, h2⟩ j hj
    refine ⟨h1 _ (List.getElem_mem hj), fun hm => ?_⟩
    obtain ⟨i, hi, e⟩ := List.mem_iff_getElem.1 hm
    rw [List.getElem_take] at e
    have hil : i < j := by rw [List.length_take] at hi; omega
    exact (List.pairwise_iff_getElem.1 h2) i j (by omega) hj hil e
  · intro h
    refine ⟨fun p hp => ?_, ?_⟩
    · obtain ⟨i, hi, e⟩ := List.mem_iff_getElem.1 hp
      rw [← e]; exact (h i hi).1
    · refine List.pairwise_iff_getElem.2 fun i j hi hj hij e => (h j hj).2 ?_
      refine List.mem_iff_getElem.2 ⟨i, by rw [List.length_take]; omega, ?_⟩
      rw [List.getElem_take]; exact e
theorem parents_bad {ps : List (List UInt8)} (j : Nat) (hj : j < ps.length) (h : ps[j] = idZ ∨ ps[j] ∈ ps.take j) : parentsR ps = false := by
  cases e : parentsR ps with
  | false => rfl
  | true =>
    have := (parentsR_iff ps).1 e j hj
    rcases h with h | h
    · exact absurd h this.1
    · exact absurd h this.2
/-- A line, and what stands behind it. -/
def lineT (w x r : List UInt8) : List UInt8 := w ++ (x ++ 10 :: r)
def eolL (s : List UInt8) : Nat := s.findIdx (· == 10)
def lineL (s w : List UInt8) : Option (List UInt8 × List UInt8) :=
  if eolL s < s.length ∧ (s.take (eolL s)).take w.length = w then some ((s.take (eolL s)).drop w.length, s.drop (eolL s + 1)) else none
def noEol (x : List UInt8) : Prop := ∀ d ∈ x, d ≠ 10
theorem eol_at {l : List UInt8} (h : noEol l) (r : List UInt8) : eolL (l ++ 10 :: r) = l.length := find_at 10 l r h
theorem line_at {l : List UInt8} (h : noEol l) (r w : List UInt8) : lineL (l ++ 10 :: r) w = if l.take w.length = w then some (l.drop w.length, r) else none := by
  unfold lineL
  rw [eol_at h]
  have e1 : (l ++ 10 :: r).take l.length = l := List.take_left
  have e2 : (l ++ 10 :: r).drop (l.length + 1) = r := by
    have : l ++ 10 :: r = (l ++ [10]) ++ r := by simp
    rw [this]; exact List.drop_left' (by simp)
  rw [e1, e2]
  have hl : l.length < (l ++ 10 :: r).length := by simp
  by_cases hc : l.take w.length = w
  · rw [if_pos ⟨hl, hc⟩, if_pos hc]
  · rw [if_neg (fun q => hc q.2), if_neg hc]
theorem line_print {w x : List UInt8} (hw : noEol w) (hx : noEol x) (r : List UInt8) : lineL (lineT w x r) w = some (x, r) := by
  have e : lineT w x r = (w ++ x) ++ 10 :: r := by unfold lineT; simp
  have hc : noEol (w ++ x) := fun d hd => by
    rcases List.mem_append.1 hd with q | q
    · exact hw d q
    · exact hx d q
  rw [e, line_at hc, List.take_left, if_pos rfl, List.drop_left]
theorem line_lone {s : List UInt8} (h : noEol s) (w : List UInt8) : lineL s w = none := by
  unfold lineL
  rw [if_neg]
  rintro ⟨q, -⟩
  have := List.findIdx_getElem (w := q)
  simp only [beq_iff_eq] at this
  exact h _ (List.getElem_mem q) this
theorem line_first {w : List UInt8} (c d : UInt8) (hcd : c ≠ d) (s : List UInt8) : lineL (c :: s) (d :: w) = none := by
  unfold lineL
  rw [if_neg]
  rintro ⟨-, q⟩
  cases e : eolL (c :: s) with
  | zero => rw [e] at q; simp at q
  | succ n =>
    rw [e] at q
    simp only [List.take_succ_cons, List.length_cons, List.cons.injEq] at q
    exact hcd q.1
theorem line_only {s w x r : List UInt8} (h : lineL s w = some (x, r)) : s = lineT w x r ∧ noEol x := by
  unfold lineL at h
  by_cases hc : eolL s < s.length ∧ (s.take (eolL s)).take w.length = w
  · rw [if_pos hc] at h
    obtain ⟨rfl, rfl⟩ := Prod.mk.inj (Option.some.inj h)
    have h10 : s[eolL s]'hc.1 = 10 := beq_iff_eq.1 (List.findIdx_getElem (p := fun c : UInt8 => c == 10) (w := hc.1))
    have hno : noEol (s.take (eolL s)) := by
      intro d hd e
      obtain ⟨i, hi, q⟩ := List.mem_iff_getElem.1 hd
      rw [List.getElem_take] at q
      rw [List.length_take] at hi
      have := List.not_of_lt_findIdx (p := fun c : UInt8 => c == 10) (xs := s) (i := i) (by unfold eolL at hi; omega)
      simp only [beq_eq_false_iff_ne, ne_eq, Bool.not_eq_true] at this
      exact this (q.trans e)
    refine ⟨?_, fun d hd => hno d ((List.drop_subset _ _) hd)⟩
    unfold lineT
    rw [← List.append_assoc]
    have e1 : w ++ (s.take (eolL s)).drop w.length = s.take (eolL s) := by
      conv => lhs; arg 1; rw [← hc.2]
      exact List.take_append_drop _ _
    rw [e1]
    conv => lhs; rw [← List.take_append_drop (eolL s) s, List.drop_eq_getElem_cons hc.1, h10]
  · rw [if_neg hc] at h; cases h
theorem noEol_tree : noEol treeW := by unfold noEol; decide
theorem noEol_parent : noEol parentW := by unfold noEol; decide
theorem noEol_author : noEol authorW := by unfold noEol; decide
theorem noEol_committer : noEol committerW := by unfold noEol; decide
def parsT (hx : List UInt8 → List UInt8) : List (List UInt8) → List UInt8 → List UInt8
  | [], r => r
  | p :: ps, r => lineT parentW (hx p) (parsT hx ps r)
def printC (hx : List UInt8 → List UInt8) (pr : Idt → List UInt8) (c : Rcd) : List UInt8 :=
  lineT treeW (hx c.tree) (parsT hx c.parents (lineT authorW (pr c.author) (lineT committerW (pr c.committer) (10 :: c.text))))
/-- Writers and readers of ids and idents that fit. -/
structure Wr (hx : List UInt8 → List UInt8) (un : List UInt8 → Option (List UInt8)) (pr : Idt → List UInt8) (pa : List UInt8 → Option Idt) : Prop where
  hb : ∀ l, l.length = 20 → un (hx l) = some l
  ho : ∀ s l, un s = some l → l.length = 20 ∧ hx l = s
  hc : ∀ l, noEol (hx l)
  ib : ∀ i, rightI i = true → pa (pr i) = some i
  io : ∀ s i, pa s = some i → rightI i = true ∧ pr i = s
  ic : ∀ i, rightI i = true → noEol (pr i)
/-- Parents, so many at the most. -/
def parsL (un : List UInt8 → Option (List UInt8)) : Nat → List UInt8 → Option (List (List UInt8) × List UInt8)
  | 0, s => match lineL s parentW with
    | none => some ([], s)
    | some _ => none
  | n + 1, s => match lineL s parentW with
    | none => some ([], s)
    | some (x, r) => match un x with
      | none => none
      | some p => (parsL un n r).map fun q => (p :: q.1, q.2)
/-- What stands ahead of the text. -/
def whoL (pa : List UInt8 → Option Idt) (s : List UInt8) : Option (Idt × Idt × List UInt8) :=
  match lineL s authorW with
  | none => none
  | some (x, r) => match pa x with
    | none => none
    | some a => match lineL r committerW with
      | none => none
      | some (y, q) => match pa y with
        | none => none
        | some c => match q with
          | [] => none
          | d :: t => if d = 10 then some (a, c, t) else none
/-- The document's way to9 parse. -/
def parseC (un : List UInt8 → Option (List UInt8)) (pa : List UInt8 → Option Idt) (s : List UInt8) : Option Rcd :=
  match lineL s treeW with
  | none => none
  | some (x, r) => match un x with
    | none => none
    | some t => match parsL un 16 r with
      | none => none
      | some (ps, q) => match whoL pa q with
        | none => none
        | some (a, c, tx) => if rightR ⟨t, ps, a, c, tx⟩ = true then some ⟨t, ps, a, c, tx⟩ else none
section
variable {hx : List UInt8 → List UInt8} {un : List UInt8 → Option (List UInt8)} {pr : Idt → List UInt8} {pa : List UInt8 → Option Idt}
theorem pars_only (W : Wr hx un pr pa) : ∀ (n : Nat) (s : List UInt8) (ps : List (List UInt8)) (r : List UInt8), parsL un n s = some (ps, r) → s = parsT hx ps r ∧ ps.length ≤ n ∧ (∀ p ∈ ps, p.length = 20) ∧ lineL r parentW = none
  | 0, s, ps, r, h => by
    unfold parsL at h
    cases e : lineL s parentW with
    | some q => rw [e] at h; cases h
    | none =>
      rw [e] at h
      obtain ⟨rfl, rfl⟩ := Prod.mk.inj (Option.some.inj h)
      exact ⟨rfl, Nat.le_refl _, by simp, e⟩
  | n + 1, s, ps, r, h => by
    unfold parsL at h
    cases e : lineL s parentW with
    | none =>
      rw [e] at h
      obtain ⟨rfl, rfl⟩ := Prod.mk.inj (Option.some.inj h)
      exact ⟨rfl, Nat.zero_le _, by simp, e⟩
    | some q =>
      obtain ⟨x, t⟩ := q
      rw [e] at h
      simp only at h
      cases e2 : un x with
      | none => rw [e2] at h; cases h
      | some p =>
        rw [e2] at h
        simp only at h
        cases e3 : parsL un n t with
        | none => rw [e3] at h; cases h
        | some q =>
          obtain ⟨qs, u⟩ := q
          rw [e3] at h
          obtain ⟨rfl, rfl⟩ := Prod.mk.inj (Option.some.inj h)
          obtain ⟨g1, g2, g3, g4⟩ := pars_only W n t qs u e3
          obtain ⟨l1, l2⟩ := W.ho x p e2
          refine ⟨?_, by simpa using g2, ?_, g4⟩
          · show s = lineT parentW (hx p) (parsT hx qs u)
            rw [l2, ← g1]; exact (line_only e).1
          · intro q hq
            rcases List.mem_cons.1 hq with rfl | hq
            · exact l1
            · exact g3 q hq
theorem who_only (W : Wr hx un pr pa) {s : List UInt8} {a c : Idt} {t : List UInt8} (h : whoL pa s = some (a, c, t)) : s = lineT authorW (pr a) (lineT committerW (pr c) (10 :: t)) ∧ rightI a = true ∧ rightI c = true := by
  unfold whoL at h
  cases e1 : lineL s authorW with
  | none => rw [e1] at h; cases h
  | some q =>
    obtain ⟨x, r⟩ := q
    rw [e1] at h
    simp only at h
    cases e2 : pa x with
    | none => rw [e2] at h; cases h
    | some a' =>
      rw [e2] at h
      simp only at h
      cases e3 : lineL r committerW with
      | none => rw [e3] at h; cases h
      | some q =>
        obtain ⟨y, u⟩ := q
        rw [e3] at h
        simp only at h
        cases e4 : pa y with
        | none => rw [e4] at h; cases h
        | some c' =>
          rw [e4] at h
          simp only at h
          cases u with
          | nil => cases h
          | cons d t' =>
            simp only at h
            by_cases hd : d = 10
            · rw [if_pos hd] at h
              simp only [Option.some.injEq, Prod.mk.injEq] at h
              obtain ⟨rfl, rfl, rfl⟩ := h
              subst hd
              obtain ⟨i1, i2⟩ := W.io x a' e2
              obtain ⟨k1, k2⟩ := W.io y c' e4
              refine ⟨?_, i1, k1⟩
              rw [i2, k2, ← (line_only e3).1]
              exact (line_only e1).1
            · rw [if_neg hd] at h; cases h
/-- What is parsed is right, and prints so. -/
theorem parse_onlyC (W : Wr hx un pr pa) {s : List UInt8} {c : Rcd} (h : parseC un pa s = some c) : c.Fit ∧ rightR c = true ∧ printC hx pr c = s := by
  unfold parseC at h
  cases e1 : lineL s treeW with
  | none => rw [e1] at h; cases h
  | some q =>
    obtain ⟨x, r⟩ := q
    rw [e1] at h
    simp only at h
    cases e2 : un x with
    | none => rw [e2] at h; cases h
    | some t =>
      rw [e2] at h
      simp only at h
      cases e3 : parsL un 16 r with
      | none => rw [e3] at h; cases h
      | some q =>
        obtain ⟨ps, u⟩ := q
        rw [e3] at h
        simp only at h
        cases e4 : whoL pa u with
        | none => rw [e4] at h; cases h
        | some q =>
          obtain ⟨a, d, tx⟩ := q
          rw [e4] at h
          simp only at h
          by_cases hr : rightR ⟨t, ps, a, d, tx⟩ = true
          · rw [if_pos hr] at h
            cases Option.some.inj h
            obtain ⟨l1, l2⟩ := W.ho x t e2
            obtain ⟨g1, g2, g3, g4⟩ := pars_only W 16 r ps u e3
            refine ⟨⟨l1, g3⟩, hr, ?_⟩
            unfold printC
            simp only
            rw [← (who_only W e4).1, ← g1, l2]
            exact (line_only e1).1.symm
          · rw [if_neg hr] at h; cases h
end
section
variable {un : List UInt8 → Option (List UInt8)}
theorem line_len {s w x r : List UInt8} (h : lineL s w = some (x, r)) : s.length = w.length + x.length + 1 + r.length := by
  rw [(line_only h).1]; unfold lineT; simp; omega
end
end Go.Proofs.YtpelehhmdcjikaaGreatDoor

/-
  Small words for walks over byte slices: what lies in a slice of bytes, and 'string(b)' of it.
-/
namespace Go.Proofs.YtpelehhmdcjikaaGreatDoor
open Go.RowKit
set_option linter.unusedVariables false
theorem tup_int {k : IntKind} {a b : Int} {v : Value} (h : a = b) : Ending.returned (.tuple #[.int k a, v]) = .returned (.tuple #[.int k b, v]) := by rw [h]
theorem ret_int {k : IntKind} {a b : Int} (h : a = b) : Ending.returned (.int k a) = .returned (.int k b) := by rw [h]
theorem ret_str {a b : List UInt8} (h : a = b) : Ending.returned (.string ⟨a.toArray⟩) = .returned (.string ⟨b.toArray⟩) := by rw [h]
theorem ret_bool {a b : Bool} (h : a = b) : Ending.returned (.bool a) = .returned (.bool b) := by rw [h]
/-- What lies at the head of a slice of bytes: of an empty one nothing is said. -/
def BAt (w : World) (a : Option Addr) (l : List UInt8) : Prop :=
  0 < l.length → ∃ b o, a = some ⟨b, o, none⟩ ∧ b < w.heap.size ∧ ∀ i (h : i < l.length), w.cell? ⟨b, o + i, none⟩ = some (.int .u8 (l[i]).toNat)
theorem BAt.nil (w : World) (a : Option Addr) : BAt w a [] := fun h => absurd h (Nat.lt_irrefl 0)
theorem BAt.below {w w' : World} {a : Option Addr} {l : List UInt8} (h : BAt w a l) {B : Nat} (hb : Below B w w') (hB : w.heap.size ≤ B) : BAt w' a l := fun hp => by
  obtain ⟨b, o, rfl, hlt, hc⟩ := h hp
  exact ⟨b, o, rfl, Nat.lt_of_lt_of_le hlt hb.size, fun i hi => (hb.cell (p := ⟨b, o + i, none⟩) (by show b < B; omega)).trans (hc i hi)⟩
theorem BAt.keep {w w' : World} {a : Option Addr} {l : List UInt8} (h : BAt w a l) (hb : Below w.heap.size w w') : BAt w' a l := h.below hb (Nat.le_refl _)
theorem size_toArray (l : List UInt8) : (⟨l.toArray⟩ : ByteArray).size = l.length := by simp [ByteArray.size]
theorem bytes_append (a b : List UInt8) : (⟨a.toArray⟩ ++ ⟨b.toArray⟩ : ByteArray) = ⟨(a ++ b).toArray⟩ := by
  apply ByteArray.ext
  simp
theorem add_lists {P : Program} (w : World) (a b : List UInt8) (h : a.length + b.length ≤ 9223372036854775807) :
    (Op.stringOp .add ⟨a.toArray⟩ ⟨b.toArray⟩).run P w = .ok (.string ⟨(a ++ b).toArray⟩) w := by
  rw [← bytes_append]
  exact run_string_add_sum w _ _ (by rw [size_toArray, size_toArray]; exact h)
theorem strOfNums_toNat (l : List UInt8) : strOfNums (l.map fun c => (c.toNat : Int)) = ⟨l.toArray⟩ := by
  unfold strOfNums
  congr 2
  rw [List.map_map]
  conv => rhs; rw [← List.map_id l]
  apply List.map_congr_left
  intro c _
  simp
/-- 'string(b)'. -/
theorem BAt.conv {P : Program} {w : World} {a : Option Addr} {l : List UInt8} (h : BAt w a l) (c : Nat) (src e : TypeId) (hs : P.underlying src = some (.slice e)) (he : P.underlying e = some (.int .u8)) :
    ∀ dst, P.underlying dst = some .string → (convert src dst (.slice a l.length c)).run P w = .ok (.string ⟨l.toArray⟩) w := by
  intro dst hd
  by_cases hp : 0 < l.length
  · obtain ⟨b, o, rfl, _, hc⟩ := h hp
    rw [← strOfNums_toNat]
    exact run_convert_bytes_arg w src e hs he b o l.length c (l.map fun c => (c.toNat : Int)) (by simp) (fun i hi => by rw [hc i hi]; simp [List.getD, hi]) dst hd
  · obtain rfl : l = [] := List.eq_nil_of_length_eq_zero (by omega)
    rw [run_convert_bytes_string w src dst e _ _ c hs he hd]
    cases a <;> simp [Conv.bytesToString, loadCells]
    all_goals rfl
end Go.Proofs.YtpelehhmdcjikaaGreatDoor

/-
  An id as a value; two new blocks.
-/
namespace Go.Proofs.YtpelehhmdcjikaaGreatDoor
open Go.RowKit
set_option linter.unusedVariables false
/-- An id as a value. -/
def idv (l : List UInt8) : Value := .agg (Lib.byteCells l).toArray
theorem info29 : (Tryz.prog.info? 24).map (·.size) = some 20 := by kernel_rfl
theorem two_new (w : World) (A B : Obj) : ((w.alloc A).alloc B).heap[w.heap.size]? = some A :=
  (Below.heap_alloc (w.alloc A) B w.heap.size (by simp)).trans (heap_alloc_new w A)
end Go.Proofs.YtpelehhmdcjikaaGreatDoor

/-
  Ids as values: their cells, held against each other; what a block holds.
-/
namespace Go.Proofs.YtpelehhmdcjikaaGreatDoor
set_option maxRecDepth 20000
open Go.RowKit
set_option linter.unusedVariables false
set_option linter.unusedSimpArgs false
theorem lt_of_heap {w : World} {b : Nat} {o : Obj} (h : w.heap[b]? = some o) : b < w.heap.size := by
  rcases Nat.lt_or_ge b w.heap.size with h' | h'
  · exact h'
  · simp [Array.getElem?_eq_none h'] at h
theorem not_frozen {w : World} {g : Nat} {cs : Array Value} {t : TypeId} (h : w.heap[g]? = some (.cells cs t (0, 0))) (i : Nat) : w.frozen? ⟨g, i, none⟩ = false := by
  simp [World.frozen?, h]
theorem u8_lt (b : UInt8) : (0 : Int) ≤ b.toNat ∧ (b.toNat : Int) < 256 := by have := b.toNat_lt; omega
theorem heap_set {w : World} {g : Nat} {cs : Array Value} {t : TypeId} {fr : Nat × Nat} (h : w.heap[g]? = some (.cells cs t fr)) (i : Nat) (v : Value) : (w.setCell ⟨g, i, none⟩ v).heap[g]? = some (.cells (cs.setIfInBounds i v) t fr) := by
  simp [World.setCell, Array.getElem?_modify, h]
theorem set_get (cs : Array Value) (i j : Nat) (v : Value) (h : i < cs.size) : (cs.setIfInBounds i v)[j]? = if j = i then some v else cs[j]? := by
  rw [Array.getElem?_setIfInBounds]
  by_cases e : j = i
  · subst e; simp [h]
  · rw [if_neg (fun q => e q.symm), if_neg e]
theorem bc_len (l : List UInt8) : (Lib.byteCells l).length = l.length := by simp [Lib.byteCells]
theorem bc_at (l : List UInt8) (i : Nat) (h : i < l.length) : (Lib.byteCells l)[i]? = some (.int .u8 (l.getD i 0).toNat) := by simp [Lib.byteCells, h]
theorem arr_bc {arr : Array Value} {l : List UInt8} (hs : arr.size = l.length) (h : ∀ j, j < l.length → arr[j]? = some (.int .u8 (l.getD j 0).toNat)) : arr = (Lib.byteCells l).toArray := by
  apply Array.ext_getElem?
  intro i
  have e : (Lib.byteCells l).toArray[i]? = (Lib.byteCells l)[i]? := by simp
  by_cases hi : i < l.length
  · rw [h i hi, e, bc_at l i hi]
  · rw [Array.getElem?_eq_none (by omega), e, List.getElem?_eq_none (by rw [bc_len]; omega)]
theorem bc_all (l : List UInt8) : (Lib.byteCells l).toArray.all (·.oneCell') = true := by
  rw [Array.all_eq_true]
  intro i hi
  simp [Lib.byteCells, Value.oneCell']
/-- An array's zero value, carried by a name. -/
theorem zero_arr {t : TypeId} {n : Nat} {z : Array Value} (h : (Tryz.prog.info? t).map (fun i => (i.zero, i.size)) = some (some (.agg z), n)) : ∀ w, (zeroValue t).run Tryz.prog w = .ok (.agg z) w := (zero_of_info h).1
theorem z29 : ∃ z : Array Value, (Tryz.prog.info? 24).map (fun i => (i.zero, i.size)) = some (some (.agg z), 20) ∧ z = Array.replicate 20 (.int .u8 0) := ⟨Array.replicate 20 (.int .u8 0), by kernel_rfl, rfl⟩
theorem eql_idv (w : World) (l m : List UInt8) (h : l.length = 20) (h' : m.length = 20) : (binOp .eql 24 (idv l) (idv m)).run Tryz.prog w = .ok (.bool (l == m)) w :=
  run_eql_bytes (P := Tryz.prog) w 24 5 20 Tryz.underlying24 Tryz.underlying5 Tryz.sizeOf5 l m h h'
theorem neq_idv (w : World) (l m : List UInt8) (h : l.length = 20) (h' : m.length = 20) : (binOp .neq 24 (idv l) (idv m)).run Tryz.prog w = .ok (.bool (!(l == m))) w := by
  have e := run_equalIn_bytes (P := Tryz.prog) w 9998 24 5 20 Tryz.underlying24 Tryz.underlying5 Tryz.sizeOf5 l m h h'
  unfold idv
  rw [run_neq_struct]
  erw [e]
  rfl
theorem heap_keep {w w' : World} {g : Nat} {o : Obj} (h : w.heap[g]? = some o) (b : Below w.heap.size w w') : w'.heap[g]? = some o := (b.block g (Array.getElem?_eq_some_iff.1 h).1).trans h
end Go.Proofs.YtpelehhmdcjikaaGreatDoor
