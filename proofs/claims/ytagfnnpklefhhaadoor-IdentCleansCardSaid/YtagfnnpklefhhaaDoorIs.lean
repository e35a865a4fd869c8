/-
  Layer 6, plain: idents, printed and parsed, over any writer and reader of numbers; nothing of the program.
-/
import Derived.Test.YtagfnnpklefhhaaDoorIr
namespace Go.Proofs.YtagfnnpklefhhaaDoor
set_option linter.unusedVariables false
set_option linter.unusedSimpArgs false

structure Idt where
  name : List UInt8
  email : List UInt8
  whn : Int
  zone : Int
def rightI (i : Idt) : Bool := wordL i.name && wordL i.email && decide (0 ≤ i.whn) && decide (i.whn ≤ 1099511627775) && decide (-840 ≤ i.zone) && decide (i.zone ≤ 840)
theorem right_iff (i : Idt) : rightI i = true ↔ wordL i.name = true ∧ wordL i.email = true ∧ 0 ≤ i.whn ∧ i.whn ≤ 1099511627775 ∧ -840 ≤ i.zone ∧ i.zone ≤ 840 := by
  unfold rightI
  simp only [Bool.and_eq_true, decide_eq_true_eq, and_assoc]
def printI (wr : Int → List UInt8) (i : Idt) : List UInt8 := if rightI i = true then textT i.name i.email (wr i.whn) (zoneT i.zone) else []
/-- A writer and a reader of numbers that fit. -/
structure Num (wr : Int → List UInt8) (rd : List UInt8 → Option Int) : Prop where
  back : ∀ v, 0 ≤ v → v ≤ 1099511627775 → rd (wr v) = some v
  some : ∀ v, 0 ≤ v → v ≤ 1099511627775 → 1 ≤ (wr v).length
instance (i : Idt) (wr : Int → List UInt8) (s : List UInt8) : Decidable (rightI i = true ∧ printI wr i = s) := inferInstance
def openI (s : List UInt8) : Nat := s.findIdx (· == 60)
def endI (s : List UInt8) : Nat := s.findIdx (· == 62)
def restI (s : List UInt8) : List UInt8 := s.drop (endI s + 1)
def badA (s : List UInt8) : Prop := s.length ≤ openI s ∨ s.length ≤ endI s ∨ endI s < openI s ∨ (0 < openI s ∧ s.getD (openI s - 1) 0 ≠ 32) ∨ openI s = 1
def badB (r : List UInt8) : Prop := r.length < 8 ∨ r.getD 0 0 ≠ 32 ∨ r.getD (r.length - 6) 0 ≠ 32
instance (s : List UInt8) : Decidable (badA s) := by unfold badA; exact inferInstance
instance (s : List UInt8) : Decidable (badB s) := by unfold badB; exact inferInstance
def candI (s : List UInt8) (v z : Int) : Idt := ⟨if 1 < openI s then s.take (openI s - 1) else [], (s.take (endI s)).drop (openI s + 1), v, z⟩
/-- The document's way to parse. -/
def parseR (wr : Int → List UInt8) (rd : List UInt8 → Option Int) (s : List UInt8) : Option Idt :=
  if badA s then none
  else if badB (restI s) then none
  else match rd (((restI s).take ((restI s).length - 6)).drop 1) with
    | none => none
    | some v => match zoneR ((restI s).drop ((restI s).length - 5)) with
      | none => none
      | some z => if rightI (candI s v z) = true ∧ printI wr (candI s v z) = s then some (candI s v z) else none
theorem find_at (c : UInt8) : ∀ (a x : List UInt8), (∀ d ∈ a, d ≠ c) → (a ++ c :: x).findIdx (· == c) = a.length
  | [], x, _ => by simp [List.findIdx_cons]
  | d :: a, x, h => by
    have hd : (d == c) = false := by rw [beq_eq_false_iff_ne]; exact h d (by simp)
    rw [List.cons_append, List.findIdx_cons, hd, find_at c a x (fun q hq => h q (by simp [hq]))]
    rfl
/-- What is parsed is right, and prints so. -/
theorem parse_only {wr : Int → List UInt8} {rd : List UInt8 → Option Int} {s : List UInt8} {i : Idt} (h : parseR wr rd s = some i) : rightI i = true ∧ printI wr i = s := by
  unfold parseR at h
  by_cases h1 : badA s
  · rw [if_pos h1] at h; cases h
  · rw [if_neg h1] at h
    by_cases h2 : badB (restI s)
    · rw [if_pos h2] at h; cases h
    · rw [if_neg h2] at h
      cases e1 : rd (((restI s).take ((restI s).length - 6)).drop 1) with
      | none => rw [e1] at h; cases h
      | some v =>
        cases e2 : zoneR ((restI s).drop ((restI s).length - 5)) with
        | none => rw [e1, e2] at h; cases h
        | some z =>
          rw [e1, e2] at h
          simp only at h
          by_cases hc : rightI (candI s v z) = true ∧ printI wr (candI s v z) = s
          · rw [if_pos hc] at h
            rw [← Option.some.inj h]; exact hc
          · rw [if_neg hc] at h; cases h
/-- What is printed is parsed. -/
theorem parse_print {wr : Int → List UInt8} {rd : List UInt8 → Option Int} (hn : Num wr rd) {i : Idt} (h : rightI i = true) : parseR wr rd (printI wr i) = some i := by
  obtain ⟨h1, h2, h3, h4, h5, h6⟩ := (right_iff i).1 h
  have hp : printI wr i = textT i.name i.email (wr i.whn) (zoneT i.zone) := by unfold printI; rw [if_pos h]
  obtain ⟨name, email, v, z⟩ := i
  simp only at h1 h2 h3 h4 h5 h6 hp
  have hrd := hn.back v h3 h4
  have hln := hn.some v h3 h4
  have hz := zone_read z h5 h6
  have hzl := zone_len z
  obtain ⟨s, hs⟩ : ∃ s, printI wr ⟨name, email, v, z⟩ = s := ⟨_, rfl⟩
  rw [hs] at hp ⊢
  generalize wr v = num at hrd hln hp
  generalize zoneT z = zt at hz hzl hp
  have ha60 := ahead_no 60 (by decide) name (word_no h1).1
  have ha62 := ahead_no 62 (by decide) name (word_no h1).2
  have ho : openI s = (aheadT name).length := by unfold openI; rw [hp]; exact find_at 60 _ _ ha60
  have he : endI s = (aheadT name).length + 1 + email.length := by
    unfold endI
    have e : s = (aheadT name ++ 60 :: email) ++ 62 :: 32 :: (num ++ 32 :: zt) := by rw [hp]; unfold textT; simp
    rw [e, find_at 62 _ _ ?_]
    · simp; omega
    · intro d hd
      rcases List.mem_append.1 hd with hd | hd
      · exact ha62 d hd
      · rcases List.mem_cons.1 hd with rfl | hd
        · decide
        · exact (word_no h2).2 d hd
  have hsl : s.length = (aheadT name).length + 1 + email.length + 1 + (1 + num.length + 1 + 5) := by
    rw [hp]; unfold textT; simp [hzl]; omega
  have hdrop : s.drop ((aheadT name).length + 1 + email.length + 1) = 32 :: (num ++ 32 :: zt) := by
    have e : s = (aheadT name ++ 60 :: email ++ [62]) ++ 32 :: (num ++ 32 :: zt) := by rw [hp]; unfold textT; simp
    rw [e]
    exact List.drop_left' (by simp; omega)
  have hrl : (32 :: (num ++ 32 :: zt)).length = num.length + 7 := by simp [hzl]
  have hname : (if 1 < (aheadT name).length then s.take ((aheadT name).length - 1) else []) = name ∧ (aheadT name).length ≠ 1 ∧ (0 < (aheadT name).length → s.getD ((aheadT name).length - 1) 0 = 32) := by
    by_cases hnm : name = []
    · subst hnm
      have : (aheadT []).length = 0 := rfl
      rw [this]
      exact ⟨rfl, by omega, by omega⟩
    · have hl : 0 < name.length := by cases name with | nil => exact absurd rfl hnm | cons _ _ => simp
      have e : aheadT name = name ++ [32] := by unfold aheadT; rw [if_neg hnm]
      have e2 : s = name ++ 32 :: (60 :: (email ++ 62 :: 32 :: (num ++ 32 :: zt))) := by rw [hp]; unfold textT; rw [e]; simp
      rw [e, List.length_append, List.length_singleton, Nat.add_sub_cancel]
      refine ⟨?_, by omega, fun _ => ?_⟩
      · rw [if_pos (by omega), e2]; exact List.take_left
      · rw [e2, List.getD_eq_getElem?_getD, List.getElem?_append_right (Nat.le_refl _), Nat.sub_self]; rfl
  have hemail : (s.take ((aheadT name).length + 1 + email.length)).drop ((aheadT name).length + 1) = email := by
    have e : s = (aheadT name ++ [60]) ++ (email ++ 62 :: 32 :: (num ++ 32 :: zt)) := by rw [hp]; unfold textT; simp
    have e3 : (aheadT name ++ [60]).length = (aheadT name).length + 1 := by simp
    rw [e, ← e3, List.take_length_add_append, List.drop_left, List.take_left]
  have hrest : restI s = 32 :: (num ++ 32 :: zt) := by unfold restI; rw [he]; exact hdrop
  have hcand : candI s v z = ⟨name, email, v, z⟩ := by unfold candI; rw [ho, he, hname.1, hemail]
  have hA : ¬ badA s := by
    unfold badA
    rw [ho, he]
    rintro (q | q | q | q | q)
    · omega
    · omega
    · omega
    · exact q.2 (hname.2.2 q.1)
    · exact hname.2.1 q
  have hB : ¬ badB (32 :: (num ++ 32 :: zt)) := by
    unfold badB
    rw [hrl]
    rintro (q | q | q)
    · omega
    · exact q rfl
    · apply q
      rw [show num.length + 7 - 6 = num.length + 1 by omega, List.getD_eq_getElem?_getD, List.getElem?_cons_succ, List.getElem?_append_right (Nat.le_refl _), Nat.sub_self]
      rfl
  have hnum : ((32 :: (num ++ 32 :: zt)).take (num.length + 7 - 6)).drop 1 = num := by
    rw [show num.length + 7 - 6 = num.length + 1 by omega, List.take_succ_cons, List.drop_succ_cons, List.drop_zero, List.take_left]
  have hzt : (32 :: (num ++ 32 :: zt)).drop (num.length + 7 - 5) = zt := by
    rw [show num.length + 7 - 5 = (num.length + 1) + 1 by omega, List.drop_succ_cons, show num ++ 32 :: zt = (num ++ [32]) ++ zt by simp]
    exact List.drop_left' (by simp)
  unfold parseR
  rw [if_neg hA, hrest, if_neg hB, hrl, hnum, hzt, hrd]
  simp only [hz, hcand]
  rw [if_pos ⟨h, hs⟩]
/-- Whoever answers so answers as the document does. -/
theorem parse_one {wr : Int → List UInt8} {rd : List UInt8 → Option Int} (hn : Num wr rd) (s : List UInt8) (i : Idt) (h : rightI i = true) (hs : printI wr i = s) : parseR wr rd s = some i := by
  rw [← hs]; exact parse_print hn h
theorem parse_none {wr : Int → List UInt8} {rd : List UInt8 → Option Int} (s : List UInt8) (h : ∀ i, rightI i = true → printI wr i ≠ s) : parseR wr rd s = none := by
  cases e : parseR wr rd s with
  | none => rfl
  | some i => exact absurd (parse_only e).2 (h i (parse_only e).1)
end Go.Proofs.YtagfnnpklefhhaaDoor
