/-
  Layer 6, plain: the program's way to read an ident's text, held against the document's; nothing of the program's code.
-/
import Derived.Test.YtagfnnpklefhhaaDoorJa
import Derived.Lib.IndexMore
namespace Go.Proofs.YtagfnnpklefhhaaDoor
set_option linter.unusedVariables false
set_option linter.unusedSimpArgs false

/-- A text is cut where the separator stands, if its first byte is not ahead of it. -/
theorem cut_at (c : UInt8) (sep a b : List UInt8) (h : ∀ d ∈ a, d ≠ c) : Lib.cut (a ++ c :: (sep ++ b)) (c :: sep) = (a, b, true) := by
  have hi : Lib.index (a ++ c :: (sep ++ b)) (c :: sep) = a.length := by
    refine Lib.index_first (by simp) ?_ (fun j hj => ?_)
    · unfold Lib.occAt
      rw [List.drop_left, List.isPrefixOf_iff_prefix]
      exact ⟨b, rfl⟩
    · cases ho : Lib.occAt (a ++ c :: (sep ++ b)) (c :: sep) j with
      | false => rfl
      | true =>
        have := Lib.occAt_head rfl ho
        rw [List.getElem?_append_left hj, List.getElem?_eq_getElem hj] at this
        exact absurd (Option.some.inj this) (h _ (List.getElem_mem hj))
  unfold Lib.cut
  rw [hi, if_pos (by omega), Int.toNat_natCast, List.take_left]
  have e : a ++ c :: (sep ++ b) = (a ++ (c :: sep)) ++ b := by simp
  rw [e]
  congr 1
  rw [List.drop_left' (by simp)]
/-- What the program reads, part by part. -/
def partsL (rd : List UInt8 → Option Int) (s : List UInt8) : Option Idt :=
  if (Lib.cut s [60]).2.2 = true ∧ (Lib.cut (Lib.cut s [60]).2.1 [62, 32]).2.2 = true ∧ (Lib.cut (Lib.cut (Lib.cut s [60]).2.1 [62, 32]).2.1 [32]).2.2 = true then
    match rd (Lib.cut (Lib.cut (Lib.cut s [60]).2.1 [62, 32]).2.1 [32]).1 with
    | none => none
    | some v => match zoneR (Lib.cut (Lib.cut (Lib.cut s [60]).2.1 [62, 32]).2.1 [32]).2.1 with
      | none => none
      | some z => some ⟨Lib.trimSuffix (Lib.cut s [60]).1 [32], (Lib.cut (Lib.cut s [60]).2.1 [62, 32]).1, v, z⟩
  else none
theorem suffix_ahead (name : List UInt8) (h : wordL name = true) : Lib.trimSuffix (aheadT name) [32] = name := by
  unfold aheadT
  split
  · rename_i e; rw [e]; rfl
  · unfold Lib.trimSuffix Lib.hasSuffix
    rw [if_pos (by rw [List.isSuffixOf_iff_suffix]; exact ⟨name, rfl⟩)]
    simp
theorem parts_print {wr : Int → List UInt8} {rd : List UInt8 → Option Int} (hn : Num wr rd) (hd : ∀ v, 0 ≤ v → v ≤ 1099511627775 → ∀ c ∈ wr v, c ≠ 32) {i : Idt} (h : rightI i = true) : partsL rd (printI wr i) = some i := by
  obtain ⟨h1, h2, h3, h4, h5, h6⟩ := (right_iff i).1 h
  have hp : printI wr i = textT i.name i.email (wr i.whn) (zoneT i.zone) := by unfold printI; rw [if_pos h]
  obtain ⟨name, email, v, z⟩ := i
  simp only at h1 h2 h3 h4 h5 h6 hp
  have hrd := hn.back v h3 h4
  have hbl := hd v h3 h4
  have hz := zone_read z h5 h6
  rw [hp]
  generalize wr v = num at hrd hbl
  generalize zoneT z = zt at hz
  have c1 : Lib.cut (textT name email num zt) [60] = (aheadT name, email ++ 62 :: 32 :: (num ++ 32 :: zt), true) := by
    have := cut_at 60 [] (aheadT name) (email ++ 62 :: 32 :: (num ++ 32 :: zt)) (ahead_no 60 (by decide) name (word_no h1).1)
    unfold textT
    simpa using this
  have c2 : Lib.cut (email ++ 62 :: 32 :: (num ++ 32 :: zt)) [62, 32] = (email, num ++ 32 :: zt, true) := by
    have := cut_at 62 [32] email (num ++ 32 :: zt) (word_no h2).2
    simpa using this
  have c3 : Lib.cut (num ++ 32 :: zt) [32] = (num, zt, true) := by
    have := cut_at 32 [] num zt hbl
    simpa using this
  unfold partsL
  rw [c1]
  simp only [c2, c3, hrd, hz, suffix_ahead name h1]
  simp
/-- The program's way to parse. -/
def parseP (wr : Int → List UInt8) (rd : List UInt8 → Option Int) (s : List UInt8) : Option Idt :=
  match partsL rd s with
  | none => none
  | some i => if rightI i = true ∧ printI wr i = s then some i else none
theorem parse_same {wr : Int → List UInt8} {rd : List UInt8 → Option Int} (hn : Num wr rd) (hd : ∀ v, 0 ≤ v → v ≤ 1099511627775 → ∀ c ∈ wr v, c ≠ 32) (s : List UInt8) : parseP wr rd s = parseR wr rd s := by
  cases e : parseP wr rd s with
  | some i =>
    unfold parseP at e
    cases e2 : partsL rd s with
    | none => rw [e2] at e; cases e
    | some j =>
      rw [e2] at e
      simp only at e
      by_cases hc : rightI j = true ∧ printI wr j = s
      · rw [if_pos hc] at e
        obtain rfl := Option.some.inj e
        exact (parse_one hn s j hc.1 hc.2).symm
      · rw [if_neg hc] at e; cases e
  | none =>
    refine (parse_none s (fun i hi hs => ?_)).symm
    have hq := parts_print hn hd hi
    rw [hs] at hq
    unfold parseP at e
    rw [hq] at e
    simp only at e
    rw [if_pos ⟨hi, hs⟩] at e
    cases e
end Go.Proofs.YtagfnnpklefhhaaDoor
