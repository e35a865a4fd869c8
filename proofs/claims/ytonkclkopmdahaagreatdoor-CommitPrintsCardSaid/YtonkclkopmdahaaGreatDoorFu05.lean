/-
  Texts that belong together, one behind the other.
-/
import Derived.Test.YtonkclkopmdahaaGreatDoorFu04
import Derived.Lib.IndexMore
import Derived.Test.YtonkclkopmdahaaGreatDoorFu02
import Derived.Lib.Bytealg
/-
  Layer 6, plain: the program's way to read an ident's text, held against the document's; nothing of the program's code.
-/
namespace Go.Proofs.YtonkclkopmdahaaGreatDoor
set_option linter.unusedVariables false
set_option linter.unusedSimpArgs false

/-- A text is cut where the separator stands, if its first byte is not ahead of it. -/
theorem cut_at (c : UInt8) (sep a b : List UInt8) (h : ∀ d ∈ a, d ≠ c) : Lib.cut (a ++ c :: (sep ++ b)) (c :: sep) = (a, b, true) := by
  have hi : Lib.index (a ++ c :: (sep ++ b)) (c :: sep) = a.length := by
    refine Lib.index_first (by simp) ?_ (fun j hj => ?_)
    · unfold Lib.occAt
      rw [List.drop_left, List.isPrefixOf_iff_prefix]
      exact ⟨b, rfl⟩
    · cases ho : Lib.occAt (a ++ c :: (sep ++ b)) (c :: sep) j with
      | false => rfl
      | true =>
        have := Lib.occAt_head rfl ho
        rw [List.getElem?_append_left hj, List.getElem?_eq_getElem hj] at this
        exact absurd (Option.some.inj this) (h _ (List.getElem_mem hj))
  unfold Lib.cut
  rw [hi, if_pos (by omega), Int.toNat_natCast, List.take_left]
  have e : a ++ c :: (sep ++ b) = (a ++ (c :: sep)) ++ b := by simp
  rw [e]
  congr 1
  rw [List.drop_left' (by simp)]
/-- What the program reads, part by part. -/
def partsL (rd : List UInt8 → Option Int) (s : List UInt8) : Option Idt :=
  if (Lib.cut s [60]).2.2 = true ∧ (Lib.cut (Lib.cut s [60]).2.1 [62, 32]).2.2 = true ∧ (Lib.cut (Lib.cut (Lib.cut s [60]).2.1 [62, 32]).2.1 [32]).2.2 = true then
    match rd (Lib.cut (Lib.cut (Lib.cut s [60]).2.1 [62, 32]).2.1 [32]).1 with
    | none => none
    | some v => match zoneR (Lib.cut (Lib.cut (Lib.cut s [60]).2.1 [62, 32]).2.1 [32]).2.1 with
      | none => none
      | some z => some ⟨Lib.trimSuffix (Lib.cut s [60]).1 [32], (Lib.cut (Lib.cut s [60]).2.1 [62, 32]).1, v, z⟩
  else none
theorem suffix_ahead (name : List UInt8) (h : wordL name = true) : Lib.trimSuffix (aheadT name) [32] = name := by
  unfold aheadT
  split
  · rename_i e; rw [e]; rfl
  · unfold Lib.trimSuffix Lib.hasSuffix
    rw [if_pos (by rw [List.isSuffixOf_iff_suffix]; exact ⟨name, rfl⟩)]
    simp
theorem parts_print {wr : Int → List UInt8} {rd : List UInt8 → Option Int} (hn : Num wr rd) (hd : ∀ v, 0 ≤ v → v ≤ 1099511627775 → ∀ c ∈ wr v, c ≠ 32) {i : Idt} (h : rightI i = true) : partsL rd (printI wr i) = some i := by
  obtain ⟨h1, h2, h3, h4, h5, h6⟩ := (right_iff i).1 h
  have hp : printI wr i = textT i.name i.email (wr i.whn) (zoneT i.zone) := by unfold printI; rw [if_pos h]
  obtain ⟨name, email, v, z⟩ := i
  simp only at h1 h2 h3 h4 h5 h6 hp
  have hrd := hn.back v h3 h4
  have hbl := hd v h3 h4
  have hz := zone_read z h5 h6
  rw [hp]
  generalize wr v = num at hrd hbl
  generalize zoneT z = zt at hz
  have c1 : Lib.cut (textT name email num zt) [60] = (aheadT name, email ++ 62 :: 32 :: (num ++ 32 :: zt), true) := by
    have := cut_at 60 [] (aheadT name) (email ++ 62 :: 32 :: (num ++ 32 :: zt)) (ahead_no 60 (by decide) name (word_no h1).1)
    unfold textT
    simpa using this
  have c2 : Lib.cut (email ++ 62 :: 32 :: (num ++ 32 :: zt)) [62, 32] = (email, num ++ 32 :: zt, true) := by
    have := cut_at 62 [32] email (num ++ 32 :: zt) (word_no h2).2
    simpa using this
  have c3 : Lib.cut (num ++ 32 :: zt) [32] = (num, zt, true) := by
    have := cut_at 32 [] num zt hbl
    simpa using this
  unfold partsL
  rw [c1]
  simp only [c2, c3, hrd, hz, suffix_ahead name h1]
  simp
/-- The program's way to parse. -/
def parseP (wr : Int → List UInt8) (rd : List UInt8 → Option Int) (s : List UInt8) : Option Idt :=
  match partsL rd s with
  | none => none
  | some i => if rightI i = true ∧ printI wr i = s then some i else none
theorem parse_same {wr : Int → List UInt8} {rd : List UInt8 → Option Int} (hn : Num wr rd) (hd : ∀ v, 0 ≤ v → v ≤ 1099511627775 → ∀ c ∈ wr v, c ≠ 32) (s : List UInt8) : parseP wr rd s = parseR wr rd s := by
  cases e : parseP wr rd s with
  | some i =>
    unfold parseP at e
    cases e2 : partsL rd s with
    | none => rw [e2] at e; cases e
    | some j =>
      rw [e2] at e
      simp only at e
      by_cases hc : rightI j = true ∧ printI wr j = s
      · rw [if_pos hc] at e
        obtain rfl := Option.some.inj e
        exact (parse_one hn s j hc.1 hc.2).symm
      · rw [if_neg hc] at e; cases e
  | none =>
    refine (parse_none s (fun i hi hs => ?_)).symm
    have hq := parts_print hn hd hi
    rw [hs] at hq
    unfold parseP at e
    rw [hq] at e
    simp only at e
    rw [if_pos ⟨hi, hs⟩] at e
    cases e
end Go.Proofs.YtonkclkopmdahaaGreatDoor

/-
  Layer 9, plain: the program's way to read a line and the parents is the document's.
-/
namespace Go.Proofs.YtonkclkopmdahaaGreatDoor
set_option linter.unusedVariables false
set_option linter.unusedSimpArgs false

/-- Parents, so many at the most; what stands behind them stays. -/
def parsQ (un : List UInt8 → Option (List UInt8)) : Nat → List UInt8 → Option (List (List UInt8) × List UInt8)
  | 0, s => some ([], s)
  | n + 1, s => match lineL s parentW with
    | none => some ([], s)
    | some (x, r) => match un x with
      | none => none
      | some p => (parsQ un n r).map fun q => (p :: q.1, q.2)
/-- What a reader of parents hands on. -/
def thenC {α : Type} (F : List (List UInt8) → List UInt8 → Option α) : Option (List (List UInt8) × List UInt8) → Option α
  | none => none
  | some q => F q.1 q.2
theorem pars_way {α : Type} (un : List UInt8 → Option (List UInt8)) : ∀ (n : Nat) (s : List UInt8) (F : List (List UInt8) → List UInt8 → Option α) (hF : ∀ ps q y, lineL q parentW = some y → F ps q = none),
    thenC F (parsL un n s) = thenC F (parsQ un n s)
  | 0, s, F, hF => by
    unfold parsL parsQ
    cases e : lineL s parentW with
    | none => rfl
    | some y => exact (hF [] s y e).symm
  | n + 1, s, F, hF => by
    unfold parsL parsQ
    cases e : lineL s parentW with
    | none => rfl
    | some y =>
      obtain ⟨x, r⟩ := y
      simp only
      cases e2 : un x with
      | none => rfl
      | some p =>
        simp only
        have ih := pars_way un n r (fun ps q => F (p :: ps) q) (fun ps q y h => hF (p :: ps) q y h)
        cases e3 : parsL un n r with
        | none =>
          rw [e3] at ih
          cases e4 : parsQ un n r with
          | none => rfl
          | some z => rw [e4] at ih; exact ih
        | some z =>
          rw [e3] at ih
          cases e4 : parsQ un n r with
          | none => rw [e4] at ih; exact ih
          | some z' => rw [e4] at ih; exact ih
theorem parent_no_author {q : List UInt8} {y : List UInt8 × List UInt8} (h : lineL q parentW = some y) : lineL q authorW = none := by
  obtain ⟨x, r⟩ := y
  rw [(line_only h).1]
  exact line_first 112 97 (by decide) _
theorem parent_no_who {pa : List UInt8 → Option Idt} {q : List UInt8} {y : List UInt8 × List UInt8} (h : lineL q parentW = some y) : whoL pa q = none := by
  unfold whoL; rw [parent_no_author h]
/-- The program's way to parse. -/
def endC (t : List UInt8) (pa : List UInt8 → Option Idt) (ps : List (List UInt8)) (q : List UInt8) : Option Rcd :=
  match whoL pa q with
  | none => none
  | some (a, c, tx) => if rightR ⟨t, ps, a, c, tx⟩ = true then some ⟨t, ps, a, c, tx⟩ else none
theorem parseC_way (un : List UInt8 → Option (List UInt8)) (pa : List UInt8 → Option Idt) (s : List UInt8) :
    parseC un pa s = match lineL s treeW with
      | none => none
      | some (x, r) => match un x with
        | none => none
        | some t => thenC (endC t pa) (parsQ un 16 r) := by
  unfold parseC
  cases e1 : lineL s treeW with
  | none => rfl
  | some y =>
    obtain ⟨x, r⟩ := y
    simp only
    cases e2 : un x with
    | none => rfl
    | some t =>
      simp only
      rw [← pars_way un 16 r (endC t pa) (fun ps q y h => by unfold endC; rw [parent_no_who h])]
      cases e3 : parsL un 16 r with
      | none => rfl
      | some z =>
        obtain ⟨ps, q⟩ := z
        rfl
/-- A loop over the parents: those that stand already, and what is left. -/
def parsP (un : List UInt8 → Option (List UInt8)) (ps : List (List UInt8)) (n : Nat) (s : List UInt8) : Option (List (List UInt8) × List UInt8) := (parsQ un n s).map fun q => (ps ++ q.1, q.2)
section
variable {un : List UInt8 → Option (List UInt8)}
theorem parsP_nil (n : Nat) (s : List UInt8) : parsP un [] n s = parsQ un n s := by
  unfold parsP
  cases parsQ un n s with
  | none => rfl
  | some q => rfl
theorem parsP_zero (ps : List (List UInt8)) (s : List UInt8) : parsP un ps 0 s = some (ps, s) := by unfold parsP parsQ; simp
theorem parsP_stop {s : List UInt8} (h : lineL s parentW = none) (ps : List (List UInt8)) : ∀ n, parsP un ps n s = some (ps, s)
  | 0 => parsP_zero ps s
  | n + 1 => by unfold parsP parsQ; rw [h]; simp
theorem parsP_bad {s x r : List UInt8} (h : lineL s parentW = some (x, r)) (hu : un x = none) (ps : List (List UInt8)) (n : Nat) : parsP un ps (n + 1) s = none := by unfold parsP parsQ; rw [h]; simp only [hu]; rfl
theorem parsP_next {s x r p : List UInt8} (h : lineL s parentW = some (x, r)) (hu : un x = some p) (ps : List (List UInt8)) (n : Nat) : parsP un ps (n + 1) s = parsP un (ps ++ [p]) n r := by
  unfold parsP
  rw [show parsQ un (n + 1) s = (parsQ un n r).map fun q => (p :: q.1, q.2) by rw [parsQ, h]; simp only [hu]]
  cases parsQ un n r with
  | none => rfl
  | some q => simp
end
/-- A line, cut as the program cuts it: first the word off, then at the line's end. -/
theorem line_cut (s w : List UInt8) (hw : noEol w) : lineL s w = if w <+: s then (if eolL (s.drop w.length) < (s.drop w.length).length then some ((s.drop w.length).take (eolL (s.drop w.length)), (s.drop w.length).drop (eolL (s.drop w.length) + 1)) else none) else none := by
  by_cases h : w <+: s
  · rw [if_pos h]
    obtain ⟨t, rfl⟩ := h
    rw [List.drop_left]
    by_cases h2 : eolL t < t.length
    · rw [if_pos h2]
      have h10 : t[eolL t]'h2 = 10 := beq_iff_eq.1 (List.findIdx_getElem (p := fun c : UInt8 => c == 10) (w := h2))
      have hno : noEol (t.take (eolL t)) := by
        intro d hd e
        obtain ⟨i, hi, q⟩ := List.mem_iff_getElem.1 hd
        rw [List.getElem_take] at q
        rw [List.length_take] at hi
        have := List.not_of_lt_findIdx (p := fun c : UInt8 => c == 10) (xs := t) (i := i) (by unfold eolL at hi; omega)
        simp only [beq_eq_false_iff_ne, ne_eq, Bool.not_eq_true] at this
        exact this (q.trans e)
      have e : w ++ t = lineT w (t.take (eolL t)) (t.drop (eolL t + 1)) := by
        unfold lineT
        congr 1
        conv => lhs; rw [← List.take_append_drop (eolL t) t, List.drop_eq_getElem_cons h2, h10]
      rw [e]
      exact line_print hw hno _
    · rw [if_neg h2]
      refine line_lone (fun d hd e => ?_) w
      rcases List.mem_append.1 hd with hd | hd
      · exact hw d hd e
      · refine h2 ?_
        unfold eolL
        exact List.findIdx_lt_length.2 ⟨d, hd, by simp [e]⟩
  · rw [if_neg h]
    cases e : lineL s w with
    | none => rfl
    | some y =>
      obtain ⟨x, r⟩ := y
      exact absurd ⟨x ++ 10 :: r, by rw [(line_only e).1]; rfl⟩ h
theorem cut_eol (s : List UInt8) : Lib.cut s [10] = if eolL s < s.length then (s.take (eolL s), s.drop (eolL s + 1), true) else (s, [], false) := by
  by_cases h2 : eolL s < s.length
  · rw [if_pos h2]
    have h10 : s[eolL s]'h2 = 10 := beq_iff_eq.1 (List.findIdx_getElem (p := fun c : UInt8 => c == 10) (w := h2))
    have hno : noEol (s.take (eolL s)) := by
      intro d hd e
      obtain ⟨i, hi, q⟩ := List.mem_iff_getElem.1 hd
      rw [List.getElem_take] at q
      rw [List.length_take] at hi
      have := List.not_of_lt_findIdx (p := fun c : UInt8 => c == 10) (xs := s) (i := i) (by unfold eolL at hi; omega)
      simp only [beq_eq_false_iff_ne, ne_eq, Bool.not_eq_true] at this
      exact this (q.trans e)
    have e : s = s.take (eolL s) ++ 10 :: ([] ++ s.drop (eolL s + 1)) := by
      conv => lhs; rw [← List.take_append_drop (eolL s) s, List.drop_eq_getElem_cons h2, h10]
      rfl
    conv => lhs; rw [e]
    exact cut_at 10 [] _ _ hno
  · rw [if_neg h2]
    unfold Lib.cut
    have hi : Lib.index s [10] = -1 := Lib.index_none (fun j hj => by
      cases ho : Lib.occAt s [10] j with
      | false => rfl
      | true =>
        have := Lib.occAt_head rfl ho
        exact absurd (List.findIdx_lt_length.2 ⟨10, List.mem_of_getElem? this, by simp⟩) h2)
    rw [hi, if_neg (by decide)]
theorem byte_zero (l : List UInt8) : (Lib.indexByte l 0 < 0 ∧ ∀ d ∈ l, d ≠ 0) ∨ (0 ≤ Lib.indexByte l 0 ∧ ∃ d ∈ l, d = 0) := by
  induction l with
  | nil => exact .inl ⟨by decide, fun d hd => by cases hd⟩
  | cons b l ih =>
    unfold Lib.indexByte
    by_cases hb : b = 0
    · subst hb; exact .inr ⟨by simp, 0, by simp, rfl⟩
    · rw [beq_false_of_ne hb, if_neg (by decide)]
      have hge := Lib.indexByte_ge l 0
      rcases ih with ⟨h1, h2⟩ | ⟨h1, d, hd, e⟩
      · rw [if_pos (by rw [beq_iff_eq]; omega)]
        refine .inl ⟨by decide, fun d hd => ?_⟩
        rcases List.mem_cons.1 hd with rfl | hd
        · exact hb
        · exact h2 d hd
      · rw [if_neg (by rw [beq_iff_eq]; omega)]
        exact .inr ⟨by omega, d, by simp [hd], e⟩
end Go.Proofs.YtonkclkopmdahaaGreatDoor
