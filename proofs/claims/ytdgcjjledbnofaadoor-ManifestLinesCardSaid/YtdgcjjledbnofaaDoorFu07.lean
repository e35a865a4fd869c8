/-
  Texts that belong together, one behind the other.
-/
import Derived.Test.YtdgcjjledbnofaaDoorFu04
import Derived.Test.YtdgcjjledbnofaaDoorFu06
import Derived.Lib.IndexMore
import Derived.Test.YtdgcjjledbnofaaDoorFu01
import Derived.Lib.Strings
import Derived.Lib.Hide
import Derived.Deep.RegionHeld3
import Derived.Lib.Bytes
import Derived.IntWalk
import Derived.WalkSmall
/-
  Layer 16, plain: lists of files as texts, and texts as lists of files; nothing of the program's code.
-/
namespace Go.Proofs.YtdgcjjledbnofaaDoor
set_option linter.unusedVariables false
set_option linter.unusedSimpArgs false

/-! Where a byte stands first. -/
def idxB (c : UInt8) (s : List UInt8) : Nat := s.findIdx (· == c)
theorem idxB_no (c : UInt8) (s : List UInt8) : ∀ d ∈ s.take (idxB c s), d ≠ c := by
  intro d hd e
  obtain ⟨i, hi, q⟩ := List.mem_iff_getElem.1 hd
  rw [List.getElem_take] at q
  rw [List.length_take] at hi
  have := List.not_of_lt_findIdx (p := fun d : UInt8 => d == c) (xs := s) (i := i) (by unfold idxB at hi; omega)
  simp only [beq_eq_false_iff_ne, ne_eq, Bool.not_eq_true] at this
  exact this (q.trans e)
theorem idxB_here {c : UInt8} {s : List UInt8} (h : idxB c s < s.length) : s[idxB c s]'h = c := beq_iff_eq.1 (List.findIdx_getElem (p := fun d : UInt8 => d == c) (w := h))
theorem idxB_split {c : UInt8} {s : List UInt8} (h : idxB c s < s.length) : s = s.take (idxB c s) ++ c :: s.drop (idxB c s + 1) := by
  conv => lhs; rw [← List.take_append_drop (idxB c s) s, List.drop_eq_getElem_cons h, idxB_here h]
theorem idxB_at {c : UInt8} : ∀ {a : List UInt8} (h : ∀ d ∈ a, d ≠ c) (r : List UInt8), idxB c (a ++ c :: r) = a.length
  | [], _, r => by unfold idxB; rw [List.nil_append, List.findIdx_cons]; simp
  | d :: a, h, r => by
    have h1 := h d (by simp)
    have h2 := idxB_at (a := a) (fun e he => h e (by simp [he])) r
    unfold idxB at h2 ⊢
    rw [List.cons_append, List.findIdx_cons, h2, beq_false_of_ne h1]
    rfl
theorem idxB_none {c : UInt8} {s : List UInt8} (h : ¬ idxB c s < s.length) : ∀ d ∈ s, d ≠ c := by
  have h1 := idxB_no c s
  rwa [List.take_of_length_le (by omega)] at h1
theorem idxB_lt {c : UInt8} {s : List UInt8} : idxB c s < s.length ↔ c ∈ s := by
  constructor
  · intro h; have := idxB_here h; rw [← this]; exact List.getElem_mem _
  · intro h; by_cases h2 : idxB c s < s.length
    · exact h2
    · exact absurd rfl (idxB_none h2 c h)
theorem idxB_le (c : UInt8) (s : List UInt8) : idxB c s ≤ s.length := List.findIdx_le_length
theorem cutB_at (c : UInt8) (a b : List UInt8) (h : ∀ d ∈ a, d ≠ c) : Lib.cut (a ++ c :: b) [c] = (a, b, true) := by
  have hi : Lib.index (a ++ c :: b) [c] = a.length := by
    refine Lib.index_first (by simp) ?_ (fun j hj => ?_)
    · unfold Lib.occAt
      rw [List.drop_left, List.isPrefixOf_iff_prefix]
      exact ⟨b, rfl⟩
    · cases ho : Lib.occAt (a ++ c :: b) [c] j with
      | false => rfl
      | true =>
        have := Lib.occAt_head rfl ho
        rw [List.getElem?_append_left hj, List.getElem?_eq_getElem hj] at this
        exact absurd (Option.some.inj this) (h _ (List.getElem_mem hj))
  unfold Lib.cut
  rw [hi, if_pos (by omega), Int.toNat_natCast, List.take_left]
  have e : a ++ c :: b = (a ++ [c]) ++ b := by simp
  rw [e]
  congr 1
  rw [List.drop_left' (by simp)]
theorem cutB_is (c : UInt8) (s : List UInt8) : Lib.cut s [c] = if idxB c s < s.length then (s.take (idxB c s), s.drop (idxB c s + 1), true) else (s, [], false) := by
  by_cases h2 : idxB c s < s.length
  · rw [if_pos h2]
    conv => lhs; rw [idxB_split h2]
    exact cutB_at c _ _ (idxB_no c s)
  · rw [if_neg h2]
    unfold Lib.cut
    have hi : Lib.index s [c] = -1 := Lib.index_none (fun j hj => by
      cases ho : Lib.occAt s [c] j with
      | false => rfl
      | true => exact absurd rfl (idxB_none h2 c (List.mem_of_getElem? (Lib.occAt_head rfl ho))))
    rw [hi, if_neg (by decide)]

/-! A file's line. -/
def flagM (m : Int) : List UInt8 := if m = 2 then [120] else if m = 3 then [108] else []
def modeM (s : List UInt8) : Option Int := if s = [] then some 1 else if s = [120] then some 2 else if s = [108] then some 3 else none
theorem flagM_len (m : Int) : (flagM m).length ≤ 1 := by
  unfold flagM; split
  · simp
  · split <;> simp
theorem modeM_flag {m : Int} (h1 : 1 ≤ m) (h3 : m ≤ 3) : modeM (flagM m) = some m := by
  rcases (show m = 1 ∨ m = 2 ∨ m = 3 by omega) with rfl | rfl | rfl <;> decide
theorem flagM_mode {s : List UInt8} {m : Int} (h : modeM s = some m) : flagM m = s ∧ 1 ≤ m ∧ m ≤ 3 := by
  unfold modeM at h
  split at h
  · cases h; next e => exact ⟨by rw [e]; decide, by decide, by decide⟩
  · split at h
    · cases h; next e => exact ⟨by rw [e]; decide, by decide, by decide⟩
    · split at h
      · cases h; next e => exact ⟨by rw [e]; decide, by decide, by decide⟩
      · cases h
theorem modeM_len {s : List UInt8} (h : 1 < s.length) : modeM s = none := by
  cases e : modeM s with
  | none => rfl
  | some m => have := flagM_len m; rw [(flagM_mode e).1] at this; omega
def lineM (f : Fil) : List UInt8 := f.path ++ [0] ++ hexL f.id ++ flagM f.mode ++ [10]
def textM (l : List Fil) : List UInt8 := l.flatMap lineM
theorem textM_cons (f : Fil) (l : List Fil) : textM (f :: l) = lineM f ++ textM l := by unfold textM; rw [List.flatMap_cons]
theorem textM_append (l m : List Fil) : textM (l ++ m) = textM l ++ textM m := by unfold textM; rw [List.flatMap_append]
theorem textM_one (f : Fil) : textM [f] = lineM f := by unfold textM; simp
theorem textM_next (l : List Fil) (i : Nat) (h : i < l.length) : textM (l.take (i + 1)) = textM (l.take i) ++ lineM l[i] := by
  rw [List.take_add_one, List.getElem?_eq_getElem h, textM_append]; simp [textM_one]
theorem lineM_len (f : Fil) (h : f.id.length = 20) : (lineM f).length ≤ f.path.length + 43 ∧ f.path.length + 42 ≤ (lineM f).length := by
  have := flagM_len f.mode
  unfold lineM
  simp only [List.length_append, List.length_cons, List.length_nil, hexL_length, h]
  omega
theorem textM_len (k : Nat) : ∀ (l : List Fil), (∀ f ∈ l, f.id.length = 20) → (∀ f ∈ l, f.path.length ≤ k) → (textM l).length ≤ (k + 43) * l.length
  | [], _, _ => by simp [textM]
  | f :: l, h1, h2 => by
    have a := (lineM_len f (h1 f (by simp))).1
    have b := h2 f (by simp)
    have c := textM_len k l (fun g hg => h1 g (by simp [hg])) (fun g hg => h2 g (by simp [hg]))
    rw [textM_cons, List.length_append, List.length_cons, Nat.mul_add]
    omega
/-- Which lists have a text. -/
def noEndM (f : Fil) : Bool := decide (¬ idxB 10 f.path < f.path.length)
def rightM (l : List Fil) : Bool := rightF l && l.all noEndM
def printM (l : List Fil) : List UInt8 × Int := if rightM l = true then (if 65536 < (textM l).length then ([], 5) else (textM l, 0)) else ([], 11)
/-- The file of a line. -/
def restM (p r : List UInt8) : Option Fil := if r.length < 40 then none else match unhexL (r.take 40) with
  | none => none
  | some d => match modeM (r.drop 40) with
    | none => none
    | some m => some ⟨p, m, d⟩
def fileM (s : List UInt8) : Option Fil := if idxB 0 s < s.length then restM (s.take (idxB 0 s)) (s.drop (idxB 0 s + 1)) else none
def filesN : Nat → List UInt8 → Option (List Fil)
  | 0, s => if s = [] then some [] else none
  | n + 1, s => if s = [] then some [] else if idxB 10 s < s.length then (match fileM (s.take (idxB 10 s)) with
    | none => none
    | some f => (filesN n (s.drop (idxB 10 s + 1))).map (f :: ·)) else none
theorem filesN_same : ∀ (n m : Nat) (s : List UInt8), s.length ≤ n → s.length ≤ m → filesN n s = filesN m s
  | 0, 0, s, _, _ => rfl
  | 0, m + 1, s, h, _ => by
    have : s = [] := List.eq_nil_of_length_eq_zero (by omega)
    subst this; rfl
  | n + 1, 0, s, _, h => by
    have : s = [] := List.eq_nil_of_length_eq_zero (by omega)
    subst this; rfl
  | n + 1, m + 1, s, h1, h2 => by
    unfold filesN
    by_cases h : s = []
    · rw [if_pos h, if_pos h]
    · rw [if_neg h, if_neg h]
      by_cases h3 : idxB 10 s < s.length
      · rw [if_pos h3, if_pos h3, filesN_same n m (s.drop (idxB 10 s + 1)) (by rw [List.length_drop]; omega) (by rw [List.length_drop]; omega)]
      · rw [if_neg h3, if_neg h3]
def filesM (s : List UInt8) : Option (List Fil) := filesN s.length s
theorem filesM_nil : filesM [] = some [] := rfl
theorem filesM_cons (s : List UInt8) (h : s ≠ []) : filesM s = if idxB 10 s < s.length then (match fileM (s.take (idxB 10 s)) with
    | none => none
    | some f => (filesM (s.drop (idxB 10 s + 1))).map (f :: ·)) else none := by
  unfold filesM
  obtain ⟨n, hn⟩ : ∃ n, s.length = n + 1 := ⟨s.length - 1, by have := List.length_pos_iff.2 h; omega⟩
  rw [filesN_same s.length (n + 1) s (Nat.le_refl _) (by omega)]
  conv => lhs; unfold filesN
  rw [if_neg h]
  by_cases h3 : idxB 10 s < s.length
  · rw [if_pos h3, if_pos h3, filesN_same n (s.drop (idxB 10 s + 1)).length (s.drop (idxB 10 s + 1)) (by rw [List.length_drop]; omega) (Nat.le_refl _)]
  · rw [if_neg h3, if_neg h3]
def parseM (b : List UInt8) : List Fil × Int := if 65536 < b.length then ([], 4) else match filesM b with
  | none => ([], 4)
  | some l => if rightM l = true then (l, 0) else ([], 4)

/-! What is read is what was printed, and the other way round. -/
theorem restM_some {p r : List UInt8} {f : Fil} (h : restM p r = some f) : f.path = p ∧ hexL f.id ++ flagM f.mode = r ∧ f.id.length = 20 ∧ 1 ≤ f.mode ∧ f.mode ≤ 3 := by
  unfold restM at h
  split at h
  · cases h
  · next hl =>
    cases hd : unhexL (r.take 40) with
    | none => rw [hd] at h; cases h
    | some d =>
      rw [hd] at h
      simp only at h
      cases hm : modeM (r.drop 40) with
      | none => rw [hm] at h; cases h
      | some m =>
        rw [hm] at h
        cases h
        have e1 := hex_unhex _ _ _ (Nat.le_refl _) hd
        have e2 := (unhex_spec _ _ _ (Nat.le_refl _) hd).1
        have e3 := flagM_mode hm
        rw [List.length_take] at e2
        exact ⟨rfl, by rw [e1, e3.1, List.take_append_drop], by show d.length = 20; omega, e3.2⟩
theorem fileM_some {s : List UInt8} {f : Fil} (h : fileM s = some f) : f.path ++ [0] ++ hexL f.id ++ flagM f.mode = s ∧ f.id.length = 20 ∧ 1 ≤ f.mode ∧ f.mode ≤ 3 := by
  unfold fileM at h
  split at h
  · next hz =>
    obtain ⟨h1, h2, h3⟩ := restM_some h
    refine ⟨?_, h3⟩
    conv => rhs; rw [idxB_split hz]
    rw [h1, ← h2]
    simp
  · cases h
theorem filesM_some : ∀ (n : Nat) (s : List UInt8) (l : List Fil), s.length ≤ n → filesM s = some l → textM l = s ∧ ∀ f ∈ l, f.id.length = 20
  | n, s, l, hn, h => by
    by_cases he : s = []
    · subst he; rw [filesM_nil] at h; cases h; exact ⟨rfl, fun f hf => by cases hf⟩
    · rw [filesM_cons s he] at h
      have hp := List.length_pos_iff.2 he
      split at h
      · next h3 =>
        cases hf : fileM (s.take (idxB 10 s)) with
        | none => rw [hf] at h; cases h
        | some f =>
          rw [hf] at h
          simp only [Option.map_eq_some_iff] at h
          obtain ⟨r, hr, rfl⟩ := h
          match n, hn with
          | 0, hn => omega
          | n + 1, hn =>
            obtain ⟨i1, i2⟩ := filesM_some n _ r (by rw [List.length_drop]; omega) hr
            obtain ⟨j1, j2, -⟩ := fileM_some hf
            refine ⟨?_, fun g hg => ?_⟩
            · rw [textM_cons, i1]
              unfold lineM
              rw [j1]
              conv => rhs; rw [idxB_split h3]
              simp
            · rcases List.mem_cons.1 hg with rfl | hg
              · exact j2
              · exact i2 g hg
      · cases h
theorem hexDig_low : ∀ n : Fin 16, 48 ≤ (hexDig n.1).toNat := by decide
theorem hexL_low : ∀ (l : List UInt8), ∀ c ∈ hexL l, 48 ≤ c.toNat
  | [], c, h => by simp [hexL] at h
  | d :: l, c, h => by
    have hd := d.toNat_lt
    simp only [hexL, List.mem_cons] at h
    rcases h with rfl | rfl | h
    · exact hexDig_low ⟨d.toNat / 16, by omega⟩
    · exact hexDig_low ⟨d.toNat % 16, by omega⟩
    · exact hexL_low l c h
theorem path_no0 {p : List UInt8} (h : pathL p = true) : ∀ c ∈ p, c ≠ 0 := by
  cases p with
  | nil => intro c hc; cases hc
  | cons d r =>
    have h2 : (d :: r).any (fun c => c.toNat == 0) = false := by
      cases e : (d :: r).any (fun c => c.toNat == 0) with
      | false => rfl
      | true => unfold pathL at h; simp [e] at h
    intro c hc e
    subst e
    rw [List.any_eq_false] at h2
    exact absurd (h2 0 hc) (by decide)
theorem path_len0 {p : List UInt8} (h : pathL p = true) : p.length ≤ 400 := by
  unfold pathL at h
  simp only [Bool.and_eq_true, decide_eq_true_eq] at h
  exact h.1.1.1.1.2
theorem sound_parts {f : Fil} (h : soundF f = true) : 1 ≤ f.mode ∧ f.mode ≤ 3 ∧ pathL f.path = true := by
  unfold soundF at h
  simp only [Bool.and_eq_true, decide_eq_true_eq] at h
  exact ⟨h.1.1.1, h.1.1.2, h.1.2⟩
theorem fileM_print (f : Fil) (h1 : 1 ≤ f.mode) (h3 : f.mode ≤ 3) (hi : f.id.length = 20) (h0 : ∀ c ∈ f.path, c ≠ 0) : fileM (f.path ++ 0 :: (hexL f.id ++ flagM f.mode)) = some f := by
  have hx := hexL_length f.id
  unfold fileM
  rw [idxB_at h0]
  rw [if_pos (by simp), List.take_left, show f.path ++ 0 :: (hexL f.id ++ flagM f.mode) = (f.path ++ [0]) ++ (hexL f.id ++ flagM f.mode) by simp, List.drop_left' (by simp)]
  unfold restM
  rw [if_neg (by simp; omega), List.take_left' (by omega), List.drop_left' (by omega), unhex_hex, modeM_flag h1 h3]
theorem filesM_text : ∀ (l : List Fil), (∀ f ∈ l, soundF f = true ∧ noEndM f = true ∧ f.id.length = 20) → filesM (textM l) = some l
  | [], _ => rfl
  | f :: l, h => by
    obtain ⟨h1, h2, h3⟩ := h f (by simp)
    obtain ⟨m1, m3, hp⟩ := sound_parts h1
    have ih := filesM_text l (fun g hg => h g (by simp [hg]))
    have h10 : ∀ c ∈ f.path, c ≠ 10 := idxB_none (by unfold noEndM at h2; exact of_decide_eq_true h2)
    have hl : ∀ c ∈ f.path ++ 0 :: (hexL f.id ++ flagM f.mode), c ≠ 10 := by
      intro c hc e
      subst e
      rcases List.mem_append.1 hc with hc | hc
      · exact h10 _ hc rfl
      · rcases List.mem_cons.1 hc with hc | hc
        · exact absurd hc (by decide)
        · rcases List.mem_append.1 hc with hc | hc
          · exact absurd (hexL_low _ _ hc) (by decide)
          · unfold flagM at hc
            split at hc
            · simp at hc
            · split at hc <;> simp at hc
    have e : textM (f :: l) = (f.path ++ 0 :: (hexL f.id ++ flagM f.mode)) ++ 10 :: textM l := by rw [textM_cons]; unfold lineM; simp
    rw [e, filesM_cons _ (by simp), idxB_at hl, if_pos (by simp), List.take_left, fileM_print f m1 m3 h3 (path_no0 hp)]
    simp only
    rw [show (f.path ++ 0 :: (hexL f.id ++ flagM f.mode)) ++ 10 :: textM l = ((f.path ++ 0 :: (hexL f.id ++ flagM f.mode)) ++ [10]) ++ textM l by simp, List.drop_left' (by simp; omega), ih]
    rfl
theorem rightM_parts {l : List Fil} (h : rightM l = true) : rightF l = true ∧ ∀ f ∈ l, soundF f = true ∧ noEndM f = true := by
  unfold rightM at h
  rw [Bool.and_eq_true, List.all_eq_true] at h
  refine ⟨h.1, fun f hf => ⟨?_, h.2 f hf⟩⟩
  obtain ⟨k, hk, rfl⟩ := List.mem_iff_getElem.1 hf
  have hs := ((rightF_iff l).1 h.1).2 k hk
  unfold stepF at hs
  simp only [Bool.and_eq_true] at hs
  have := hs.1.1
  rwa [List.getD_eq_getElem?_getD, List.getElem?_eq_getElem hk] at this
/-- What is printed is parsed. -/
theorem parse_printM {l : List Fil} (hid : ∀ f ∈ l, f.id.length = 20) (h : (printM l).2 = 0) : parseM (printM l).1 = (l, 0) := by
  unfold printM at h ⊢
  split at h
  · next hr =>
    split at h
    · cases h
    · next hl =>
      rw [if_pos hr, if_neg hl]
      unfold parseM
      simp only
      rw [if_neg hl, filesM_text l (fun f hf => ⟨((rightM_parts hr).2 f hf).1, ((rightM_parts hr).2 f hf).2, hid f hf⟩)]
      simp only
      rw [if_pos hr]
  · cases h
/-- What is parsed, printed again, is the same text. -/
theorem print_parseM {b : List UInt8} (h : (parseM b).2 = 0) : printM (parseM b).1 = (b, 0) := by
  unfold parseM at h ⊢
  split at h
  · cases h
  · next hl =>
    rw [if_neg hl]
    cases hf : filesM b with
    | none => rw [hf] at h; cases h
    | some l =>
      rw [hf] at h
      simp only at h ⊢
      split at h
      · next hr =>
        rw [if_pos hr]
        unfold printM
        rw [if_pos hr, (filesM_some _ b l (Nat.le_refl _) hf).1, if_neg hl]
      · cases h
theorem parseM_ids (b : List UInt8) : ∀ f ∈ (parseM b).1, f.id.length = 20 := by
  unfold parseM
  split
  · intro f hf; cases hf
  · cases hf : filesM b with
    | none => intro f hf; cases hf
    | some l =>
      simp only
      split
      · exact (filesM_some _ b l (Nat.le_refl _) hf).2
      · intro f hf; cases hf
end Go.Proofs.YtdgcjjledbnofaaDoor

/-
  A text's bytes by their places, and pieces of it.
-/
namespace Go.Proofs.YtdgcjjledbnofaaDoor
open Go.RowKit
set_option linter.unusedVariables false
set_option linter.unusedSimpArgs false

theorem getD_str (l : List UInt8) (i : Nat) (h : i < l.length) (h2 : i < (⟨l.toArray⟩ : ByteArray).size) : (⟨l.toArray⟩ : ByteArray)[i]'h2 = l.getD i 0 := by
  simp [List.getD_eq_getElem?_getD, h, ByteArray.getElem_eq_getElem_data]
theorem bne32 (n : Nat) : (((n : Int) != 32) = !(n == 32)) := by
  have : ((n : Int) == 32) = (n == 32) := by
    rw [Bool.eq_iff_iff]; simp; omega
  rw [bne, this]

theorem ext_list (l : List UInt8) (a b : Nat) : (⟨l.toArray⟩ : ByteArray).extract a b = ⟨((l.drop a).take (b - a)).toArray⟩ := by
  apply ByteArray.ext
  simp [List.drop_take]
theorem ext_take (l : List UInt8) (b : Nat) : (⟨l.toArray⟩ : ByteArray).extract 0 b = ⟨(l.take b).toArray⟩ := by rw [ext_list]; simp
theorem ext_drop (l : List UInt8) (a : Nat) : (⟨l.toArray⟩ : ByteArray).extract a l.length = ⟨(l.drop a).toArray⟩ := by
  rw [ext_list, List.take_of_length_le (by simp)]

theorem empty_list (l : List UInt8) : (⟨l.toArray⟩ : ByteArray).toList.isEmpty = decide (l.length = 0) := by
  rw [Lib.toList_data]
  cases l <;> rfl
theorem list_text (l : List UInt8) : (⟨l.toArray⟩ : ByteArray).toList = l := by rw [Lib.toList_data]
end Go.Proofs.YtdgcjjledbnofaaDoor

/-
  Cut of Yb: the order of bytes, loads of cells.
-/
namespace Go.Proofs.YtdgcjjledbnofaaDoor
set_option maxRecDepth 20000
open Go.RowKit
set_option linter.unusedVariables false
set_option linter.unusedSimpArgs false

/-- The order of texts. -/
theorem less_is : ∀ (x y : List UInt8), Op.bytesLess x y = decide (x < y)
  | [], [] => by simp [Op.bytesLess]
  | [], d :: y => by simp [Op.bytesLess]
  | c :: x, [] => by simp [Op.bytesLess]
  | c :: x, d :: y => by
    rw [Op.bytesLess, less_is x y]
    simp only [List.cons_lt_cons_iff]
    by_cases h1 : c < d <;> by_cases h2 : c = d <;> by_cases h3 : x < y <;> simp [h1, h2, h3]
theorem toList_mk (l : List UInt8) : (⟨l.toArray⟩ : ByteArray).toList = l := by
  rw [← strOfNums_toNat, Lib.strOfNums_toList]
  unfold Lib.bytesOf
  rw [List.map_map]
  conv => rhs; rw [← List.map_id l]
  apply List.map_congr_left
  intro c _
  simp
theorem less_mk (x y : List UInt8) : Op.bytesLess (⟨x.toArray⟩ : ByteArray).toList (⟨y.toArray⟩ : ByteArray).toList = decide (x < y) := by rw [toList_mk, toList_mk, less_is]

theorem load_cells {w : World} {b o : Nat} (l : List Value) (n : Nat) (hn : n = l.length) (h : ∀ j v, l[j]? = some v → w.cell? ⟨b, o + j, none⟩ = some v) : (loadCellsFrom ⟨b, o, none⟩ 0 n #[]).run Tryd.prog w = .ok l.toArray w := by
  subst hn
  have := run_loadCells_list (P := Tryd.prog) w ⟨b, o, none⟩ l (fun j v hv => by
    rw [show (⟨b, o, none⟩ : Addr).add j = ⟨b, o + j, none⟩ by unfold Addr.add; split <;> simp_all]
    exact h j v hv)
  simpa [loadCells] using this
end Go.Proofs.YtdgcjjledbnofaaDoor
