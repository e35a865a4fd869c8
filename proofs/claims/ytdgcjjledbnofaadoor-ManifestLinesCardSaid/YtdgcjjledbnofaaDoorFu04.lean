/-
  Texts that belong together, one behind the other.
-/
import Derived.Test.YtdgcjjledbnofaaDoorFu01
import Derived.Test.YtdgcjjledbnofaaDoorFu03
import Derived.Laws.Entries
/-
  Layer 1: Hex of the program.
-/
namespace Go.Proofs.YtdgcjjledbnofaaDoor
set_option maxRecDepth 20000
open Go.RowKit
set_option linter.unusedVariables false

/-- One hexadecimal digit. -/
def hexDig (n : Nat) : UInt8 := UInt8.ofNat (if n < 10 then 48 + n else 87 + n)
def hexL : List UInt8 → List UInt8
  | [] => []
  | c :: r => hexDig (c.toNat / 16) :: hexDig (c.toNat % 16) :: hexL r
theorem hexL_append (a b : List UInt8) : hexL (a ++ b) = hexL a ++ hexL b := by
  induction a with
  | nil => rfl
  | cons c r ih => simp [hexL, ih]
theorem hexL_length (l : List UInt8) : (hexL l).length = 2 * l.length := by
  induction l with
  | nil => rfl
  | cons c r ih => simp [hexL, ih]; omega
theorem hexL_snoc (l : List UInt8) (k : Nat) (h : k < l.length) : hexL (l.take (k + 1)) = hexL (l.take k) ++ [hexDig (l[k].toNat / 16), hexDig (l[k].toNat % 16)] := by
  rw [List.take_succ_eq_append_getElem h, hexL_append]; rfl

theorem hex_at16 : ∀ n : Fin 16, (⟨#[48, 49, 50, 51, 52, 53, 54, 55, 56, 57, 97, 98, 99, 100, 101, 102]⟩ : ByteArray)[n.1]'(n.2) = hexDig n.1 := by decide
theorem hex_at (n : Nat) (h : n < 16) : (⟨#[48, 49, 50, 51, 52, 53, 54, 55, 56, 57, 97, 98, 99, 100, 101, 102]⟩ : ByteArray)[n]'(h) = hexDig n := hex_at16 ⟨n, h⟩

end Go.Proofs.YtdgcjjledbnofaaDoor

/-
  Cut of Hn: bytes written are read, and what is read is written so.
-/
namespace Go.Proofs.YtdgcjjledbnofaaDoor
open Go.RowKit
set_option linter.unusedVariables false

theorem dg_hexDig' : ∀ n : Fin 16, dg (hexDig n.1) = (n.1 : Int) := by decide
theorem dg_hexDig (n : Nat) (h : n < 16) : dg (hexDig n) = n := dg_hexDig' ⟨n, h⟩
theorem hexDig_dg' : ∀ n : Fin 256, 0 ≤ dg (UInt8.ofNat n.1) → hexDig (dg (UInt8.ofNat n.1)).toNat = UInt8.ofNat n.1 := by decide +kernel
theorem hexDig_dg (c : UInt8) (h : 0 ≤ dg c) : hexDig (dg c).toNat = c := by
  have := hexDig_dg' ⟨c.toNat, c.toNat_lt⟩
  simp only [UInt8.ofNat_toNat] at this
  exact this h
theorem unhex_hex : ∀ l : List UInt8, unhexL (hexL l) = some l
  | [] => rfl
  | c :: r => by
    have hc := c.toNat_lt
    simp only [hexL, unhexL]
    rw [dg_hexDig _ (by omega), dg_hexDig _ (by omega), if_pos ⟨by omega, by omega⟩, unhex_hex r]
    simp only [Option.map_some, Option.some.injEq, List.cons.injEq, and_true]
    apply UInt8.toNat.inj
    rw [UInt8.toNat_ofNat']
    omega
theorem hex_unhex : ∀ (n : Nat) (l t : List UInt8), l.length ≤ n → unhexL l = some t → hexL t = l := by
  intro n
  induction n using Nat.strongRecOn with
  | ind n ih =>
    intro l t hl h
    match l, hl, h with
    | [], _, h => simp [unhexL] at h; subst h; rfl
    | [_], _, h => simp [unhexL] at h
    | a :: b :: r, hl, h =>
      simp only [unhexL] at h
      split at h
      · rename_i hab
        cases hr : unhexL r with
        | none => simp [hr] at h
        | some t' =>
          simp [hr] at h
          subst h
          have e := ih r.length (by simp at hl; omega) r t' (Nat.le_refl _) hr
          have ha := dg_lt a; have hb := dg_lt b
          have e2 : (UInt8.ofNat (16 * dg a + dg b).toNat).toNat = (16 * dg a + dg b).toNat := by rw [UInt8.toNat_ofNat']; omega
          simp only [hexL]
          rw [e2, show (16 * dg a + dg b).toNat / 16 = (dg a).toNat by omega, show (16 * dg a + dg b).toNat % 16 = (dg b).toNat by omega, hexDig_dg a hab.1, hexDig_dg b hab.2, e]
      · cases h

end Go.Proofs.YtdgcjjledbnofaaDoor

/-
  Layer 3, plain: quoting, as functions of lists of bytes; nothing of the program.
-/
namespace Go.Proofs.YtdgcjjledbnofaaDoor
set_option linter.unusedVariables false

/-- A byte that a plain text may hold. -/
def plainB (c : UInt8) : Bool := !(decide (c.toNat < 32) || c.toNat == 127 || c.toNat == 34 || c.toNat == 92)
def plainL (l : List UInt8) : Bool := l.all plainB && decide (0 < l.length) && !(l.getD 0 0).toNat == 32
/-- No blank, no high byte. -/
def cleanB (c : UInt8) : Bool := !(c.toNat == 32 || decide (127 < c.toNat))
def cleanL (l : List UInt8) : Bool := l.all cleanB
def octL (c : UInt8) : List UInt8 := [92, UInt8.ofNat (48 + c.toNat / 64), UInt8.ofNat (48 + c.toNat / 8 % 8), UInt8.ofNat (48 + c.toNat % 8)]
def oneL (c : UInt8) : List UInt8 :=
  if c.toNat = 34 then [92, 34]
  else if c.toNat = 92 then [92, 92]
  else if c.toNat = 10 then [92, 110]
  else if c.toNat = 9 then [92, 116]
  else if c.toNat < 32 ∨ 127 ≤ c.toNat then octL c
  else [c]
def bodyL (l : List UInt8) : List UInt8 := l.flatMap oneL
def quoteL (l : List UInt8) : List UInt8 := if plainL l && cleanL l then l else 34 :: (bodyL l ++ [34])
theorem one_len (c : UInt8) : 1 ≤ (oneL c).length ∧ (oneL c).length ≤ 4 := by
  unfold oneL octL
  by_cases h1 : c.toNat = 34
  · rw [if_pos h1]; decide
  · by_cases h2 : c.toNat = 92
    · rw [if_neg h1, if_pos h2]; decide
    · by_cases h3 : c.toNat = 10
      · rw [if_neg h1, if_neg h2, if_pos h3]; decide
      · by_cases h4 : c.toNat = 9
        · rw [if_neg h1, if_neg h2, if_neg h3, if_pos h4]; decide
        · rw [if_neg h1, if_neg h2, if_neg h3, if_neg h4]
          split <;> simp
theorem body_len (l : List UInt8) : l.length ≤ (bodyL l).length ∧ (bodyL l).length ≤ 4 * l.length := by
  induction l with
  | nil => simp [bodyL]
  | cons c l ih =>
    have h := one_len c
    simp only [bodyL, List.flatMap_cons, List.length_append, List.length_cons] at ih ⊢
    omega
theorem quote_len (l : List UInt8) : (quoteL l).length ≤ 4 * l.length + 2 := by
  have h := body_len l
  unfold quoteL
  split
  · omega
  · simp; omega
/-- How many bytes stand ahead of the first blank, or line's end. -/
def wordLen : List UInt8 → Nat
  | [] => 0
  | c :: l => if c.toNat = 32 ∨ c.toNat = 10 then 0 else wordLen l + 1
theorem wordLen_le : ∀ l, wordLen l ≤ l.length
  | [] => Nat.le_refl _
  | c :: l => by
    unfold wordLen
    have := wordLen_le l
    split <;> simp <;> omega
/-- Where the quote ends that begins ahead of this text: the place of its last quotation mark, from here; beyond the end: nowhere. -/
def endL : List UInt8 → Nat
  | [] => 0
  | c :: r => if c.toNat = 34 then 0 else if c.toNat = 92 then
      match r with
      | [] => 2
      | _ :: r2 => endL r2 + 2
    else endL r + 1
def oct3 (c d e : UInt8) : Bool := decide (48 ≤ c.toNat) && decide (c.toNat ≤ 51) && decide (48 ≤ d.toNat) && decide (d.toNat ≤ 55) && decide (48 ≤ e.toNat) && decide (e.toNat ≤ 55)
def octB (c d e : UInt8) : UInt8 := UInt8.ofNat ((c.toNat - 48) * 64 + (d.toNat - 48) * 8 + (e.toNat - 48))
/-- The bytes of a quoted form. -/
def unescL : List UInt8 → List UInt8
  | [] => []
  | c :: r => if c.toNat = 92 then
      match r with
      | [] => []
      | d :: r2 => if d.toNat = 110 then 10 :: unescL r2 else if d.toNat = 116 then 9 :: unescL r2 else
        match r2 with
        | e :: f :: r3 => if oct3 d e f then octB d e f :: unescL r3 else d :: unescL (e :: f :: r3)
        | [e] => d :: unescL [e]
        | [] => [d]
    else c :: unescL r
/-- What stands at the beginning of a text: the bytes, how many of the text, the error. -/
def unqL (s : List UInt8) : List UInt8 × Nat × Int :=
  if (s.getD 0 0).toNat = 34 then
    let e := 1 + endL s.tail
    if s.length ≤ e then ([], 0, 3)
    else
      let t := unescL ((s.take e).tail)
      if quoteL t = s.take (e + 1) then (t, e + 1, 0) else ([], 0, 4)
  else
    let n := wordLen s
    if quoteL (s.take n) = s.take n then (s.take n, n, 0) else ([], 0, 4)

/-! What is quoted is read again. -/
theorem oct3_oct (c : UInt8) : oct3 (UInt8.ofNat (48 + c.toNat / 64)) (UInt8.ofNat (48 + c.toNat / 8 % 8)) (UInt8.ofNat (48 + c.toNat % 8)) = true ∧
    octB (UInt8.ofNat (48 + c.toNat / 64)) (UInt8.ofNat (48 + c.toNat / 8 % 8)) (UInt8.ofNat (48 + c.toNat % 8)) = c ∧
    (UInt8.ofNat (48 + c.toNat / 64)).toNat ≠ 110 ∧ (UInt8.ofNat (48 + c.toNat / 64)).toNat ≠ 116 := by
  have h := c.toNat_lt
  have e1 : (UInt8.ofNat (48 + c.toNat / 64)).toNat = 48 + c.toNat / 64 := by rw [UInt8.toNat_ofNat']; omega
  have e2 : (UInt8.ofNat (48 + c.toNat / 8 % 8)).toNat = 48 + c.toNat / 8 % 8 := by rw [UInt8.toNat_ofNat']; omega
  have e3 : (UInt8.ofNat (48 + c.toNat % 8)).toNat = 48 + c.toNat % 8 := by rw [UInt8.toNat_ofNat']; omega
  refine ⟨?_, ?_, by omega, by omega⟩
  · unfold oct3
    rw [e1, e2, e3]
    simp
    omega
  · unfold octB
    rw [e1, e2, e3]
    apply UInt8.toNat_inj.1
    rw [UInt8.toNat_ofNat']
    omega
theorem dec_plain (c : UInt8) (r : List UInt8) (h : c.toNat ≠ 92) : unescL (c :: r) = c :: unescL r := by
  rw [unescL.eq_def]; simp only [if_neg h]
theorem dec_n (r : List UInt8) : unescL (92 :: 110 :: r) = 10 :: unescL r := by
  rw [unescL.eq_def]; rfl
theorem dec_t (r : List UInt8) : unescL (92 :: 116 :: r) = 9 :: unescL r := by
  rw [unescL.eq_def]; rfl
theorem dec_oct (d e f : UInt8) (r : List UInt8) (h : oct3 d e f = true) (h1 : d.toNat ≠ 110) (h2 : d.toNat ≠ 116) : unescL (92 :: d :: e :: f :: r) = octB d e f :: unescL r := by
  rw [unescL.eq_def]
  simp only [if_neg h1, if_neg h2, h, if_true, show (92 : UInt8).toNat = 92 from rfl]
theorem dec_other (d : UInt8) (r : List UInt8) (h1 : d.toNat ≠ 110) (h2 : d.toNat ≠ 116) (h : ∀ e f m, r = e :: f :: m → oct3 d e f = false) : unescL (92 :: d :: r) = d :: unescL r := by
  rw [unescL.eq_def]
  simp only [if_neg h1, if_neg h2, if_true, show (92 : UInt8).toNat = 92 from rfl]
  match r with
  | [] => rfl
  | [e] => rfl
  | e :: f :: m => simp only [h e f m rfl]; rfl
theorem dec_one (c : UInt8) (l : List UInt8) : unescL (oneL c ++ l) = c :: unescL l := by
  unfold oneL
  by_cases h1 : c.toNat = 34
  · rw [if_pos h1]
    obtain rfl : c = 34 := UInt8.toNat_inj.1 h1
    exact dec_other 34 l (by decide) (by decide) (fun e f m _ => by simp [oct3])
  · by_cases h2 : c.toNat = 92
    · rw [if_neg h1, if_pos h2]
      obtain rfl : c = 92 := UInt8.toNat_inj.1 h2
      exact dec_other 92 l (by decide) (by decide) (fun e f m _ => by simp [oct3])
    · by_cases h3 : c.toNat = 10
      · rw [if_neg h1, if_neg h2, if_pos h3]
        obtain rfl : c = 10 := UInt8.toNat_inj.1 h3
        exact dec_n l
      · by_cases h4 : c.toNat = 9
        · rw [if_neg h1, if_neg h2, if_neg h3, if_pos h4]
          obtain rfl : c = 9 := UInt8.toNat_inj.1 h4
          exact dec_t l
        · rw [if_neg h1, if_neg h2, if_neg h3, if_neg h4]
          by_cases h5 : c.toNat < 32 ∨ 127 ≤ c.toNat
          · rw [if_pos h5]
            obtain ⟨g1, g2, g3, g4⟩ := oct3_oct c
            have e := dec_oct _ _ _ l g1 g3 g4
            rw [g2] at e
            exact e
          · rw [if_neg h5]
            exact dec_plain c l h2
theorem dec_body (l : List UInt8) : unescL (bodyL l) = l := by
  induction l with
  | nil => rfl
  | cons c l ih => rw [bodyL, List.flatMap_cons, dec_one, ← bodyL, ih]
theorem end_plain (c : UInt8) (r : List UInt8) (h1 : c.toNat ≠ 34) (h : c.toNat ≠ 92) : endL (c :: r) = endL r + 1 := by
  rw [endL.eq_def]; simp only [if_neg h1, if_neg h]
theorem end_esc (d : UInt8) (r : List UInt8) : endL (92 :: d :: r) = endL r + 2 := by
  rw [endL.eq_def]; rfl
theorem end_one (c : UInt8) (l : List UInt8) : endL (oneL c ++ l) = (oneL c).length + endL l := by
  unfold oneL
  by_cases h1 : c.toNat = 34
  · rw [if_pos h1]; exact (end_esc 34 l).trans (Nat.add_comm _ _)
  · by_cases h2 : c.toNat = 92
    · rw [if_neg h1, if_pos h2]; exact (end_esc 92 l).trans (Nat.add_comm _ _)
    · by_cases h3 : c.toNat = 10
      · rw [if_neg h1, if_neg h2, if_pos h3]; exact (end_esc 110 l).trans (Nat.add_comm _ _)
      · by_cases h4 : c.toNat = 9
        · rw [if_neg h1, if_neg h2, if_neg h3, if_pos h4]; exact (end_esc 116 l).trans (Nat.add_comm _ _)
        · rw [if_neg h1, if_neg h2, if_neg h3, if_neg h4]
          by_cases h5 : c.toNat < 32 ∨ 127 ≤ c.toNat
          · rw [if_pos h5]
            have h := c.toNat_lt
            have e2 : (UInt8.ofNat (48 + c.toNat / 8 % 8)).toNat = 48 + c.toNat / 8 % 8 := by rw [UInt8.toNat_ofNat']; omega
            have e3 : (UInt8.ofNat (48 + c.toNat % 8)).toNat = 48 + c.toNat % 8 := by rw [UInt8.toNat_ofNat']; omega
            unfold octL
            simp only [List.cons_append, List.nil_append, List.length_cons, List.length_nil]
            rw [end_esc, end_plain _ _ (by omega) (by omega), end_plain _ _ (by omega) (by omega)]
            omega
          · rw [if_neg h5]
            simp only [List.cons_append, List.nil_append, List.length_cons, List.length_nil]
            rw [end_plain c l h1 h2]; omega
theorem end_body (l m : List UInt8) : endL (bodyL l ++ 34 :: m) = (bodyL l).length := by
  induction l with
  | nil => show endL (34 :: m) = 0; rw [endL.eq_def]; rfl
  | cons c l ih =>
    have e : bodyL (c :: l) = oneL c ++ bodyL l := by simp [bodyL]
    rw [e, List.append_assoc, end_one, ih, List.length_append]
theorem word_clean (l m : List UInt8) (x : UInt8) (hx : x.toNat = 32 ∨ x.toNat = 10) (h : ∀ c ∈ l, c.toNat ≠ 32 ∧ c.toNat ≠ 10) : wordLen (l ++ x :: m) = l.length := by
  induction l with
  | nil => simp [wordLen, hx]
  | cons c l ih =>
    have h1 := h c (by simp)
    simp only [List.cons_append, wordLen, List.length_cons]
    rw [if_neg (by omega), ih (fun d hd => h d (by simp [hd]))]
theorem plain_all {l : List UInt8} (hp : plainL l = true) (hc : cleanL l = true) : 0 < l.length ∧ (l.getD 0 0).toNat ≠ 34 ∧ ∀ c ∈ l, c.toNat ≠ 32 ∧ c.toNat ≠ 10 := by
  unfold plainL at hp
  unfold cleanL at hc
  simp only [Bool.and_eq_true, List.all_eq_true, decide_eq_true_eq] at hp hc
  obtain ⟨⟨h1, h2⟩, _⟩ := hp
  refine ⟨h2, ?_, fun c hcm => ?_⟩
  · match l, h2 with
    | c :: r, _ =>
      have := h1 c (by simp)
      simp [plainB] at this
      simp; omega
  · have a := h1 c hcm
    have b := hc c hcm
    simp [plainB] at a
    simp [cleanB] at b
    omega
theorem unq_quote (l m : List UInt8) (x : UInt8) (hx : x.toNat = 32 ∨ x.toNat = 10) : unqL (quoteL l ++ x :: m) = (l, (quoteL l).length, 0) := by
  unfold unqL
  by_cases h : plainL l && cleanL l
  · have hq : quoteL l = l := by unfold quoteL; rw [if_pos h]
    simp only [Bool.and_eq_true] at h
    obtain ⟨h1, h2, h3⟩ := plain_all h.1 h.2
    rw [hq, if_neg (by match l, h1 with
      | c :: r, _ => simpa using h2)]
    rw [word_clean l m x hx h3]
    simp [hq]
  · have hq : quoteL l = 34 :: (bodyL l ++ [34]) := by unfold quoteL; rw [if_neg h]
    rw [hq, if_pos (by simp)]
    have e : (34 :: (bodyL l ++ [34]) ++ x :: m).tail = bodyL l ++ 34 :: (x :: m) := by simp
    rw [e, end_body]
    have e2 : ((34 :: (bodyL l ++ [34]) ++ x :: m).take (1 + (bodyL l).length)).tail = bodyL l := by
      rw [Nat.add_comm]; simp
    have e3 : (34 :: (bodyL l ++ [34]) ++ x :: m).take (1 + (bodyL l).length + 1) = 34 :: (bodyL l ++ [34]) := by
      rw [List.take_append_of_le_length (by simp; omega), List.take_of_length_le (by simp; omega)]
    simp only [e2, e3, dec_body, hq, if_true]
    rw [if_neg (by simp; omega)]
    simp; omega
theorem unq_ok {s t : List UInt8} {n : Nat} (h : unqL s = (t, n, 0)) : n ≤ s.length ∧ quoteL t = s.take n := by
  unfold unqL at h
  by_cases h1 : (s.getD 0 0).toNat = 34
  · rw [if_pos h1] at h
    simp only at h
    by_cases h2 : s.length ≤ 1 + endL s.tail
    · rw [if_pos h2] at h; simp at h
    · rw [if_neg h2] at h
      by_cases h3 : quoteL (unescL ((s.take (1 + endL s.tail)).tail)) = s.take (1 + endL s.tail + 1)
      · rw [if_pos h3] at h
        simp only [Prod.mk.injEq] at h
        obtain ⟨rfl, rfl, _⟩ := h
        exact ⟨by omega, h3⟩
      · rw [if_neg h3] at h; simp at h
  · rw [if_neg h1] at h
    simp only at h
    by_cases h2 : quoteL (s.take (wordLen s)) = s.take (wordLen s)
    · rw [if_pos h2] at h
      simp only [Prod.mk.injEq] at h
      obtain ⟨rfl, rfl, _⟩ := h
      exact ⟨wordLen_le s, h2⟩
    · rw [if_neg h2] at h; simp at h
end Go.Proofs.YtdgcjjledbnofaaDoor
