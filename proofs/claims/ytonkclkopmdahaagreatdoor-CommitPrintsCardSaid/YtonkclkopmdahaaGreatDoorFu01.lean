/-
  Texts that belong together, one behind the other.
-/
import Derived.Laws.Entries
import Derived.Lib.ValidLaws
import Derived.Laws.BitsAllLaws
import Derived.Laws.RangeAny
import Derived.Lib.MapLaws
/-
  Layer 3, plain: quoting, as functions of lists of bytes; nothing of the program.
-/
namespace Go.Proofs.YtonkclkopmdahaaGreatDoor
set_option linter.unusedVariables false

/-- A byte that a plain text may hold. -/
def plainB (c : UInt8) : Bool := !(decide (c.toNat < 32) || c.toNat == 127 || c.toNat == 34 || c.toNat == 92)
def plainL (l : List UInt8) : Bool := l.all plainB && decide (0 < l.length) && !(l.getD 0 0).toNat == 32
/-- No blank, no high byte. -/
def cleanB (c : UInt8) : Bool := !(c.toNat == 32 || decide (127 < c.toNat))
def cleanL (l : List UInt8) : Bool := l.all cleanB
def octL (c : UInt8) : List UInt8 := [92, UInt8.ofNat (48 + c.toNat / 64), UInt8.ofNat (48 + c.toNat / 8 % 8), UInt8.ofNat (48 + c.toNat % 8)]
def oneL (c : UInt8) : List UInt8 :=
  if c.toNat = 34 then [92, 34]
  else if c.toNat = 92 then [92, 92]
  else if c.toNat = 10 then [92, 110]
  else if c.toNat = 9 then [92, 116]
  else if c.toNat < 32 ∨ 127 ≤ c.toNat then octL c
  else [c]
def bodyL (l : List UInt8) : List UInt8 := l.flatMap oneL
def quoteL (l : List UInt8) : List UInt8 := if plainL l && cleanL l then l else 34 :: (bodyL l ++ [34])
theorem one_len (c : UInt8) : 1 ≤ (oneL c).length ∧ (oneL c).length ≤ 4 := by
  unfold oneL octL
  by_cases h1 : c.toNat = 34
  · rw [if_pos h1]; decide
  · by_cases h2 : c.toNat = 92
    · rw [if_neg h1, if_pos h2]; decide
    · by_cases h3 : c.toNat = 10
      · rw [if_neg h1, if_neg h2, if_pos h3]; decide
      · by_cases h4 : c.toNat = 9
        · rw [if_neg h1, if_neg h2, if_neg h3, if_pos h4]; decide
        · rw [if_neg h1, if_neg h2, if_neg h3, if_neg h4]
          split <;> simp
theorem body_len (l : List UInt8) : l.length ≤ (bodyL l).length ∧ (bodyL l).length ≤ 4 * l.length := by
  induction l with
  | nil => simp [bodyL]
  | cons c l ih =>
    have h := one_len c
    simp only [bodyL, List.flatMap_cons, List.length_append, List.length_cons] at ih ⊢
    omega
theorem quote_len (l : List UInt8) : (quoteL l).length ≤ 4 * l.length + 2 := by
  have h := body_len l
  unfold quoteL
  split
  · omega
  · simp; omega
/-- How many bytes stand ahead of the first blank, or line's end. -/
def wordLen : List UInt8 → Nat
  | [] => 0
  | c :: l => if c.toNat = 32 ∨ c.toNat = 10 then 0 else wordLen l + 1
theorem wordLen_le : ∀ l, wordLen l ≤ l.length
  | [] => Nat.le_refl _
  | c :: l => by
    unfold wordLen
    have := wordLen_le l
    split <;> simp <;> omega
/-- Where the quote ends that begins ahead of this text: the place of its last quotation mark, from here; beyond the end: nowhere. -/
def endL : List UInt8 → Nat
  | [] => 0
  | c :: r => if c.toNat = 34 then 0 else if c.toNat = 92 then
      match r with
      | [] => 2
      | _ :: r2 => endL r2 + 2
    else endL r + 1
def oct3 (c d e : UInt8) : Bool := decide (48 ≤ c.toNat) && decide (c.toNat ≤ 51) && decide (48 ≤ d.toNat) && decide (d.toNat ≤ 55) && decide (48 ≤ e.toNat) && decide (e.toNat ≤ 55)
def octB (c d e : UInt8) : UInt8 := UInt8.ofNat ((c.toNat - 48) * 64 + (d.toNat - 48) * 8 + (e.toNat - 48))
/-- The bytes of a quoted form. -/
def unescL : List UInt8 → List UInt8
  | [] => []
  | c :: r => if c.toNat = 92 then
      match r with
      | [] => []
      | d :: r2 => if d.toNat = 110 then 10 :: unescL r2 else if d.toNat = 116 then 9 :: unescL r2 else
        match r2 with
        | e :: f :: r3 => if oct3 d e f then octB d e f :: unescL r3 else d :: unescL (e :: f :: r3)
        | [e] => d :: unescL [e]
        | [] => [d]
    else c :: unescL r
/-- What stands at the beginning of a text: the bytes, how many of the text, the error. -/
def unqL (s : List UInt8) : List UInt8 × Nat × Int :=
  if (s.getD 0 0).toNat = 34 then
    let e := 1 + endL s.tail
    if s.length ≤ e then ([], 0, 3)
    else
      let t := unescL ((s.take e).tail)
      if quoteL t = s.take (e + 1) then (t, e + 1, 0) else ([], 0, 4)
  else
    let n := wordLen s
    if quoteL (s.take n) = s.take n then (s.take n, n, 0) else ([], 0, 4)

/-! What is quoted is read again. -/
theorem oct3_oct (c : UInt8) : oct3 (UInt8.ofNat (48 + c.toNat / 64)) (UInt8.ofNat (48 + c.toNat / 8 % 8)) (UInt8.ofNat (48 + c.toNat % 8)) = true ∧
    octB (UInt8.ofNat (48 + c.toNat / 64)) (UInt8.ofNat (48 + c.toNat / 8 % 8)) (UInt8.ofNat (48 + c.toNat % 8)) = c ∧
    (UInt8.ofNat (48 + c.toNat / 64)).toNat ≠ 110 ∧ (UInt8.ofNat (48 + c.toNat / 64)).toNat ≠ 116 := by
  have h := c.toNat_lt
  have e1 : (UInt8.ofNat (48 + c.toNat / 64)).toNat = 48 + c.toNat / 64 := by rw [UInt8.toNat_ofNat']; omega
  have e2 : (UInt8.ofNat (48 + c.toNat / 8 % 8)).toNat = 48 + c.toNat / 8 % 8 := by rw [UInt8.toNat_ofNat']; omega
  have e3 : (UInt8.ofNat (48 + c.toNat % 8)).toNat = 48 + c.toNat % 8 := by rw [UInt8.toNat_ofNat']; omega
  refine ⟨?_, ?_, by omega, by omega⟩
  · unfold oct3
    rw [e1, e2, e3]
    simp
    omega
  · unfold octB
    rw [e1, e2, e3]
    apply UInt8.toNat_inj.1
    rw [UInt8.toNat_ofNat']
    omega
theorem dec_plain (c : UInt8) (r : List UInt8) (h : c.toNat ≠ 92) : unescL (c :: r) = c :: unescL r := by
  rw [unescL.eq_def]; simp only [if_neg h]
theorem dec_n (r : List UInt8) : unescL (92 :: 110 :: r) = 10 :: unescL r := by
  rw [unescL.eq_def]; rfl
theorem dec_t (r : List UInt8) : unescL (92 :: 116 :: r) = 9 :: unescL r := by
  rw [unescL.eq_def]; rfl
theorem dec_oct (d e f : UInt8) (r : List UInt8) (h : oct3 d e f = true) (h1 : d.toNat ≠ 110) (h2 : d.toNat ≠ 116) : unescL (92 :: d :: e :: f :: r) = octB d e f :: unescL r := by
  rw [unescL.eq_def]
  simp only [if_neg h1, if_neg h2, h, if_true, show (92 : UInt8).toNat = 92 from rfl]
theorem dec_other (d : UInt8) (r : List UInt8) (h1 : d.toNat ≠ 110) (h2 : d.toNat ≠ 116) (h : ∀ e f m, r = e :: f :: m → oct3 d e f = false) : unescL (92 :: d :: r) = d :: unescL r := by
  rw [unescL.eq_def]
  simp only [if_neg h1, if_neg h2, if_true, show (92 : UInt8).toNat = 92 from rfl]
  match r with
  | [] => rfl
  | [e] => rfl
  | e :: f :: m => simp only [h e f m rfl]; rfl
theorem dec_one (c : UInt8) (l : List UInt8) : unescL (oneL c ++ l) = c :: unescL l := by
  unfold oneL
  by_cases h1 : c.toNat = 34
  · rw [if_pos h1]
    obtain rfl : c = 34 := UInt8.toNat_inj.1 h1
    exact dec_other 34 l (by decide) (by decide) (fun e f m _ => by simp [oct3])
  · by_cases h2 : c.toNat = 92
    · rw [if_neg h1, if_pos h2]
      obtain rfl : c = 92 := UInt8.toNat_inj.1 h2
      exact dec_other 92 l (by decide) (by decide) (fun e f m _ => by simp [oct3])
    · by_cases h3 : c.toNat = 10
      · rw [if_neg h1, if_neg h2, if_pos h3]
        obtain rfl : c = 10 := UInt8.toNat_inj.1 h3
        exact dec_n l
      · by_cases h4 : c.toNat = 9
        · rw [if_neg h1, if_neg h2, if_neg h3, if_pos h4]
          obtain rfl : c = 9 := UInt8.toNat_inj.1 h4
          exact dec_t l
        · rw [if_neg h1, if_neg h2, if_neg h3, if_neg h4]
          by_cases h5 : c.toNat < 32 ∨ 127 ≤ c.toNat
          · rw [if_pos h5]
            obtain ⟨g1, g2, g3, g4⟩ := oct3_oct c
            have e := dec_oct _ _ _ l g1 g3 g4
            rw [g2] at e
            exact e
          · rw [if_neg h5]
            exact dec_plain c l h2
theorem dec_body (l : List UInt8) : unescL (bodyL l) = l := by
  induction l with
  | nil => rfl
  | cons c l ih => rw [bodyL, List.flatMap_cons, dec_one, ← bodyL, ih]
theorem end_plain (c : UInt8) (r : List UInt8) (h1 : c.toNat ≠ 34) (h : c.toNat ≠ 92) : endL (c :: r) = endL r + 1 := by
  rw [endL.eq_def]; simp only [if_neg h1, if_neg h]
theorem end_esc (d : UInt8) (r : List UInt8) : endL (92 :: d :: r) = endL r + 2 := by
  rw [endL.eq_def]; rfl
theorem end_one (c : UInt8) (l : List UInt8) : endL (oneL c ++ l) = (oneL c).length + endL l := by
  unfold oneL
  by_cases h1 : c.toNat = 34
  · rw [if_pos h1]; exact (end_esc 34 l).trans (Nat.add_comm _ _)
  · by_cases h2 : c.toNat = 92
    · rw [if_neg h1, if_pos h2]; exact (end_esc 92 l).trans (Nat.add_comm _ _)
    · by_cases h3 : c.toNat = 10
      · rw [if_neg h1, if_neg h2, if_pos h3]; exact (end_esc 110 l).trans (Nat.add_comm _ _)
      · by_cases h4 : c.toNat = 9
        · rw [if_neg h1, if_neg h2, if_neg h3, if_pos h4]; exact (end_esc 116 l).trans (Nat.add_comm _ _)
        · rw [if_neg h1, if_neg h2, if_neg h3, if_neg h4]
          by_cases h5 : c.toNat < 32 ∨ 127 ≤ c.toNat
          · rw [if_pos h5]
            have h := c.toNat_lt
            have e2 : (UInt8.ofNat (48 + c.toNat / 8 % 8)).toNat = 48 + c.toNat / 8 % 8 := by rw [UInt8.toNat_ofNat']; omega
            have e3 : (UInt8.ofNat (48 + c.toNat % 8)).toNat = 48 + c.toNat % 8 := by rw [UInt8.toNat_ofNat']; omega
            unfold octL
            simp only [List.cons_append, List.nil_append, List.length_cons, List.length_nil]
            rw [end_esc, end_plain _ _ (by omega) (by omega), end_plain _ _ (by omega) (by omega)]
            omega
          · rw [if_neg h5]
            simp only [List.cons_append, List.nil_append, List.length_cons, List.length_nil]
            rw [end_plain c l h1 h2]; omega
theorem end_body (l m : List UInt8) : endL (bodyL l ++ 34 :: m) = (bodyL l).length := by
  induction l with
  | nil => show endL (34 :: m) = 0; rw [endL.eq_def]; rfl
  | cons c l ih =>
    have e : bodyL (c :: l) = oneL c ++ bodyL l := by simp [bodyL]
    rw [e, List.append_assoc, end_one, ih, List.length_append]
theorem word_clean (l m : List UInt8) (x : UInt8) (hx : x.toNat = 32 ∨ x.toNat = 10) (h : ∀ c ∈ l, c.toNat ≠ 32 ∧ c.toNat ≠ 10) : wordLen (l ++ x :: m) = l.length := by
  induction l with
  | nil => simp [wordLen, hx]
  | cons c l ih =>
    have h1 := h c (by simp)
    simp only [List.cons_append, wordLen, List.length_cons]
    rw [if_neg (by omega), ih (fun d hd => h d (by simp [hd]))]
theorem plain_all {l : List UInt8} (hp : plainL l = true) (hc : cleanL l = true) : 0 < l.length ∧ (l.getD 0 0).toNat ≠ 34 ∧ ∀ c ∈ l, c.toNat ≠ 32 ∧ c.toNat ≠ 10 := by
  unfold plainL at hp
  unfold cleanL at hc
  simp only [Bool.and_eq_true, List.all_eq_true, decide_eq_true_eq] at hp hc
  obtain ⟨⟨h1, h2⟩, _⟩ := hp
  refine ⟨h2, ?_, fun c hcm => ?_⟩
  · match l, h2 with
    | c :: r, _ =>
      have := h1 c (by simp)
      simp [plainB] at this
      simp; omega
  · have a := h1 c hcm
    have b := hc c hcm
    simp [plainB] at a
    simp [cleanB] at b
    omega
theorem unq_quote (l m : List UInt8) (x : UInt8) (hx : x.toNat = 32 ∨ x.toNat = 10) : unqL (quoteL l ++ x :: m) = (l, (quoteL l).length, 0) := by
  unfold unqL
  by_cases h : plainL l && cleanL l
  · have hq : quoteL l = l := by unfold quoteL; rw [if_pos h]
    simp only [Bool.and_eq_true] at h
    obtain ⟨h1, h2, h3⟩ := plain_all h.1 h.2
    rw [hq, if_neg (by match l, h1 with
      | c :: r, _ => simpa using h2)]
    rw [word_clean l m x hx h3]
    simp [hq]
  · have hq : quoteL l = 34 :: (bodyL l ++ [34]) := by unfold quoteL; rw [if_neg h]
    rw [hq, if_pos (by simp)]
    have e : (34 :: (bodyL l ++ [34]) ++ x :: m).tail = bodyL l ++ 34 :: (x :: m) := by simp
    rw [e, end_body]
    have e2 : ((34 :: (bodyL l ++ [34]) ++ x :: m).take (1 + (bodyL l).length)).tail = bodyL l := by
      rw [Nat.add_comm]; simp
    have e3 : (34 :: (bodyL l ++ [34]) ++ x :: m).take (1 + (bodyL l).length + 1) = 34 :: (bodyL l ++ [34]) := by
      rw [List.take_append_of_le_length (by simp; omega), List.take_of_length_le (by simp; omega)]
    simp only [e2, e3, dec_body, hq, if_true]
    rw [if_neg (by simp; omega)]
    simp; omega
theorem unq_ok {s t : List UInt8} {n : Nat} (h : unqL s = (t, n, 0)) : n ≤ s.length ∧ quoteL t = s.take n := by
  unfold unqL at h
  by_cases h1 : (s.getD 0 0).toNat = 34
  · rw [if_pos h1] at h
    simp only at h
    by_cases h2 : s.length ≤ 1 + endL s.tail
    · rw [if_pos h2] at h; simp at h
    · rw [if_neg h2] at h
      by_cases h3 : quoteL (unescL ((s.take (1 + endL s.tail)).tail)) = s.take (1 + endL s.tail + 1)
      · rw [if_pos h3] at h
        simp only [Prod.mk.injEq] at h
        obtain ⟨rfl, rfl, _⟩ := h
        exact ⟨by omega, h3⟩
      · rw [if_neg h3] at h; simp at h
  · rw [if_neg h1] at h
    simp only at h
    by_cases h2 : quoteL (s.take (wordLen s)) = s.take (wordLen s)
    · rw [if_pos h2] at h
      simp only [Prod.mk.injEq] at h
      obtain ⟨rfl, rfl, _⟩ := h
      exact ⟨wordLen_le s, h2⟩
    · rw [if_neg h2] at h; simp at h
end Go.Proofs.YtonkclkopmdahaaGreatDoor

/-
  Layer 3, plain: paths, as functions of lists of bytes; nothing of the program.
-/
namespace Go.Proofs.YtonkclkopmdahaaGreatDoor
set_option linter.unusedVariables false

/-- The names of a text: what stands between slashes. -/
def splitL : List UInt8 → List (List UInt8)
  | [] => [[]]
  | c :: r => if c.toNat = 47 then [] :: splitL r else
      match splitL r with
      | [] => [[c]]
      | n :: m => (c :: n) :: m
def lowB (c : UInt8) : UInt8 := if 65 ≤ c.toNat ∧ c.toNat ≤ 90 then UInt8.ofNat (c.toNat + 32) else c
def nameL (l : List UInt8) : Bool := !(l == []) && !(l == [46]) && !(l == [46, 46]) && !(l.map lowB == [46, 103, 105, 116])
/-- Is it a path? -/
def pathL (l : List UInt8) : Bool :=
  decide (1 ≤ l.length) && decide (l.length ≤ 400) && Lib.validD l && !l.any (fun c => c.toNat == 0) && decide ((splitL l).length ≤ 16) && (splitL l).all nameL
theorem split_slash (c : UInt8) (r : List UInt8) (h : c.toNat = 47) : splitL (c :: r) = [] :: splitL r := by
  rw [splitL.eq_def]; simp only [if_pos h]
theorem split_other (c : UInt8) (r n : List UInt8) (m : List (List UInt8)) (h : c.toNat ≠ 47) (hr : splitL r = n :: m) : splitL (c :: r) = (c :: n) :: m := by
  rw [splitL.eq_def]; simp only [if_neg h, hr]
theorem split_ne (l : List UInt8) : splitL l ≠ [] := by
  cases l with
  | nil => simp [splitL]
  | cons c r =>
    rw [splitL.eq_def]
    simp only
    split
    · simp
    · split <;> simp
theorem split_form (l : List UInt8) : ∃ n m, splitL l = n :: m := by
  cases h : splitL l with
  | nil => exact absurd h (split_ne l)
  | cons n m => exact ⟨n, m, rfl⟩
theorem split_none : ∀ (x : List UInt8), (∀ c ∈ x, c.toNat ≠ 47) → splitL x = [x]
  | [], _ => rfl
  | c :: r, h => split_other c r r [] (h c (by simp)) (split_none r (fun d hd => h d (by simp [hd])))
theorem split_at (y : List UInt8) (z : UInt8) (hz : z.toNat = 47) : ∀ (x : List UInt8), (∀ c ∈ x, c.toNat ≠ 47) → splitL (x ++ z :: y) = x :: splitL y
  | [], _ => split_slash z y hz
  | c :: r, h => split_other c (r ++ z :: y) r (splitL y) (h c (by simp)) (split_at y z hz r (fun d hd => h d (by simp [hd])))
theorem split_app (y : List UInt8) (z : UInt8) (hz : z.toNat = 47) : ∀ (x : List UInt8), splitL (x ++ z :: y) = splitL x ++ splitL y
  | [] => split_slash z y hz
  | c :: r => by
    have ih := split_app y z hz r
    by_cases hc : c.toNat = 47
    · rw [List.cons_append, split_slash c _ hc, split_slash c _ hc, ih]; rfl
    · obtain ⟨n, m, h⟩ := split_form r
      rw [h] at ih
      rw [List.cons_append, split_other c _ n (m ++ splitL y) hc ih, split_other c r n m hc h]; rfl
theorem name_empty : nameL [] = false := rfl
/-- With a slash at its end, or its head, a text is no path. -/
theorem path_end (l : List UInt8) (z : UInt8) (hz : z.toNat = 47) : pathL (l ++ [z]) = false := by
  unfold pathL
  rw [split_app [] z hz l]
  simp [splitL, name_empty]
theorem path_head (l : List UInt8) (z : UInt8) (hz : z.toNat = 47) : pathL (z :: l) = false := by
  unfold pathL
  rw [show splitL (z :: l) = [] :: splitL l by rw [splitL.eq_def]; simp only [if_pos hz]]
  simp [name_empty]
theorem path_nil : pathL [] = false := rfl
/-- Names with a slash between. -/
def joinL : List (List UInt8) → List UInt8
  | [] => []
  | [x] => x
  | x :: y :: r => x ++ 47 :: joinL (y :: r)
theorem split_join : ∀ (ns : List (List UInt8)), ns ≠ [] → (∀ n ∈ ns, ∀ c ∈ n, c.toNat ≠ 47) → splitL (joinL ns) = ns
  | [], h, _ => absurd rfl h
  | [x], _, h => split_none x (h x (by simp))
  | x :: y :: r, _, h => by
    rw [joinL, split_at _ 47 (by decide) x (h x (by simp)), split_join (y :: r) (by simp) (fun n hn => h n (by simp at hn ⊢; right; exact hn))]
theorem join_snoc : ∀ (ns : List (List UInt8)) (x : List UInt8), ns ≠ [] → joinL (ns ++ [x]) = joinL ns ++ 47 :: x
  | [], _, h => absurd rfl h
  | [y], x, _ => rfl
  | y :: z :: r, x, _ => by
    have ih := join_snoc (z :: r) x (by simp)
    simp only [List.cons_append, joinL, List.append_assoc] at ih ⊢
    rw [ih]
/-! What is right UTF-8. -/
/-- Bytes that stand by themselves: whatever follows, they are right. -/
def Safe (a : List UInt8) : Prop := ∀ t, Lib.validD (a ++ t) = Lib.validD t
theorem safe_nil : Safe [] := fun _ => rfl
theorem safe_app {a b : List UInt8} (ha : Safe a) (hb : Safe b) : Safe (a ++ b) := fun t => by rw [List.append_assoc, ha, hb]
theorem safe_ascii (c : UInt8) (h : c.toNat < 128) : Safe [c] := fun t => Lib.validD_cons c t h
theorem safe_all : ∀ (l : List UInt8), (∀ c ∈ l, c.toNat < 128) → Safe l
  | [], _ => safe_nil
  | c :: r, h => safe_app (a := [c]) (safe_ascii c (h c (by simp))) (safe_all r (fun d hd => h d (by simp [hd])))
theorem safe_join : ∀ (ns : List (List UInt8)), (∀ n ∈ ns, Safe n) → Safe (joinL ns)
  | [], _ => safe_nil
  | [x], h => h x (by simp)
  | x :: y :: r, h => by
    have e : joinL (x :: y :: r) = x ++ ([47] ++ joinL (y :: r)) := rfl
    rw [e]
    exact safe_app (h x (by simp)) (safe_app (safe_ascii 47 (by decide)) (safe_join (y :: r) (fun n hn => h n (by simp at hn ⊢; right; exact hn))))
theorem safe_valid {l : List UInt8} (h : Safe l) : Lib.validD l = true := by
  have := h []
  rw [List.append_nil] at this
  rw [this]; rfl
theorem safe_e : Safe [0xc3, 0xa9] := fun t => by
  rw [Lib.validD_lead _ (by simp) (by simp)]
  have e : Lib.checkN ([0xc3, 0xa9] ++ t : List UInt8).length 169 (([0xc3, 0xa9] ++ t : List UInt8).getD 2 0).toNat (([0xc3, 0xa9] ++ t : List UInt8).getD 3 0).toNat (Lib.firstT 195 % 8) (Lib.accLo (Lib.firstT 195 / 16)) (Lib.accHi (Lib.firstT 195 / 16)) = some 2 := by
    rw [show Lib.firstT 195 % 8 = 2 by decide, show Lib.accLo (Lib.firstT 195 / 16) = 128 by decide, show Lib.accHi (Lib.firstT 195 / 16) = 191 by decide]
    unfold Lib.checkN
    rw [if_pos rfl, if_neg (by simp)]
  have e2 : (([0xc3, 0xa9] ++ t : List UInt8).getD 1 0).toNat = 169 := rfl
  have e3 : (([0xc3, 0xa9] ++ t : List UInt8).getD 0 0).toNat = 195 := rfl
  rw [e2, e3, e]
  rfl
end Go.Proofs.YtonkclkopmdahaaGreatDoor

/-
  Layer 3, plain: what the walks of the quoting calls want, by places in a text.
-/
namespace Go.Proofs.YtonkclkopmdahaaGreatDoor
set_option linter.unusedVariables false

theorem drop_at (l : List UInt8) (i : Nat) (h : i < l.length) : l.drop i = l.getD i 0 :: l.drop (i + 1) := by
  rw [List.drop_eq_getElem_cons h, List.getD_eq_getElem?_getD, List.getElem?_eq_getElem h]; rfl
theorem getD_mem (l : List UInt8) (i : Nat) (h : i < l.length) : l.getD i 0 ∈ l := by
  rw [List.getD_eq_getElem?_getD, List.getElem?_eq_getElem h]; exact List.getElem_mem h
theorem all_getD (l : List UInt8) (p : UInt8 → Bool) (h : ∀ i, i < l.length → p (l.getD i 0) = true) : l.all p = true := by
  rw [List.all_eq_true]
  intro c hc
  obtain ⟨i, hi, rfl⟩ := List.getElem_of_mem hc
  have := h i hi
  rwa [List.getD_eq_getElem?_getD, List.getElem?_eq_getElem hi] at this
theorem not_all_getD (l : List UInt8) (p : UInt8 → Bool) (i : Nat) (hi : i < l.length) (h : p (l.getD i 0) = false) : l.all p = false := by
  rw [List.all_eq_false]
  exact ⟨_, getD_mem l i hi, by rw [h]; decide⟩
/-! Plain, clean. -/
theorem plain_bad (l : List UInt8) (i : Nat) (hi : i < l.length) (h : plainB (l.getD i 0) = false) : plainL l = false := by
  unfold plainL; rw [not_all_getD l _ i hi h]; rfl
theorem plain_good (l : List UInt8) (h : ∀ i, i < l.length → plainB (l.getD i 0) = true) : plainL l = (decide (0 < l.length) && !(l.getD 0 0).toNat == 32) := by
  unfold plainL; rw [all_getD l _ h, Bool.true_and]
theorem clean_bad (l : List UInt8) (i : Nat) (hi : i < l.length) (h : cleanB (l.getD i 0) = false) : cleanL l = false := not_all_getD l _ i hi h
theorem clean_good (l : List UInt8) (h : ∀ i, i < l.length → cleanB (l.getD i 0) = true) : cleanL l = true := all_getD l _ h
/-- A byte that is quoted as it is. -/
def okB (c : UInt8) : Bool := plainB c && cleanB c
theorem okB_iff (c : UInt8) : okB c = true ↔ 32 < c.toNat ∧ c.toNat < 127 ∧ c.toNat ≠ 34 ∧ c.toNat ≠ 92 := by
  simp [okB, plainB, cleanB]; omega
theorem ok_quote (l : List UInt8) (h0 : 0 < l.length) (h : ∀ c ∈ l, okB c = true) : plainL l = true ∧ quoteL l = l := by
  have hp : plainL l = true := by
    unfold plainL
    have h1 : l.all plainB = true := List.all_eq_true.2 fun c hc => by have := h c hc; simp [okB] at this; exact this.1
    have h2 := (okB_iff _).1 (h _ (getD_mem l 0 h0))
    rw [h1]
    simp only [Bool.true_and, Bool.and_eq_true, decide_eq_true_eq]
    refine ⟨h0, ?_⟩
    rw [Bool.not_eq_true', beq_eq_false_iff_ne]
    omega
  have hc : cleanL l = true := List.all_eq_true.2 fun c hc => by have := h c hc; simp [okB] at this; exact this.2
  refine ⟨hp, ?_⟩
  unfold quoteL
  rw [hp, hc]; rfl
theorem odd_quote (l : List UInt8) (c : UInt8) (hc : c ∈ l) (h : okB c = false) : quoteL l = 34 :: (bodyL l ++ [34]) := by
  unfold quoteL
  rw [if_neg]
  simp only [Bool.and_eq_true, not_and]
  intro hp hcl
  unfold plainL at hp
  simp only [Bool.and_eq_true, List.all_eq_true] at hp
  have h1 := hp.1.1 c hc
  have h2 := List.all_eq_true.1 hcl c hc
  simp [okB, h1, h2] at h
/-! Where the quote ends. -/
theorem end_at (s : List UInt8) (i : Nat) (h : i < s.length) :
    endL (s.drop i) = if (s.getD i 0).toNat = 34 then 0 else if (s.getD i 0).toNat = 92 then endL (s.drop (i + 2)) + 2 else endL (s.drop (i + 1)) + 1 := by
  rw [drop_at s i h, endL.eq_def]
  simp only
  split
  · rfl
  · split
    · by_cases h2 : i + 1 < s.length
      · rw [drop_at s (i + 1) h2]
      · rw [List.drop_of_length_le (by omega : s.length ≤ i + 1), List.drop_of_length_le (by omega : s.length ≤ i + 2)]; rfl
    · rfl
theorem end_beyond (s : List UInt8) (i : Nat) (h : s.length ≤ i) : endL (s.drop i) = 0 := by rw [List.drop_of_length_le h]; rfl
/-! What a quoted form means. -/
theorem dec_at (t : List UInt8) (i : Nat) (h : i < t.length) (hc : (t.getD i 0).toNat ≠ 92) : unescL (t.drop i) = t.getD i 0 :: unescL (t.drop (i + 1)) := by
  rw [drop_at t i h, dec_plain _ _ hc]
theorem byte92 {c : UInt8} (h : c.toNat = 92) : c = 92 := UInt8.toNat_inj.1 h
theorem dec_at_n (t : List UInt8) (i : Nat) (h : i + 1 < t.length) (hc : (t.getD i 0).toNat = 92) (hd : (t.getD (i + 1) 0).toNat = 110) : unescL (t.drop i) = 10 :: unescL (t.drop (i + 2)) := by
  rw [drop_at t i (by omega), drop_at t (i + 1) h, byte92 hc, show t.getD (i + 1) 0 = 110 from UInt8.toNat_inj.1 hd, dec_n]
theorem dec_at_t (t : List UInt8) (i : Nat) (h : i + 1 < t.length) (hc : (t.getD i 0).toNat = 92) (hd : (t.getD (i + 1) 0).toNat = 116) : unescL (t.drop i) = 9 :: unescL (t.drop (i + 2)) := by
  rw [drop_at t i (by omega), drop_at t (i + 1) h, byte92 hc, show t.getD (i + 1) 0 = 116 from UInt8.toNat_inj.1 hd, dec_t]
theorem oct3_not {d e f : UInt8} (h : oct3 d e f = true) : 48 ≤ d.toNat ∧ d.toNat ≤ 51 ∧ 48 ≤ e.toNat ∧ e.toNat ≤ 55 ∧ 48 ≤ f.toNat ∧ f.toNat ≤ 55 := by
  simp [oct3] at h; omega
theorem dec_at_oct (t : List UInt8) (i : Nat) (h : i + 3 < t.length) (hc : (t.getD i 0).toNat = 92) (ho : oct3 (t.getD (i + 1) 0) (t.getD (i + 2) 0) (t.getD (i + 3) 0) = true) :
    unescL (t.drop i) = octB (t.getD (i + 1) 0) (t.getD (i + 2) 0) (t.getD (i + 3) 0) :: unescL (t.drop (i + 4)) := by
  have := oct3_not ho
  rw [drop_at t i (by omega), drop_at t (i + 1) (by omega), drop_at t (i + 2) (by omega), drop_at t (i + 3) h, byte92 hc, dec_oct _ _ _ _ ho (by omega) (by omega)]
theorem dec_at_other (t : List UInt8) (i : Nat) (h : i + 1 < t.length) (hc : (t.getD i 0).toNat = 92) (h1 : (t.getD (i + 1) 0).toNat ≠ 110) (h2 : (t.getD (i + 1) 0).toNat ≠ 116)
    (ho : i + 3 < t.length → oct3 (t.getD (i + 1) 0) (t.getD (i + 2) 0) (t.getD (i + 3) 0) = false) : unescL (t.drop i) = t.getD (i + 1) 0 :: unescL (t.drop (i + 2)) := by
  rw [drop_at t i (by omega), drop_at t (i + 1) h, byte92 hc]
  refine dec_other _ _ h1 h2 (fun e f m hr => ?_)
  have hl : (t.drop (i + 2)).length = (e :: f :: m).length := by rw [hr]
  simp at hl
  have h3 : i + 3 < t.length := by omega
  rw [drop_at t (i + 2) (by omega), drop_at t (i + 3) h3] at hr
  simp only [List.cons.injEq] at hr
  obtain ⟨rfl, rfl, _⟩ := hr
  exact ho h3
theorem take_getD (s : List UInt8) (n i : Nat) (h : i < n) : (s.take n).getD i 0 = s.getD i 0 := by
  rw [List.getD_eq_getElem?_getD, List.getElem?_take, if_pos h, ← List.getD_eq_getElem?_getD]
/-! The model's words on bytes. -/
theorem and7 : ∀ x : Fin 256, bits BinOp.and .u8 ((x.1 : Nat) : Int) 7 = ((x.1 % 8 : Nat) : Int) := by decide +kernel
theorem or_oct : ∀ (x : Fin 4) (y z : Fin 8), bits BinOp.or .u8 (bits BinOp.or .u8 ((x.1 * 64 : Nat) : Int) ((y.1 * 8 : Nat) : Int)) ((z.1 : Nat) : Int) = ((x.1 * 64 + y.1 * 8 + z.1 : Nat) : Int) := by decide +kernel
/-! A path's names, met one by one. -/
/-- What is known when the names ahead of a place are right, and the next one begins there. -/
structure PathAt (l : List UInt8) (from_ n : Nat) : Prop where
  le : from_ ≤ l.length
  pos : 1 ≤ n
  split : ∃ done, done.length + 1 = n ∧ done.all nameL = true ∧ splitL l = done ++ splitL (l.drop from_)
theorem PathAt.start (l : List UInt8) : PathAt l 0 1 := ⟨Nat.zero_le _, Nat.le_refl _, [], rfl, rfl, rfl⟩
/-- The name between two places. -/
def cutL (l : List UInt8) (a b : Nat) : List UInt8 := (l.drop a).take (b - a)
theorem cut_split (l : List UInt8) (a i : Nat) (ha : a ≤ i) (hi : i < l.length) (h : ∀ j, a ≤ j → j < i → (l.getD j 0).toNat ≠ 47) (hs : (l.getD i 0).toNat = 47) : splitL (l.drop a) = cutL l a i :: splitL (l.drop (i + 1)) := by
  have e : l.drop a = cutL l a i ++ l.getD i 0 :: l.drop (i + 1) := by
    rw [← drop_at l i hi]
    unfold cutL
    have := List.take_append_drop (i - a) (l.drop a)
    rw [List.drop_drop, show a + (i - a) = i by omega] at this
    exact this.symm
  rw [e]
  refine split_at _ _ hs _ (fun c hc => ?_)
  unfold cutL at hc
  obtain ⟨j, hj, rfl⟩ := List.getElem_of_mem hc
  have hj2 : j < i - a := by simp at hj; omega
  have := h (a + j) (by omega) (by omega)
  rw [List.getElem_take, List.getElem_drop]
  rwa [List.getD_eq_getElem?_getD, List.getElem?_eq_getElem (by omega)] at this
theorem cut_last (l : List UInt8) (a : Nat) (ha : a ≤ l.length) (h : ∀ j, a ≤ j → j < l.length → (l.getD j 0).toNat ≠ 47) : splitL (l.drop a) = [cutL l a l.length] := by
  have e : l.drop a = cutL l a l.length := by unfold cutL; rw [List.take_of_length_le (by simp)]
  rw [← e]
  refine split_none _ (fun c hc => ?_)
  obtain ⟨j, hj, rfl⟩ := List.getElem_of_mem hc
  have hj2 : a + j < l.length := by simp at hj; omega
  have := h (a + j) (by omega) hj2
  rw [List.getElem_drop]
  rwa [List.getD_eq_getElem?_getD, List.getElem?_eq_getElem hj2] at this
theorem PathAt.next {l : List UInt8} {a n i : Nat} (p : PathAt l a n) (ha : a ≤ i) (hi : i < l.length) (h : ∀ j, a ≤ j → j < i → (l.getD j 0).toNat ≠ 47) (hs : (l.getD i 0).toNat = 47) (hn : nameL (cutL l a i) = true) : PathAt l (i + 1) (n + 1) where
  le := hi
  pos := by omega
  split := by
    obtain ⟨d, h1, h2, h3⟩ := p.split
    refine ⟨d ++ [cutL l a i], by simp; omega, by simp [h2, hn], ?_⟩
    rw [h3, cut_split l a i ha hi h hs]; simp
theorem PathAt.bad {l : List UInt8} {a n i : Nat} (p : PathAt l a n) (ha : a ≤ i) (hi : i ≤ l.length) (h : ∀ j, a ≤ j → j < i → (l.getD j 0).toNat ≠ 47) (hs : i < l.length → (l.getD i 0).toNat = 47) (hn : nameL (cutL l a i) = false) : pathL l = false := by
  obtain ⟨d, h1, h2, h3⟩ := p.split
  unfold pathL
  rw [h3]
  by_cases he : i < l.length
  · rw [cut_split l a i ha he h (hs he)]; simp [hn]
  · obtain rfl : i = l.length := by omega
    rw [cut_last l a p.le h]; simp [hn]
theorem PathAt.fin {l : List UInt8} {a n : Nat} (p : PathAt l a n) (h : ∀ j, a ≤ j → j < l.length → (l.getD j 0).toNat ≠ 47) (hn : nameL (cutL l a l.length) = true) (h1 : 1 ≤ l.length) (h2 : l.length ≤ 400) (h3 : Lib.validD l = true) (h4 : ∀ j, j < l.length → (l.getD j 0).toNat ≠ 0) :
    pathL l = decide (n ≤ 16) := by
  obtain ⟨d, e1, e2, e3⟩ := p.split
  have e4 : l.any (fun c => c.toNat == 0) = false := by
    rw [List.any_eq_false]
    intro c hc
    obtain ⟨j, hj, rfl⟩ := List.getElem_of_mem hc
    have := h4 j hj
    rw [List.getD_eq_getElem?_getD, List.getElem?_eq_getElem hj] at this
    simpa using this
  unfold pathL
  rw [e3, cut_last l a p.le h, h3, e4]
  simp [e2, hn, h1, h2, ← e1]
theorem zero_bad (l : List UInt8) (i : Nat) (hi : i < l.length) (h : (l.getD i 0).toNat = 0) : pathL l = false := by
  have e : l.any (fun c => c.toNat == 0) = true := List.any_eq_true.2 ⟨_, getD_mem l i hi, by simpa using h⟩
  unfold pathL; rw [e]; simp
end Go.Proofs.YtonkclkopmdahaaGreatDoor

/-
  Runes and bytes (plain): where a rune of a text begins, and that its bytes are high ones; a decoder that knows Quote's forms alone.
-/
namespace Go.Proofs.YtonkclkopmdahaaGreatDoor
set_option linter.unusedVariables false
set_option linter.unusedSimpArgs false

theorem decodeN_wide (n b0 b1 b2 b3 : Nat) (h0 : 128 ≤ b0) (hn : 1 ≤ n) :
    128 ≤ (Lib.decodeN n b0 b1 b2 b3).1 ∧ 1 ≤ (Lib.decodeN n b0 b1 b2 b3).2 ∧ (Lib.decodeN n b0 b1 b2 b3).2 ≤ n ∧ (Lib.decodeN n b0 b1 b2 b3).2 ≤ 4 ∧
    (1 < (Lib.decodeN n b0 b1 b2 b3).2 → 128 ≤ b1) ∧ (2 < (Lib.decodeN n b0 b1 b2 b3).2 → 128 ≤ b2) ∧ (3 < (Lib.decodeN n b0 b1 b2 b3).2 → 128 ≤ b3) := by
  unfold Lib.decodeN
  rw [if_neg (by omega)]
  split
  · split
    · refine ⟨?_, ?_, ?_, ?_, ?_, ?_, ?_⟩ <;> simp only <;> omega
    · refine ⟨?_, ?_, ?_, ?_, ?_, ?_, ?_⟩ <;> simp only <;> omega
  · split
    · split
      · refine ⟨?_, ?_, ?_, ?_, ?_, ?_, ?_⟩ <;> simp only <;> omega
      · refine ⟨?_, ?_, ?_, ?_, ?_, ?_, ?_⟩ <;> simp only <;> omega
    · split
      · split
        · refine ⟨?_, ?_, ?_, ?_, ?_, ?_, ?_⟩ <;> simp only <;> omega
        · refine ⟨?_, ?_, ?_, ?_, ?_, ?_, ?_⟩ <;> simp only <;> omega
      · refine ⟨?_, ?_, ?_, ?_, ?_, ?_, ?_⟩ <;> simp only <;> omega

/-- What a range over a text hands over at a place: a low byte by itself, or a high rune whose bytes are all high. -/
theorem rune_at (l : List UInt8) (i : Nat) (hi : i < l.length) :
    ((l.getD i 0).toNat < 128 ∧ Utf8.decode ⟨l.toArray⟩ i = ((l.getD i 0).toNat, 1)) ∨
    (128 ≤ (l.getD i 0).toNat ∧ 128 ≤ (Utf8.decode ⟨l.toArray⟩ i).1 ∧ (Utf8.decode ⟨l.toArray⟩ i).1 ≤ 2147483647 ∧ 1 ≤ (Utf8.decode ⟨l.toArray⟩ i).2 ∧ (Utf8.decode ⟨l.toArray⟩ i).2 ≤ 4 ∧ i + (Utf8.decode ⟨l.toArray⟩ i).2 ≤ l.length ∧
      ∀ j, i ≤ j → j < i + (Utf8.decode ⟨l.toArray⟩ i).2 → 128 ≤ (l.getD j 0).toNat) := by
  have e : Utf8.decode ⟨l.toArray⟩ i = Lib.decodeN (l.length - i) (l.getD i 0).toNat (l.getD (i + 1) 0).toNat (l.getD (i + 2) 0).toNat (l.getD (i + 3) 0).toNat := Lib.decode_N ⟨l.toArray⟩ i
  by_cases h : (l.getD i 0).toNat < 128
  · left
    refine ⟨h, ?_⟩
    rw [e]
    unfold Lib.decodeN
    rw [if_pos h]
  · right
    have w := decodeN_wide (l.length - i) (l.getD i 0).toNat (l.getD (i + 1) 0).toNat (l.getD (i + 2) 0).toNat (l.getD (i + 3) 0).toNat (by omega) (by omega)
    have le := decode_le ⟨l.toArray⟩ i
    rw [e] at le ⊢
    obtain ⟨w1, w2, w3, w4, w5, w6, w7⟩ := w
    refine ⟨by omega, w1, le, w2, w4, by omega, fun j h1 h2 => ?_⟩
    obtain h3 | h3 | h3 | h3 : j = i ∨ j = i + 1 ∨ j = i + 2 ∨ j = i + 3 := by omega
    · subst h3; omega
    · subst h3; exact w5 (by omega)
    · subst h3; exact w6 (by omega)
    · subst h3; exact w7 (by omega)

/-- The form at the head of a text, and its length. -/
def formL : List UInt8 → Option (UInt8 × Nat)
  | [] => none
  | c :: r => if c.toNat ≠ 92 then some (c, 1) else
    match r with
    | [] => none
    | d :: r2 => if d.toNat = 34 ∨ d.toNat = 92 then some (d, 2) else if d.toNat = 110 then some (10, 2) else if d.toNat = 116 then some (9, 2) else
      match r2 with
      | e :: f :: _ => if oct3 d e f then some (octB d e f, 4) else none
      | _ => none
theorem form_pos {l : List UInt8} {c : UInt8} {n : Nat} (h : formL l = some (c, n)) : 1 ≤ n ∧ n ≤ l.length := by
  revert h
  fun_cases formL l <;> intro h <;> simp only [Option.some.injEq, Prod.mk.injEq, reduceCtorEq] at h <;> (obtain ⟨_, rfl⟩ := h; simp)

/-- All the forms of a text. -/
def betL : Nat → List UInt8 → Option (List UInt8)
  | _, [] => some []
  | 0, _ :: _ => none
  | n + 1, c :: r => match formL (c :: r) with
    | none => none
    | some (x, k) => (betL n ((c :: r).drop k)).map (x :: ·)
theorem bet_nil (n : Nat) : betL n [] = some [] := by cases n <;> rfl
theorem bet_none {n : Nat} {l : List UInt8} (hl : l ≠ []) (h : formL l = none) : betL (n + 1) l = none := by
  cases l with
  | nil => exact absurd rfl hl
  | cons c r => simp only [betL, h]
theorem bet_some {n : Nat} {l : List UInt8} {x : UInt8} {k : Nat} (h : formL l = some (x, k)) : betL (n + 1) l = (betL n (l.drop k)).map (x :: ·) := by
  cases l with
  | nil => simp [formL] at h
  | cons c r => simp only [betL, h]
theorem form_one (c : UInt8) (r : List UInt8) : formL (oneL c ++ r) = some (c, (oneL c).length) := by
  unfold oneL
  by_cases h1 : c.toNat = 34
  · rw [if_pos h1]
    have : c = 34 := UInt8.toNat_inj.1 h1
    subst this
    rfl
  rw [if_neg h1]
  by_cases h2 : c.toNat = 92
  · rw [if_pos h2]
    have : c = 92 := UInt8.toNat_inj.1 h2
    subst this
    rfl
  rw [if_neg h2]
  by_cases h3 : c.toNat = 10
  · rw [if_pos h3]
    have : c = 10 := UInt8.toNat_inj.1 h3
    subst this
    rfl
  rw [if_neg h3]
  by_cases h4 : c.toNat = 9
  · rw [if_pos h4]
    have : c = 9 := UInt8.toNat_inj.1 h4
    subst this
    rfl
  rw [if_neg h4]
  by_cases h5 : c.toNat < 32 ∨ 127 ≤ c.toNat
  · rw [if_pos h5]
    obtain ⟨o1, o2, _, _⟩ := oct3_oct c
    have lt := c.toNat_lt
    have n1 : (UInt8.ofNat (48 + c.toNat / 64)).toNat = 48 + c.toNat / 64 := by rw [UInt8.toNat_ofNat']; omega
    unfold octL
    simp only [List.cons_append, List.nil_append, formL]
    rw [if_neg (by decide), if_neg (by omega), if_neg (by omega), if_neg (by omega), o1, if_pos rfl]
    rw [o2]
    rfl
  · rw [if_neg h5]
    simp only [List.cons_append, List.nil_append, formL]
    rw [if_pos h2]
    rfl
theorem bet_body : ∀ (l : List UInt8) (n : Nat), (bodyL l).length ≤ n → betL n (bodyL l) = some l
  | [], n, _ => bet_nil n
  | c :: r, n, h => by
    have e : bodyL (c :: r) = oneL c ++ bodyL r := by simp [bodyL]
    have o := one_len c
    rw [e, List.length_append] at h
    obtain ⟨m, rfl⟩ : ∃ m, n = m + 1 := ⟨n - 1, by omega⟩
    rw [e, bet_some (form_one c (bodyL r)), List.drop_left, bet_body r m (by omega)]
    rfl
/-- What is quoted with marks, by either decoder. -/
theorem quote_marks {t s : List UInt8} {e : Nat} (h0 : (s.getD 0 0).toNat = 34) (he : e < s.length) (h1 : 1 ≤ e) (h : quoteL t = s.take (e + 1)) : (s.take e).tail = bodyL t := by
  unfold quoteL at h
  split at h
  · next hp =>
    rw [Bool.and_eq_true] at hp
    have := (plain_all hp.1 hp.2).2.1
    rw [h, take_getD s (e + 1) 0 (by omega)] at this
    exact absurd h0 this
  · next hp =>
    have hl := congrArg List.length h
    rw [List.length_take, List.length_cons, List.length_append, List.length_cons, List.length_nil] at hl
    have hd : (s.take (e + 1)).dropLast = s.take e := by
      rw [List.dropLast_eq_take, List.length_take, List.take_take]
      congr 1
      omega
    rw [← hd, ← h, List.tail_dropLast, List.tail_cons, List.dropLast_concat]
theorem dec_either {s t' : List UInt8} {e n : Nat} (h0 : (s.getD 0 0).toNat = 34) (he : e < s.length) (h1 : 1 ≤ e) (hn : ((s.take e).tail).length ≤ n) :
    (betL n ((s.take e).tail) = some t' ∧ quoteL t' = s.take (e + 1)) ↔ (t' = unescL ((s.take e).tail) ∧ quoteL t' = s.take (e + 1)) := by
  constructor
  · rintro ⟨a, b⟩
    have := quote_marks h0 he h1 b
    exact ⟨by rw [this, dec_body], b⟩
  · rintro ⟨a, b⟩
    have := quote_marks h0 he h1 b
    refine ⟨?_, b⟩
    rw [this] at hn ⊢
    exact bet_body t' n hn
end Go.Proofs.YtonkclkopmdahaaGreatDoor

/-
  Layer 6, plain: runes of a text as pieces, what is clean; nothing of the program.
-/
namespace Go.Proofs.YtonkclkopmdahaaGreatDoor
set_option linter.unusedVariables false
set_option linter.unusedSimpArgs false

theorem decodeN_same (L M b0 b1 b2 b3 c1 c2 c3 : Nat) (h : ¬ ((Lib.decodeN L b0 b1 b2 b3).1 = 65533 ∧ (Lib.decodeN L b0 b1 b2 b3).2 = 1)) (hM : (Lib.decodeN L b0 b1 b2 b3).2 ≤ M)
    (h1 : 1 < (Lib.decodeN L b0 b1 b2 b3).2 → c1 = b1) (h2 : 2 < (Lib.decodeN L b0 b1 b2 b3).2 → c2 = b2) (h3 : 3 < (Lib.decodeN L b0 b1 b2 b3).2 → c3 = b3) :
    Lib.decodeN M b0 c1 c2 c3 = Lib.decodeN L b0 b1 b2 b3 := by
  unfold Lib.decodeN at h hM h1 h2 h3 ⊢
  by_cases a : b0 < 128
  · simp only [if_pos a]
  · simp only [if_neg a] at h hM h1 h2 h3 ⊢
    by_cases b : b0 / 32 = 6 ∧ (1 < L ∧ b1 / 64 = 2)
    · simp only [if_pos b] at h hM h1 h2 h3 ⊢
      by_cases c : b0 % 32 * 64 + b1 % 64 ≥ 128
      · simp only [if_pos c] at h hM h1 h2 h3 ⊢
        have e1 := h1 (by omega)
        subst e1
        rw [if_pos ⟨b.1, by omega, b.2.2⟩, if_pos c]
      · simp only [if_neg c] at h
        exact absurd (And.intro trivial trivial) h
    · simp only [if_neg b] at h hM h1 h2 h3 ⊢
      by_cases d : b0 / 16 = 14 ∧ (1 < L ∧ b1 / 64 = 2) ∧ (2 < L ∧ b2 / 64 = 2)
      · simp only [if_pos d] at h hM h1 h2 h3 ⊢
        by_cases c : b0 % 16 * 4096 + b1 % 64 * 64 + b2 % 64 ≥ 2048 ∧ (b0 % 16 * 4096 + b1 % 64 * 64 + b2 % 64 < 55296 ∨ (57344 ≤ b0 % 16 * 4096 + b1 % 64 * 64 + b2 % 64 ∧ b0 % 16 * 4096 + b1 % 64 * 64 + b2 % 64 ≤ 1114111))
        · simp only [if_pos c] at h hM h1 h2 h3 ⊢
          have e1 := h1 (by omega); have e2 := h2 (by omega)
          subst e1; subst e2
          rw [if_neg (by omega), if_pos ⟨d.1, ⟨by omega, d.2.1.2⟩, by omega, d.2.2.2⟩, if_pos c]
        · simp only [if_neg c] at h
          exact absurd (And.intro trivial trivial) h
      · simp only [if_neg d] at h hM h1 h2 h3 ⊢
        by_cases f : b0 / 8 = 30 ∧ (1 < L ∧ b1 / 64 = 2) ∧ (2 < L ∧ b2 / 64 = 2) ∧ (3 < L ∧ b3 / 64 = 2)
        · simp only [if_pos f] at h hM h1 h2 h3 ⊢
          by_cases c : b0 % 8 * 262144 + b1 % 64 * 4096 + b2 % 64 * 64 + b3 % 64 ≥ 65536 ∧ (b0 % 8 * 262144 + b1 % 64 * 4096 + b2 % 64 * 64 + b3 % 64 < 55296 ∨ (57344 ≤ b0 % 8 * 262144 + b1 % 64 * 4096 + b2 % 64 * 64 + b3 % 64 ∧ b0 % 8 * 262144 + b1 % 64 * 4096 + b2 % 64 * 64 + b3 % 64 ≤ 1114111))
          · simp only [if_pos c] at h hM h1 h2 h3 ⊢
            have e1 := h1 (by omega); have e2 := h2 (by omega); have e3 := h3 (by omega)
            subst e1; subst e2; subst e3
            rw [if_neg (by omega), if_neg (by omega), if_pos ⟨f.1, ⟨by omega, f.2.1.2⟩, ⟨by omega, f.2.2.1.2⟩, by omega, f.2.2.2.2⟩, if_pos c]
          · simp only [if_neg c] at h
            exact absurd (And.intro trivial trivial) h
        · simp only [if_neg f] at h
          exact absurd (And.intro trivial trivial) h
theorem decodeL_N (l : List UInt8) : Lib.decodeL l = Lib.decodeN l.length (l.getD 0 0).toNat (l.getD 1 0).toNat (l.getD 2 0).toNat (l.getD 3 0).toNat := by
  have := Lib.decode_N ⟨l.toArray⟩ 0
  simpa [Lib.decodeL] using this
/-- Is there a right rune at the head? -/
def goodL (l : List UInt8) : Prop := ¬ ((Lib.decodeL l).1 = 65533 ∧ (Lib.decodeL l).2 = 1)
instance (l : List UInt8) : Decidable (goodL l) := by unfold goodL; exact inferInstance
def widL (l : List UInt8) : Nat := (Lib.decodeL l).2
theorem wid_pos (l : List UInt8) : 1 ≤ widL l := Lib.decodeL_width l
theorem wid_le (l : List UInt8) (h : l ≠ []) : widL l ≤ l.length := Lib.decodeL_le l h
/-- A right rune is the same whatever follows. -/
theorem good_take (l t : List UInt8) (h : l ≠ []) (hg : goodL l) : Lib.decodeL (l.take (widL l) ++ t) = Lib.decodeL l := by
  have hp := wid_pos l
  have hle := wid_le l h
  have e : ∀ i, i < widL l → (l.take (widL l) ++ t).getD i 0 = l.getD i 0 := fun i hi => by
    rw [List.getD_eq_getElem?_getD, List.getD_eq_getElem?_getD, List.getElem?_append_left (by rw [List.length_take]; omega), List.getElem?_take, if_pos hi]
  unfold goodL at hg
  unfold widL at *
  rw [decodeL_N l] at hg hp hle e ⊢
  rw [decodeL_N (_ ++ t), e 0 (by omega)]
  refine decodeN_same _ _ _ _ _ _ _ _ _ hg (by rw [List.length_append, List.length_take]; omega) (fun h1 => by rw [e 1 h1]) (fun h2 => by rw [e 2 h2]) (fun h3 => by rw [e 3 h3])
def barB (c : UInt8) : Bool := c.toNat == 0 || c.toNat == 10 || c.toNat == 60 || c.toNat == 62
/-- A piece: one right rune that may stand in a name. -/
structure Rune (g : List UInt8) : Prop where
  ne : g ≠ []
  wid : ∀ t, widL (g ++ t) = g.length
  good : ∀ t, goodL (g ++ t)
  bar : ∀ c ∈ g, barB c = false
  low : (∃ c : UInt8, g = [c] ∧ c.toNat < 128) ∨ ∀ c ∈ g, 128 ≤ c.toNat
def keepL (l : List UInt8) : Prop := goodL l ∧ ¬ (widL l = 1 ∧ barB (l.getD 0 0) = true)
instance (l : List UInt8) : Decidable (keepL l) := by unfold keepL; exact inferInstance
theorem wid_high (l : List UInt8) (h : l ≠ []) (h0 : 128 ≤ (l.getD 0 0).toNat) (hg : goodL l) : ∀ c ∈ l.take (widL l), 128 ≤ c.toNat := by
  have hr := rune_at l 0 (by cases l with | nil => exact absurd rfl h | cons _ _ => simp)
  rcases hr with ⟨h1, _⟩ | ⟨_, _, _, _, _, h5, h6⟩
  · omega
  · intro c hc
    obtain ⟨i, hi, rfl⟩ := List.getElem_of_mem hc
    rw [List.length_take] at hi
    have := h6 i (Nat.zero_le _) (by show i < 0 + (Lib.decodeL l).2; rw [Nat.zero_add]; exact Nat.lt_of_lt_of_le hi (Nat.min_le_left _ _))
    rw [List.getElem_take]
    rw [List.getD_eq_getElem?_getD, List.getElem?_eq_getElem (by omega)] at this
    simpa using this
theorem wid_low (l : List UInt8) (h : l ≠ []) (h0 : (l.getD 0 0).toNat < 128) : widL l = 1 := by
  unfold widL
  rw [decodeL_N]
  unfold Lib.decodeN
  rw [if_pos h0]
theorem good_high (l : List UInt8) (h : l ≠ []) (h0 : 128 ≤ (l.getD 0 0).toNat) (hg : goodL l) : 1 < widL l := by
  unfold goodL at hg
  unfold widL
  rw [decodeL_N] at hg ⊢
  unfold Lib.decodeN at hg ⊢
  rw [if_neg (by omega)] at hg ⊢
  split
  · split
    · simp
    · rename_i a b; simp only [if_pos a, if_neg b] at hg; exact absurd (And.intro trivial trivial) hg
  · split
    · split
      · simp
      · rename_i x a b; simp only [if_neg x, if_pos a, if_neg b] at hg; exact absurd (And.intro trivial trivial) hg
    · split
      · split
        · simp
        · rename_i x y a b; simp only [if_neg x, if_neg y, if_pos a, if_neg b] at hg; exact absurd (And.intro trivial trivial) hg
      · rename_i x y a; simp only [if_neg x, if_neg y, if_neg a] at hg; exact absurd (And.intro trivial trivial) hg
theorem rune_of (l : List UInt8) (h : l ≠ []) (hk : keepL l) : Rune (l.take (widL l)) := by
  have hp := wid_pos l
  have hle := wid_le l h
  have hlen : (l.take (widL l)).length = widL l := by rw [List.length_take]; omega
  have hd := fun t => good_take l t h hk.1
  refine ⟨fun e => by rw [e] at hlen; simp at hlen; omega, fun t => by rw [hlen]; unfold widL; rw [show (Lib.decodeL l).2 = widL l from rfl, hd t]; rfl, fun t => by unfold goodL; rw [hd t]; exact hk.1, ?_, ?_⟩
  · by_cases h0 : (l.getD 0 0).toNat < 128
    · have h1 := wid_low l h h0
      have hb : barB (l.getD 0 0) = false := by
        cases hb : barB (l.getD 0 0) with
        | false => rfl
        | true => exact absurd ⟨h1, hb⟩ hk.2
      intro c hc
      rw [h1] at hc
      cases l with
      | nil => exact absurd rfl h
      | cons x r => simp at hc; subst hc; simpa using hb
    · intro c hc
      have := wid_high l h (by omega) hk.1 c hc
      unfold barB
      simp
      omega
  · by_cases h0 : (l.getD 0 0).toNat < 128
    · left
      have h1 := wid_low l h h0
      cases l with
      | nil => exact absurd rfl h
      | cons x r => exact ⟨x, by rw [h1]; rfl, by simpa using h0⟩
    · right; exact wid_high l h (by omega) hk.1
/-- The pieces of a text: its right runes that are not barred. -/
def piecesN : Nat → List UInt8 → List (List UInt8)
  | 0, _ => []
  | n + 1, l => if l = [] then [] else if keepL l then l.take (widL l) :: piecesN n (l.drop (widL l)) else piecesN n (l.drop (widL l))
def pieces (l : List UInt8) : List (List UInt8) := piecesN l.length l
theorem pieces_fuel : ∀ (n m : Nat) (l : List UInt8), l.length ≤ n → l.length ≤ m → piecesN n l = piecesN m l
  | 0, 0, _, _, _ => rfl
  | 0, m + 1, l, h, _ => by
    have e : l = [] := List.eq_nil_of_length_eq_zero (by omega)
    simp [piecesN, e]
  | n + 1, 0, l, _, h => by
    have e : l = [] := List.eq_nil_of_length_eq_zero (by omega)
    simp [piecesN, e]
  | n + 1, m + 1, l, h1, h2 => by
    by_cases e : l = []
    · simp [piecesN, e]
    · have hp := wid_pos l
      have ih := pieces_fuel n m (l.drop (widL l)) (by rw [List.length_drop]; omega) (by rw [List.length_drop]; omega)
      unfold piecesN
      rw [if_neg e, if_neg e, ih]
theorem pieces_nil : pieces [] = [] := rfl
theorem pieces_step (l : List UInt8) (h : l ≠ []) : pieces l = if keepL l then l.take (widL l) :: pieces (l.drop (widL l)) else pieces (l.drop (widL l)) := by
  have hp := wid_pos l
  have hl : 1 ≤ l.length := by cases l with | nil => exact absurd rfl h | cons _ _ => simp
  obtain ⟨n, hn⟩ : ∃ n, l.length = n + 1 := ⟨l.length - 1, by omega⟩
  have e : piecesN n (l.drop (widL l)) = pieces (l.drop (widL l)) := pieces_fuel _ _ _ (by rw [List.length_drop]; omega) (Nat.le_refl _)
  rw [← e]
  unfold pieces
  rw [hn]
  conv => lhs; unfold piecesN
  rw [if_neg h]
theorem pieces_rune : ∀ (n : Nat) (l : List UInt8), l.length ≤ n → ∀ g ∈ pieces l, Rune g
  | 0, l, h => by
    have e : l = [] := List.eq_nil_of_length_eq_zero (by omega)
    rw [e, pieces_nil]; intro g hg; cases hg
  | n + 1, l, h => by
    by_cases e : l = []
    · rw [e, pieces_nil]; intro g hg; cases hg
    · have hp := wid_pos l
      have ih := pieces_rune n (l.drop (widL l)) (by rw [List.length_drop]; omega)
      rw [pieces_step l e]
      split
      · rename_i hk
        intro g hg
        rcases List.mem_cons.1 hg with rfl | hg
        · exact rune_of l e hk
        · exact ih g hg
      · exact ih
theorem Rune.keep {g : List UInt8} (h : Rune g) (t : List UInt8) : keepL (g ++ t) ∧ widL (g ++ t) = g.length := by
  refine ⟨⟨h.good t, ?_⟩, h.wid t⟩
  rintro ⟨h1, h2⟩
  have hb := h.bar
  cases hg : g with
  | nil => exact h.ne hg
  | cons x r =>
    rw [hg] at h2 hb
    have := hb x (by simp)
    simp at h2
    rw [this] at h2
    cases h2
/-- Pieces put together are these pieces. -/
theorem pieces_flatten : ∀ (gs : List (List UInt8)), (∀ g ∈ gs, Rune g) → pieces gs.flatten = gs
  | [], _ => rfl
  | g :: r, h => by
    have hg := h g (by simp)
    obtain ⟨h1, h2⟩ := hg.keep r.flatten
    have hne : g ++ r.flatten ≠ [] := fun e => hg.ne (List.append_eq_nil_iff.1 e).1
    rw [List.flatten_cons, pieces_step _ hne, if_pos h1, h2, List.take_left, List.drop_left, pieces_flatten r (fun x hx => h x (by simp [hx]))]
theorem valid_flatten : ∀ (gs : List (List UInt8)), (∀ g ∈ gs, Rune g) → Lib.validD gs.flatten = true
  | [], _ => rfl
  | g :: r, h => by
    have hg := h g (by simp)
    have hne : g ++ r.flatten ≠ [] := fun e => hg.ne (List.append_eq_nil_iff.1 e).1
    rw [List.flatten_cons, Lib.validD_step _ hne, if_neg (hg.good _)]
    have := hg.wid r.flatten
    unfold widL at this
    rw [this, List.drop_left]
    exact valid_flatten r (fun x hx => h x (by simp [hx]))
/-- A right text without barred bytes is its pieces. -/
theorem pieces_whole : ∀ (n : Nat) (l : List UInt8), l.length ≤ n → Lib.validD l = true → (∀ c ∈ l, barB c = false) → (pieces l).flatten = l
  | 0, l, h, _, _ => by
    have e : l = [] := List.eq_nil_of_length_eq_zero (by omega)
    rw [e]; rfl
  | n + 1, l, h, hv, hb => by
    by_cases e : l = []
    · rw [e]; rfl
    · have hp := wid_pos l
      rw [Lib.validD_step l e] at hv
      split at hv
      · cases hv
      · rename_i hg
        have hk : keepL l := ⟨hg, fun hh => by
          cases l with
          | nil => exact e rfl
          | cons x r => have := hb x (by simp); simp at hh; rw [this] at hh; exact absurd hh.2 (by decide)⟩
        rw [pieces_step l e, if_pos hk, List.flatten_cons, pieces_whole n (l.drop (widL l)) (by rw [List.length_drop]; omega) hv (fun c hc => hb c (List.mem_of_mem_drop hc)), List.take_append_drop]
end Go.Proofs.YtonkclkopmdahaaGreatDoor
