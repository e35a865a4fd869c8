/-
  Layer 6, plain: zones, and what an ident's text is made of; nothing of the program.
-/
import Derived.Test.YtagfnnpklefhhaaDoorIq
namespace Go.Proofs.YtagfnnpklefhhaaDoor
set_option linter.unusedVariables false
set_option linter.unusedSimpArgs false

def twoD (n : Nat) : List UInt8 := [UInt8.ofNat (48 + n / 10), UInt8.ofNat (48 + n % 10)]
/-- A zone, written. -/
def zoneT (z : Int) : List UInt8 := (if z < 0 then 45 else 43) :: (twoD (z.natAbs / 60) ++ twoD (z.natAbs % 60))
def digV (c : UInt8) : Nat := c.toNat - 48
def digB (c : UInt8) : Bool := decide (48 ≤ c.toNat) && decide (c.toNat ≤ 57)
/-- A zone, read. -/
def zoneV (s a b c d : UInt8) : Option Int :=
  if (s.toNat = 43 ∨ s.toNat = 45) ∧ digB a = true ∧ digB b = true ∧ digB c = true ∧ digB d = true then
    if 59 < digV c * 10 + digV d ∨ 840 < (digV a * 10 + digV b) * 60 + (digV c * 10 + digV d) ∨ (s.toNat = 45 ∧ (digV a * 10 + digV b) * 60 + (digV c * 10 + digV d) = 0) then none
    else some (if s.toNat = 45 then -(((digV a * 10 + digV b) * 60 + (digV c * 10 + digV d) : Nat) : Int) else (((digV a * 10 + digV b) * 60 + (digV c * 10 + digV d) : Nat) : Int))
  else none
def zoneR : List UInt8 → Option Int
  | [s, a, b, c, d] => zoneV s a b c d
  | _ => none
theorem dig_of (n : Nat) (h : n < 10) : (UInt8.ofNat (48 + n)).toNat = 48 + n := by rw [UInt8.toNat_ofNat']; omega
theorem digB_of (n : Nat) (h : n < 10) : digB (UInt8.ofNat (48 + n)) = true ∧ digV (UInt8.ofNat (48 + n)) = n := by
  unfold digB digV; rw [dig_of n h]; exact ⟨by simp; omega, by omega⟩
theorem digB_iff (c : UInt8) (h : digB c = true) : c = UInt8.ofNat (48 + digV c) ∧ digV c < 10 := by
  unfold digB at h
  simp only [Bool.and_eq_true, decide_eq_true_eq] at h
  unfold digV
  refine ⟨?_, by omega⟩
  apply UInt8.toNat_inj.1
  rw [UInt8.toNat_ofNat']
  omega
theorem zone_len (z : Int) : (zoneT z).length = 5 := rfl
/-- What is written is read. -/
theorem zone_read (z : Int) (h0 : -840 ≤ z) (h1 : z ≤ 840) : zoneR (zoneT z) = some z := by
  obtain ⟨n, hn⟩ : ∃ n, z.natAbs = n := ⟨_, rfl⟩
  have hn840 : n ≤ 840 := by omega
  have e1 := digB_of (n / 60 / 10) (by omega)
  have e2 := digB_of (n / 60 % 10) (by omega)
  have e3 := digB_of (n % 60 / 10) (by omega)
  have e4 := digB_of (n % 60 % 10) (by omega)
  have hz : (n / 60 / 10 * 10 + n / 60 % 10) * 60 + (n % 60 / 10 * 10 + n % 60 % 10) = n := by omega
  have hm : ¬ 59 < n % 60 / 10 * 10 + n % 60 % 10 := by omega
  unfold zoneT twoD
  rw [hn]
  simp only [List.cons_append, List.nil_append]
  show zoneV _ _ _ _ _ = some z
  unfold zoneV
  rw [e1.1, e1.2, e2.1, e2.2, e3.1, e3.2, e4.1, e4.2, hz]
  by_cases hneg : z < 0
  · rw [if_pos hneg, if_pos ⟨.inr rfl, rfl, rfl, rfl, rfl⟩, if_neg, if_pos (by decide)]
    · congr 1; omega
    · rintro (h | h | h)
      · exact hm h
      · omega
      · omega
  · rw [if_neg hneg, if_pos ⟨.inl rfl, rfl, rfl, rfl, rfl⟩, if_neg, if_neg (by decide)]
    · congr 1; omega
    · rintro (h | h | h)
      · exact hm h
      · omega
      · exact absurd h.1 (by decide)
/-- What is read, written again, is the same text. -/
theorem zone_back (s : List UInt8) (z : Int) (h : zoneR s = some z) : zoneT z = s ∧ -840 ≤ z ∧ z ≤ 840 := by
  match s, h with
  | [s, a, b, c, d], h =>
    have h : zoneV s a b c d = some z := h
    unfold zoneV at h
    by_cases hd : (s.toNat = 43 ∨ s.toNat = 45) ∧ digB a = true ∧ digB b = true ∧ digB c = true ∧ digB d = true
    · rw [if_pos hd] at h
      obtain ⟨hs, ha, hb, hc, hdd⟩ := hd
      by_cases hn : 59 < digV c * 10 + digV d ∨ 840 < (digV a * 10 + digV b) * 60 + (digV c * 10 + digV d) ∨ (s.toNat = 45 ∧ (digV a * 10 + digV b) * 60 + (digV c * 10 + digV d) = 0)
      · rw [if_pos hn] at h; cases h
      · rw [if_neg hn] at h
        obtain ⟨a1, a2⟩ := digB_iff a ha
        obtain ⟨b1, b2⟩ := digB_iff b hb
        obtain ⟨c1, c2⟩ := digB_iff c hc
        obtain ⟨d1, d2⟩ := digB_iff d hdd
        generalize digV a = x at *
        generalize digV b = y at *
        generalize digV c = u at *
        generalize digV d = v at *
        have hm : u * 10 + v ≤ 59 := by omega
        have h840 : (x * 10 + y) * 60 + (u * 10 + v) ≤ 840 := by omega
        have hz : s.toNat = 45 → (x * 10 + y) * 60 + (u * 10 + v) ≠ 0 := fun e e2 => hn (.inr (.inr ⟨e, e2⟩))
        obtain ⟨n, hN⟩ : ∃ n, (x * 10 + y) * 60 + (u * 10 + v) = n := ⟨_, rfl⟩
        have q1 : n / 60 / 10 = x := by omega
        have q2 : n / 60 % 10 = y := by omega
        have q3 : n % 60 / 10 = u := by omega
        have q4 : n % 60 % 10 = v := by omega
        rw [hN] at h h840 hz
        have hsz : (s.toNat = 45 ∧ z = -(n : Int) ∧ 0 < n) ∨ (s.toNat = 43 ∧ z = (n : Int)) := by
          rcases hs with e | e
          · right; rw [if_neg (by omega)] at h; exact ⟨e, (Option.some.inj h).symm⟩
          · left; rw [if_pos e] at h; exact ⟨e, (Option.some.inj h).symm, by have := hz e; omega⟩
        have habs : z.natAbs = n := by omega
        refine ⟨?_, by omega, by omega⟩
        unfold zoneT twoD
        rw [habs, q1, q2, q3, q4, ← a1, ← b1, ← c1, ← d1]
        have hh : (if z < 0 then (45 : UInt8) else 43) = s := by
          rcases hsz with ⟨e, e2, e3⟩ | ⟨e, e2⟩
          · rw [if_pos (by omega)]; exact UInt8.toNat_inj.1 e.symm
          · rw [if_neg (by omega)]; exact UInt8.toNat_inj.1 e.symm
        rw [hh]; rfl
    · rw [if_neg hd] at h; cases h
  | [], h => cases h
  | [_], h => cases h
  | [_, _], h => cases h
  | [_, _, _], h => cases h
  | [_, _, _, _], h => cases h
  | _ :: _ :: _ :: _ :: _ :: _ :: _, h => cases h
/-! The parts of an ident's text. -/
def aheadT (name : List UInt8) : List UInt8 := if name = [] then [] else name ++ [32]
/-- The text of some parts: num the number's digits, zone five bytes. -/
def textT (name email num zone : List UInt8) : List UInt8 := aheadT name ++ 60 :: (email ++ 62 :: 32 :: (num ++ 32 :: zone))
theorem split_first (c : UInt8) : ∀ (a b x y : List UInt8), (∀ d ∈ a, d ≠ c) → (∀ d ∈ b, d ≠ c) → a ++ c :: x = b ++ c :: y → a = b ∧ x = y
  | [], [], x, y, _, _, h => by simp at h; exact ⟨rfl, h⟩
  | [], e :: b, x, y, _, hb, h => by
    simp at h
    exact absurd h.1.symm (hb e (by simp))
  | d :: a, [], x, y, ha, _, h => by
    simp at h
    exact absurd h.1 (ha d (by simp))
  | d :: a, e :: b, x, y, ha, hb, h => by
    simp at h
    obtain ⟨h1, h2⟩ := split_first c a b x y (fun q hq => ha q (by simp [hq])) (fun q hq => hb q (by simp [hq])) h.2
    exact ⟨by rw [h.1, h1], h2⟩
theorem ahead_inj (a b : List UInt8) (h : aheadT a = aheadT b) : a = b := by
  unfold aheadT at h
  split at h
  · rename_i e
    split at h
    · rename_i f; rw [e, f]
    · have := congrArg List.length h; simp at this
  · split at h
    · have := congrArg List.length h; simp at this
    · exact (List.append_inj' h rfl).1
theorem ahead_no (c : UInt8) (hc : c ≠ 32) (a : List UInt8) (h : ∀ d ∈ a, d ≠ c) : ∀ d ∈ aheadT a, d ≠ c := by
  unfold aheadT
  split
  · simp
  · intro d hd
    rcases List.mem_append.1 hd with hd | hd
    · exact h d hd
    · rw [List.mem_singleton.1 hd]; exact fun e => hc e.symm
theorem word_no {l : List UInt8} (h : wordL l = true) : (∀ d ∈ l, d ≠ 60) ∧ (∀ d ∈ l, d ≠ 62) := by
  have hb := ((word_iff l).1 h).1
  refine ⟨fun d hd e => ?_, fun d hd e => ?_⟩
  · have := hb d hd; rw [e] at this; exact absurd this (by decide)
  · have := hb d hd; rw [e] at this; exact absurd this (by decide)
/-- An ident's text has its parts in one way alone. -/
theorem text_inj {a b c d n m y z : List UInt8} (ha : wordL a = true) (hb : wordL b = true) (hc : wordL c = true) (hd : wordL d = true) (hy : y.length = 5) (hz : z.length = 5)
    (h : textT a b n y = textT c d m z) : a = c ∧ b = d ∧ n = m ∧ y = z := by
  unfold textT at h
  obtain ⟨h1, h2⟩ := split_first 60 _ _ _ _ (ahead_no 60 (by decide) a (word_no ha).1) (ahead_no 60 (by decide) c (word_no hc).1) h
  obtain ⟨h3, h4⟩ := split_first 62 _ _ _ _ (word_no hb).2 (word_no hd).2 h2
  have h5 : n ++ 32 :: y = m ++ 32 :: z := by simpa using h4
  obtain ⟨h6, h7⟩ := List.append_inj' h5 (by simp [hy, hz])
  exact ⟨ahead_inj _ _ h1, h3, h6, by simpa using h7⟩
end Go.Proofs.YtagfnnpklefhhaaDoor
