/-
  Texts that belong together, one behind the other.
-/
import Derived.Test.YtonkclkopmdahaaGreatDoorFu01
import Derived.Test.YtonkclkopmdahaaGreatDoorProg
import Derived.WalkKit
import Derived.WalkSpells
import Derived.WalkLawsBesides
import Derived.Laws.BytesArg
import Derived.Lib.UnsafeStr
import Derived.Lib.Hide
/-
  Layer 6, plain: what may be a name, and a text made clean; nothing of the program.
-/
namespace Go.Proofs.YtonkclkopmdahaaGreatDoor
set_option linter.unusedVariables false
set_option linter.unusedSimpArgs false

/-- May it be a name, or an email? -/
def wordL (l : List UInt8) : Bool :=
  l.all (fun c => !barB c) && decide (l.length ≤ 200) && Lib.validD l && (decide (l = []) || (decide ((l.getD 0 0).toNat ≠ 32) && decide ((l.getD (l.length - 1) 0).toNat ≠ 32)))
theorem word_iff (l : List UInt8) : wordL l = true ↔ (∀ c ∈ l, barB c = false) ∧ l.length ≤ 200 ∧ Lib.validD l = true ∧ (l ≠ [] → (l.getD 0 0).toNat ≠ 32 ∧ (l.getD (l.length - 1) 0).toNat ≠ 32) := by
  unfold wordL
  simp only [Bool.and_eq_true, Bool.or_eq_true, decide_eq_true_eq, List.all_eq_true, Bool.not_eq_true', and_assoc]
  constructor
  · rintro ⟨h1, h2, h3, h4⟩
    refine ⟨h1, h2, h3, fun hne => ?_⟩
    rcases h4 with h4 | h4
    · exact absurd h4 hne
    · exact h4
  · rintro ⟨h1, h2, h3, h4⟩
    refine ⟨h1, h2, h3, ?_⟩
    by_cases e : l = []
    · exact .inl e
    · exact .inr (h4 e)
/-- As many pieces as have room. -/
def fitL : Nat → List (List UInt8) → List (List UInt8)
  | _, [] => []
  | n, g :: r => if g.length ≤ n then g :: fitL (n - g.length) r else []
def blank (g : List UInt8) : Bool := decide (g = [32])
def lstrip (gs : List (List UInt8)) : List (List UInt8) := gs.dropWhile blank
def rstrip : List (List UInt8) → List (List UInt8)
  | [] => []
  | g :: r => match rstrip r with
    | [] => if blank g then [] else [g]
    | x :: y => g :: x :: y
def cleanT (l : List UInt8) : List UInt8 := (rstrip (fitL 200 (lstrip (pieces l)))).flatten

theorem fit_sub : ∀ (gs : List (List UInt8)) (n : Nat), ∀ g ∈ fitL n gs, g ∈ gs
  | [], n => by simp [fitL]
  | x :: r, n => by
    intro g hg
    unfold fitL at hg
    split at hg
    · rcases List.mem_cons.1 hg with rfl | hg
      · simp
      · exact List.mem_cons_of_mem _ (fit_sub r _ g hg)
    · cases hg
theorem fit_len : ∀ (gs : List (List UInt8)) (n : Nat), (fitL n gs).flatten.length ≤ n
  | [], n => by simp [fitL]
  | x :: r, n => by
    unfold fitL
    split
    · rw [List.flatten_cons, List.length_append]; have := fit_len r (n - x.length); omega
    · simp
theorem fit_all : ∀ (gs : List (List UInt8)) (n : Nat), gs.flatten.length ≤ n → fitL n gs = gs
  | [], n, _ => rfl
  | x :: r, n, h => by
    rw [List.flatten_cons, List.length_append] at h
    unfold fitL
    rw [if_pos (by omega), fit_all r _ (by omega)]
theorem fit_head (g : List UInt8) (r : List (List UInt8)) (n : Nat) : fitL n (g :: r) = [] ∨ ∃ s, fitL n (g :: r) = g :: s := by
  unfold fitL
  split
  · exact .inr ⟨_, rfl⟩
  · exact .inl rfl
theorem lstrip_sub (gs : List (List UInt8)) : ∀ g ∈ lstrip gs, g ∈ gs := fun g hg => (List.dropWhile_suffix blank).subset hg
theorem lstrip_head : ∀ gs : List (List UInt8), lstrip gs = [] ∨ ∃ g r, lstrip gs = g :: r ∧ blank g = false
  | [] => .inl rfl
  | g :: r => by
    unfold lstrip
    cases h : blank g with
    | true => rw [List.dropWhile_cons_of_pos h]; exact lstrip_head r
    | false => rw [List.dropWhile_cons_of_neg (by rw [h]; decide)]; exact .inr ⟨g, r, rfl, h⟩
theorem lstrip_none (g : List UInt8) (r : List (List UInt8)) (h : blank g = false) : lstrip (g :: r) = g :: r := List.dropWhile_cons_of_neg (by rw [h]; decide)
theorem rstrip_sub : ∀ gs : List (List UInt8), ∀ g ∈ rstrip gs, g ∈ gs
  | [] => by simp [rstrip]
  | x :: r => by
    intro g hg
    have ih := rstrip_sub r
    unfold rstrip at hg
    split at hg
    · split at hg
      · cases hg
      · rw [List.mem_singleton.1 hg]; simp
    · rename_i a b e
      rcases List.mem_cons.1 hg with rfl | hg
      · simp
      · exact List.mem_cons_of_mem _ (ih g (by rw [e]; exact hg))
theorem rstrip_len : ∀ gs : List (List UInt8), (rstrip gs).flatten.length ≤ gs.flatten.length
  | [] => by simp [rstrip]
  | x :: r => by
    have ih := rstrip_len r
    unfold rstrip
    split
    · split
      · simp
      · simp
    · rename_i a b e
      rw [e] at ih
      simp only [List.flatten_cons, List.length_append] at ih ⊢
      omega
theorem rstrip_head (g : List UInt8) (r : List (List UInt8)) (h : blank g = false) : ∃ s, rstrip (g :: r) = g :: s := by
  unfold rstrip
  split
  · rw [h]; exact ⟨[], rfl⟩
  · exact ⟨_, rfl⟩
theorem rstrip_last : ∀ gs : List (List UInt8), rstrip gs = [] ∨ ∃ r g, rstrip gs = r ++ [g] ∧ blank g = false
  | [] => .inl rfl
  | x :: r => by
    have ih := rstrip_last r
    unfold rstrip
    split
    · cases h : blank x with
      | true => exact .inl (by simp)
      | false => exact .inr ⟨[], x, by simp, h⟩
    · rename_i a b e
      right
      rcases ih with ih | ⟨s, g, ih, hg⟩
      · rw [e] at ih; cases ih
      · rw [e] at ih; exact ⟨x :: s, g, by rw [ih]; rfl, hg⟩
theorem rstrip_none : ∀ (r : List (List UInt8)) (g : List UInt8), blank g = false → rstrip (r ++ [g]) = r ++ [g]
  | [], g, h => by simp [rstrip, h]
  | x :: r, g, h => by
    have ih := rstrip_none r g h
    rw [List.cons_append]
    unfold rstrip
    rw [ih]
    split
    · rename_i e; simp at e
    · rename_i a b e; rw [e]
theorem Rune.first {g : List UInt8} (h : Rune g) (hb : blank g = false) : (g.getD 0 0).toNat ≠ 32 := by
  intro e
  rcases h.low with ⟨c, rfl, hc⟩ | hh
  · have : c = 32 := UInt8.toNat_inj.1 (by simpa using e)
    subst this
    exact absurd hb (by decide)
  · cases hg : g with
    | nil => exact h.ne hg
    | cons x r =>
      rw [hg] at e hh
      have := hh x (by simp)
      simp at e
      omega
theorem Rune.final {g : List UInt8} (h : Rune g) (hb : blank g = false) : (g.getD (g.length - 1) 0).toNat ≠ 32 := by
  intro e
  rcases h.low with ⟨c, rfl, hc⟩ | hh
  · have : c = 32 := UInt8.toNat_inj.1 (by simpa using e)
    subst this
    exact absurd hb (by decide)
  · have hl : 0 < g.length := by cases hg : g with | nil => exact absurd hg h.ne | cons _ _ => simp
    rw [List.getD_eq_getElem?_getD, List.getElem?_eq_getElem (by omega)] at e
    have := hh _ (List.getElem_mem (show g.length - 1 < g.length by omega))
    simp at e
    omega
/-- What is clean may be a name. -/
theorem clean_isword (l : List UInt8) : wordL (cleanT l) = true := by
  have hr : ∀ g ∈ rstrip (fitL 200 (lstrip (pieces l))), Rune g := fun g hg => pieces_rune l.length l (Nat.le_refl _) g (lstrip_sub _ g (fit_sub _ _ g (rstrip_sub _ g hg)))
  have hlast := rstrip_last (fitL 200 (lstrip (pieces l)))
  have hlen := Nat.le_trans (rstrip_len (fitL 200 (lstrip (pieces l)))) (fit_len (lstrip (pieces l)) 200)
  have hhead : rstrip (fitL 200 (lstrip (pieces l))) = [] ∨ ∃ g r, rstrip (fitL 200 (lstrip (pieces l))) = g :: r ∧ blank g = false := by
    rcases lstrip_head (pieces l) with e | ⟨g, r, e, hb⟩
    · left; rw [e]; rfl
    · rw [e]
      rcases fit_head g r 200 with e2 | ⟨s, e2⟩
      · left; rw [e2]; rfl
      · rw [e2]
        obtain ⟨t, e3⟩ := rstrip_head g s hb
        exact .inr ⟨g, t, e3, hb⟩
  unfold cleanT
  generalize rstrip (fitL 200 (lstrip (pieces l))) = gs at hr hlast hlen hhead
  rw [word_iff]
  refine ⟨fun c hc => ?_, hlen, valid_flatten gs hr, fun hne => ⟨?_, ?_⟩⟩
  · obtain ⟨g, hg, hcg⟩ := List.mem_flatten.1 hc
    exact (hr g hg).bar c hcg
  · rcases hhead with rfl | ⟨g, r, rfl, hb⟩
    · exact absurd rfl hne
    · have hg := hr g (by simp)
      have := hg.first hb
      cases h : g with
      | nil => exact absurd h hg.ne
      | cons x y => rw [h] at this; simpa using this
  · rcases hlast with rfl | ⟨r, g, rfl, hb⟩
    · exact absurd rfl hne
    · have hg := hr g (by simp)
      have := hg.final hb
      have hl : 0 < g.length := by cases h : g with | nil => exact absurd h hg.ne | cons _ _ => simp
      rw [List.flatten_append, List.flatten_singleton, List.length_append, List.getD_eq_getElem?_getD, List.getElem?_append_right (by omega), show r.flatten.length + g.length - 1 - r.flatten.length = g.length - 1 by omega, ← List.getD_eq_getElem?_getD]
      exact this
/-- What may be a name stays. -/
theorem word_stays (l : List UInt8) (h : wordL l = true) : cleanT l = l := by
  obtain ⟨h1, h2, h3, h4⟩ := (word_iff l).1 h
  have hw := pieces_whole l.length l (Nat.le_refl _) h3 h1
  have hr := pieces_rune l.length l (Nat.le_refl _)
  unfold cleanT
  generalize pieces l = gs at hw hr
  by_cases e : gs = []
  · subst e
    rw [← hw]; rfl
  · have hne : l ≠ [] := fun e2 => by
      rw [e2] at hw
      cases gs with
      | nil => exact e rfl
      | cons g r =>
        rw [List.flatten_cons] at hw
        exact (hr g (by simp)).ne (List.append_eq_nil_iff.1 hw).1
    obtain ⟨h5, h6⟩ := h4 hne
    have hl : lstrip gs = gs := by
      cases gs with
      | nil => rfl
      | cons g r =>
        refine lstrip_none g r ?_
        cases hb : blank g with
        | false => rfl
        | true =>
          have : g = [32] := of_decide_eq_true hb
          rw [← hw, this] at h5
          exact absurd rfl h5
    have hf : fitL 200 gs = gs := fit_all gs 200 (by rw [hw]; exact h2)
    rw [hl, hf]
    have hs : rstrip gs = gs := by
      obtain ⟨r, g, rfl⟩ : ∃ r g, gs = r ++ [g] := ⟨gs.dropLast, gs.getLast e, (List.dropLast_concat_getLast e).symm⟩
      refine rstrip_none r g ?_
      cases hb : blank g with
      | false => rfl
      | true =>
        have hg : g = [32] := of_decide_eq_true hb
        subst hg
        rw [← hw] at h6
        apply absurd _ h6
        rw [List.flatten_append, List.flatten_singleton, List.length_append, List.getD_eq_getElem?_getD, List.getElem?_append_right (by simp)]
        simp
    rw [hs, hw]
/-- Made clean again it stays. -/
theorem cleanT_again (l : List UInt8) : cleanT (cleanT l) = cleanT l := word_stays _ (clean_isword l)
end Go.Proofs.YtonkclkopmdahaaGreatDoor

/-
  Layer 6, plain: zones, and what an ident's text is made of; nothing of the program.
-/
namespace Go.Proofs.YtonkclkopmdahaaGreatDoor
set_option linter.unusedVariables false
set_option linter.unusedSimpArgs false

def twoD (n : Nat) : List UInt8 := [UInt8.ofNat (48 + n / 10), UInt8.ofNat (48 + n % 10)]
/-- A zone, written. -/
def zoneT (z : Int) : List UInt8 := (if z < 0 then 45 else 43) :: (twoD (z.natAbs / 60) ++ twoD (z.natAbs % 60))
def digV (c : UInt8) : Nat := c.toNat - 48
def digB (c : UInt8) : Bool := decide (48 ≤ c.toNat) && decide (c.toNat ≤ 57)
/-- A zone, read. -/
def zoneV (s a b c d : UInt8) : Option Int :=
  if (s.toNat = 43 ∨ s.toNat = 45) ∧ digB a = true ∧ digB b = true ∧ digB c = true ∧ digB d = true then
    if 59 < digV c * 10 + digV d ∨ 840 < (digV a * 10 + digV b) * 60 + (digV c * 10 + digV d) ∨ (s.toNat = 45 ∧ (digV a * 10 + digV b) * 60 + (digV c * 10 + digV d) = 0) then none
    else some (if s.toNat = 45 then -(((digV a * 10 + digV b) * 60 + (digV c * 10 + digV d) : Nat) : Int) else (((digV a * 10 + digV b) * 60 + (digV c * 10 + digV d) : Nat) : Int))
  else none
def zoneR : List UInt8 → Option Int
  | [s, a, b, c, d] => zoneV s a b c d
  | _ => none
theorem dig_of (n : Nat) (h : n < 10) : (UInt8.ofNat (48 + n)).toNat = 48 + n := by rw [UInt8.toNat_ofNat']; omega
theorem digB_of (n : Nat) (h : n < 10) : digB (UInt8.ofNat (48 + n)) = true ∧ digV (UInt8.ofNat (48 + n)) = n := by
  unfold digB digV; rw [dig_of n h]; exact ⟨by simp; omega, by omega⟩
theorem digB_iff (c : UInt8) (h : digB c = true) : c = UInt8.ofNat (48 + digV c) ∧ digV c < 10 := by
  unfold digB at h
  simp only [Bool.and_eq_true, decide_eq_true_eq] at h
  unfold digV
  refine ⟨?_, by omega⟩
  apply UInt8.toNat_inj.1
  rw [UInt8.toNat_ofNat']
  omega
theorem zone_len (z : Int) : (zoneT z).length = 5 := rfl
/-- What is written is read. -/
theorem zone_read (z : Int) (h0 : -840 ≤ z) (h1 : z ≤ 840) : zoneR (zoneT z) = some z := by
  obtain ⟨n, hn⟩ : ∃ n, z.natAbs = n := ⟨_, rfl⟩
  have hn840 : n ≤ 840 := by omega
  have e1 := digB_of (n / 60 / 10) (by omega)
  have e2 := digB_of (n / 60 % 10) (by omega)
  have e3 := digB_of (n % 60 / 10) (by omega)
  have e4 := digB_of (n % 60 % 10) (by omega)
  have hz : (n / 60 / 10 * 10 + n / 60 % 10) * 60 + (n % 60 / 10 * 10 + n % 60 % 10) = n := by omega
  have hm : ¬ 59 < n % 60 / 10 * 10 + n % 60 % 10 := by omega
  unfold zoneT twoD
  rw [hn]
  simp only [List.cons_append, List.nil_append]
  show zoneV _ _ _ _ _ = some z
  unfold zoneV
  rw [e1.1, e1.2, e2.1, e2.2, e3.1, e3.2, e4.1, e4.2, hz]
  by_cases hneg : z < 0
  · rw [if_pos hneg, if_pos ⟨.inr rfl, rfl, rfl, rfl, rfl⟩, if_neg, if_pos (by decide)]
    · congr 1; omega
    · rintro (h | h | h)
      · exact hm h
      · omega
      · omega
  · rw [if_neg hneg, if_pos ⟨.inl rfl, rfl, rfl, rfl, rfl⟩, if_neg, if_neg (by decide)]
    · congr 1; omega
    · rintro (h | h | h)
      · exact hm h
      · omega
      · exact absurd h.1 (by decide)
/-- What is read, written again, is the same text. -/
theorem zone_back (s : List UInt8) (z : Int) (h : zoneR s = some z) : zoneT z = s ∧ -840 ≤ z ∧ z ≤ 840 := by
  match s, h with
  | [s, a, b, c, d], h =>
    have h : zoneV s a b c d = some z := h
    unfold zoneV at h
    by_cases hd : (s.toNat = 43 ∨ s.toNat = 45) ∧ digB a = true ∧ digB b = true ∧ digB c = true ∧ digB d = true
    · rw [if_pos hd] at h
      obtain ⟨hs, ha, hb, hc, hdd⟩ := hd
      by_cases hn : 59 < digV c * 10 + digV d ∨ 840 < (digV a * 10 + digV b) * 60 + (digV c * 10 + digV d) ∨ (s.toNat = 45 ∧ (digV a * 10 + digV b) * 60 + (digV c * 10 + digV d) = 0)
      · rw [if_pos hn] at h; cases h
      · rw [if_neg hn] at h
        obtain ⟨a1, a2⟩ := digB_iff a ha
        obtain ⟨b1, b2⟩ := digB_iff b hb
        obtain ⟨c1, c2⟩ := digB_iff c hc
        obtain ⟨d1, d2⟩ := digB_iff d hdd
        generalize digV a = x at *
        generalize digV b = y at *
        generalize digV c = u at *
        generalize digV d = v at *
        have hm : u * 10 + v ≤ 59 := by omega
        have h840 : (x * 10 + y) * 60 + (u * 10 + v) ≤ 840 := by omega
        have hz : s.toNat = 45 → (x * 10 + y) * 60 + (u * 10 + v) ≠ 0 := fun e e2 => hn (.inr (.inr ⟨e, e2⟩))
        obtain ⟨n, hN⟩ : ∃ n, (x * 10 + y) * 60 + (u * 10 + v) = n := ⟨_, rfl⟩
        have q1 : n / 60 / 10 = x := by omega
        have q2 : n / 60 % 10 = y := by omega
        have q3 : n % 60 / 10 = u := by omega
        have q4 : n % 60 % 10 = v := by omega
        rw [hN] at h h840 hz
        have hsz : (s.toNat = 45 ∧ z = -(n : Int) ∧ 0 < n) ∨ (s.toNat = 43 ∧ z = (n : Int)) := by
          rcases hs with e | e
          · right; rw [if_neg (by omega)] at h; exact ⟨e, (Option.some.inj h).symm⟩
          · left; rw [if_pos e] at h; exact ⟨e, (Option.some.inj h).symm, by have := hz e; omega⟩
        have habs : z.natAbs = n := by omega
        refine ⟨?_, by omega, by omega⟩
        unfold zoneT twoD
        rw [habs, q1, q2, q3, q4, ← a1, ← b1, ← c1, ← d1]
        have hh : (if z < 0 then (45 : UInt8) else 43) = s := by
          rcases hsz with ⟨e, e2, e3⟩ | ⟨e, e2⟩
          · rw [if_pos (by omega)]; exact UInt8.toNat_inj.1 e.symm
          · rw [if_neg (by omega)]; exact UInt8.toNat_inj.1 e.symm
        rw [hh]; rfl
    · rw [if_neg hd] at h; cases h
  | [], h => cases h
  | [_], h => cases h
  | [_, _], h => cases h
  | [_, _, _], h => cases h
  | [_, _, _, _], h => cases h
  | _ :: _ :: _ :: _ :: _ :: _ :: _, h => cases h
/-! The parts of an ident's text. -/
def aheadT (name : List UInt8) : List UInt8 := if name = [] then [] else name ++ [32]
/-- The text of some parts: num the number's digits, zone five bytes. -/
def textT (name email num zone : List UInt8) : List UInt8 := aheadT name ++ 60 :: (email ++ 62 :: 32 :: (num ++ 32 :: zone))
theorem split_first (c : UInt8) : ∀ (a b x y : List UInt8), (∀ d ∈ a, d ≠ c) → (∀ d ∈ b, d ≠ c) → a ++ c :: x = b ++ c :: y → a = b ∧ x = y
  | [], [], x, y, _, _, h => by simp at h; exact ⟨rfl, h⟩
  | [], e :: b, x, y, _, hb, h => by
    simp at h
    exact absurd h.1.symm (hb e (by simp))
  | d :: a, [], x, y, ha, _, h => by
    simp at h
    exact absurd h.1 (ha d (by simp))
  | d :: a, e :: b, x, y, ha, hb, h => by
    simp at h
    obtain ⟨h1, h2⟩ := split_first c a b x y (fun q hq => ha q (by simp [hq])) (fun q hq => hb q (by simp [hq])) h.2
    exact ⟨by rw [h.1, h1], h2⟩
theorem ahead_inj (a b : List UInt8) (h : aheadT a = aheadT b) : a = b := by
  unfold aheadT at h
  split at h
  · rename_i e
    split at h
    · rename_i f; rw [e, f]
    · have := congrArg List.length h; simp at this
  · split at h
    · have := congrArg List.length h; simp at this
    · exact (List.append_inj' h rfl).1
theorem ahead_no (c : UInt8) (hc : c ≠ 32) (a : List UInt8) (h : ∀ d ∈ a, d ≠ c) : ∀ d ∈ aheadT a, d ≠ c := by
  unfold aheadT
  split
  · simp
  · intro d hd
    rcases List.mem_append.1 hd with hd | hd
    · exact h d hd
    · rw [List.mem_singleton.1 hd]; exact fun e => hc e.symm
theorem word_no {l : List UInt8} (h : wordL l = true) : (∀ d ∈ l, d ≠ 60) ∧ (∀ d ∈ l, d ≠ 62) := by
  have hb := ((word_iff l).1 h).1
  refine ⟨fun d hd e => ?_, fun d hd e => ?_⟩
  · have := hb d hd; rw [e] at this; exact absurd this (by decide)
  · have := hb d hd; rw [e] at this; exact absurd this (by decide)
/-- An ident's text has its parts in one way alone. -/
theorem text_inj {a b c d n m y z : List UInt8} (ha : wordL a = true) (hb : wordL b = true) (hc : wordL c = true) (hd : wordL d = true) (hy : y.length = 5) (hz : z.length = 5)
    (h : textT a b n y = textT c d m z) : a = c ∧ b = d ∧ n = m ∧ y = z := by
  unfold textT at h
  obtain ⟨h1, h2⟩ := split_first 60 _ _ _ _ (ahead_no 60 (by decide) a (word_no ha).1) (ahead_no 60 (by decide) c (word_no hc).1) h
  obtain ⟨h3, h4⟩ := split_first 62 _ _ _ _ (word_no hb).2 (word_no hd).2 h2
  have h5 : n ++ 32 :: y = m ++ 32 :: z := by simpa using h4
  obtain ⟨h6, h7⟩ := List.append_inj' h5 (by simp [hy, hz])
  exact ⟨ahead_inj _ _ h1, h3, h6, by simpa using h7⟩
end Go.Proofs.YtonkclkopmdahaaGreatDoor

/-
  Layer 6, plain: idents, printed and parsed, over any writer and reader of numbers; nothing of the program.
-/
namespace Go.Proofs.YtonkclkopmdahaaGreatDoor
set_option linter.unusedVariables false
set_option linter.unusedSimpArgs false

structure Idt where
  name : List UInt8
  email : List UInt8
  whn : Int
  zone : Int
def rightI (i : Idt) : Bool := wordL i.name && wordL i.email && decide (0 ≤ i.whn) && decide (i.whn ≤ 1099511627775) && decide (-840 ≤ i.zone) && decide (i.zone ≤ 840)
theorem right_iff (i : Idt) : rightI i = true ↔ wordL i.name = true ∧ wordL i.email = true ∧ 0 ≤ i.whn ∧ i.whn ≤ 1099511627775 ∧ -840 ≤ i.zone ∧ i.zone ≤ 840 := by
  unfold rightI
  simp only [Bool.and_eq_true, decide_eq_true_eq, and_assoc]
def printI (wr : Int → List UInt8) (i : Idt) : List UInt8 := if rightI i = true then textT i.name i.email (wr i.whn) (zoneT i.zone) else []
/-- A writer and a reader of numbers that fit. -/
structure Num (wr : Int → List UInt8) (rd : List UInt8 → Option Int) : Prop where
  back : ∀ v, 0 ≤ v → v ≤ 1099511627775 → rd (wr v) = some v
  some : ∀ v, 0 ≤ v → v ≤ 1099511627775 → 1 ≤ (wr v).length
instance (i : Idt) (wr : Int → List UInt8) (s : List UInt8) : Decidable (rightI i = true ∧ printI wr i = s) := inferInstance
def openI (s : List UInt8) : Nat := s.findIdx (· == 60)
def endI (s : List UInt8) : Nat := s.findIdx (· == 62)
def restI (s : List UInt8) : List UInt8 := s.drop (endI s + 1)
def badA (s : List UInt8) : Prop := s.length ≤ openI s ∨ s.length ≤ endI s ∨ endI s < openI s ∨ (0 < openI s ∧ s.getD (openI s - 1) 0 ≠ 32) ∨ openI s = 1
def badB (r : List UInt8) : Prop := r.length < 8 ∨ r.getD 0 0 ≠ 32 ∨ r.getD (r.length - 6) 0 ≠ 32
instance (s : List UInt8) : Decidable (badA s) := by unfold badA; exact inferInstance
instance (s : List UInt8) : Decidable (badB s) := by unfold badB; exact inferInstance
def candI (s : List UInt8) (v z : Int) : Idt := ⟨if 1 < openI s then s.take (openI s - 1) else [], (s.take (endI s)).drop (openI s + 1), v, z⟩
/-- The document's way to parse. -/
def parseR (wr : Int → List UInt8) (rd : List UInt8 → Option Int) (s : List UInt8) : Option Idt :=
  if badA s then none
  else if badB (restI s) then none
  else match rd (((restI s).take ((restI s).length - 6)).drop 1) with
    | none => none
    | some v => match zoneR ((restI s).drop ((restI s).length - 5)) with
      | none => none
      | some z => if rightI (candI s v z) = true ∧ printI wr (candI s v z) = s then some (candI s v z) else none
theorem find_at (c : UInt8) : ∀ (a x : List UInt8), (∀ d ∈ a, d ≠ c) → (a ++ c :: x).findIdx (· == c) = a.length
  | [], x, _ => by simp [List.findIdx_cons]
  | d :: a, x, h => by
    have hd : (d == c) = false := by rw [beq_eq_false_iff_ne]; exact h d (by simp)
    rw [List.cons_append, List.findIdx_cons, hd, find_at c a x (fun q hq => h q (by simp [hq]))]
    rfl
/-- What is parsed is right, and prints so. -/
theorem parse_only {wr : Int → List UInt8} {rd : List UInt8 → Option Int} {s : List UInt8} {i : Idt} (h : parseR wr rd s = some i) : rightI i = true ∧ printI wr i = s := by
  unfold parseR at h
  by_cases h1 : badA s
  · rw [if_pos h1] at h; cases h
  · rw [if_neg h1] at h
    by_cases h2 : badB (restI s)
    · rw [if_pos h2] at h; cases h
    · rw [if_neg h2] at h
      cases e1 : rd (((restI s).take ((restI s).length - 6)).drop 1) with
      | none => rw [e1] at h; cases h
      | some v =>
        cases e2 : zoneR ((restI s).drop ((restI s).length - 5)) with
        | none => rw [e1, e2] at h; cases h
        | some z =>
          rw [e1, e2] at h
          simp only at h
          by_cases hc : rightI (candI s v z) = true ∧ printI wr (candI s v z) = s
          · rw [if_pos hc] at h
            rw [← Option.some.inj h]; exact hc
          · rw [if_neg hc] at h; cases h
/-- What is printed is parsed. -/
theorem parse_print {wr : Int → List UInt8} {rd : List UInt8 → Option Int} (hn : Num wr rd) {i : Idt} (h : rightI i = true) : parseR wr rd (printI wr i) = some i := by
  obtain ⟨h1, h2, h3, h4, h5, h6⟩ := (right_iff i).1 h
  have hp : printI wr i = textT i.name i.email (wr i.whn) (zoneT i.zone) := by unfold printI; rw [if_pos h]
  obtain ⟨name, email, v, z⟩ := i
  simp only at h1 h2 h3 h4 h5 h6 hp
  have hrd := hn.back v h3 h4
  have hln := hn.some v h3 h4
  have hz := zone_read z h5 h6
  have hzl := zone_len z
  obtain ⟨s, hs⟩ : ∃ s, printI wr ⟨name, email, v, z⟩ = s := ⟨_, rfl⟩
  rw [hs] at hp ⊢
  generalize wr v = num at hrd hln hp
  generalize zoneT z = zt at hz hzl hp
  have ha60 := ahead_no 60 (by decide) name (word_no h1).1
  have ha62 := ahead_no 62 (by decide) name (word_no h1).2
  have ho : openI s = (aheadT name).length := by unfold openI; rw [hp]; exact find_at 60 _ _ ha60
  have he : endI s = (aheadT name).length + 1 + email.length := by
    unfold endI
    have e : s = (aheadT name ++ 60 :: email) ++ 62 :: 32 :: (num ++ 32 :: zt) := by rw [hp]; unfold textT; simp
    rw [e, find_at 62 _ _ ?_]
    · simp; omega
    · intro d hd
      rcases List.mem_append.1 hd with hd | hd
      · exact ha62 d hd
      · rcases List.mem_cons.1 hd with rfl | hd
        · decide
        · exact (word_no h2).2 d hd
  have hsl : s.length = (aheadT name).length + 1 + email.length + 1 + (1 + num.length + 1 + 5) := by
    rw [hp]; unfold textT; simp [hzl]; omega
  have hdrop : s.drop ((aheadT name).length + 1 + email.length + 1) = 32 :: (num ++ 32 :: zt) := by
    have e : s = (aheadT name ++ 60 :: email ++ [62]) ++ 32 :: (num ++ 32 :: zt) := by rw [hp]; unfold textT; simp
    rw [e]
    exact List.drop_left' (by simp; omega)
  have hrl : (32 :: (num ++ 32 :: zt)).length = num.length + 7 := by simp [hzl]
  have hname : (if 1 < (aheadT name).length then s.take ((aheadT name).length - 1) else []) = name ∧ (aheadT name).length ≠ 1 ∧ (0 < (aheadT name).length → s.getD ((aheadT name).length - 1) 0 = 32) := by
    by_cases hnm : name = []
    · subst hnm
      have : (aheadT []).length = 0 := rfl
      rw [this]
      exact ⟨rfl, by omega, by omega⟩
    · have hl : 0 < name.length := by cases name with | nil => exact absurd rfl hnm | cons _ _ => simp
      have e : aheadT name = name ++ [32] := by unfold aheadT; rw [if_neg hnm]
      have e2 : s = name ++ 32 :: (60 :: (email ++ 62 :: 32 :: (num ++ 32 :: zt))) := by rw [hp]; unfold textT; rw [e]; simp
      rw [e, List.length_append, List.length_singleton, Nat.add_sub_cancel]
      refine ⟨?_, by omega, fun _ => ?_⟩
      · rw [if_pos (by omega), e2]; exact List.take_left
      · rw [e2, List.getD_eq_getElem?_getD, List.getElem?_append_right (Nat.le_refl _), Nat.sub_self]; rfl
  have hemail : (s.take ((aheadT name).length + 1 + email.length)).drop ((aheadT name).length + 1) = email := by
    have e : s = (aheadT name ++ [60]) ++ (email ++ 62 :: 32 :: (num ++ 32 :: zt)) := by rw [hp]; unfold textT; simp
    have e3 : (aheadT name ++ [60]).length = (aheadT name).length + 1 := by simp
    rw [e, ← e3, List.take_length_add_append, List.drop_left, List.take_left]
  have hrest : restI s = 32 :: (num ++ 32 :: zt) := by unfold restI; rw [he]; exact hdrop
  have hcand : candI s v z = ⟨name, email, v, z⟩ := by unfold candI; rw [ho, he, hname.1, hemail]
  have hA : ¬ badA s := by
    unfold badA
    rw [ho, he]
    rintro (q | q | q | q | q)
    · omega
    · omega
    · omega
    · exact q.2 (hname.2.2 q.1)
    · exact hname.2.1 q
  have hB : ¬ badB (32 :: (num ++ 32 :: zt)) := by
    unfold badB
    rw [hrl]
    rintro (q | q | q)
    · omega
    · exact q rfl
    · apply q
      rw [show num.length + 7 - 6 = num.length + 1 by omega, List.getD_eq_getElem?_getD, List.getElem?_cons_succ, List.getElem?_append_right (Nat.le_refl _), Nat.sub_self]
      rfl
  have hnum : ((32 :: (num ++ 32 :: zt)).take (num.length + 7 - 6)).drop 1 = num := by
    rw [show num.length + 7 - 6 = num.length + 1 by omega, List.take_succ_cons, List.drop_succ_cons, List.drop_zero, List.take_left]
  have hzt : (32 :: (num ++ 32 :: zt)).drop (num.length + 7 - 5) = zt := by
    rw [show num.length + 7 - 5 = (num.length + 1) + 1 by omega, List.drop_succ_cons, show num ++ 32 :: zt = (num ++ [32]) ++ zt by simp]
    exact List.drop_left' (by simp)
  unfold parseR
  rw [if_neg hA, hrest, if_neg hB, hrl, hnum, hzt, hrd]
  simp only [hz, hcand]
  rw [if_pos ⟨h, hs⟩]
/-- Whoever answers so answers as the document does. -/
theorem parse_one {wr : Int → List UInt8} {rd : List UInt8 → Option Int} (hn : Num wr rd) (s : List UInt8) (i : Idt) (h : rightI i = true) (hs : printI wr i = s) : parseR wr rd s = some i := by
  rw [← hs]; exact parse_print hn h
theorem parse_none {wr : Int → List UInt8} {rd : List UInt8 → Option Int} (s : List UInt8) (h : ∀ i, rightI i = true → printI wr i ≠ s) : parseR wr rd s = none := by
  cases e : parseR wr rd s with
  | none => rfl
  | some i => exact absurd (parse_only e).2 (h i (parse_only e).1)
end Go.Proofs.YtonkclkopmdahaaGreatDoor

/-
  Layer 9, plain: records, printed and parsed line by line, over any writer and reader of ids and idents; nothing of the program.
-/
namespace Go.Proofs.YtonkclkopmdahaaGreatDoor
set_option linter.unusedVariables false
set_option linter.unusedSimpArgs false

structure Rcd where
  tree : List UInt8
  parents : List (List UInt8)
  author : Idt
  committer : Idt
  text : List UInt8
def idZ : List UInt8 := List.replicate 20 0
def treeW : List UInt8 := [116, 114, 101, 101, 32]
def parentW : List UInt8 := [112, 97, 114, 101, 110, 116, 32]
def authorW : List UInt8 := [97, 117, 116, 104, 111, 114, 32]
def committerW : List UInt8 := [99, 111, 109, 109, 105, 116, 116, 101, 114, 32]
/-- Ids have twenty bytes: so says their type. -/
structure Rcd.Fit (c : Rcd) : Prop where
  tree : c.tree.length = 20
  parents : ∀ p ∈ c.parents, p.length = 20
def parentsR (ps : List (List UInt8)) : Bool := decide (∀ p ∈ ps, p ≠ idZ) && decide ps.Nodup
def rightR (c : Rcd) : Bool := decide (c.tree ≠ idZ) && decide (c.parents.length ≤ 16) && parentsR c.parents && rightI c.author && rightI c.committer && decide (c.text.length ≤ 32768) && decide (∀ d ∈ c.text, d ≠ 0)
theorem rightR_iff (c : Rcd) : rightR c = true ↔ c.tree ≠ idZ ∧ c.parents.length ≤ 16 ∧ parentsR c.parents = true ∧ rightI c.author = true ∧ rightI c.committer = true ∧ c.text.length ≤ 32768 ∧ ∀ d ∈ c.text, d ≠ 0 := by
  unfold rightR
  simp only [Bool.and_eq_true, decide_eq_true_eq, and_assoc]
/-- None is zero and none stands ahead of itself: by places. -/
theorem parentsR_iff (ps : List (List UInt8)) : parentsR ps = true ↔ ∀ j (h : j < ps.length), ps[j] ≠ idZ ∧ ps[j] ∉ ps.take j := by
  unfold parentsR
  rw [Bool.and_eq_true, decide_eq_true_eq, decide_eq_true_eq]
  constructor
  · rintro ⟨h1, h2⟩ j hj
    refine ⟨h1 _ (List.getElem_mem hj), fun hm => ?_⟩
    obtain ⟨i, hi, e⟩ := List.mem_iff_getElem.1 hm
    rw [List.getElem_take] at e
    have hil : i < j := by rw [List.length_take] at hi; omega
    exact (List.pairwise_iff_getElem.1 h2) i j (by omega) hj hil e
  · intro h
    refine ⟨fun p hp => ?_, ?_⟩
    · obtain ⟨i, hi, e⟩ := List.mem_iff_getElem.1 hp
      rw [← e]; exact (h i hi).1
    · refine List.pairwise_iff_getElem.2 fun i j hi hj hij e => (h j hj).2 ?_
      refine List.mem_iff_getElem.2 ⟨i, by rw [List.length_take]; omega, ?_⟩
      rw [List.getElem_take]; exact e
theorem parents_bad {ps : List (List UInt8)} (j : Nat) (hj : j < ps.length) (h : ps[j] = idZ ∨ ps[j] ∈ ps.take j) : parentsR ps = false := by
  cases e : parentsR ps with
  | false => rfl
  | true =>
    have := (parentsR_iff ps).1 e j hj
    rcases h with h | h
    · exact absurd h this.1
    · exact absurd h this.2

/-- A line, and what stands behind it. -/
def lineT (w x r : List UInt8) : List UInt8 := w ++ (x ++ 10 :: r)
def eolL (s : List UInt8) : Nat := s.findIdx (· == 10)
def lineL (s w : List UInt8) : Option (List UInt8 × List UInt8) :=
  if eolL s < s.length ∧ (s.take (eolL s)).take w.length = w then some ((s.take (eolL s)).drop w.length, s.drop (eolL s + 1)) else none
def noEol (x : List UInt8) : Prop := ∀ d ∈ x, d ≠ 10
theorem eol_at {l : List UInt8} (h : noEol l) (r : List UInt8) : eolL (l ++ 10 :: r) = l.length := find_at 10 l r h
theorem line_at {l : List UInt8} (h : noEol l) (r w : List UInt8) : lineL (l ++ 10 :: r) w = if l.take w.length = w then some (l.drop w.length, r) else none := by
  unfold lineL
  rw [eol_at h]
  have e1 : (l ++ 10 :: r).take l.length = l := List.take_left
  have e2 : (l ++ 10 :: r).drop (l.length + 1) = r := by
    have : l ++ 10 :: r = (l ++ [10]) ++ r := by simp
    rw [this]; exact List.drop_left' (by simp)
  rw [e1, e2]
  have hl : l.length < (l ++ 10 :: r).length := by simp
  by_cases hc : l.take w.length = w
  · rw [if_pos ⟨hl, hc⟩, if_pos hc]
  · rw [if_neg (fun q => hc q.2), if_neg hc]
theorem line_print {w x : List UInt8} (hw : noEol w) (hx : noEol x) (r : List UInt8) : lineL (lineT w x r) w = some (x, r) := by
  have e : lineT w x r = (w ++ x) ++ 10 :: r := by unfold lineT; simp
  have hc : noEol (w ++ x) := fun d hd => by
    rcases List.mem_append.1 hd with q | q
    · exact hw d q
    · exact hx d q
  rw [e, line_at hc, List.take_left, if_pos rfl, List.drop_left]
/-- A line that begins otherwise. -/
theorem line_other {w v x : List UInt8} (hv : noEol v) (hx : noEol x) (r : List UInt8) (h : (v ++ x).take w.length ≠ w) : lineL (lineT v x r) w = none := by
  have e : lineT v x r = (v ++ x) ++ 10 :: r := by unfold lineT; simp
  have hc : noEol (v ++ x) := fun d hd => by
    rcases List.mem_append.1 hd with q | q
    · exact hv d q
    · exact hx d q
  rw [e, line_at hc, if_neg h]
theorem line_lone {s : List UInt8} (h : noEol s) (w : List UInt8) : lineL s w = none := by
  unfold lineL
  rw [if_neg]
  rintro ⟨q, -⟩
  have := List.findIdx_getElem (w := q)
  simp only [beq_iff_eq] at this
  exact h _ (List.getElem_mem q) this
theorem line_first {w : List UInt8} (c d : UInt8) (hcd : c ≠ d) (s : List UInt8) : lineL (c :: s) (d :: w) = none := by
  unfold lineL
  rw [if_neg]
  rintro ⟨-, q⟩
  cases e : eolL (c :: s) with
  | zero => rw [e] at q; simp at q
  | succ n =>
    rw [e] at q
    simp only [List.take_succ_cons, List.length_cons, List.cons.injEq] at q
    exact hcd q.1
theorem line_only {s w x r : List UInt8} (h : lineL s w = some (x, r)) : s = lineT w x r ∧ noEol x := by
  unfold lineL at h
  by_cases hc : eolL s < s.length ∧ (s.take (eolL s)).take w.length = w
  · rw [if_pos hc] at h
    obtain ⟨rfl, rfl⟩ := Prod.mk.inj (Option.some.inj h)
    have h10 : s[eolL s]'hc.1 = 10 := beq_iff_eq.1 (List.findIdx_getElem (p := fun c : UInt8 => c == 10) (w := hc.1))
    have hno : noEol (s.take (eolL s)) := by
      intro d hd e
      obtain ⟨i, hi, q⟩ := List.mem_iff_getElem.1 hd
      rw [List.getElem_take] at q
      rw [List.length_take] at hi
      have := List.not_of_lt_findIdx (p := fun c : UInt8 => c == 10) (xs := s) (i := i) (by unfold eolL at hi; omega)
      simp only [beq_eq_false_iff_ne, ne_eq, Bool.not_eq_true] at this
      exact this (q.trans e)
    refine ⟨?_, fun d hd => hno d ((List.drop_subset _ _) hd)⟩
    unfold lineT
    rw [← List.append_assoc]
    have e1 : w ++ (s.take (eolL s)).drop w.length = s.take (eolL s) := by
      conv => lhs; arg 1; rw [← hc.2]
      exact List.take_append_drop _ _
    rw [e1]
    conv => lhs; rw [← List.take_append_drop (eolL s) s, List.drop_eq_getElem_cons hc.1, h10]
  · rw [if_neg hc] at h; cases h
theorem noEol_tree : noEol treeW := by unfold noEol; decide
theorem noEol_parent : noEol parentW := by unfold noEol; decide
theorem noEol_author : noEol authorW := by unfold noEol; decide
theorem noEol_committer : noEol committerW := by unfold noEol; decide

def parsT (hx : List UInt8 → List UInt8) : List (List UInt8) → List UInt8 → List UInt8
  | [], r => r
  | p :: ps, r => lineT parentW (hx p) (parsT hx ps r)
def printC (hx : List UInt8 → List UInt8) (pr : Idt → List UInt8) (c : Rcd) : List UInt8 :=
  lineT treeW (hx c.tree) (parsT hx c.parents (lineT authorW (pr c.author) (lineT committerW (pr c.committer) (10 :: c.text))))
/-- Writers and readers of ids and idents that fit. -/
structure Wr (hx : List UInt8 → List UInt8) (un : List UInt8 → Option (List UInt8)) (pr : Idt → List UInt8) (pa : List UInt8 → Option Idt) : Prop where
  hb : ∀ l, l.length = 20 → un (hx l) = some l
  ho : ∀ s l, un s = some l → l.length = 20 ∧ hx l = s
  hc : ∀ l, noEol (hx l)
  ib : ∀ i, rightI i = true → pa (pr i) = some i
  io : ∀ s i, pa s = some i → rightI i = true ∧ pr i = s
  ic : ∀ i, rightI i = true → noEol (pr i)
/-- Parents, so many at the most. -/
def parsL (un : List UInt8 → Option (List UInt8)) : Nat → List UInt8 → Option (List (List UInt8) × List UInt8)
  | 0, s => match lineL s parentW with
    | none => some ([], s)
    | some _ => none
  | n + 1, s => match lineL s parentW with
    | none => some ([], s)
    | some (x, r) => match un x with
      | none => none
      | some p => (parsL un n r).map fun q => (p :: q.1, q.2)
/-- What stands ahead of the text. -/
def whoL (pa : List UInt8 → Option Idt) (s : List UInt8) : Option (Idt × Idt × List UInt8) :=
  match lineL s authorW with
  | none => none
  | some (x, r) => match pa x with
    | none => none
    | some a => match lineL r committerW with
      | none => none
      | some (y, q) => match pa y with
        | none => none
        | some c => match q with
          | [] => none
          | d :: t => if d = 10 then some (a, c, t) else none
/-- The document's way to parse. -/
def parseC (un : List UInt8 → Option (List UInt8)) (pa : List UInt8 → Option Idt) (s : List UInt8) : Option Rcd :=
  match lineL s treeW with
  | none => none
  | some (x, r) => match un x with
    | none => none
    | some t => match parsL un 16 r with
      | none => none
      | some (ps, q) => match whoL pa q with
        | none => none
        | some (a, c, tx) => if rightR ⟨t, ps, a, c, tx⟩ = true then some ⟨t, ps, a, c, tx⟩ else none
section
variable {hx : List UInt8 → List UInt8} {un : List UInt8 → Option (List UInt8)} {pr : Idt → List UInt8} {pa : List UInt8 → Option Idt}
theorem pars_print (W : Wr hx un pr pa) (r : List UInt8) (hr : lineL r parentW = none) : ∀ (ps : List (List UInt8)) (n : Nat), ps.length ≤ n → (∀ p ∈ ps, p.length = 20) → parsL un n (parsT hx ps r) = some (ps, r)
  | [], 0, _, _ => by unfold parsL parsT; rw [hr]
  | [], n + 1, _, _ => by unfold parsL parsT; rw [hr]
  | p :: ps, 0, h, _ => absurd h (by simp)
  | p :: ps, n + 1, h, hp => by
    unfold parsL parsT
    rw [line_print noEol_parent (W.hc p)]
    simp only [W.hb p (hp p (by simp)), pars_print W r hr ps n (by simpa using h) (fun q hq => hp q (by simp [hq])), Option.map_some]
theorem pars_only (W : Wr hx un pr pa) : ∀ (n : Nat) (s : List UInt8) (ps : List (List UInt8)) (r : List UInt8), parsL un n s = some (ps, r) → s = parsT hx ps r ∧ ps.length ≤ n ∧ (∀ p ∈ ps, p.length = 20) ∧ lineL r parentW = none
  | 0, s, ps, r, h => by
    unfold parsL at h
    cases e : lineL s parentW with
    | some q => rw [e] at h; cases h
    | none =>
      rw [e] at h
      obtain ⟨rfl, rfl⟩ := Prod.mk.inj (Option.some.inj h)
      exact ⟨rfl, Nat.le_refl _, by simp, e⟩
  | n + 1, s, ps, r, h => by
    unfold parsL at h
    cases e : lineL s parentW with
    | none =>
      rw [e] at h
      obtain ⟨rfl, rfl⟩ := Prod.mk.inj (Option.some.inj h)
      exact ⟨rfl, Nat.zero_le _, by simp, e⟩
    | some q =>
      obtain ⟨x, t⟩ := q
      rw [e] at h
      simp only at h
      cases e2 : un x with
      | none => rw [e2] at h; cases h
      | some p =>
        rw [e2] at h
        simp only at h
        cases e3 : parsL un n t with
        | none => rw [e3] at h; cases h
        | some q =>
          obtain ⟨qs, u⟩ := q
          rw [e3] at h
          obtain ⟨rfl, rfl⟩ := Prod.mk.inj (Option.some.inj h)
          obtain ⟨g1, g2, g3, g4⟩ := pars_only W n t qs u e3
          obtain ⟨l1, l2⟩ := W.ho x p e2
          refine ⟨?_, by simpa using g2, ?_, g4⟩
          · show s = lineT parentW (hx p) (parsT hx qs u)
            rw [l2, ← g1]; exact (line_only e).1
          · intro q hq
            rcases List.mem_cons.1 hq with rfl | hq
            · exact l1
            · exact g3 q hq
theorem who_print (W : Wr hx un pr pa) {a c : Idt} (ha : rightI a = true) (hc : rightI c = true) (t : List UInt8) : whoL pa (lineT authorW (pr a) (lineT committerW (pr c) (10 :: t))) = some (a, c, t) := by
  unfold whoL
  rw [line_print noEol_author (W.ic a ha)]
  simp only [W.ib a ha]
  rw [line_print noEol_committer (W.ic c hc)]
  simp only [W.ib c hc, if_pos]
theorem who_only (W : Wr hx un pr pa) {s : List UInt8} {a c : Idt} {t : List UInt8} (h : whoL pa s = some (a, c, t)) : s = lineT authorW (pr a) (lineT committerW (pr c) (10 :: t)) ∧ rightI a = true ∧ rightI c = true := by
  unfold whoL at h
  cases e1 : lineL s authorW with
  | none => rw [e1] at h; cases h
  | some q =>
    obtain ⟨x, r⟩ := q
    rw [e1] at h
    simp only at h
    cases e2 : pa x with
    | none => rw [e2] at h; cases h
    | some a' =>
      rw [e2] at h
      simp only at h
      cases e3 : lineL r committerW with
      | none => rw [e3] at h; cases h
      | some q =>
        obtain ⟨y, u⟩ := q
        rw [e3] at h
        simp only at h
        cases e4 : pa y with
        | none => rw [e4] at h; cases h
        | some c' =>
          rw [e4] at h
          simp only at h
          cases u with
          | nil => cases h
          | cons d t' =>
            simp only at h
            by_cases hd : d = 10
            · rw [if_pos hd] at h
              simp only [Option.some.injEq, Prod.mk.injEq] at h
              obtain ⟨rfl, rfl, rfl⟩ := h
              subst hd
              obtain ⟨i1, i2⟩ := W.io x a' e2
              obtain ⟨k1, k2⟩ := W.io y c' e4
              refine ⟨?_, i1, k1⟩
              rw [i2, k2, ← (line_only e3).1]
              exact (line_only e1).1
            · rw [if_neg hd] at h; cases h
theorem author_no_parent (x r : List UInt8) : lineL (lineT authorW x r) parentW = none := line_first 97 112 (by decide) _
/-- What is printed is parsed. -/
theorem parse_printC (W : Wr hx un pr pa) {c : Rcd} (hf : c.Fit) (h : rightR c = true) : parseC un pa (printC hx pr c) = some c := by
  obtain ⟨h1, h2, h3, h4, h5, h6, h7⟩ := (rightR_iff c).1 h
  unfold parseC printC
  rw [line_print noEol_tree (W.hc _)]
  simp only [W.hb c.tree hf.tree]
  rw [pars_print W _ (author_no_parent _ _) c.parents 16 h2 hf.parents]
  simp only
  rw [who_print W h4 h5]
  simp only
  rw [if_pos h]
/-- What is parsed is right, and prints so. -/
theorem parse_onlyC (W : Wr hx un pr pa) {s : List UInt8} {c : Rcd} (h : parseC un pa s = some c) : c.Fit ∧ rightR c = true ∧ printC hx pr c = s := by
  unfold parseC at h
  cases e1 : lineL s treeW with
  | none => rw [e1] at h; cases h
  | some q =>
    obtain ⟨x, r⟩ := q
    rw [e1] at h
    simp only at h
    cases e2 : un x with
    | none => rw [e2] at h; cases h
    | some t =>
      rw [e2] at h
      simp only at h
      cases e3 : parsL un 16 r with
      | none => rw [e3] at h; cases h
      | some q =>
        obtain ⟨ps, u⟩ := q
        rw [e3] at h
        simp only at h
        cases e4 : whoL pa u with
        | none => rw [e4] at h; cases h
        | some q =>
          obtain ⟨a, d, tx⟩ := q
          rw [e4] at h
          simp only at h
          by_cases hr : rightR ⟨t, ps, a, d, tx⟩ = true
          · rw [if_pos hr] at h
            cases Option.some.inj h
            obtain ⟨l1, l2⟩ := W.ho x t e2
            obtain ⟨g1, g2, g3, g4⟩ := pars_only W 16 r ps u e3
            refine ⟨⟨l1, g3⟩, hr, ?_⟩
            unfold printC
            simp only
            rw [← (who_only W e4).1, ← g1, l2]
            exact (line_only e1).1.symm
          · rw [if_neg hr] at h; cases h
theorem printC_inj (W : Wr hx un pr pa) {c d : Rcd} (hc : c.Fit) (hd : d.Fit) (h : rightR c = true) (k : rightR d = true) (e : printC hx pr c = printC hx pr d) : c = d := by
  have := parse_printC W hc h
  rw [e, parse_printC W hd k] at this
  exact (Option.some.inj this).symm
theorem parse_noneC (W : Wr hx un pr pa) {s : List UInt8} (h : ∀ c : Rcd, c.Fit → rightR c = true → printC hx pr c ≠ s) : parseC un pa s = none := by
  cases e : parseC un pa s with
  | none => rfl
  | some c =>
    obtain ⟨h1, h2, h3⟩ := parse_onlyC W e
    exact absurd h3 (h c h1 h2)
end
/-- A loop over the parents: those that stand already, and what is left. -/
def parsK (un : List UInt8 → Option (List UInt8)) (ps : List (List UInt8)) (n : Nat) (s : List UInt8) : Option (List (List UInt8) × List UInt8) := (parsL un n s).map fun q => (ps ++ q.1, q.2)
section
variable {un : List UInt8 → Option (List UInt8)}
theorem parsK_nil (n : Nat) (s : List UInt8) : parsK un [] n s = parsL un n s := by
  unfold parsK
  cases parsL un n s with
  | none => rfl
  | some q => rfl
theorem parsK_stop {s : List UInt8} (h : lineL s parentW = none) (ps : List (List UInt8)) : ∀ n, parsK un ps n s = some (ps, s)
  | 0 => by unfold parsK parsL; rw [h]; simp
  | n + 1 => by unfold parsK parsL; rw [h]; simp
theorem parsK_full {s x r : List UInt8} (h : lineL s parentW = some (x, r)) (ps : List (List UInt8)) : parsK un ps 0 s = none := by unfold parsK parsL; rw [h]; rfl
theorem parsK_bad {s x r : List UInt8} (h : lineL s parentW = some (x, r)) (hu : un x = none) (ps : List (List UInt8)) : ∀ n, parsK un ps n s = none
  | 0 => parsK_full h ps
  | n + 1 => by unfold parsK parsL; rw [h]; simp only [hu]; rfl
theorem parsK_next {s x r p : List UInt8} (h : lineL s parentW = some (x, r)) (hu : un x = some p) (ps : List (List UInt8)) (n : Nat) : parsK un ps (n + 1) s = parsK un (ps ++ [p]) n r := by
  unfold parsK
  rw [show parsL un (n + 1) s = (parsL un n r).map fun q => (p :: q.1, q.2) by rw [parsL, h]; simp only [hu]]
  cases parsL un n r with
  | none => rfl
  | some q => simp
theorem line_len {s w x r : List UInt8} (h : lineL s w = some (x, r)) : s.length = w.length + x.length + 1 + r.length := by
  rw [(line_only h).1]; unfold lineT; simp; omega
end
end Go.Proofs.YtonkclkopmdahaaGreatDoor

/-
  Small words for walks over byte slices: what lies in a slice of bytes, and 'string(b)' of it.
-/
namespace Go.Proofs.YtonkclkopmdahaaGreatDoor
open Go.RowKit
set_option linter.unusedVariables false

theorem tup_int {k : IntKind} {a b : Int} {v : Value} (h : a = b) : Ending.returned (.tuple #[.int k a, v]) = .returned (.tuple #[.int k b, v]) := by rw [h]
theorem ret_int {k : IntKind} {a b : Int} (h : a = b) : Ending.returned (.int k a) = .returned (.int k b) := by rw [h]
theorem ret_str {a b : List UInt8} (h : a = b) : Ending.returned (.string ⟨a.toArray⟩) = .returned (.string ⟨b.toArray⟩) := by rw [h]
theorem ret_bool {a b : Bool} (h : a = b) : Ending.returned (.bool a) = .returned (.bool b) := by rw [h]

/-- What lies at the head of a slice of bytes: of an empty one nothing is said. -/
def BAt (w : World) (a : Option Addr) (l : List UInt8) : Prop :=
  0 < l.length → ∃ b o, a = some ⟨b, o, none⟩ ∧ b < w.heap.size ∧ ∀ i (h : i < l.length), w.cell? ⟨b, o + i, none⟩ = some (.int .u8 (l[i]).toNat)
theorem BAt.nil (w : World) (a : Option Addr) : BAt w a [] := fun h => absurd h (Nat.lt_irrefl 0)
theorem BAt.below {w w' : World} {a : Option Addr} {l : List UInt8} (h : BAt w a l) {B : Nat} (hb : Below B w w') (hB : w.heap.size ≤ B) : BAt w' a l := fun hp => by
  obtain ⟨b, o, rfl, hlt, hc⟩ := h hp
  exact ⟨b, o, rfl, Nat.lt_of_lt_of_le hlt hb.size, fun i hi => (hb.cell (p := ⟨b, o + i, none⟩) (by show b < B; omega)).trans (hc i hi)⟩
theorem BAt.keep {w w' : World} {a : Option Addr} {l : List UInt8} (h : BAt w a l) (hb : Below w.heap.size w w') : BAt w' a l := h.below hb (Nat.le_refl _)
theorem size_toArray (l : List UInt8) : (⟨l.toArray⟩ : ByteArray).size = l.length := by simp [ByteArray.size]

theorem bytes_append (a b : List UInt8) : (⟨a.toArray⟩ ++ ⟨b.toArray⟩ : ByteArray) = ⟨(a ++ b).toArray⟩ := by
  apply ByteArray.ext
  simp

theorem add_lists {P : Program} (w : World) (a b : List UInt8) (h : a.length + b.length ≤ 9223372036854775807) :
    (Op.stringOp .add ⟨a.toArray⟩ ⟨b.toArray⟩).run P w = .ok (.string ⟨(a ++ b).toArray⟩) w := by
  rw [← bytes_append]
  exact run_string_add_sum w _ _ (by rw [size_toArray, size_toArray]; exact h)

theorem strOfNums_toNat (l : List UInt8) : strOfNums (l.map fun c => (c.toNat : Int)) = ⟨l.toArray⟩ := by
  unfold strOfNums
  congr 2
  rw [List.map_map]
  conv => rhs; rw [← List.map_id l]
  apply List.map_congr_left
  intro c _
  simp
/-- 'string(b)'. -/
theorem BAt.conv {P : Program} {w : World} {a : Option Addr} {l : List UInt8} (h : BAt w a l) (c : Nat) (src e : TypeId) (hs : P.underlying src = some (.slice e)) (he : P.underlying e = some (.int .u8)) :
    ∀ dst, P.underlying dst = some .string → (convert src dst (.slice a l.length c)).run P w = .ok (.string ⟨l.toArray⟩) w := by
  intro dst hd
  by_cases hp : 0 < l.length
  · obtain ⟨b, o, rfl, _, hc⟩ := h hp
    rw [← strOfNums_toNat]
    exact run_convert_bytes_arg w src e hs he b o l.length c (l.map fun c => (c.toNat : Int)) (by simp) (fun i hi => by rw [hc i hi]; simp [List.getD, hi]) dst hd
  · obtain rfl : l = [] := List.eq_nil_of_length_eq_zero (by omega)
    rw [run_convert_bytes_string w src dst e _ _ c hs he hd]
    cases a <;> simp [Conv.bytesToString, loadCells]
    all_goals rfl
end Go.Proofs.YtonkclkopmdahaaGreatDoor
