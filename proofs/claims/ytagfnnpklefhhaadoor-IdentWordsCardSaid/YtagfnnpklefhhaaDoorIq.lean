/-
  Layer 6, plain: what may be a name, and a text made clean; nothing of the program.
-/
import Derived.Test.YtagfnnpklefhhaaDoorIp
namespace Go.Proofs.YtagfnnpklefhhaaDoor
set_option linter.unusedVariables false
set_option linter.unusedSimpArgs false

/-- May it be a name, or an email? -/
def wordL (l : List UInt8) : Bool :=
  l.all (fun c => !barB c) && decide (l.length ≤ 200) && Lib.validD l && (decide (l = []) || (decide ((l.getD 0 0).toNat ≠ 32) && decide ((l.getD (l.length - 1) 0).toNat ≠ 32)))
theorem word_iff (l : List UInt8) : wordL l = true ↔ (∀ c ∈ l, barB c = false) ∧ l.length ≤ 200 ∧ Lib.validD l = true ∧ (l ≠ [] → (l.getD 0 0).toNat ≠ 32 ∧ (l.getD (l.length - 1) 0).toNat ≠ 32) := by
  unfold wordL
  simp only [Bool.and_eq_true, Bool.or_eq_true, decide_eq_true_eq, List.all_eq_true, Bool.not_eq_true', and_assoc]
  constructor
  · rintro ⟨h1, h2, h3, h4⟩
    refine ⟨h1, h2, h3, fun hne => ?_⟩
    rcases h4 with h4 | h4
    · exact absurd h4 hne
    · exact h4
  · rintro ⟨h1, h2, h3, h4⟩
    refine ⟨h1, h2, h3, ?_⟩
    by_cases e : l = []
    · exact .inl e
    · exact .inr (h4 e)
/-- As many pieces as have room. -/
def fitL : Nat → List (List UInt8) → List (List UInt8)
  | _, [] => []
  | n, g :: r => if g.length ≤ n then g :: fitL (n - g.length) r else []
def blank (g : List UInt8) : Bool := decide (g = [32])
def lstrip (gs : List (List UInt8)) : List (List UInt8) := gs.dropWhile blank
def rstrip : List (List UInt8) → List (List UInt8)
  | [] => []
  | g :: r => match rstrip r with
    | [] => if blank g then [] else [g]
    | x :: y => g :: x :: y
def cleanT (l : List UInt8) : List UInt8 := (rstrip (fitL 200 (lstrip (pieces l)))).flatten

theorem fit_sub : ∀ (gs : List (List UInt8)) (n : Nat), ∀ g ∈ fitL n gs, g ∈ gs
  | [], n => by simp [fitL]
  | x :: r, n => by
    intro g hg
    unfold fitL at hg
    split at hg
    · rcases List.mem_cons.1 hg with rfl | hg
      · simp
      · exact List.mem_cons_of_mem _ (fit_sub r _ g hg)
    · cases hg
theorem fit_len : ∀ (gs : List (List UInt8)) (n : Nat), (fitL n gs).flatten.length ≤ n
  | [], n => by simp [fitL]
  | x :: r, n => by
    unfold fitL
    split
    · rw [List.flatten_cons, List.length_append]; have := fit_len r (n - x.length); omega
    · simp
theorem fit_all : ∀ (gs : List (List UInt8)) (n : Nat), gs.flatten.length ≤ n → fitL n gs = gs
  | [], n, _ => rfl
  | x :: r, n, h => by
    rw [List.flatten_cons, List.length_append] at h
    unfold fitL
    rw [if_pos (by omega), fit_all r _ (by omega)]
theorem fit_head (g : List UInt8) (r : List (List UInt8)) (n : Nat) : fitL n (g :: r) = [] ∨ ∃ s, fitL n (g :: r) = g :: s := by
  unfold fitL
  split
  · exact .inr ⟨_, rfl⟩
  · exact .inl rfl
theorem lstrip_sub (gs : List (List UInt8)) : ∀ g ∈ lstrip gs, g ∈ gs := fun g hg => (List.dropWhile_suffix blank).subset hg
theorem lstrip_head : ∀ gs : List (List UInt8), lstrip gs = [] ∨ ∃ g r, lstrip gs = g :: r ∧ blank g = false
  | [] => .inl rfl
  | g :: r => by
    unfold lstrip
    cases h : blank g with
    | true => rw [List.dropWhile_cons_of_pos h]; exact lstrip_head r
    | false => rw [List.dropWhile_cons_of_neg (by rw [h]; decide)]; exact .inr ⟨g, r, rfl, h⟩
theorem lstrip_none (g : List UInt8) (r : List (List UInt8)) (h : blank g = false) : lstrip (g :: r) = g :: r := List.dropWhile_cons_of_neg (by rw [h]; decide)
theorem rstrip_sub : ∀ gs : List (List UInt8), ∀ g ∈ rstrip gs, g ∈ gs
  | [] => by simp [rstrip]
  | x :: r => by
    intro g hg
    have ih := rstrip_sub r
    unfold rstrip at hg
    split at hg
    · split at hg
      · cases hg
      · rw [List.mem_singleton.1 hg]; simp
    · rename_i a b e
      rcases List.mem_cons.1 hg with rfl | hg
      · simp
      · exact List.mem_cons_of_mem _ (ih g (by rw [e]; exact hg))
theorem rstrip_len : ∀ gs : List (List UInt8), (rstrip gs).flatten.length ≤ gs.flatten.length
  | [] => by simp [rstrip]
  | x :: r => by
    have ih := rstrip_len r
    unfold rstrip
    split
    · split
      · simp
      · simp
    · rename_i a b e
      rw [e] at ih
      simp only [List.flatten_cons, List.length_append] at ih ⊢
      omega
theorem rstrip_head (g : List UInt8) (r : List (List UInt8)) (h : blank g = false) : ∃ s, rstrip (g :: r) = g :: s := by
  unfold rstrip
  split
  · rw [h]; exact ⟨[], rfl⟩
  · exact ⟨_, rfl⟩
theorem rstrip_last : ∀ gs : List (List UInt8), rstrip gs = [] ∨ ∃ r g, rstrip gs = r ++ [g] ∧ blank g = false
  | [] => .inl rfl
  | x :: r => by
    have ih := rstrip_last r
    unfold rstrip
    split
    · cases h : blank x with
      | true => exact .inl (by simp)
      | false => exact .inr ⟨[], x, by simp, h⟩
    · rename_i a b e
      right
      rcases ih with ih | ⟨s, g, ih, hg⟩
      · rw [e] at ih; cases ih
      · rw [e] at ih; exact ⟨x :: s, g, by rw [ih]; rfl, hg⟩
theorem rstrip_none : ∀ (r : List (List UInt8)) (g : List UInt8), blank g = false → rstrip (r ++ [g]) = r ++ [g]
  | [], g, h => by simp [rstrip, h]
  | x :: r, g, h => by
    have ih := rstrip_none r g h
    rw [List.cons_append]
    unfold rstrip
    rw [ih]
    split
    · rename_i e; simp at e
    · rename_i a b e; rw [e]
theorem Rune.first {g : List UInt8} (h : Rune g) (hb : blank g = false) : (g.getD 0 0).toNat ≠ 32 := by
  intro e
  rcases h.low with ⟨c, rfl, hc⟩ | hh
  · have : c = 32 := UInt8.toNat_inj.1 (by simpa using e)
    subst this
    exact absurd hb (by decide)
  · cases hg : g with
    | nil => exact h.ne hg
    | cons x r =>
      rw [hg] at e hh
      have := hh x (by simp)
      simp at e
      omega
theorem Rune.final {g : List UInt8} (h : Rune g) (hb : blank g = false) : (g.getD (g.length - 1) 0).toNat ≠ 32 := by
  intro e
  rcases h.low with ⟨c, rfl, hc⟩ | hh
  · have : c = 32 := UInt8.toNat_inj.1 (by simpa using e)
    subst this
    exact absurd hb (by decide)
  · have hl : 0 < g.length := by cases hg : g with | nil => exact absurd hg h.ne | cons _ _ => simp
    rw [List.getD_eq_getElem?_getD, List.getElem?_eq_getElem (by omega)] at e
    have := hh _ (List.getElem_mem (show g.length - 1 < g.length by omega))
    simp at e
    omega
/-- What is clean may be a name. -/
theorem clean_isword (l : List UInt8) : wordL (cleanT l) = true := by
  have hr : ∀ g ∈ rstrip (fitL 200 (lstrip (pieces l))), Rune g := fun g hg => pieces_rune l.length l (Nat.le_refl _) g (lstrip_sub _ g (fit_sub _ _ g (rstrip_sub _ g hg)))
  have hlast := rstrip_last (fitL 200 (lstrip (pieces l)))
  have hlen := Nat.le_trans (rstrip_len (fitL 200 (lstrip (pieces l)))) (fit_len (lstrip (pieces l)) 200)
  have hhead : rstrip (fitL 200 (lstrip (pieces l))) = [] ∨ ∃ g r, rstrip (fitL 200 (lstrip (pieces l))) = g :: r ∧ blank g = false := by
    rcases lstrip_head (pieces l) with e | ⟨g, r, e, hb⟩
    · left; rw [e]; rfl
    · rw [e]
      rcases fit_head g r 200 with e2 | ⟨s, e2⟩
      · left; rw [e2]; rfl
      · rw [e2]
        obtain ⟨t, e3⟩ := rstrip_head g s hb
        exact .inr ⟨g, t, e3, hb⟩
  unfold cleanT
  generalize rstrip (fitL 200 (lstrip (pieces l))) = gs at hr hlast hlen hhead
  rw [word_iff]
  refine ⟨fun c hc => ?_, hlen, valid_flatten gs hr, fun hne => ⟨?_, ?_⟩⟩
  · obtain ⟨g, hg, hcg⟩ := List.mem_flatten.1 hc
    exact (hr g hg).bar c hcg
  · rcases hhead with rfl | ⟨g, r, rfl, hb⟩
    · exact absurd rfl hne
    · have hg := hr g (by simp)
      have := hg.first hb
      cases h : g with
      | nil => exact absurd h hg.ne
      | cons x y => rw [h] at this; simpa using this
  · rcases hlast with rfl | ⟨r, g, rfl, hb⟩
    · exact absurd rfl hne
    · have hg := hr g (by simp)
      have := hg.final hb
      have hl : 0 < g.length := by cases h : g with | nil => exact absurd h hg.ne | cons _ _ => simp
      rw [List.flatten_append, List.flatten_singleton, List.length_append, List.getD_eq_getElem?_getD, List.getElem?_append_right (by omega), show r.flatten.length + g.length - 1 - r.flatten.length = g.length - 1 by omega, ← List.getD_eq_getElem?_getD]
      exact this
/-- What may be a name stays. -/
theorem word_stays (l : List UInt8) (h : wordL l = true) : cleanT l = l := by
  obtain ⟨h1, h2, h3, h4⟩ := (word_iff l).1 h
  have hw := pieces_whole l.length l (Nat.le_refl _) h3 h1
  have hr := pieces_rune l.length l (Nat.le_refl _)
  unfold cleanT
  generalize pieces l = gs at hw hr
  by_cases e : gs = []
  · subst e
    rw [← hw]; rfl
  · have hne : l ≠ [] := fun e2 => by
      rw [e2] at hw
      cases gs with
      | nil => exact e rfl
      | cons g r =>
        rw [List.flatten_cons] at hw
        exact (hr g (by simp)).ne (List.append_eq_nil_iff.1 hw).1
    obtain ⟨h5, h6⟩ := h4 hne
    have hl : lstrip gs = gs := by
      cases gs with
      | nil => rfl
      | cons g r =>
        refine lstrip_none g r ?_
        cases hb : blank g with
        | false => rfl
        | true =>
          have : g = [32] := of_decide_eq_true hb
          rw [← hw, this] at h5
          exact absurd rfl h5
    have hf : fitL 200 gs = gs := fit_all gs 200 (by rw [hw]; exact h2)
    rw [hl, hf]
    have hs : rstrip gs = gs := by
      obtain ⟨r, g, rfl⟩ : ∃ r g, gs = r ++ [g] := ⟨gs.dropLast, gs.getLast e, (List.dropLast_concat_getLast e).symm⟩
      refine rstrip_none r g ?_
      cases hb : blank g with
      | false => rfl
      | true =>
        have hg : g = [32] := of_decide_eq_true hb
        subst hg
        rw [← hw] at h6
        apply absurd _ h6
        rw [List.flatten_append, List.flatten_singleton, List.length_append, List.getD_eq_getElem?_getD, List.getElem?_append_right (by simp)]
        simp
    rw [hs, hw]
/-- Made clean again it stays. -/
theorem cleanT_again (l : List UInt8) : cleanT (cleanT l) = cleanT l := word_stays _ (clean_isword l)
end Go.Proofs.YtagfnnpklefhhaaDoor
