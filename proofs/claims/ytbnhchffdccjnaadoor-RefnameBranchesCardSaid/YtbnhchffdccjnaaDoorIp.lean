/-
  Layer 6, plain: runes of a text as pieces, what is clean; nothing of the program.
-/
import Derived.Test.YtbnhchffdccjnaaDoorQs
import Derived.Lib.ValidLaws
import Derived.Lib.MapLaws
namespace Go.Proofs.YtbnhchffdccjnaaDoor
set_option linter.unusedVariables false
set_option linter.unusedSimpArgs false

theorem decodeN_same (L M b0 b1 b2 b3 c1 c2 c3 : Nat) (h : ¬ ((Lib.decodeN L b0 b1 b2 b3).1 = 65533 ∧ (Lib.decodeN L b0 b1 b2 b3).2 = 1)) (hM : (Lib.decodeN L b0 b1 b2 b3).2 ≤ M)
    (h1 : 1 < (Lib.decodeN L b0 b1 b2 b3).2 → c1 = b1) (h2 : 2 < (Lib.decodeN L b0 b1 b2 b3).2 → c2 = b2) (h3 : 3 < (Lib.decodeN L b0 b1 b2 b3).2 → c3 = b3) :
    Lib.decodeN M b0 c1 c2 c3 = Lib.decodeN L b0 b1 b2 b3 := by
  unfold Lib.decodeN at h hM h1 h2 h3 ⊢
  by_cases a : b0 < 128
  · simp only [if_pos a]
  · simp only [if_neg a] at h hM h1 h2 h3 ⊢
    by_cases b : b0 / 32 = 6 ∧ (1 < L ∧ b1 / 64 = 2)
    · simp only [if_pos b] at h hM h1 h2 h3 ⊢
      by_cases c : b0 % 32 * 64 + b1 % 64 ≥ 128
      · simp only [if_pos c] at h hM h1 h2 h3 ⊢
        have e1 := h1 (by omega)
        subst e1
        rw [if_pos ⟨b.1, by omega, b.2.2⟩, if_pos c]
      · simp only [if_neg c] at h
        exact absurd (And.intro trivial trivial) h
    · simp only [if_neg b] at h hM h1 h2 h3 ⊢
      by_cases d : b0 / 16 = 14 ∧ (1 < L ∧ b1 / 64 = 2) ∧ (2 < L ∧ b2 / 64 = 2)
      · simp only [if_pos d] at h hM h1 h2 h3 ⊢
        by_cases c : b0 % 16 * 4096 + b1 % 64 * 64 + b2 % 64 ≥ 2048 ∧ (b0 % 16 * 4096 + b1 % 64 * 64 + b2 % 64 < 55296 ∨ (57344 ≤ b0 % 16 * 4096 + b1 % 64 * 64 + b2 % 64 ∧ b0 % 16 * 4096 + b1 % 64 * 64 + b2 % 64 ≤ 1114111))
        · simp only [if_pos c] at h hM h1 h2 h3 ⊢
          have e1 := h1 (by omega); have e2 := h2 (by omega)
          subst e1; subst e2
          rw [if_neg (by omega), if_pos ⟨d.1, ⟨by omega, d.2.1.2⟩, by omega, d.2.2.2⟩, if_pos c]
        · simp only [if_neg c] at h
          exact absurd (And.intro trivial trivial) h
      · simp only [if_neg d] at h hM h1 h2 h3 ⊢
        by_cases f : b0 / 8 = 30 ∧ (1 < L ∧ b1 / 64 = 2) ∧ (2 < L ∧ b2 / 64 = 2) ∧ (3 < L ∧ b3 / 64 = 2)
        · simp only [if_pos f] at h hM h1 h2 h3 ⊢
          by_cases c : b0 % 8 * 262144 + b1 % 64 * 4096 + b2 % 64 * 64 + b3 % 64 ≥ 65536 ∧ (b0 % 8 * 262144 + b1 % 64 * 4096 + b2 % 64 * 64 + b3 % 64 < 55296 ∨ (57344 ≤ b0 % 8 * 262144 + b1 % 64 * 4096 + b2 % 64 * 64 + b3 % 64 ∧ b0 % 8 * 262144 + b1 % 64 * 4096 + b2 % 64 * 64 + b3 % 64 ≤ 1114111))
          · simp only [if_pos c] at h hM h1 h2 h3 ⊢
            have e1 := h1 (by omega); have e2 := h2 (by omega); have e3 := h3 (by omega)
            subst e1; subst e2; subst e3
            rw [if_neg (by omega), if_neg (by omega), if_pos ⟨f.1, ⟨by omega, f.2.1.2⟩, ⟨by omega, f.2.2.1.2⟩, by omega, f.2.2.2.2⟩, if_pos c]
          · simp only [if_neg c] at h
            exact absurd (And.intro trivial trivial) h
        · simp only [if_neg f] at h
          exact absurd (And.intro trivial trivial) h
theorem decodeL_N (l : List UInt8) : Lib.decodeL l = Lib.decodeN l.length (l.getD 0 0).toNat (l.getD 1 0).toNat (l.getD 2 0).toNat (l.getD 3 0).toNat := by
  have := Lib.decode_N ⟨l.toArray⟩ 0
  simpa [Lib.decodeL] using this
/-- Is there a right rune at the head? -/
def goodL (l : List UInt8) : Prop := ¬ ((Lib.decodeL l).1 = 65533 ∧ (Lib.decodeL l).2 = 1)
instance (l : List UInt8) : Decidable (goodL l) := by unfold goodL; exact inferInstance
def widL (l : List UInt8) : Nat := (Lib.decodeL l).2
theorem wid_pos (l : List UInt8) : 1 ≤ widL l := Lib.decodeL_width l
theorem wid_le (l : List UInt8) (h : l ≠ []) : widL l ≤ l.length := Lib.decodeL_le l h
/-- A right rune is the same whatever follows. -/
theorem good_take (l t : List UInt8) (h : l ≠ []) (hg : goodL l) : Lib.decodeL (l.take (widL l) ++ t) = Lib.decodeL l := by
  have hp := wid_pos l
  have hle := wid_le l h
  have e : ∀ i, i < widL l → (l.take (widL l) ++ t).getD i 0 = l.getD i 0 := fun i hi => by
    rw [List.getD_eq_getElem?_getD, List.getD_eq_getElem?_getD, List.getElem?_append_left (by rw [List.length_take]; omega), List.getElem?_take, if_pos hi]
  unfold goodL at hg
  unfold widL at *
  rw [decodeL_N l] at hg hp hle e ⊢
  rw [decodeL_N (_ ++ t), e 0 (by omega)]
  refine decodeN_same _ _ _ _ _ _ _ _ _ hg (by rw [List.length_append, List.length_take]; omega) (fun h1 => by rw [e 1 h1]) (fun h2 => by rw [e 2 h2]) (fun h3 => by rw [e 3 h3])
def barB (c : UInt8) : Bool := c.toNat == 0 || c.toNat == 10 || c.toNat == 60 || c.toNat == 62
/-- A piece: one right rune that may stand in a name. -/
structure Rune (g : List UInt8) : Prop where
  ne : g ≠ []
  wid : ∀ t, widL (g ++ t) = g.length
  good : ∀ t, goodL (g ++ t)
  bar : ∀ c ∈ g, barB c = false
  low : (∃ c : UInt8, g = [c] ∧ c.toNat < 128) ∨ ∀ c ∈ g, 128 ≤ c.toNat
def keepL (l : List UInt8) : Prop := goodL l ∧ ¬ (widL l = 1 ∧ barB (l.getD 0 0) = true)
instance (l : List UInt8) : Decidable (keepL l) := by unfold keepL; exact inferInstance
theorem wid_high (l : List UInt8) (h : l ≠ []) (h0 : 128 ≤ (l.getD 0 0).toNat) (hg : goodL l) : ∀ c ∈ l.take (widL l), 128 ≤ c.toNat := by
  have hr := rune_at l 0 (by cases l with | nil => exact absurd rfl h | cons _ _ => simp)
  rcases hr with ⟨h1, _⟩ | ⟨_, _, _, _, _, h5, h6⟩
  · omega
  · intro c hc
    obtain ⟨i, hi, rfl⟩ := List.getElem_of_mem hc
    rw [List.length_take] at hi
    have := h6 i (Nat.zero_le _) (by show i < 0 + (Lib.decodeL l).2; rw [Nat.zero_add]; exact Nat.lt_of_lt_of_le hi (Nat.min_le_left _ _))
    rw [List.getElem_take]
    rw [List.getD_eq_getElem?_getD, List.getElem?_eq_getElem (by omega)] at this
    simpa using this
theorem wid_low (l : List UInt8) (h : l ≠ []) (h0 : (l.getD 0 0).toNat < 128) : widL l = 1 := by
  unfold widL
  rw [decodeL_N]
  unfold Lib.decodeN
  rw [if_pos h0]
theorem good_high (l : List UInt8) (h : l ≠ []) (h0 : 128 ≤ (l.getD 0 0).toNat) (hg : goodL l) : 1 < widL l := by
  unfold goodL at hg
  unfold widL
  rw [decodeL_N] at hg ⊢
  unfold Lib.decodeN at hg ⊢
  rw [if_neg (by omega)] at hg ⊢
  split
  · split
    · simp
    · rename_i a b; simp only [if_pos a, if_neg b] at hg; exact absurd (And.intro trivial trivial) hg
  · split
    · split
      · simp
      · rename_i x a b; simp only [if_neg x, if_pos a, if_neg b] at hg; exact absurd (And.intro trivial trivial) hg
    · split
      · split
        · simp
        · rename_i x y a b; simp only [if_neg x, if_neg y, if_pos a, if_neg b] at hg; exact absurd (And.intro trivial trivial) hg
      · rename_i x y a; simp only [if_neg x, if_neg y, if_neg a] at hg; exact absurd (And.intro trivial trivial) hg
theorem rune_of (l : List UInt8) (h : l ≠ []) (hk : keepL l) : Rune (l.take (widL l)) := by
  have hp := wid_pos l
  have hle := wid_le l h
  have hlen : (l.take (widL l)).length = widL l := by rw [List.length_take]; omega
  have hd := fun t => good_take l t h hk.1
  refine ⟨fun e => by rw [e] at hlen; simp at hlen; omega, fun t => by rw [hlen]; unfold widL; rw [show (Lib.decodeL l).2 = widL l from rfl, hd t]; rfl, fun t => by unfold goodL; rw [hd t]; exact hk.1, ?_, ?_⟩
  · by_cases h0 : (l.getD 0 0).toNat < 128
    · have h1 := wid_low l h h0
      have hb : barB (l.getD 0 0) = false := by
        cases hb : barB (l.getD 0 0) with
        | false => rfl
        | true => exact absurd ⟨h1, hb⟩ hk.2
      intro c hc
      rw [h1] at hc
      cases l with
      | nil => exact absurd rfl h
      | cons x r => simp at hc; subst hc; simpa using hb
    · intro c hc
      have := wid_high l h (by omega) hk.1 c hc
      unfold barB
      simp
      omega
  · by_cases h0 : (l.getD 0 0).toNat < 128
    · left
      have h1 := wid_low l h h0
      cases l with
      | nil => exact absurd rfl h
      | cons x r => exact ⟨x, by rw [h1]; rfl, by simpa using h0⟩
    · right; exact wid_high l h (by omega) hk.1
/-- The pieces of a text: its right runes that are not barred. -/
def piecesN : Nat → List UInt8 → List (List UInt8)
  | 0, _ => []
  | n + 1, l => if l = [] then [] else if keepL l then l.take (widL l) :: piecesN n (l.drop (widL l)) else piecesN n (l.drop (widL l))
def pieces (l : List UInt8) : List (List UInt8) := piecesN l.length l
theorem pieces_fuel : ∀ (n m : Nat) (l : List UInt8), l.length ≤ n → l.length ≤ m → piecesN n l = piecesN m l
  | 0, 0, _, _, _ => rfl
  | 0, m + 1, l, h, _ => by
    have e : l = [] := List.eq_nil_of_length_eq_zero (by omega)
    simp [piecesN, e]
  | n + 1, 0, l, _, h => by
    have e : l = [] := List.eq_nil_of_length_eq_zero (by omega)
    simp [piecesN, e]
  | n + 1, m + 1, l, h1, h2 => by
    by_cases e : l = []
    · simp [piecesN, e]
    · have hp := wid_pos l
      have ih := pieces_fuel n m (l.drop (widL l)) (by rw [List.length_drop]; omega) (by rw [List.length_drop]; omega)
      unfold piecesN
      rw [if_neg e, if_neg e, ih]
theorem pieces_nil : pieces [] = [] := rfl
theorem pieces_step (l : List UInt8) (h : l ≠ []) : pieces l = if keepL l then l.take (widL l) :: pieces (l.drop (widL l)) else pieces (l.drop (widL l)) := by
  have hp := wid_pos l
  have hl : 1 ≤ l.length := by cases l with | nil => exact absurd rfl h | cons _ _ => simp
  obtain ⟨n, hn⟩ : ∃ n, l.length = n + 1 := ⟨l.length - 1, by omega⟩
  have e : piecesN n (l.drop (widL l)) = pieces (l.drop (widL l)) := pieces_fuel _ _ _ (by rw [List.length_drop]; omega) (Nat.le_refl _)
  rw [← e]
  unfold pieces
  rw [hn]
  conv => lhs; unfold piecesN
  rw [if_neg h]
theorem pieces_rune : ∀ (n : Nat) (l : List UInt8), l.length ≤ n → ∀ g ∈ pieces l, Rune g
  | 0, l, h => by
    have e : l = [] := List.eq_nil_of_length_eq_zero (by omega)
    rw [e, pieces_nil]; intro g hg; cases hg
  | n + 1, l, h => by
    by_cases e : l = []
    · rw [e, pieces_nil]; intro g hg; cases hg
    · have hp := wid_pos l
      have ih := pieces_rune n (l.drop (widL l)) (by rw [List.length_drop]; omega)
      rw [pieces_step l e]
      split
      · rename_i hk
        intro g hg
        rcases List.mem_cons.1 hg with rfl | hg
        · exact rune_of l e hk
        · exact ih g hg
      · exact ih
theorem Rune.keep {g : List UInt8} (h : Rune g) (t : List UInt8) : keepL (g ++ t) ∧ widL (g ++ t) = g.length := by
  refine ⟨⟨h.good t, ?_⟩, h.wid t⟩
  rintro ⟨h1, h2⟩
  have hb := h.bar
  cases hg : g with
  | nil => exact h.ne hg
  | cons x r =>
    rw [hg] at h2 hb
    have := hb x (by simp)
    simp at h2
    rw [this] at h2
    cases h2
/-- Pieces put together are these pieces. -/
theorem pieces_flatten : ∀ (gs : List (List UInt8)), (∀ g ∈ gs, Rune g) → pieces gs.flatten = gs
  | [], _ => rfl
  | g :: r, h => by
    have hg := h g (by simp)
    obtain ⟨h1, h2⟩ := hg.keep r.flatten
    have hne : g ++ r.flatten ≠ [] := fun e => hg.ne (List.append_eq_nil_iff.1 e).1
    rw [List.flatten_cons, pieces_step _ hne, if_pos h1, h2, List.take_left, List.drop_left, pieces_flatten r (fun x hx => h x (by simp [hx]))]
theorem valid_flatten : ∀ (gs : List (List UInt8)), (∀ g ∈ gs, Rune g) → Lib.validD gs.flatten = true
  | [], _ => rfl
  | g :: r, h => by
    have hg := h g (by simp)
    have hne : g ++ r.flatten ≠ [] := fun e => hg.ne (List.append_eq_nil_iff.1 e).1
    rw [List.flatten_cons, Lib.validD_step _ hne, if_neg (hg.good _)]
    have := hg.wid r.flatten
    unfold widL at this
    rw [this, List.drop_left]
    exact valid_flatten r (fun x hx => h x (by simp [hx]))
/-- A right text without barred bytes is its pieces. -/
theorem pieces_whole : ∀ (n : Nat) (l : List UInt8), l.length ≤ n → Lib.validD l = true → (∀ c ∈ l, barB c = false) → (pieces l).flatten = l
  | 0, l, h, _, _ => by
    have e : l = [] := List.eq_nil_of_length_eq_zero (by omega)
    rw [e]; rfl
  | n + 1, l, h, hv, hb => by
    by_cases e : l = []
    · rw [e]; rfl
    · have hp := wid_pos l
      rw [Lib.validD_step l e] at hv
      split at hv
      · cases hv
      · rename_i hg
        have hk : keepL l := ⟨hg, fun hh => by
          cases l with
          | nil => exact e rfl
          | cons x r => have := hb x (by simp); simp at hh; rw [this] at hh; exact absurd hh.2 (by decide)⟩
        rw [pieces_step l e, if_pos hk, List.flatten_cons, pieces_whole n (l.drop (widL l)) (by rw [List.length_drop]; omega) hv (fun c hc => hb c (List.mem_of_mem_drop hc)), List.take_append_drop]
end Go.Proofs.YtbnhchffdccjnaaDoor
