/-
  Layer 6, plain: a text without its broken bytes, blanks off its ends, what fits; nothing of the program.
-/
import Derived.Test.YtagfnnpklefhhaaDoorIs
import Derived.Lib.TrimByte
namespace Go.Proofs.YtagfnnpklefhhaaDoor
set_option linter.unusedVariables false
set_option linter.unusedSimpArgs false

/-- A text without its broken bytes. -/
def valN : Nat → List UInt8 → List UInt8
  | 0, _ => []
  | n + 1, l => if l = [] then [] else if goodL l then l.take (widL l) ++ valN n (l.drop (widL l)) else valN n (l.drop (widL l))
def valT (l : List UInt8) : List UInt8 := valN l.length l
theorem valN_fuel : ∀ (n m : Nat) (l : List UInt8), l.length ≤ n → l.length ≤ m → valN n l = valN m l
  | 0, 0, _, _, _ => rfl
  | 0, m + 1, l, h, _ => by
    have e : l = [] := List.eq_nil_of_length_eq_zero (by omega)
    simp [valN, e]
  | n + 1, 0, l, _, h => by
    have e : l = [] := List.eq_nil_of_length_eq_zero (by omega)
    simp [valN, e]
  | n + 1, m + 1, l, h1, h2 => by
    by_cases e : l = []
    · simp [valN, e]
    · have hp := wid_pos l
      have ih := valN_fuel n m (l.drop (widL l)) (by rw [List.length_drop]; omega) (by rw [List.length_drop]; omega)
      unfold valN
      rw [if_neg e, if_neg e, ih]
theorem valT_nil : valT [] = [] := rfl
theorem valT_step (l : List UInt8) (h : l ≠ []) : valT l = if goodL l then l.take (widL l) ++ valT (l.drop (widL l)) else valT (l.drop (widL l)) := by
  have hp := wid_pos l
  have hl : 1 ≤ l.length := by cases l with | nil => exact absurd rfl h | cons _ _ => simp
  obtain ⟨n, hn⟩ : ∃ n, l.length = n + 1 := ⟨l.length - 1, by omega⟩
  have e : valN n (l.drop (widL l)) = valT (l.drop (widL l)) := valN_fuel _ _ _ (by rw [List.length_drop]; omega) (Nat.le_refl _)
  rw [← e]
  unfold valT
  rw [hn]
  conv => lhs; unfold valN
  rw [if_neg h]
theorem bad_wid (l : List UInt8) (h : ¬ goodL l) : widL l = 1 := (Decidable.not_not.1 h).2
theorem val_ind {M : List UInt8 → Prop} (h0 : M []) (h1 : ∀ l, l ≠ [] → M (l.drop (widL l)) → M l) (l : List UInt8) : M l := by
  have key : ∀ (n : Nat) (l : List UInt8), l.length ≤ n → M l := by
    intro n
    induction n with
    | zero => intro l hl; rw [List.eq_nil_of_length_eq_zero (show l.length = 0 by omega)]; exact h0
    | succ n ih =>
      intro l hl
      by_cases e : l = []
      · rw [e]; exact h0
      · have hp := wid_pos l
        exact h1 l e (ih _ (by rw [List.length_drop]; omega))
  exact key l.length l (Nat.le_refl _)
theorem valT_len (l : List UInt8) : (valT l).length ≤ l.length := by
  refine val_ind (M := fun l => (valT l).length ≤ l.length) (by simp [valT_nil]) (fun l h ih => ?_) l
  rw [List.length_drop] at ih
  have hp := wid_pos l
  rw [valT_step l h]
  split
  · rw [List.length_append, List.length_take]; omega
  · omega
/-- At a right rune: what follows is put behind it. -/
theorem good_put (l t : List UInt8) (h : l ≠ []) (hg : goodL l) : l.take (widL l) ++ t ≠ [] ∧ goodL (l.take (widL l) ++ t) ∧ widL (l.take (widL l) ++ t) = widL l ∧ (l.take (widL l) ++ t).take (widL l) = l.take (widL l) ∧ (l.take (widL l) ++ t).drop (widL l) = t ∧ (l.take (widL l) ++ t).getD 0 0 = l.getD 0 0 := by
  have hd := good_take l t h hg
  have hp := wid_pos l
  have hle := wid_le l h
  have hlen : (l.take (widL l)).length = widL l := by rw [List.length_take]; omega
  refine ⟨fun e => ?_, ?_, ?_, List.take_left' hlen, List.drop_left' hlen, ?_⟩
  · have := congrArg List.length e; rw [List.length_append, hlen] at this; simp at this; omega
  · unfold goodL; rw [hd]; exact hg
  · show (Lib.decodeL _).2 = _; rw [hd]; rfl
  · rw [List.getD_eq_getElem?_getD, List.getD_eq_getElem?_getD, List.getElem?_append_left (by omega), List.getElem?_take, if_pos (by omega)]
theorem valT_valid (l : List UInt8) : Lib.validD (valT l) = true := by
  refine val_ind (M := fun l => Lib.validD (valT l) = true) rfl (fun l h ih => ?_) l
  rw [valT_step l h]
  split
  · rename_i hg
    obtain ⟨h1, h2, h3, _, h5, _⟩ := good_put l (valT (l.drop (widL l))) h hg
    rw [Lib.validD_step _ h1, if_neg h2]
    show Lib.validD (List.drop (widL (l.take (widL l) ++ valT (l.drop (widL l)))) _) = true
    rw [h3, h5]
    exact ih
  · exact ih
theorem valT_pieces (l : List UInt8) : pieces (valT l) = pieces l := by
  refine val_ind (M := fun l => pieces (valT l) = pieces l) rfl (fun l h ih => ?_) l
  rw [pieces_step l h, valT_step l h]
  by_cases hg : goodL l
  · rw [if_pos hg]
    obtain ⟨h1, h2, h3, h4, h5, h6⟩ := good_put l (valT (l.drop (widL l))) h hg
    rw [pieces_step _ h1, h3, h4, h5, ih]
    have hk : keepL (l.take (widL l) ++ valT (l.drop (widL l))) ↔ keepL l := by
      unfold keepL
      rw [h3, h6]
      exact ⟨fun q => ⟨hg, q.2⟩, fun q => ⟨h2, q.2⟩⟩
    by_cases k : keepL l
    · rw [if_pos (hk.2 k), if_pos k]
    · rw [if_neg (fun q => k (hk.1 q)), if_neg k]
  · rw [if_neg hg, if_neg (fun q => hg q.1)]
    exact ih
theorem valT_same (l : List UInt8) (hv : Lib.validD l = true) : valT l = l := by
  revert hv
  refine val_ind (M := fun l => Lib.validD l = true → valT l = l) (fun _ => rfl) (fun l h ih => ?_) l
  intro hv
  rw [Lib.validD_step l h] at hv
  split at hv
  · cases hv
  · rename_i hg
    have hg : goodL l := hg
    rw [valT_step l h, if_pos hg, ih hv, List.take_append_drop]
theorem good_of_valid (l : List UInt8) (h : l ≠ []) (hv : Lib.validD l = true) : goodL l ∧ Lib.validD (l.drop (widL l)) = true := by
  rw [Lib.validD_step l h] at hv
  split at hv
  · cases hv
  · rename_i hg; exact ⟨hg, hv⟩
/-! By places. -/
theorem dec_drop (l : List UInt8) (i : Nat) : Utf8.decode ⟨l.toArray⟩ i = Lib.decodeL (l.drop i) := by
  rw [decodeL_N, Lib.decode_N ⟨l.toArray⟩ i]
  simp [List.getD_eq_getElem?_getD, List.getElem?_drop, ByteArray.size]
theorem drop_ne (l : List UInt8) (i : Nat) (h : i < l.length) : l.drop i ≠ [] := fun e => by
  have := congrArg List.length e; rw [List.length_drop] at this; simp at this; omega
/-- What a rune is that stands at the head of a right text. -/
theorem rune_val (l : List UInt8) (h : l ≠ []) (hg : goodL l) : ((Lib.decodeL l).1 = (l.getD 0 0).toNat ∧ (l.getD 0 0).toNat < 128 ∧ widL l = 1) ∨ (128 ≤ (Lib.decodeL l).1 ∧ 128 ≤ (l.getD 0 0).toNat ∧ 1 < widL l) := by
  have hr := rune_at l 0 (by cases l with | nil => exact absurd rfl h | cons _ _ => simp)
  rw [dec_drop, List.drop_zero] at hr
  rcases hr with ⟨h1, h2⟩ | ⟨h1, h2, _⟩
  · left
    exact ⟨by rw [h2], h1, by show (Lib.decodeL l).2 = 1; rw [h2]⟩
  · right
    exact ⟨h2, h1, good_high l h h1 hg⟩
def barR (r : Nat) : Bool := r == 0 || r == 10 || r == 60 || r == 62
/-- A right rune is kept if it is not barred. -/
theorem keep_iff (l : List UInt8) (h : l ≠ []) (hg : goodL l) : keepL l ↔ barR (Lib.decodeL l).1 = false := by
  unfold keepL
  rcases rune_val l h hg with ⟨h1, h2, h3⟩ | ⟨h1, h2, h3⟩
  · rw [h1, h3]
    unfold barR barB
    constructor
    · rintro ⟨_, q⟩
      cases hb : ((l.getD 0 0).toNat == 0 || (l.getD 0 0).toNat == 10 || (l.getD 0 0).toNat == 60 || (l.getD 0 0).toNat == 62) with
      | false => rfl
      | true => exact absurd ⟨rfl, hb⟩ q
    · intro q
      exact ⟨hg, fun p => by rw [q] at p; exact absurd p.2 (by decide)⟩
  · constructor
    · intro _
      unfold barR
      simp
      omega
    · intro _
      exact ⟨hg, fun p => by omega⟩
/-! Blanks off the ends. -/
theorem trimLeft_flat : ∀ gs : List (List UInt8), (∀ g ∈ gs, Rune g) → Lib.trimLeftB gs.flatten 32 = (lstrip gs).flatten
  | [], _ => rfl
  | g :: r, h => by
    have hg := h g (by simp)
    cases hb : blank g with
    | true =>
      have e : g = [32] := of_decide_eq_true hb
      subst e
      have ih := trimLeft_flat r (fun x hx => h x (by simp [hx]))
      unfold lstrip at ih ⊢
      rw [List.dropWhile_cons_of_pos hb, ← ih]
      unfold Lib.trimLeftB
      rw [List.flatten_cons, List.singleton_append, List.dropWhile_cons_of_pos (by decide)]
    | false =>
      rw [lstrip_none g r hb]
      have hf := hg.first hb
      cases g with
      | nil => exact absurd rfl hg.ne
      | cons c t =>
        unfold Lib.trimLeftB
        rw [List.flatten_cons, List.cons_append, List.dropWhile_cons_of_neg]
        simp
        intro e
        apply hf
        rw [e]; rfl
theorem rstrip_blank : ∀ r : List (List UInt8), rstrip (r ++ [[32]]) = rstrip r
  | [] => rfl
  | g :: r => by
    rw [List.cons_append]
    unfold rstrip
    rw [rstrip_blank r]
theorem trimRight_flat (gs : List (List UInt8)) (h : ∀ g ∈ gs, Rune g) : Lib.trimRightB gs.flatten 32 = (rstrip gs).flatten := by
  have key : ∀ (n : Nat) (gs : List (List UInt8)), gs.length = n → (∀ g ∈ gs, Rune g) → Lib.trimRightB gs.flatten 32 = (rstrip gs).flatten := by
    intro n
    induction n with
    | zero =>
      intro gs hn _
      rw [List.eq_nil_of_length_eq_zero hn]; rfl
    | succ n ih =>
      intro gs hn h
      have hne : gs ≠ [] := fun e => by rw [e] at hn; simp at hn
      obtain ⟨r, g, rfl⟩ : ∃ r g, gs = r ++ [g] := ⟨gs.dropLast, gs.getLast hne, (List.dropLast_concat_getLast hne).symm⟩
      have hg := h g (by simp)
      cases hb : blank g with
      | true =>
        have e : g = [32] := of_decide_eq_true hb
        subst e
        rw [rstrip_blank, ← ih r (by simpa using hn) (fun x hx => h x (by simp [hx]))]
        unfold Lib.trimRightB
        rw [List.flatten_append, List.flatten_singleton, List.reverse_append, List.reverse_singleton, List.singleton_append, List.dropWhile_cons_of_pos (by decide)]
      | false =>
        rw [rstrip_none r g hb]
        have hf := hg.final hb
        obtain ⟨t, c, rfl⟩ : ∃ t c, g = t ++ [c] := ⟨g.dropLast, g.getLast hg.ne, (List.dropLast_concat_getLast hg.ne).symm⟩
        unfold Lib.trimRightB
        have e1 : (r ++ [t ++ [c]]).flatten.reverse = c :: (r.flatten ++ t).reverse := by
          rw [List.flatten_append, List.flatten_singleton, ← List.append_assoc, List.reverse_append, List.reverse_singleton, List.singleton_append]
        have e2 : List.reverse (c :: (r.flatten ++ t).reverse) = (r ++ [t ++ [c]]).flatten := by rw [← e1, List.reverse_reverse]
        rw [e1, List.dropWhile_cons_of_neg, e2]
        simp
        intro e
        apply hf
        rw [e]; simp
  exact key gs.length gs rfl h
/-! What fits. -/
theorem fit_at : ∀ (as : List (List UInt8)) (g : List UInt8) (bs : List (List UInt8)) (n : Nat), as.flatten.length ≤ n → n < as.flatten.length + g.length → fitL n (as ++ g :: bs) = as
  | [], g, bs, n, h1, h2 => by
    simp at h2
    rw [List.nil_append]; unfold fitL; rw [if_neg (by omega)]
  | a :: r, g, bs, n, h1, h2 => by
    rw [List.flatten_cons, List.length_append] at h1 h2
    rw [List.cons_append]
    unfold fitL
    rw [if_pos (by omega), fit_at r g bs _ (by omega) (by omega)]
/-- Where a place between pieces is, with the piece ahead of it. -/
def Edge (gs : List (List UInt8)) (i e : Nat) : Prop :=
  ∃ as bs, gs = as ++ bs ∧ i = as.flatten.length ∧ (as = [] ∧ e = 0 ∨ ∃ a g, as = a ++ [g] ∧ e = a.flatten.length)
theorem Edge.start (gs : List (List UInt8)) : Edge gs 0 0 := ⟨[], gs, rfl, rfl, .inl ⟨rfl, rfl⟩⟩
theorem Edge.next {gs : List (List UInt8)} (hr : ∀ g ∈ gs, Rune g) {i e : Nat} (h : Edge gs i e) (hi : i < gs.flatten.length) : Edge gs (i + widL (gs.flatten.drop i)) i := by
  obtain ⟨as, bs, rfl, rfl, _⟩ := h
  cases bs with
  | nil => simp at hi
  | cons g bs =>
    have hg := hr g (by simp)
    have e1 : (as ++ g :: bs).flatten.drop as.flatten.length = g ++ bs.flatten := by
      rw [List.flatten_append, List.drop_left, List.flatten_cons]
    rw [e1, hg.wid]
    exact ⟨as ++ [g], bs, by simp, by simp, .inr ⟨as, g, rfl, rfl⟩⟩
theorem Edge.fit {gs : List (List UInt8)} {i e n : Nat} (h : Edge gs i e) (he : e ≤ n) (hi : n < i) : (fitL n gs).flatten = gs.flatten.take e := by
  obtain ⟨as, bs, rfl, rfl, ⟨rfl, rfl⟩ | ⟨a, g, rfl, rfl⟩⟩ := h
  · simp at hi
  · have e1 : (a ++ [g] ++ bs) = a ++ g :: bs := by simp
    rw [List.flatten_append, List.flatten_singleton, List.length_append] at hi
    rw [e1, fit_at a g bs n he hi, List.flatten_append, List.take_left]
theorem Edge.le {gs : List (List UInt8)} {i e : Nat} (h : Edge gs i e) : i ≤ gs.flatten.length ∧ e ≤ i := by
  obtain ⟨as, bs, rfl, rfl, ⟨rfl, rfl⟩ | ⟨a, g, rfl, rfl⟩⟩ := h
  · simp
  · simp
/-! A text made clean, step by step. -/
def freeT (l : List UInt8) : List UInt8 := (pieces l).flatten
def cutT (l : List UInt8) : List UInt8 := (fitL 200 (lstrip (pieces l))).flatten
theorem clean_left (l : List UInt8) : Lib.trimLeftB (freeT l) 32 = (lstrip (pieces l)).flatten := trimLeft_flat _ (pieces_rune l.length l (Nat.le_refl _))
theorem clean_right (l : List UInt8) : Lib.trimRightB (cutT l) 32 = cleanT l :=
  trimRight_flat _ (fun g hg => pieces_rune l.length l (Nat.le_refl _) g (lstrip_sub _ g (fit_sub _ _ g hg)))
theorem lstrip_rune (l : List UInt8) : ∀ g ∈ lstrip (pieces l), Rune g := fun g hg => pieces_rune l.length l (Nat.le_refl _) g (lstrip_sub _ g hg)
theorem pieces_len (l : List UInt8) : (pieces l).flatten.length ≤ l.length := by
  refine val_ind (M := fun l => (pieces l).flatten.length ≤ l.length) (by simp [pieces_nil]) (fun l h ih => ?_) l
  rw [List.length_drop] at ih
  have hp := wid_pos l
  have hle := wid_le l h
  rw [pieces_step l h]
  split
  · rw [List.flatten_cons, List.length_append, List.length_take]; omega
  · omega
theorem lstrip_len : ∀ gs : List (List UInt8), (lstrip gs).flatten.length ≤ gs.flatten.length
  | [] => by simp [lstrip]
  | g :: r => by
    have ih := lstrip_len r
    unfold lstrip at ih ⊢
    rw [List.dropWhile_cons]
    split
    · rw [List.flatten_cons, List.length_append]; omega
    · exact Nat.le_refl _
theorem clean_len (l : List UInt8) : (cleanT l).length ≤ 200 := ((word_iff _).1 (clean_isword l)).2.1
/-- A text is clean if it may be a name, and if it may be a name it is clean. -/
theorem clean_iff (l : List UInt8) : cleanT l = l ↔ wordL l = true := ⟨fun h => by rw [← h]; exact clean_isword l, word_stays l⟩
end Go.Proofs.YtagfnnpklefhhaaDoor
