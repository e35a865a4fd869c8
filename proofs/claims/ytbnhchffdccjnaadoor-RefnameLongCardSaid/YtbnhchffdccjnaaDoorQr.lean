/-
  Layer 3, plain: what the walks of the quoting calls want, by places in a text.
-/
import Derived.Test.YtbnhchffdccjnaaDoorQp
import Derived.Test.YtbnhchffdccjnaaDoorQq
import Derived.Laws.BitsAllLaws
namespace Go.Proofs.YtbnhchffdccjnaaDoor
set_option linter.unusedVariables false

theorem drop_at (l : List UInt8) (i : Nat) (h : i < l.length) : l.drop i = l.getD i 0 :: l.drop (i + 1) := by
  rw [List.drop_eq_getElem_cons h, List.getD_eq_getElem?_getD, List.getElem?_eq_getElem h]; rfl
theorem getD_mem (l : List UInt8) (i : Nat) (h : i < l.length) : l.getD i 0 ∈ l := by
  rw [List.getD_eq_getElem?_getD, List.getElem?_eq_getElem h]; exact List.getElem_mem h
theorem all_getD (l : List UInt8) (p : UInt8 → Bool) (h : ∀ i, i < l.length → p (l.getD i 0) = true) : l.all p = true := by
  rw [List.all_eq_true]
  intro c hc
  obtain ⟨i, hi, rfl⟩ := List.getElem_of_mem hc
  have := h i hi
  rwa [List.getD_eq_getElem?_getD, List.getElem?_eq_getElem hi] at this
theorem not_all_getD (l : List UInt8) (p : UInt8 → Bool) (i : Nat) (hi : i < l.length) (h : p (l.getD i 0) = false) : l.all p = false := by
  rw [List.all_eq_false]
  exact ⟨_, getD_mem l i hi, by rw [h]; decide⟩
/-! Plain, clean. -/
theorem plain_bad (l : List UInt8) (i : Nat) (hi : i < l.length) (h : plainB (l.getD i 0) = false) : plainL l = false := by
  unfold plainL; rw [not_all_getD l _ i hi h]; rfl
theorem plain_good (l : List UInt8) (h : ∀ i, i < l.length → plainB (l.getD i 0) = true) : plainL l = (decide (0 < l.length) && !(l.getD 0 0).toNat == 32) := by
  unfold plainL; rw [all_getD l _ h, Bool.true_and]
theorem clean_bad (l : List UInt8) (i : Nat) (hi : i < l.length) (h : cleanB (l.getD i 0) = false) : cleanL l = false := not_all_getD l _ i hi h
theorem clean_good (l : List UInt8) (h : ∀ i, i < l.length → cleanB (l.getD i 0) = true) : cleanL l = true := all_getD l _ h
/-- A byte that is quoted as it is. -/
def okB (c : UInt8) : Bool := plainB c && cleanB c
theorem okB_iff (c : UInt8) : okB c = true ↔ 32 < c.toNat ∧ c.toNat < 127 ∧ c.toNat ≠ 34 ∧ c.toNat ≠ 92 := by
  simp [okB, plainB, cleanB]; omega
theorem ok_quote (l : List UInt8) (h0 : 0 < l.length) (h : ∀ c ∈ l, okB c = true) : plainL l = true ∧ quoteL l = l := by
  have hp : plainL l = true := by
    unfold plainL
    have h1 : l.all plainB = true := List.all_eq_true.2 fun c hc => by have := h c hc; simp [okB] at this; exact this.1
    have h2 := (okB_iff _).1 (h _ (getD_mem l 0 h0))
    rw [h1]
    simp only [Bool.true_and, Bool.and_eq_true, decide_eq_true_eq]
    refine ⟨h0, ?_⟩
    rw [Bool.not_eq_true', beq_eq_false_iff_ne]
    omega
  have hc : cleanL l = true := List.all_eq_true.2 fun c hc => by have := h c hc; simp [okB] at this; exact this.2
  refine ⟨hp, ?_⟩
  unfold quoteL
  rw [hp, hc]; rfl
theorem odd_quote (l : List UInt8) (c : UInt8) (hc : c ∈ l) (h : okB c = false) : quoteL l = 34 :: (bodyL l ++ [34]) := by
  unfold quoteL
  rw [if_neg]
  simp only [Bool.and_eq_true, not_and]
  intro hp hcl
  unfold plainL at hp
  simp only [Bool.and_eq_true, List.all_eq_true] at hp
  have h1 := hp.1.1 c hc
  have h2 := List.all_eq_true.1 hcl c hc
  simp [okB, h1, h2] at h
/-! Where the quote ends. -/
theorem end_at (s : List UInt8) (i : Nat) (h : i < s.length) :
    endL (s.drop i) = if (s.getD i 0).toNat = 34 then 0 else if (s.getD i 0).toNat = 92 then endL (s.drop (i + 2)) + 2 else endL (s.drop (i + 1)) + 1 := by
  rw [drop_at s i h, endL.eq_def]
  simp only
  split
  · rfl
  · split
    · by_cases h2 : i + 1 < s.length
      · rw [drop_at s (i + 1) h2]
      · rw [List.drop_of_length_le (by omega : s.length ≤ i + 1), List.drop_of_length_le (by omega : s.length ≤ i + 2)]; rfl
    · rfl
theorem end_beyond (s : List UInt8) (i : Nat) (h : s.length ≤ i) : endL (s.drop i) = 0 := by rw [List.drop_of_length_le h]; rfl
/-! What a quoted form means. -/
theorem dec_at (t : List UInt8) (i : Nat) (h : i < t.length) (hc : (t.getD i 0).toNat ≠ 92) : unescL (t.drop i) = t.getD i 0 :: unescL (t.drop (i + 1)) := by
  rw [drop_at t i h, dec_plain _ _ hc]
theorem byte92 {c : UInt8} (h : c.toNat = 92) : c = 92 := UInt8.toNat_inj.1 h
theorem dec_at_n (t : List UInt8) (i : Nat) (h : i + 1 < t.length) (hc : (t.getD i 0).toNat = 92) (hd : (t.getD (i + 1) 0).toNat = 110) : unescL (t.drop i) = 10 :: unescL (t.drop (i + 2)) := by
  rw [drop_at t i (by omega), drop_at t (i + 1) h, byte92 hc, show t.getD (i + 1) 0 = 110 from UInt8.toNat_inj.1 hd, dec_n]
theorem dec_at_t (t : List UInt8) (i : Nat) (h : i + 1 < t.length) (hc : (t.getD i 0).toNat = 92) (hd : (t.getD (i + 1) 0).toNat = 116) : unescL (t.drop i) = 9 :: unescL (t.drop (i + 2)) := by
  rw [drop_at t i (by omega), drop_at t (i + 1) h, byte92 hc, show t.getD (i + 1) 0 = 116 from UInt8.toNat_inj.1 hd, dec_t]
theorem oct3_not {d e f : UInt8} (h : oct3 d e f = true) : 48 ≤ d.toNat ∧ d.toNat ≤ 51 ∧ 48 ≤ e.toNat ∧ e.toNat ≤ 55 ∧ 48 ≤ f.toNat ∧ f.toNat ≤ 55 := by
  simp [oct3] at h; omega
theorem dec_at_oct (t : List UInt8) (i : Nat) (h : i + 3 < t.length) (hc : (t.getD i 0).toNat = 92) (ho : oct3 (t.getD (i + 1) 0) (t.getD (i + 2) 0) (t.getD (i + 3) 0) = true) :
    unescL (t.drop i) = octB (t.getD (i + 1) 0) (t.getD (i + 2) 0) (t.getD (i + 3) 0) :: unescL (t.drop (i + 4)) := by
  have := oct3_not ho
  rw [drop_at t i (by omega), drop_at t (i + 1) (by omega), drop_at t (i + 2) (by omega), drop_at t (i + 3) h, byte92 hc, dec_oct _ _ _ _ ho (by omega) (by omega)]
theorem dec_at_other (t : List UInt8) (i : Nat) (h : i + 1 < t.length) (hc : (t.getD i 0).toNat = 92) (h1 : (t.getD (i + 1) 0).toNat ≠ 110) (h2 : (t.getD (i + 1) 0).toNat ≠ 116)
    (ho : i + 3 < t.length → oct3 (t.getD (i + 1) 0) (t.getD (i + 2) 0) (t.getD (i + 3) 0) = false) : unescL (t.drop i) = t.getD (i + 1) 0 :: unescL (t.drop (i + 2)) := by
  rw [drop_at t i (by omega), drop_at t (i + 1) h, byte92 hc]
  refine dec_other _ _ h1 h2 (fun e f m hr => ?_)
  have hl : (t.drop (i + 2)).length = (e :: f :: m).length := by rw [hr]
  simp at hl
  have h3 : i + 3 < t.length := by omega
  rw [drop_at t (i + 2) (by omega), drop_at t (i + 3) h3] at hr
  simp only [List.cons.injEq] at hr
  obtain ⟨rfl, rfl, _⟩ := hr
  exact ho h3
theorem take_getD (s : List UInt8) (n i : Nat) (h : i < n) : (s.take n).getD i 0 = s.getD i 0 := by
  rw [List.getD_eq_getElem?_getD, List.getElem?_take, if_pos h, ← List.getD_eq_getElem?_getD]
/-! The model's words on bytes. -/
theorem and7 : ∀ x : Fin 256, bits BinOp.and .u8 ((x.1 : Nat) : Int) 7 = ((x.1 % 8 : Nat) : Int) := by decide +kernel
theorem or_oct : ∀ (x : Fin 4) (y z : Fin 8), bits BinOp.or .u8 (bits BinOp.or .u8 ((x.1 * 64 : Nat) : Int) ((y.1 * 8 : Nat) : Int)) ((z.1 : Nat) : Int) = ((x.1 * 64 + y.1 * 8 + z.1 : Nat) : Int) := by decide +kernel
/-! A path's names, met one by one. -/
/-- What is known when the names ahead of a place are right, and the next one begins there. -/
structure PathAt (l : List UInt8) (from_ n : Nat) : Prop where
  le : from_ ≤ l.length
  pos : 1 ≤ n
  split : ∃ done, done.length + 1 = n ∧ done.all nameL = true ∧ splitL l = done ++ splitL (l.drop from_)
theorem PathAt.start (l : List UInt8) : PathAt l 0 1 := ⟨Nat.zero_le _, Nat.le_refl _, [], rfl, rfl, rfl⟩
/-- The name between two places. -/
def cutL (l : List UInt8) (a b : Nat) : List UInt8 := (l.drop a).take (b - a)
theorem cut_split (l : List UInt8) (a i : Nat) (ha : a ≤ i) (hi : i < l.length) (h : ∀ j, a ≤ j → j < i → (l.getD j 0).toNat ≠ 47) (hs : (l.getD i 0).toNat = 47) : splitL (l.drop a) = cutL l a i :: splitL (l.drop (i + 1)) := by
  have e : l.drop a = cutL l a i ++ l.getD i 0 :: l.drop (i + 1) := by
    rw [← drop_at l i hi]
    unfold cutL
    have := List.take_append_drop (i - a) (l.drop a)
    rw [List.drop_drop, show a + (i - a) = i by omega] at this
    exact this.symm
  rw [e]
  refine split_at _ _ hs _ (fun c hc => ?_)
  unfold cutL at hc
  obtain ⟨j, hj, rfl⟩ := List.getElem_of_mem hc
  have hj2 : j < i - a := by simp at hj; omega
  have := h (a + j) (by omega) (by omega)
  rw [List.getElem_take, List.getElem_drop]
  rwa [List.getD_eq_getElem?_getD, List.getElem?_eq_getElem (by omega)] at this
theorem cut_last (l : List UInt8) (a : Nat) (ha : a ≤ l.length) (h : ∀ j, a ≤ j → j < l.length → (l.getD j 0).toNat ≠ 47) : splitL (l.drop a) = [cutL l a l.length] := by
  have e : l.drop a = cutL l a l.length := by unfold cutL; rw [List.take_of_length_le (by simp)]
  rw [← e]
  refine split_none _ (fun c hc => ?_)
  obtain ⟨j, hj, rfl⟩ := List.getElem_of_mem hc
  have hj2 : a + j < l.length := by simp at hj; omega
  have := h (a + j) (by omega) hj2
  rw [List.getElem_drop]
  rwa [List.getD_eq_getElem?_getD, List.getElem?_eq_getElem hj2] at this
theorem PathAt.next {l : List UInt8} {a n i : Nat} (p : PathAt l a n) (ha : a ≤ i) (hi : i < l.length) (h : ∀ j, a ≤ j → j < i → (l.getD j 0).toNat ≠ 47) (hs : (l.getD i 0).toNat = 47) (hn : nameL (cutL l a i) = true) : PathAt l (i + 1) (n + 1) where
  le := hi
  pos := by omega
  split := by
    obtain ⟨d, h1, h2, h3⟩ := p.split
    refine ⟨d ++ [cutL l a i], by simp; omega, by simp [h2, hn], ?_⟩
    rw [h3, cut_split l a i ha hi h hs]; simp
theorem PathAt.bad {l : List UInt8} {a n i : Nat} (p : PathAt l a n) (ha : a ≤ i) (hi : i ≤ l.length) (h : ∀ j, a ≤ j → j < i → (l.getD j 0).toNat ≠ 47) (hs : i < l.length → (l.getD i 0).toNat = 47) (hn : nameL (cutL l a i) = false) : pathL l = false := by
  obtain ⟨d, h1, h2, h3⟩ := p.split
  unfold pathL
  rw [h3]
  by_cases he : i < l.length
  · rw [cut_split l a i ha he h (hs he)]; simp [hn]
  · obtain rfl : i = l.length := by omega
    rw [cut_last l a p.le h]; simp [hn]
theorem PathAt.fin {l : List UInt8} {a n : Nat} (p : PathAt l a n) (h : ∀ j, a ≤ j → j < l.length → (l.getD j 0).toNat ≠ 47) (hn : nameL (cutL l a l.length) = true) (h1 : 1 ≤ l.length) (h2 : l.length ≤ 400) (h3 : Lib.validD l = true) (h4 : ∀ j, j < l.length → (l.getD j 0).toNat ≠ 0) :
    pathL l = decide (n ≤ 16) := by
  obtain ⟨d, e1, e2, e3⟩ := p.split
  have e4 : l.any (fun c => c.toNat == 0) = false := by
    rw [List.any_eq_false]
    intro c hc
    obtain ⟨j, hj, rfl⟩ := List.getElem_of_mem hc
    have := h4 j hj
    rw [List.getD_eq_getElem?_getD, List.getElem?_eq_getElem hj] at this
    simpa using this
  unfold pathL
  rw [e3, cut_last l a p.le h, h3, e4]
  simp [e2, hn, h1, h2, ← e1]
theorem zero_bad (l : List UInt8) (i : Nat) (hi : i < l.length) (h : (l.getD i 0).toNat = 0) : pathL l = false := by
  have e : l.any (fun c => c.toNat == 0) = true := List.any_eq_true.2 ⟨_, getD_mem l i hi, by simpa using h⟩
  unfold pathL; rw [e]; simp
end Go.Proofs.YtbnhchffdccjnaaDoor
