/-
  Texts that belong together, one behind the other.
-/
import Derived.Lib.ValidLaws
import Derived.Test.YtdgcjjledbnofaaDoorFu04
import Derived.Laws.BitsAllLaws
/-
  Layer 3, plain: paths, as functions of lists of bytes; nothing of the program.
-/
namespace Go.Proofs.YtdgcjjledbnofaaDoor
set_option linter.unusedVariables false

/-- The names of a text: what stands between slashes. -/
def splitL : List UInt8 → List (List UInt8)
  | [] => [[]]
  | c :: r => if c.toNat = 47 then [] :: splitL r else
      match splitL r with
      | [] => [[c]]
      | n :: m => (c :: n) :: m
def lowB (c : UInt8) : UInt8 := if 65 ≤ c.toNat ∧ c.toNat ≤ 90 then UInt8.ofNat (c.toNat + 32) else c
def nameL (l : List UInt8) : Bool := !(l == []) && !(l == [46]) && !(l == [46, 46]) && !(l.map lowB == [46, 103, 105, 116])
/-- Is it a path? -/
def pathL (l : List UInt8) : Bool :=
  decide (1 ≤ l.length) && decide (l.length ≤ 400) && Lib.validD l && !l.any (fun c => c.toNat == 0) && decide ((splitL l).length ≤ 16) && (splitL l).all nameL
theorem split_slash (c : UInt8) (r : List UInt8) (h : c.toNat = 47) : splitL (c :: r) = [] :: splitL r := by
  rw [splitL.eq_def]; simp only [if_pos h]
theorem split_other (c : UInt8) (r n : List UInt8) (m : List (List UInt8)) (h : c.toNat ≠ 47) (hr : splitL r = n :: m) : splitL (c :: r) = (c :: n) :: m := by
  rw [splitL.eq_def]; simp only [if_neg h, hr]
theorem split_ne (l : List UInt8) : splitL l ≠ [] := by
  cases l with
  | nil => simp [splitL]
  | cons c r =>
    rw [splitL.eq_def]
    simp only
    split
    · simp
    · split <;> simp
theorem split_form (l : List UInt8) : ∃ n m, splitL l = n :: m := by
  cases h : splitL l with
  | nil => exact absurd h (split_ne l)
  | cons n m => exact ⟨n, m, rfl⟩
theorem split_none : ∀ (x : List UInt8), (∀ c ∈ x, c.toNat ≠ 47) → splitL x = [x]
  | [], _ => rfl
  | c :: r, h => split_other c r r [] (h c (by simp)) (split_none r (fun d hd => h d (by simp [hd])))
theorem split_at (y : List UInt8) (z : UInt8) (hz : z.toNat = 47) : ∀ (x : List UInt8), (∀ c ∈ x, c.toNat ≠ 47) → splitL (x ++ z :: y) = x :: splitL y
  | [], _ => split_slash z y hz
  | c :: r, h => split_other c (r ++ z :: y) r (splitL y) (h c (by simp)) (split_at y z hz r (fun d hd => h d (by simp [hd])))
theorem split_app (y : List UInt8) (z : UInt8) (hz : z.toNat = 47) : ∀ (x : List UInt8), splitL (x ++ z :: y) = splitL x ++ splitL y
  | [] => split_slash z y hz
  | c :: r => by
    have ih := split_app y z hz r
    by_cases hc : c.toNat = 47
    · rw [List.cons_append, split_slash c _ hc, split_slash c _ hc, ih]; rfl
    · obtain ⟨n, m, h⟩ := split_form r
      rw [h] at ih
      rw [List.cons_append, split_other c _ n (m ++ splitL y) hc ih, split_other c r n m hc h]; rfl
theorem name_empty : nameL [] = false := rfl
/-- With a slash at its end, or its head, a text is no path. -/
theorem path_end (l : List UInt8) (z : UInt8) (hz : z.toNat = 47) : pathL (l ++ [z]) = false := by
  unfold pathL
  rw [split_app [] z hz l]
  simp [splitL, name_empty]
theorem path_head (l : List UInt8) (z : UInt8) (hz : z.toNat = 47) : pathL (z :: l) = false := by
  unfold pathL
  rw [show splitL (z :: l) = [] :: splitL l by rw [splitL.eq_def]; simp only [if_pos hz]]
  simp [name_empty]
theorem path_nil : pathL [] = false := rfl
/-- Names with a slash between. -/
def joinL : List (List UInt8) → List UInt8
  | [] => []
  | [x] => x
  | x :: y :: r => x ++ 47 :: joinL (y :: r)
theorem split_join : ∀ (ns : List (List UInt8)), ns ≠ [] → (∀ n ∈ ns, ∀ c ∈ n, c.toNat ≠ 47) → splitL (joinL ns) = ns
  | [], h, _ => absurd rfl h
  | [x], _, h => split_none x (h x (by simp))
  | x :: y :: r, _, h => by
    rw [joinL, split_at _ 47 (by decide) x (h x (by simp)), split_join (y :: r) (by simp) (fun n hn => h n (by simp at hn ⊢; right; exact hn))]
theorem join_snoc : ∀ (ns : List (List UInt8)) (x : List UInt8), ns ≠ [] → joinL (ns ++ [x]) = joinL ns ++ 47 :: x
  | [], _, h => absurd rfl h
  | [y], x, _ => rfl
  | y :: z :: r, x, _ => by
    have ih := join_snoc (z :: r) x (by simp)
    simp only [List.cons_append, joinL, List.append_assoc] at ih ⊢
    rw [ih]
/-! What is right UTF-8. -/
/-- Bytes that stand by themselves: whatever follows, they are right. -/
def Safe (a : List UInt8) : Prop := ∀ t, Lib.validD (a ++ t) = Lib.validD t
theorem safe_nil : Safe [] := fun _ => rfl
theorem safe_app {a b : List UInt8} (ha : Safe a) (hb : Safe b) : Safe (a ++ b) := fun t => by rw [List.append_assoc, ha, hb]
theorem safe_ascii (c : UInt8) (h : c.toNat < 128) : Safe [c] := fun t => Lib.validD_cons c t h
theorem safe_all : ∀ (l : List UInt8), (∀ c ∈ l, c.toNat < 128) → Safe l
  | [], _ => safe_nil
  | c :: r, h => safe_app (a := [c]) (safe_ascii c (h c (by simp))) (safe_all r (fun d hd => h d (by simp [hd])))
theorem safe_join : ∀ (ns : List (List UInt8)), (∀ n ∈ ns, Safe n) → Safe (joinL ns)
  | [], _ => safe_nil
  | [x], h => h x (by simp)
  | x :: y :: r, h => by
    have e : joinL (x :: y :: r) = x ++ ([47] ++ joinL (y :: r)) := rfl
    rw [e]
    exact safe_app (h x (by simp)) (safe_app (safe_ascii 47 (by decide)) (safe_join (y :: r) (fun n hn => h n (by simp at hn ⊢; right; exact hn))))
theorem safe_valid {l : List UInt8} (h : Safe l) : Lib.validD l = true := by
  have := h []
  rw [List.append_nil] at this
  rw [this]; rfl
theorem safe_e : Safe [0xc3, 0xa9] := fun t => by
  rw [Lib.validD_lead _ (by simp) (by simp)]
  have e : Lib.checkN ([0xc3, 0xa9] ++ t : List UInt8).length 169 (([0xc3, 0xa9] ++ t : List UInt8).getD 2 0).toNat (([0xc3, 0xa9] ++ t : List UInt8).getD 3 0).toNat (Lib.firstT 195 % 8) (Lib.accLo (Lib.firstT 195 / 16)) (Lib.accHi (Lib.firstT 195 / 16)) = some 2 := by
    rw [show Lib.firstT 195 % 8 = 2 by decide, show Lib.accLo (Lib.firstT 195 / 16) = 128 by decide, show Lib.accHi (Lib.firstT 195 / 16) = 191 by decide]
    unfold Lib.checkN
    rw [if_pos rfl, if_neg (by simp)]
  have e2 : (([0xc3, 0xa9] ++ t : List UInt8).getD 1 0).toNat = 169 := rfl
  have e3 : (([0xc3, 0xa9] ++ t : List UInt8).getD 0 0).toNat = 195 := rfl
  rw [e2, e3, e]
  rfl
end Go.Proofs.YtdgcjjledbnofaaDoor

/-
  Layer 3, plain: what the walks of the quoting calls want, by places in a text.
-/
namespace Go.Proofs.YtdgcjjledbnofaaDoor
set_option linter.unusedVariables false

theorem drop_at (l : List UInt8) (i : Nat) (h : i < l.length) : l.drop i = l.getD i 0 :: l.drop (i + 1) := by
  rw [List.drop_eq_getElem_cons h, List.getD_eq_getElem?_getD, List.getElem?_eq_getElem h]; rfl
theorem getD_mem (l : List UInt8) (i : Nat) (h : i < l.length) : l.getD i 0 ∈ l := by
  rw [List.getD_eq_getElem?_getD, List.getElem?_eq_getElem h]; exact List.getElem_mem h
theorem all_getD (l : List UInt8) (p : UInt8 → Bool) (h : ∀ i, i < l.length → p (l.getD i 0) = true) : l.all p = true := by
  rw [List.all_eq_true]
  intro c hc
  obtain ⟨i, hi, rfl⟩ := List.getElem_of_mem hc
  have := h i hi
  rwa [List.getD_eq_getElem?_getD, List.getElem?_eq_getElem hi] at this
theorem not_all_getD (l : List UInt8) (p : UInt8 → Bool) (i : Nat) (hi : i < l.length) (h : p (l.getD i 0) = false) : l.all p = false := by
  rw [List.all_eq_false]
  exact ⟨_, getD_mem l i hi, by rw [h]; decide⟩
/-! Plain, clean. -/
theorem plain_bad (l : List UInt8) (i : Nat) (hi : i < l.length) (h : plainB (l.getD i 0) = false) : plainL l = false := by
  unfold plainL; rw [not_all_getD l _ i hi h]; rfl
theorem plain_good (l : List UInt8) (h : ∀ i, i < l.length → plainB (l.getD i 0) = true) : plainL l = (decide (0 < l.length) && !(l.getD 0 0).toNat == 32) := by
  unfold plainL; rw [all_getD l _ h, Bool.true_and]
theorem clean_bad (l : List UInt8) (i : Nat) (hi : i < l.length) (h : cleanB (l.getD i 0) = false) : cleanL l = false := not_all_getD l _ i hi h
theorem clean_good (l : List UInt8) (h : ∀ i, i < l.length → cleanB (l.getD i 0) = true) : cleanL l = true := all_getD l _ h
/-- A byte that is quoted as it is. -/
def okB (c : UInt8) : Bool := plainB c && cleanB c
theorem okB_iff (c : UInt8) : okB c = true ↔ 32 < c.toNat ∧ c.toNat < 127 ∧ c.toNat ≠ 34 ∧ c.toNat ≠ 92 := by
  simp [okB, plainB, cleanB]; omega
theorem ok_quote (l : List UInt8) (h0 : 0 < l.length) (h : ∀ c ∈ l, okB c = true) : plainL l = true ∧ quoteL l = l := by
  have hp : plainL l = true := by
    unfold plainL
    have h1 : l.all plainB = true := List.all_eq_true.2 fun c hc => by have := h c hc; simp [okB] at this; exact this.1
    have h2 := (okB_iff _).1 (h _ (getD_mem l 0 h0))
    rw [h1]
    simp only [Bool.true_and, Bool.and_eq_true, decide_eq_true_eq]
    refine ⟨h0, ?_⟩
    rw [Bool.not_eq_true', beq_eq_false_iff_ne]
    omega
  have hc : cleanL l = true := List.all_eq_true.2 fun c hc => by have := h c hc; simp [okB] at this; exact this.2
  refine ⟨hp, ?_⟩
  unfold quoteL
  rw [hp, hc]; rfl
theorem odd_quote (l : List UInt8) (c : UInt8) (hc : c ∈ l) (h : okB c = false) : quoteL l = 34 :: (bodyL l ++ [34]) := by
  unfold quoteL
  rw [if_neg]
  simp only [Bool.and_eq_true, not_and]
  intro hp hcl
  unfold plainL at hp
  simp only [Bool.and_eq_true, List.all_eq_true] at hp
  have h1 := hp.1.1 c hc
  have h2 := List.all_eq_true.1 hcl c hc
  simp [okB, h1, h2] at h
/-! Where the quote ends. -/
theorem end_at (s : List UInt8) (i : Nat) (h : i < s.length) :
    endL (s.drop i) = if (s.getD i 0).toNat = 34 then 0 else if (s.getD i 0).toNat = 92 then endL (s.drop (i + 2)) + 2 else endL (s.drop (i + 1)) + 1 := by
  rw [drop_at s i h, endL.eq_def]
  simp only
  split
  · rfl
  · split
    · by_cases h2 : i + 1 < s.length
      · rw [drop_at s (i + 1) h2]
      · rw [List.drop_of_length_le (by omega : s.length ≤ i + 1), List.drop_of_length_le (by omega : s.length ≤ i + 2)]; rfl
    · rfl
theorem end_beyond (s : List UInt8) (i : Nat) (h : s.length ≤ i) : endL (s.drop i) = 0 := by rw [List.drop_of_length_le h]; rfl
/-! What a quoted form means. -/
theorem dec_at (t : List UInt8) (i : Nat) (h : i < t.length) (hc : (t.getD i 0).toNat ≠ 92) : unescL (t.drop i) = t.getD i 0 :: unescL (t.drop (i + 1)) := by
  rw [drop_at t i h, dec_plain _ _ hc]
theorem byte92 {c : UInt8} (h : c.toNat = 92) : c = 92 := UInt8.toNat_inj.1 h
theorem dec_at_n (t : List UInt8) (i : Nat) (h : i + 1 < t.length) (hc : (t.getD i 0).toNat = 92) (hd : (t.getD (i + 1) 0).toNat = 110) : unescL (t.drop i) = 10 :: unescL (t.drop (i + 2)) := by
  rw [drop_at t i (by omega), drop_at t (i + 1) h, byte92 hc, show t.getD (i + 1) 0 = 110 from UInt8.toNat_inj.1 hd, dec_n]
theorem dec_at_t (t : List UInt8) (i : Nat) (h : i + 1 < t.length) (hc : (t.getD i 0).toNat = 92) (hd : (t.getD (i + 1) 0).toNat = 116) : unescL (t.drop i) = 9 :: unescL (t.drop (i + 2)) := by
  rw [drop_at t i (by omega), drop_at t (i + 1) h, byte92 hc, show t.getD (i + 1) 0 = 116 from UInt8.toNat_inj.1 hd, dec_t]
theorem oct3_not {d e f : UInt8} (h : oct3 d e f = true) : 48 ≤ d.toNat ∧ d.toNat ≤ 51 ∧ 48 ≤ e.toNat ∧ e.toNat ≤ 55 ∧ 48 ≤ f.toNat ∧ f.toNat ≤ 55 := by
  simp [oct3] at h; omega
theorem dec_at_oct (t : List UInt8) (i : Nat) (h : i + 3 < t.length) (hc : (t.getD i 0).toNat = 92) (ho : oct3 (t.getD (i + 1) 0) (t.getD (i + 2) 0) (t.getD (i + 3) 0) = true) :
    unescL (t.drop i) = octB (t.getD (i + 1) 0) (t.getD (i + 2) 0) (t.getD (i + 3) 0) :: unescL (t.drop (i + 4)) := by
  have := oct3_not ho
  rw [drop_at t i (by omega), drop_at t (i + 1) (by omega), drop_at t (i + 2) (by omega), drop_at t (i + 3) h, byte92 hc, dec_oct _ _ _ _ ho (by omega) (by omega)]
theorem dec_at_other (t : List UInt8) (i : Nat) (h : i + 1 < t.length) (hc : (t.getD i 0).toNat = 92) (h1 : (t.getD (i + 1) 0).toNat ≠ 110) (h2 : (t.getD (i + 1) 0).toNat ≠ 116)
    (ho : i + 3 < t.length → oct3 (t.getD (i + 1) 0) (t.getD (i + 2) 0) (t.getD (i + 3) 0) = false) : unescL (t.drop i) = t.getD (i + 1) 0 :: unescL (t.drop (i + 2)) := by
  rw [drop_at t i (by omega), drop_at t (i + 1) h, byte92 hc]
  refine dec_other _ _ h1 h2 (fun e f m hr => ?_)
  have hl : (t.drop (i + 2)).length = (e :: f :: m).length := by rw [hr]
  simp at hl
  have h3 : i + 3 < t.length := by omega
  rw [drop_at t (i + 2) (by omega), drop_at t (i + 3) h3] at hr
  simp only [List.cons.injEq] at hr
  obtain ⟨rfl, rfl, _⟩ := hr
  exact ho h3
theorem take_getD (s : List UInt8) (n i : Nat) (h : i < n) : (s.take n).getD i 0 = s.getD i 0 := by
  rw [List.getD_eq_getElem?_getD, List.getElem?_take, if_pos h, ← List.getD_eq_getElem?_getD]
/-! The model's words on bytes. -/
theorem and7 : ∀ x : Fin 256, bits BinOp.and .u8 ((x.1 : Nat) : Int) 7 = ((x.1 % 8 : Nat) : Int) := by decide +kernel
theorem or_oct : ∀ (x : Fin 4) (y z : Fin 8), bits BinOp.or .u8 (bits BinOp.or .u8 ((x.1 * 64 : Nat) : Int) ((y.1 * 8 : Nat) : Int)) ((z.1 : Nat) : Int) = ((x.1 * 64 + y.1 * 8 + z.1 : Nat) : Int) := by decide +kernel
/-! A path's names, met one by one. -/
/-- What is known when the names ahead of a place are right, and the next one begins there. -/
structure PathAt (l : List UInt8) (from_ n : Nat) : Prop where
  le : from_ ≤ l.length
  pos : 1 ≤ n
  split : ∃ done, done.length + 1 = n ∧ done.all nameL = true ∧ splitL l = done ++ splitL (l.drop from_)
theorem PathAt.start (l : List UInt8) : PathAt l 0 1 := ⟨Nat.zero_le _, Nat.le_refl _, [], rfl, rfl, rfl⟩
/-- The name between two places. -/
def cutL (l : List UInt8) (a b : Nat) : List UInt8 := (l.drop a).take (b - a)
theorem cut_split (l : List UInt8) (a i : Nat) (ha : a ≤ i) (hi : i < l.length) (h : ∀ j, a ≤ j → j < i → (l.getD j 0).toNat ≠ 47) (hs : (l.getD i 0).toNat = 47) : splitL (l.drop a) = cutL l a i :: splitL (l.drop (i + 1)) := by
  have e : l.drop a = cutL l a i ++ l.getD i 0 :: l.drop (i + 1) := by
    rw [← drop_at l i hi]
    unfold cutL
    have := List.take_append_drop (i - a) (l.drop a)
    rw [List.drop_drop, show a + (i - a) = i by omega] at this
    exact this.symm
  rw [e]
  refine split_at _ _ hs _ (fun c hc => ?_)
  unfold cutL at hc
  obtain ⟨j, hj, rfl⟩ := List.getElem_of_mem hc
  have hj2 : j < i - a := by simp at hj; omega
  have := h (a + j) (by omega) (by omega)
  rw [List.getElem_take, List.getElem_drop]
  rwa [List.getD_eq_getElem?_getD, List.getElem?_eq_getElem (by omega)] at this
theorem cut_last (l : List UInt8) (a : Nat) (ha : a ≤ l.length) (h : ∀ j, a ≤ j → j < l.length → (l.getD j 0).toNat ≠ 47) : splitL (l.drop a) = [cutL l a l.length] := by
  have e : l.drop a = cutL l a l.length := by unfold cutL; rw [List.take_of_length_le (by simp)]
  rw [← e]
  refine split_none _ (fun c hc => ?_)
  obtain ⟨j, hj, rfl⟩ := List.getElem_of_mem hc
  have hj2 : a + j < l.length := by simp at hj; omega
  have := h (a + j) (by omega) hj2
  rw [List.getElem_drop]
  rwa [List.getD_eq_getElem?_getD, List.getElem?_eq_getElem hj2] at this
theorem PathAt.next {l : List UInt8} {a n i : Nat} (p : PathAt l a n) (ha : a ≤ i) (hi : i < l.length) (h : ∀ j, a ≤ j → j < i → (l.getD j 0).toNat ≠ 47) (hs : (l.getD i 0).toNat = 47) (hn : nameL (cutL l a i) = true) : PathAt l (i + 1) (n + 1) where
  le := hi
  pos := by omega
  split := by
    obtain ⟨d, h1, h2, h3⟩ := p.split
    refine ⟨d ++ [cutL l a i], by simp; omega, by simp [h2, hn], ?_⟩
    rw [h3, cut_split l a i ha hi h hs]; simp
theorem PathAt.bad {l : List UInt8} {a n i : Nat} (p : PathAt l a n) (ha : a ≤ i) (hi : i ≤ l.length) (h : ∀ j, a ≤ j → j < i → (l.getD j 0).toNat ≠ 47) (hs : i < l.length → (l.getD i 0).toNat = 47) (hn : nameL (cutL l a i) = false) : pathL l = false := by
  obtain ⟨d, h1, h2, h3⟩ := p.split
  unfold pathL
  rw [h3]
  by_cases he : i < l.length
  · rw [cut_split l a i ha he h (hs he)]; simp [hn]
  · obtain rfl : i = l.length := by omega
    rw [cut_last l a p.le h]; simp [hn]
theorem PathAt.fin {l : List UInt8} {a n : Nat} (p : PathAt l a n) (h : ∀ j, a ≤ j → j < l.length → (l.getD j 0).toNat ≠ 47) (hn : nameL (cutL l a l.length) = true) (h1 : 1 ≤ l.length) (h2 : l.length ≤ 400) (h3 : Lib.validD l = true) (h4 : ∀ j, j < l.length → (l.getD j 0).toNat ≠ 0) :
    pathL l = decide (n ≤ 16) := by
  obtain ⟨d, e1, e2, e3⟩ := p.split
  have e4 : l.any (fun c => c.toNat == 0) = false := by
    rw [List.any_eq_false]
    intro c hc
    obtain ⟨j, hj, rfl⟩ := List.getElem_of_mem hc
    have := h4 j hj
    rw [List.getD_eq_getElem?_getD, List.getElem?_eq_getElem hj] at this
    simpa using this
  unfold pathL
  rw [e3, cut_last l a p.le h, h3, e4]
  simp [e2, hn, h1, h2, ← e1]
theorem zero_bad (l : List UInt8) (i : Nat) (hi : i < l.length) (h : (l.getD i 0).toNat = 0) : pathL l = false := by
  have e : l.any (fun c => c.toNat == 0) = true := List.any_eq_true.2 ⟨_, getD_mem l i hi, by simpa using h⟩
  unfold pathL; rw [e]; simp
end Go.Proofs.YtdgcjjledbnofaaDoor

/-
  Layer 8, plain: items and trees, how they are printed, which tree bytes are; nothing of the program.
-/
namespace Go.Proofs.YtdgcjjledbnofaaDoor
set_option linter.unusedVariables false
set_option linter.unusedSimpArgs false

structure Itm where
  mode : Int
  name : List UInt8
  id : List UInt8

/-- Its name, with a slash behind if it is a tree's. -/
def fullI (i : Itm) : List UInt8 := if i.mode = 4 then i.name ++ [47] else i.name
def befI (a b : Itm) : Bool := decide (fullI a < fullI b)
def nameI (s : List UInt8) : Bool := pathL s && !s.any (fun c => c == 47)
def zeroId : List UInt8 := List.replicate 20 0
def oneI (i : Itm) : Bool := nameI i.name && !(i.id == zeroId) && decide (1 ≤ i.mode) && decide (i.mode ≤ 4)
def noI : Itm := ⟨0, [], []⟩
/-- The item at a place is right, and stands behind the one ahead of it; none ahead of it has its name. -/
def aheadI (l : List Itm) (i : Nat) : Bool := oneI (l.getD i noI) && (i == 0 || befI (l.getD (i - 1) noI) (l.getD i noI))
def otherI (l : List Itm) (i : Nat) : Bool := (List.range i).all (fun k => !((l.getD k noI).name == (l.getD i noI).name))
def stepI (l : List Itm) (i : Nat) : Bool := aheadI l i && otherI l i
def rightIt (l : List Itm) : Bool := decide (1 ≤ l.length) && decide (l.length ≤ 500) && (List.range l.length).all (stepI l)

theorem rightIt_iff (l : List Itm) : rightIt l = true ↔ 1 ≤ l.length ∧ l.length ≤ 500 ∧ ∀ i, i < l.length → stepI l i = true := by
  unfold rightIt
  simp only [Bool.and_eq_true, decide_eq_true_eq, List.all_eq_true, List.mem_range, and_assoc]
theorem right_no_len (l : List Itm) (h : l.length < 1 ∨ 500 < l.length) : rightIt l = false := by
  cases e : rightIt l with
  | false => rfl
  | true => have := (rightIt_iff l).1 e; omega
theorem right_no_step (l : List Itm) (i : Nat) (hi : i < l.length) (h : stepI l i = false) : rightIt l = false := by
  cases e : rightIt l with
  | false => rfl
  | true => rw [((rightIt_iff l).1 e).2.2 i hi] at h; cases h
theorem right_yes (l : List Itm) (h1 : 1 ≤ l.length) (h2 : l.length ≤ 500) (h : ∀ i, i < l.length → stepI l i = true) : rightIt l = true := (rightIt_iff l).2 ⟨h1, h2, h⟩
theorem other_iff (l : List Itm) (i : Nat) : otherI l i = true ↔ ∀ k, k < i → (l.getD k noI).name ≠ (l.getD i noI).name := by
  unfold otherI
  simp only [List.all_eq_true, List.mem_range, Bool.not_eq_true', beq_eq_false_iff_ne, ne_eq]
theorem other_no (l : List Itm) (i k : Nat) (hk : k < i) (h : (l.getD k noI).name = (l.getD i noI).name) : otherI l i = false := by
  cases e : otherI l i with
  | false => rfl
  | true => exact absurd h ((other_iff l i).1 e k hk)

/-- A mode's digits. -/
def modeL (m : Int) : List UInt8 := if m = 1 then [49, 48, 48, 54, 52, 52] else if m = 2 then [49, 48, 48, 55, 53, 53] else if m = 3 then [49, 50, 48, 48, 48, 48] else [52, 48, 48, 48, 48]
def printIt (i : Itm) : List UInt8 := modeL i.mode ++ 32 :: (i.name ++ 0 :: i.id)
def flatI (l : List Itm) : List UInt8 := (l.map printIt).flatten
/-- What is printed, with its error. -/
def printT (l : List Itm) : List UInt8 × Int := if l ≠ [] ∧ rightIt l = false then ([], 11) else if 65536 < (flatI l).length then ([], 5) else (flatI l, 0)

theorem flat_nil : flatI [] = [] := rfl
theorem flat_cons (i : Itm) (l : List Itm) : flatI (i :: l) = printIt i ++ flatI l := by simp [flatI]
theorem flat_append (l m : List Itm) : flatI (l ++ m) = flatI l ++ flatI m := by simp [flatI]
theorem modeL_len (m : Int) : 5 ≤ (modeL m).length ∧ (modeL m).length ≤ 6 := by
  unfold modeL
  split
  · simp
  · split
    · simp
    · split <;> simp
theorem modeL_nz (m : Int) : ∀ c ∈ modeL m, c ≠ 0 := by
  unfold modeL
  split
  · decide
  · split
    · decide
    · split <;> decide
theorem print_length (i : Itm) : (printIt i).length = (modeL i.mode).length + i.name.length + i.id.length + 2 := by
  unfold printIt; simp only [List.length_append, List.length_cons]; omega
theorem print_pos (i : Itm) : 0 < (printIt i).length := by rw [print_length]; omega

/-- What a reading can tell. -/
def fine (i : Itm) : Prop := (1 ≤ i.mode ∧ i.mode ≤ 4) ∧ (∀ c ∈ i.name, c ≠ 0) ∧ i.id.length = 20
theorem mode_cases {m : Int} (h : 1 ≤ m ∧ m ≤ 4) : m = 1 ∨ m = 2 ∨ m = 3 ∨ m = 4 := by omega
theorem mode_apart {m m' : Int} (h : 1 ≤ m ∧ m ≤ 4) (h' : 1 ≤ m' ∧ m' ≤ 4) {x y : List UInt8} (e : modeL m ++ 32 :: x = modeL m' ++ 32 :: y) : m = m' ∧ x = y := by
  rcases mode_cases h with rfl | rfl | rfl | rfl <;> rcases mode_cases h' with rfl | rfl | rfl | rfl <;> simp [modeL] at e <;> first | exact ⟨rfl, e⟩ | skip
theorem zero_at_first (x y : List UInt8) (h : ∀ c ∈ x, c ≠ 0) : (x ++ 0 :: y).findIdx (· == 0) = x.length := by
  induction x with
  | nil => rfl
  | cons c x ih =>
    rw [List.cons_append, List.findIdx_cons, ih (fun c hc => h c (List.mem_cons_of_mem _ hc))]
    have : (c == 0) = false := beq_false_of_ne (h c (List.mem_cons_self ..))
    rw [this]; rfl
theorem zero_apart {x x' y y' : List UInt8} (h : ∀ c ∈ x, c ≠ 0) (h' : ∀ c ∈ x', c ≠ 0) (e : x ++ 0 :: y = x' ++ 0 :: y') : x = x' ∧ y = y' := by
  have hl : x.length = x'.length := by rw [← zero_at_first x y h, ← zero_at_first x' y' h', e]
  obtain ⟨h1, h2⟩ := List.append_inj e hl
  exact ⟨h1, (List.cons.inj h2).2⟩
theorem print_apart {i j : Itm} (hi : fine i) (hj : fine j) {r s : List UInt8} (e : printIt i ++ r = printIt j ++ s) : i = j ∧ r = s := by
  unfold printIt at e
  simp only [List.append_assoc, List.cons_append] at e
  obtain ⟨h1, h2⟩ := mode_apart hi.1 hj.1 e
  obtain ⟨h3, h4⟩ := zero_apart hi.2.1 hj.2.1 h2
  obtain ⟨h5, h6⟩ := List.append_inj h4 (by rw [hi.2.2, hj.2.2])
  refine ⟨?_, h6⟩
  cases i; cases j
  simp only at h1 h3 h5
  subst h1; subst h3; subst h5; rfl

/-- The item that bytes begin with, and what stands behind it. -/
def takeI (b : List UInt8) : Option (Itm × List UInt8) :=
  match ([1, 2, 3, 4] : List Int).find? (fun m => (modeL m ++ [32]).isPrefixOf b) with
  | none => none
  | some m =>
    if (b.drop ((modeL m).length + 1)).length < (b.drop ((modeL m).length + 1)).findIdx (· == 0) + 21 then none
    else some (⟨m, (b.drop ((modeL m).length + 1)).take ((b.drop ((modeL m).length + 1)).findIdx (· == 0)), ((b.drop ((modeL m).length + 1)).drop ((b.drop ((modeL m).length + 1)).findIdx (· == 0) + 1)).take 20⟩,
      (b.drop ((modeL m).length + 1)).drop ((b.drop ((modeL m).length + 1)).findIdx (· == 0) + 21))
/-- Bytes that begin with a mode's digits, and a blank. -/
theorem find_mode {m : Int} (h : 1 ≤ m ∧ m ≤ 4) (x : List UInt8) : ([1, 2, 3, 4] : List Int).find? (fun k => (modeL k ++ [32]).isPrefixOf (modeL m ++ 32 :: x)) = some m := by
  rcases mode_cases h with rfl | rfl | rfl | rfl <;> simp [modeL, List.find?, List.isPrefixOf]
theorem find_none {b : List UInt8} (h : ∀ m : Int, 1 ≤ m → m ≤ 4 → (modeL m ++ [32]).isPrefixOf b = false) : ([1, 2, 3, 4] : List Int).find? (fun k => (modeL k ++ [32]).isPrefixOf b) = none := by
  rw [List.find?_eq_none]
  intro m hm
  simp at hm
  rw [h m (by omega) (by omega)]
  simp
theorem find_some {b : List UInt8} {m : Int} (h : ([1, 2, 3, 4] : List Int).find? (fun k => (modeL k ++ [32]).isPrefixOf b) = some m) : (1 ≤ m ∧ m ≤ 4) ∧ b = modeL m ++ 32 :: b.drop ((modeL m).length + 1) := by
  have h1 := List.mem_of_find?_eq_some h
  have h2 := List.find?_some h
  refine ⟨by simp at h1; omega, ?_⟩
  obtain ⟨t, ht⟩ := List.isPrefixOf_iff_prefix.1 h2
  have e : b = modeL m ++ 32 :: t := by rw [← ht]; simp
  have : b.drop ((modeL m).length + 1) = t := by
    rw [e, ← List.drop_drop, List.drop_left]; rfl
  rw [this]; exact e
theorem drop_mode (m : Int) (x : List UInt8) : (modeL m ++ 32 :: x).drop ((modeL m).length + 1) = x := by
  rw [← List.drop_drop, List.drop_left]; rfl
theorem take_print (i : Itm) (hi : fine i) (r : List UInt8) : takeI (printIt i ++ r) = some (i, r) := by
  have e : printIt i ++ r = modeL i.mode ++ 32 :: (i.name ++ 0 :: (i.id ++ r)) := by unfold printIt; simp
  unfold takeI
  rw [e, find_mode hi.1]
  simp only
  rw [drop_mode, zero_at_first _ _ hi.2.1]
  have hl : ¬ (i.name ++ 0 :: (i.id ++ r)).length < i.name.length + 21 := by
    rw [List.length_append, List.length_cons, List.length_append, hi.2.2]; omega
  rw [if_neg hl, List.take_left]
  have d1 : (i.name ++ 0 :: (i.id ++ r)).drop (i.name.length + 1) = i.id ++ r := by rw [← List.drop_drop, List.drop_left]; rfl
  have d2 : (i.name ++ 0 :: (i.id ++ r)).drop (i.name.length + 21) = r := by
    rw [show i.name.length + 21 = (i.name.length + 1) + i.id.length by rw [hi.2.2], ← List.drop_drop, d1, List.drop_left]
  rw [d1, d2, show (20 : Nat) = i.id.length by rw [hi.2.2], List.take_left]
theorem findIdx_nz (r : List UInt8) : ∀ c ∈ r.take (r.findIdx (· == 0)), c ≠ 0 := by
  induction r with
  | nil => simp
  | cons c r ih =>
    rw [List.findIdx_cons]
    cases hc : (c == 0) with
    | true => simp
    | false =>
      simp only [cond_false, List.take_succ_cons]
      intro d hd
      rcases List.mem_cons.1 hd with rfl | hd
      · exact ne_of_beq_false hc
      · exact ih d hd
theorem split_zero (r : List UInt8) (h : r.findIdx (· == 0) < r.length) : r = r.take (r.findIdx (· == 0)) ++ 0 :: r.drop (r.findIdx (· == 0) + 1) := by
  conv => lhs; rw [← List.take_append_drop (r.findIdx (· == 0)) r, List.drop_eq_getElem_cons h]
  have := List.findIdx_getElem (p := (· == (0 : UInt8))) (w := h)
  rw [eq_of_beq this]
theorem take_back {b r : List UInt8} {i : Itm} (h : takeI b = some (i, r)) : fine i ∧ b = printIt i ++ r := by
  unfold takeI at h
  cases hf : ([1, 2, 3, 4] : List Int).find? (fun m => (modeL m ++ [32]).isPrefixOf b) with
  | none => rw [hf] at h; cases h
  | some m =>
    rw [hf] at h
    simp only at h
    obtain ⟨hm, hb⟩ := find_some hf
    generalize b.drop ((modeL m).length + 1) = x at h hb
    by_cases hl : x.length < x.findIdx (· == 0) + 21
    · rw [if_pos hl] at h; cases h
    · rw [if_neg hl] at h
      cases h
      have hz : x.findIdx (· == 0) < x.length := by omega
      refine ⟨⟨hm, findIdx_nz x, by simp; omega⟩, ?_⟩
      rw [hb]
      unfold printIt
      simp only [List.append_assoc, List.cons_append]
      congr 2
      have hx := split_zero x hz
      have hd : x.drop (x.findIdx (· == 0) + 21) = (x.drop (x.findIdx (· == 0) + 1)).drop 20 := by rw [List.drop_drop]
      rw [hd, List.take_append_drop]
      exact hx
/-- Bytes of which a tree's items are the beginning: the rest is the others'. -/
theorem flat_prefix : ∀ (p : List Itm) (l : List Itm) (r : List UInt8), (∀ i ∈ p, fine i) → (∀ i ∈ l, fine i) → flatI p ++ r = flatI l → r ≠ [] ∨ p.length ≤ l.length → ∃ l2, l = p ++ l2 ∧ r = flatI l2
  | [], l, r, _, _, h, _ => ⟨l, rfl, by simpa [flat_nil] using h⟩
  | i :: p, [], r, _, _, h, _ => by
    have := congrArg List.length h
    rw [flat_cons, flat_nil] at this
    have hp := print_pos i
    simp only [List.length_append, List.length_nil] at this
    omega
  | i :: p, j :: l, r, hp, hl, h, hr => by
    rw [flat_cons, flat_cons, List.append_assoc] at h
    obtain ⟨rfl, h2⟩ := print_apart (hp i (by simp)) (hl j (by simp)) h
    obtain ⟨l2, rfl, e⟩ := flat_prefix p l r (fun x hx => hp x (by simp [hx])) (fun x hx => hl x (by simp [hx])) h2 (hr.imp id (fun h => by simpa using h))
    exact ⟨l2, rfl, e⟩
theorem flat_inj (l m : List Itm) (hl : ∀ i ∈ l, fine i) (hm : ∀ i ∈ m, fine i) (h : flatI l = flatI m) : l = m := by
  by_cases hle : l.length ≤ m.length
  · obtain ⟨l2, rfl, e⟩ := flat_prefix l m [] hl hm (by simpa using h) (.inr hle)
    cases l2 with
    | nil => simp
    | cons j l2 =>
      have := congrArg List.length e
      rw [flat_cons] at this
      have hp := print_pos j
      simp only [List.length_append, List.length_nil] at this
      omega
  · obtain ⟨l2, rfl, e⟩ := flat_prefix m l [] hm hl (by simpa using h.symm) (.inr (by omega))
    cases l2 with
    | nil => simp
    | cons j l2 =>
      have := congrArg List.length e
      rw [flat_cons] at this
      have hp := print_pos j
      simp only [List.length_append, List.length_nil] at this
      omega
/-- Bytes whose next item is none are no items'. -/
theorem take_stop {p : List Itm} {r : List UInt8} (hp : ∀ i ∈ p, fine i) (hr : r ≠ []) (ht : takeI r = none) (l : List Itm) (hl : ∀ i ∈ l, fine i) : flatI l ≠ flatI p ++ r := by
  intro e
  obtain ⟨l2, rfl, h2⟩ := flat_prefix p l r hp hl e.symm (.inl hr)
  cases l2 with
  | nil => exact hr (by rw [h2]; rfl)
  | cons j l2 =>
    rw [flat_cons] at h2
    rw [h2, take_print j (hl j (by simp))] at ht
    cases ht

/-- What a reading of bytes tells. -/
def ParsedT (b : List UInt8) (l : List Itm) (e : Int) : Prop :=
  (65536 < b.length ∧ l = [] ∧ e = 5) ∨ (b.length ≤ 65536 ∧ e = 0 ∧ flatI l = b ∧ (∀ i ∈ l, fine i) ∧ (l = [] ∨ rightIt l = true)) ∨
    (b.length ≤ 65536 ∧ e = 4 ∧ l = [] ∧ ∀ m : List Itm, (∀ i ∈ m, fine i) → (m = [] ∨ rightIt m = true) → flatI m ≠ b)
theorem parsedT_same {b : List UInt8} {l m : List Itm} {e f : Int} (h : ParsedT b l e) (k : ParsedT b m f) : m = l ∧ f = e := by
  rcases h with ⟨h1, h2, h3⟩ | ⟨h1, h2, h3, h4, h5⟩ | ⟨h1, h2, h3, h4⟩ <;> rcases k with ⟨k1, k2, k3⟩ | ⟨k1, k2, k3, k4, k5⟩ | ⟨k1, k2, k3, k4⟩
  · exact ⟨by rw [h2, k2], by rw [h3, k3]⟩
  · omega
  · omega
  · omega
  · exact ⟨flat_inj m l k4 h4 (by rw [k3, h3]), by rw [h2, k2]⟩
  · exact absurd h3 (k4 l h4 h5)
  · omega
  · exact absurd k3 (h4 m k4 k5)
  · exact ⟨by rw [h3, k3], by rw [h2, k2]⟩
theorem path_nz {s : List UInt8} (h : pathL s = true) : ∀ c ∈ s, c ≠ 0 := by
  unfold pathL at h
  simp only [Bool.and_eq_true] at h
  have h2 : (!s.any fun c => c.toNat == 0) = true := h.1.1.2
  intro c hc e
  subst e
  rw [Bool.not_eq_true', List.any_eq_false] at h2
  exact h2 0 hc rfl
theorem right_fine {l : List Itm} (h : rightIt l = true) (hid : ∀ i ∈ l, i.id.length = 20) : ∀ i ∈ l, fine i := by
  intro i hi
  obtain ⟨k, hk, rfl⟩ := List.mem_iff_getElem.1 hi
  have hs := ((rightIt_iff l).1 h).2.2 k hk
  unfold stepI aheadI oneI nameI at hs
  have hg : l.getD k noI = l[k] := by rw [List.getD_eq_getElem?_getD, List.getElem?_eq_getElem hk]; rfl
  rw [hg] at hs
  simp only [Bool.and_eq_true, decide_eq_true_eq] at hs
  exact ⟨⟨hs.1.1.1.2, hs.1.1.2⟩, path_nz hs.1.1.1.1.1.1, hid _ hi⟩
/-- What is printed is read. -/
theorem print_parsed {l : List Itm} (hid : ∀ i ∈ l, i.id.length = 20) (h : (printT l).2 = 0) : (printT l).1 = flatI l ∧ ParsedT (flatI l) l 0 := by
  unfold printT at h ⊢
  by_cases h1 : l ≠ [] ∧ rightIt l = false
  · rw [if_pos h1] at h; exact absurd h (by decide)
  · rw [if_neg h1] at h ⊢
    by_cases h2 : 65536 < (flatI l).length
    · rw [if_pos h2] at h; exact absurd h (by decide)
    · rw [if_neg h2]
      have hr : l = [] ∨ rightIt l = true := by
        by_cases hl : l = []
        · exact .inl hl
        · right
          cases hr : rightIt l with
          | true => rfl
          | false => exact absurd ⟨hl, hr⟩ h1
      refine ⟨rfl, .inr (.inl ⟨by omega, rfl, rfl, ?_, hr⟩)⟩
      rcases hr with rfl | hr
      · simp
      · exact right_fine hr hid
/-- What is read, printed. -/
theorem parsed_print {b : List UInt8} {l : List Itm} (h : ParsedT b l 0) : printT l = (b, 0) := by
  rcases h with ⟨_, _, h3⟩ | ⟨h1, h2, h3, h4, h5⟩ | ⟨_, h2, _⟩
  · exact absurd h3 (by decide)
  · unfold printT
    rw [if_neg (by rintro ⟨g1, g2⟩; rcases h5 with h5 | h5; exact g1 h5; rw [h5] at g2; cases g2), h3, if_neg (by omega)]
  · exact absurd h2 (by decide)
end Go.Proofs.YtdgcjjledbnofaaDoor
