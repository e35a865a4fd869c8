/-
  Layer 14, plain: edits read; what is printed is read, what is read is printed so.
-/
import Derived.Test.YtbilempgnpnacaaE4m
namespace Go.Proofs.Ytbilempgnpnacaa
open Go
set_option linter.unusedVariables false
set_option linter.unusedSimpArgs false

def wordX (r : List UInt8) : Nat := (r.getD 0 0).toNat * 16777216 + (r.getD 1 0).toNat * 65536 + (r.getD 2 0).toNat * 256 + (r.getD 3 0).toNat
/-- Why no number stands there. -/
def numQ (r : List UInt8) : Nat := if r.length < 4 then 3 else if 2147483647 < wordX r then 4 else 0
/-- Why no edit stands there. -/
def errQ (r : List UInt8) : Nat :=
  if numQ r ≠ 0 then numQ r else if numQ (r.drop 4) ≠ 0 then numQ (r.drop 4) else if numQ (r.drop 8) ≠ 0 then numQ (r.drop 8)
  else if (r.drop 12).length < wordX (r.drop 8) then 3 else 0
def editQ (r : List UInt8) : Edx := ((wordX r : Nat), ((wordX (r.drop 4) : Nat) : Int), (r.drop 12).take (wordX (r.drop 8)))
def sizeQ (r : List UInt8) : Nat := 12 + wordX (r.drop 8)
/-- What edits bytes are; why none (so many edits are looked for at most). -/
def parseF : Nat → List UInt8 → List Edx × Nat
  | 0, _ => ([], 0)
  | n + 1, r => if r = [] then ([], 0) else if errQ r ≠ 0 then ([], errQ r) else (editQ r :: (parseF n (r.drop (sizeQ r))).1, (parseF n (r.drop (sizeQ r))).2)
def parseQ (r : List UInt8) : List Edx × Nat := parseF r.length r
theorem sizeQ_pos (r : List UInt8) (h : r ≠ []) : (r.drop (sizeQ r)).length < r.length := by
  have h1 : 0 < r.length := List.length_pos_iff.2 h
  have h2 : 12 ≤ sizeQ r := Nat.le_add_right 12 _
  rw [List.length_drop]
  omega
theorem parseF_same : ∀ (n m : Nat) (r : List UInt8), r.length ≤ n → r.length ≤ m → parseF n r = parseF m r
  | 0, 0, _, _, _ => rfl
  | 0, m + 1, r, h, _ => by
    obtain rfl : r = [] := List.eq_nil_of_length_eq_zero (by omega)
    rw [parseF, parseF, if_pos rfl]
  | n + 1, 0, r, _, h => by
    obtain rfl : r = [] := List.eq_nil_of_length_eq_zero (by omega)
    rw [parseF, parseF, if_pos rfl]
  | n + 1, m + 1, r, h1, h2 => by
    rw [parseF, parseF]
    by_cases hr : r = []
    · rw [if_pos hr, if_pos hr]
    · have hs := sizeQ_pos r hr
      rw [if_neg hr, if_neg hr, parseF_same n m _ (by omega) (by omega)]
theorem parseQ_nil : parseQ [] = ([], 0) := rfl
theorem parseQ_err {r : List UInt8} (h : r ≠ []) (he : errQ r ≠ 0) : parseQ r = ([], errQ r) := by
  obtain ⟨n, hn⟩ : ∃ n, r.length = n + 1 := ⟨r.length - 1, by have := List.length_pos_iff.2 h; omega⟩
  rw [parseQ, hn, parseF, if_neg h, if_pos he]
theorem parseQ_next {r : List UInt8} (h : r ≠ []) (he : errQ r = 0) : parseQ r = (editQ r :: (parseQ (r.drop (sizeQ r))).1, (parseQ (r.drop (sizeQ r))).2) := by
  obtain ⟨n, hn⟩ : ∃ n, r.length = n + 1 := ⟨r.length - 1, by have := List.length_pos_iff.2 h; omega⟩
  have hs := sizeQ_pos r h
  have e : parseF n (r.drop (sizeQ r)) = parseQ (r.drop (sizeQ r)) := parseF_same _ _ _ (by omega) (Nat.le_refl _)
  rw [parseQ, hn, parseF, if_neg h, if_neg (fun q => q he), e]
/-- What is told: no edits beside an error. -/
def outQ (r : List UInt8) : List Edx := if (parseQ r).2 = 0 then (parseQ r).1 else []
theorem numQ_ok {r : List UInt8} (h : numQ r = 0) : 4 ≤ r.length ∧ wordX r ≤ 2147483647 := by
  unfold numQ at h
  split at h
  · omega
  · split at h <;> omega
theorem errQ_ok {r : List UInt8} (h : errQ r = 0) : numQ r = 0 ∧ numQ (r.drop 4) = 0 ∧ numQ (r.drop 8) = 0 ∧ sizeQ r ≤ r.length := by
  unfold errQ at h
  split at h
  · omega
  · split at h
    · omega
    · split at h
      · omega
      · rename_i h3
        have h4 := (numQ_ok (r := r.drop 8) (by omega)).1
        rw [List.length_drop] at h4
        split at h
        · omega
        · rename_i h5
          rw [List.length_drop] at h5
          refine ⟨by omega, by omega, by omega, ?_⟩
          unfold sizeQ
          omega
theorem errQ_lt (r : List UInt8) : errQ r ≤ 4 := by
  have q : ∀ s, numQ s ≤ 4 := fun s => by unfold numQ; split <;> (try split) <;> omega
  have := q r
  have := q (r.drop 4)
  have := q (r.drop 8)
  unfold errQ
  split <;> (try split) <;> (try split) <;> (try split) <;> omega
/-- Four bytes are their number's. -/
theorem num_word (r : List UInt8) (h : 4 ≤ r.length) : numX (wordX r) = r.take 4 := by
  match r, h with
  | p :: q :: s :: t :: m, _ =>
    have hp := p.toNat_lt; have hq := q.toNat_lt; have hs := s.toNat_lt; have ht := t.toNat_lt
    have e : wordX (p :: q :: s :: t :: m) = p.toNat * 16777216 + q.toNat * 65536 + s.toNat * 256 + t.toNat := rfl
    unfold numX
    rw [e]
    simp only [List.take_succ_cons, List.take_zero, List.cons.injEq, and_true]
    refine ⟨?_, ?_, ?_, ?_⟩ <;> (apply UInt8.toNat_inj.1; rw [UInt8.toNat_ofNat']; omega)
/-- A number's bytes are read as it. -/
theorem word_num (n : Nat) (m : List UInt8) (h : n ≤ 2147483647) : wordX (numX n ++ m) = n := by
  show (UInt8.ofNat (n / 16777216)).toNat * 16777216 + (UInt8.ofNat (n / 65536)).toNat * 65536 + (UInt8.ofNat (n / 256)).toNat * 256 + (UInt8.ofNat n).toNat = n
  simp only [UInt8.toNat_ofNat']
  omega
theorem numQ_num (n : Nat) (m : List UInt8) (h : n ≤ 2147483647) : numQ (numX n ++ m) = 0 := by
  unfold numQ
  rw [word_num n m h, List.length_append, numX_len, if_neg (by omega), if_neg (by omega)]
theorem clamp_same (n : Nat) (h : n ≤ 2147483647) : clampN (n : Int) = n := by
  unfold clampN
  rw [if_neg (by omega), if_pos (by omega)]
  omega
/-- Numbers that are written as they are. -/
def plainE (e : Edx) : Prop := (∃ f t : Nat, e.1 = f ∧ e.2.1 = t ∧ f ≤ 2147483647 ∧ t ≤ 2147483647) ∧ e.2.2.length ≤ 2147483647
theorem read_print (e : Edx) (h : plainE e) (m : List UInt8) : errQ (prE e ++ m) = 0 ∧ editQ (prE e ++ m) = e ∧ (prE e ++ m).drop (sizeQ (prE e ++ m)) = m := by
  obtain ⟨⟨f, t, h1, h2, h3, h4⟩, h5⟩ := h
  obtain ⟨e1, e2, b⟩ := e
  simp only at h1 h2 h5
  subst h1
  subst h2
  have d0 : prE ((f : Int), (t : Int), b) ++ m = numX f ++ (numX t ++ (numX b.length ++ (b ++ m))) := by
    unfold prE
    simp only [clamp_same f h3, clamp_same t h4, clamp_same b.length h5, List.append_assoc]
  have d4 : (prE ((f : Int), (t : Int), b) ++ m).drop 4 = numX t ++ (numX b.length ++ (b ++ m)) := by rw [d0]; exact List.drop_left' (numX_len f)
  have d8 : (prE ((f : Int), (t : Int), b) ++ m).drop 8 = numX b.length ++ (b ++ m) := by
    rw [show (8 : Nat) = 4 + 4 from rfl, ← List.drop_drop, d4]; exact List.drop_left' (numX_len t)
  have d12 : (prE ((f : Int), (t : Int), b) ++ m).drop 12 = b ++ m := by
    rw [show (12 : Nat) = 8 + 4 from rfl, ← List.drop_drop, d8]; exact List.drop_left' (numX_len _)
  have w0 : wordX (prE ((f : Int), (t : Int), b) ++ m) = f := by rw [d0]; exact word_num f _ h3
  have w4 : wordX ((prE ((f : Int), (t : Int), b) ++ m).drop 4) = t := by rw [d4]; exact word_num t _ h4
  have w8 : wordX ((prE ((f : Int), (t : Int), b) ++ m).drop 8) = b.length := by rw [d8]; exact word_num _ _ h5
  have q0 : numQ (prE ((f : Int), (t : Int), b) ++ m) = 0 := by rw [d0]; exact numQ_num f _ h3
  have q4 : numQ ((prE ((f : Int), (t : Int), b) ++ m).drop 4) = 0 := by rw [d4]; exact numQ_num t _ h4
  have q8 : numQ ((prE ((f : Int), (t : Int), b) ++ m).drop 8) = 0 := by rw [d8]; exact numQ_num _ _ h5
  refine ⟨?_, ?_, ?_⟩
  · unfold errQ
    rw [q0, q4, q8, w8, d12, List.length_append, if_neg (by omega), if_neg (by omega), if_neg (by omega), if_neg (by omega)]
  · unfold editQ
    rw [w0, w4, w8, d12, List.take_left]
  · unfold sizeQ
    rw [w8, ← List.drop_drop, d12, List.drop_left]
theorem prE_ne (e : Edx) (m : List UInt8) : prE e ++ m ≠ [] := by
  intro h
  have := congrArg List.length h
  rw [List.length_append, prE_len] at this
  simp at this
/-- What is printed is read. -/
theorem parse_print : ∀ l : List Edx, (∀ e ∈ l, plainE e) → parseQ (printE l) = (l, 0)
  | [], _ => by unfold printE; simp [parseQ_nil]
  | e :: l, h => by
    obtain ⟨h1, h2, h3⟩ := read_print e (h e (by simp)) (printE l)
    have e0 : printE (e :: l) = prE e ++ printE l := by unfold printE; simp
    rw [e0, parseQ_next (prE_ne e _) h1, h2, h3, parse_print l (fun x hx => h x (by simp [hx]))]
theorem putQ_len (r : List UInt8) (h : sizeQ r ≤ r.length) : ((r.drop 12).take (wordX (r.drop 8))).length = wordX (r.drop 8) := by
  unfold sizeQ at h
  rw [List.length_take, List.length_drop]
  generalize wordX (r.drop 8) = N at *
  omega
theorem take_four (r : List UInt8) (N : Nat) : r.take (12 + N) = r.take 4 ++ ((r.drop 4).take 4 ++ ((r.drop 8).take 4 ++ (r.drop 12).take N)) := by
  have t1 : ∀ (s : List UInt8) (i j : Nat), s.take (i + j) = s.take i ++ (s.drop i).take j := fun s i j => List.take_add
  have d1 : (r.drop 4).drop 4 = r.drop 8 := by rw [List.drop_drop]
  have d2 : (r.drop 8).drop 4 = r.drop 12 := by rw [List.drop_drop]
  have q : 12 + N = 4 + (4 + (4 + N)) := by omega
  rw [q, t1 r 4, t1 (r.drop 4) 4, d1, t1 (r.drop 8) 4, d2]
/-- What is read is printed so. -/
theorem print_read (r : List UInt8) (h : errQ r = 0) : prE (editQ r) = r.take (sizeQ r) := by
  obtain ⟨h1, h2, h3, h4⟩ := errQ_ok h
  obtain ⟨a1, b1⟩ := numQ_ok h1
  obtain ⟨a2, b2⟩ := numQ_ok h2
  obtain ⟨a3, b3⟩ := numQ_ok h3
  have hl := putQ_len r h4
  have k1 := num_word r a1
  have k2 := num_word _ a2
  have k3 := num_word _ a3
  have c1 := clamp_same _ b1
  have c2 := clamp_same _ b2
  have c3 := clamp_same _ b3
  unfold sizeQ
  rw [take_four]
  unfold prE editQ
  dsimp only
  clear b1 b2 b3 h1 h2 h3 h4
  generalize wordX r = A at *
  generalize wordX (r.drop 4) = B at *
  generalize wordX (r.drop 8) = C at *
  rw [hl, c1, c2, c3, k1, k2, k3]
theorem printE_cons (e : Edx) (l : List Edx) : printE (e :: l) = prE e ++ printE l := by unfold printE; rw [List.map_cons, List.flatten_cons]
theorem print_parseF : ∀ (n : Nat) (r : List UInt8), r.length ≤ n → ∀ p : List Edx × Nat, parseQ r = p → p.2 = 0 → printE p.1 = r
  | 0, r, hn, p, hp, h => by
    obtain rfl : r = [] := List.eq_nil_of_length_eq_zero (Nat.le_zero.1 hn)
    rw [parseQ_nil] at hp
    rw [← hp]
    rfl
  | n + 1, r, hn, p, hp, h => by
    by_cases hr : r = []
    · subst hr
      rw [parseQ_nil] at hp
      rw [← hp]
      rfl
    · by_cases he : errQ r = 0
      · have hx := parseQ_next hr he
        obtain ⟨q, hq⟩ : ∃ q, parseQ (r.drop (sizeQ r)) = q := ⟨_, rfl⟩
        rw [hp, hq] at hx
        rw [hx] at h ⊢
        have ih := print_parseF n (r.drop (sizeQ r)) (Nat.le_of_lt_succ (Nat.lt_of_lt_of_le (sizeQ_pos r hr) hn)) q hq h
        clear hq hx hp
        show printE (editQ r :: q.1) = r
        rw [printE_cons, ih, print_read r he, List.take_append_drop]
      · rw [parseQ_err hr he] at hp
        rw [← hp] at h
        exact absurd h he
theorem print_parse (r : List UInt8) (h : (parseQ r).2 = 0) : printE (parseQ r).1 = r := print_parseF r.length r (Nat.le_refl _) _ rfl h
end Go.Proofs.Ytbilempgnpnacaa
