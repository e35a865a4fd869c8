/-
  Texts that belong together, one behind the other.
-/
import Derived.Test.YtalmoaofodjehaaDoorFu05
import Derived.IntWalk
import Derived.WalkSmall
import Derived.Test.YtalmoaofodjehaaDoorFu01
import Derived.Laws.RangeAny
import Derived.Test.YtalmoaofodjehaaDoorFu02
/-
  The law's own helper few: not too many items, nor too long names.
-/
namespace Go.Proofs.YtalmoaofodjehaaDoor
set_option maxRecDepth 20000
open Go.RowKit
set_option linter.unusedVariables false
set_option linter.unusedSimpArgs false

def fewI (l : List Itm) : Bool := l.all (fun i => decide (i.name.length ≤ 600)) && decide (l.length ≤ 60)
theorem few_yes {l : List Itm} (h : fewI l = true) : l.length ≤ 60 ∧ ∀ i ∈ l, i.name.length ≤ 600 := by
  unfold fewI at h
  simp only [Bool.and_eq_true, decide_eq_true_eq, List.all_eq_true] at h
  exact ⟨h.2, h.1⟩
theorem few_long {l : List Itm} {k : Nat} (hk : k < l.length) (h : ¬ l[k].name.length ≤ 600) : fewI l = false := by
  unfold fewI
  rw [Bool.and_eq_false_iff]
  left
  rw [List.all_eq_false]
  exact ⟨l[k], List.getElem_mem _, by simpa using h⟩
theorem few_all {l : List Itm} (h : ∀ k (hk : k < l.length), l[k].name.length ≤ 600) : fewI l = decide (l.length ≤ 60) := by
  unfold fewI
  rw [List.all_eq_true.2 (fun i hi => ?_), Bool.true_and]
  obtain ⟨k, hk, rfl⟩ := List.mem_iff_getElem.1 hi
  simpa using h k hk
theorem wrap_in (x : Int) (h0 : 0 ≤ x) (h1 : x ≤ 9223372036854775807) : wrap64 x = x := by unfold wrap64; omega
theorem wrap_next (k n : Nat) (hm : n ≤ maxLen) (hk : k < n) : wrap64 ((k : Int) + 1) = (k : Int) + 1 := by
  refine wrap_in _ (by omega) ?_
  have h1 : ((k + 1 : Nat) : Int) ≤ ((maxLen : Nat) : Int) := Int.ofNat_le.2 (by omega)
  exact h1
set_option maxHeartbeats 4000000 in
theorem few_some (b o n c : Nat) (l : List Itm) (w : World) (hn : n = l.length) (hm : n ≤ maxLen) (hbl : b < w.heap.size)
    (hc : ∀ k (h : k < l.length) j v, (cellsI l[k])[j]? = some v → w.cell? ⟨b, o + k * 22 + j, none⟩ = some v) (hnm : ∀ i ∈ l, i.name.length ≤ maxLen) :
    Calls Tryd.prog 9 #[.slice (some ⟨b, o, none⟩) n c] w fun e w' => e = .returned (.bool (fewI l)) ∧ Below w.heap.size w w' := by
  obtain ⟨R, hR⟩ : ∃ R, fewI l = R := ⟨_, rfl⟩
  have HR := Lib.hid hR; have HC := Lib.hid hc; have HN := Lib.hid hn; have HNM := Lib.hid hnm
  rw [hR]
  have HM := Lib.hid hm
  clear hR hc hn hnm hm
  go_enter Tryd.func9, Tryd.ntmps9
  go_wp2_with fail
  go_loopw [3] (fun v wr => ∃ k : Nat, k ≤ n ∧ v = .int .i64 k ∧ (∀ j (hj : j < l.length), j < k → l[j].name.length ≤ 600) ∧ Below w.heap.size w wr) (fun v _ => n - (intOf v).toNat)
  case atStart => exact ⟨0, Nat.zero_le _, rfl, (fun j _ h => absurd h (Nat.not_lt_zero _)), Below.refl _ _⟩
  case round =>
    obtain ⟨k, hk, rfl, hso, hbr⟩ := hrel
    have HSO := Lib.hid hso; have HBR := Lib.hid hbr
    clear hso hbr
    by_cases hlt : k < n
    · have hkl : k < l.length := by rw [← HN.out]; exact hlt
      have q1 : wr.cell? ⟨b, o + k * 22 + 1, none⟩ = some (.string ⟨(l[k]).name.toArray⟩) := (HBR.out.cell (p := ⟨b, o + k * 22 + 1, none⟩) hbl).trans (HC.out k hkl 1 _ rfl)
      obtain ⟨nm, hnm⟩ : ∃ nm, l[k].name = nm := ⟨_, rfl⟩
      rw [hnm] at q1
      have hsz := size_toArray nm
      obtain ⟨m, hm⟩ : ∃ m, nm.length = m := ⟨_, rfl⟩
      rw [hm] at hsz
      have HL1 := Lib.hid (show l[k].name.length = m by rw [hnm, hm])
      generalize (⟨nm.toArray⟩ : ByteArray) = s at q1 hsz
      clear hm hnm
      have g0 : (k : Int) < (n : Int) := by omega
      by_cases h6 : m ≤ 600
      · have g1 : ¬ (m : Int) > 600 := by omega
        have gw : wrap64 ((k : Int) + 1) = (k : Int) + 1 := wrap_next k n HM.out hlt
        clear h6
        go_wp2
        go_roundw
        case rel =>
          refine ⟨k + 1, by omega, by go_num, fun j hj hj2 => ?_, HBR.out⟩
          by_cases e : j < k
          · exact HSO.out j hj e
          · obtain rfl : j = k := by omega
            rw [HL1.out]; omega
        case measure => rw [gw]; clear gw; show n - ((k : Int) + 1).toNat < n - (k : Int).toNat; omega
      · have g1 : (m : Int) > 600 := by omega
        have hr := few_long hkl (by rw [HL1.out]; exact h6)
        have hr2 := HR.out.symm.trans hr
        subst hr2
        clear h6 hr
        go_wp2
        go_ret
        exact ⟨rfl, HBR.out⟩
    · obtain rfl : k = n := by omega
      have hr := few_all (l := l) (fun j hj => HSO.out j hj (by rw [HN.out]; exact hj))
      have hr2 : R = decide (k ≤ 60) := HR.out.symm.trans (by rw [hr, HN.out])
      have g0 : decide ((k : Int) ≤ 60) = R := by rw [hr2, decide_eq_decide]; omega
      have g2 : ¬ (k : Int) < (k : Int) := by omega
      clear hr hlt hr2
      go_wp2
      go_ret
      exact ⟨rfl, HBR.out⟩
set_option maxHeartbeats 400000 in
theorem few_is (a : Option Addr) (n c : Nat) (l : List Itm) (w : World) (hn : n = l.length) (hm : n ≤ maxLen) (hit : ItemsAt w a l) (hnm : ∀ i ∈ l, i.name.length ≤ maxLen) :
    Calls Tryd.prog 9 #[.slice a n c] w fun e w' => e = .returned (.bool (fewI l)) ∧ Below w.heap.size w w' := by
  by_cases h1 : n = 0
  · obtain rfl : l = [] := List.eq_nil_of_length_eq_zero (by omega)
    subst h1
    clear hn hm hit hnm
    go_enter Tryd.func9, Tryd.ntmps9
    go_wp2_with fail
    refine wp_loop_rounds 1 ?_
    rw [rounds_succ]
    go_wp2
    go_ret
    exact ⟨rfl, Below.refl _ _⟩
  · obtain ⟨b, o, rfl, hb, hc⟩ := hit (by omega)
    exact few_some b o n c l w hn hm hb hc hnm
end Go.Proofs.YtalmoaofodjehaaDoor

/-
  Runes and bytes (plain): where a rune of a text begins, and that its bytes are high ones; a decoder that knows Quote's forms alone.
-/
namespace Go.Proofs.YtalmoaofodjehaaDoor
set_option linter.unusedVariables false
set_option linter.unusedSimpArgs false

theorem decodeN_wide (n b0 b1 b2 b3 : Nat) (h0 : 128 ≤ b0) (hn : 1 ≤ n) :
    128 ≤ (Lib.decodeN n b0 b1 b2 b3).1 ∧ 1 ≤ (Lib.decodeN n b0 b1 b2 b3).2 ∧ (Lib.decodeN n b0 b1 b2 b3).2 ≤ n ∧ (Lib.decodeN n b0 b1 b2 b3).2 ≤ 4 ∧
    (1 < (Lib.decodeN n b0 b1 b2 b3).2 → 128 ≤ b1) ∧ (2 < (Lib.decodeN n b0 b1 b2 b3).2 → 128 ≤ b2) ∧ (3 < (Lib.decodeN n b0 b1 b2 b3).2 → 128 ≤ b3) := by
  unfold Lib.decodeN
  rw [if_neg (by omega)]
  split
  · split
    · refine ⟨?_, ?_, ?_, ?_, ?_, ?_, ?_⟩ <;> simp only <;> omega
    · refine ⟨?_, ?_, ?_, ?_, ?_, ?_, ?_⟩ <;> simp only <;> omega
  · split
    · split
      · refine ⟨?_, ?_, ?_, ?_, ?_, ?_, ?_⟩ <;> simp only <;> omega
      · refine ⟨?_, ?_, ?_, ?_, ?_, ?_, ?_⟩ <;> simp only <;> omega
    · split
      · split
        · refine ⟨?_, ?_, ?_, ?_, ?_, ?_, ?_⟩ <;> simp only <;> omega
        · refine ⟨?_, ?_, ?_, ?_, ?_, ?_, ?_⟩ <;> simp only <;> omega
      · refine ⟨?_, ?_, ?_, ?_, ?_, ?_, ?_⟩ <;> simp only <;> omega

/-- What a range over a text hands over at a place: a low byte by itself, or a high rune whose bytes are all high. -/
theorem rune_at (l : List UInt8) (i : Nat) (hi : i < l.length) :
    ((l.getD i 0).toNat < 128 ∧ Utf8.decode ⟨l.toArray⟩ i = ((l.getD i 0).toNat, 1)) ∨
    (128 ≤ (l.getD i 0).toNat ∧ 128 ≤ (Utf8.decode ⟨l.toArray⟩ i).1 ∧ (Utf8.decode ⟨l.toArray⟩ i).1 ≤ 2147483647 ∧ 1 ≤ (Utf8.decode ⟨l.toArray⟩ i).2 ∧ (Utf8.decode ⟨l.toArray⟩ i).2 ≤ 4 ∧ i + (Utf8.decode ⟨l.toArray⟩ i).2 ≤ l.length ∧
      ∀ j, i ≤ j → j < i + (Utf8.decode ⟨l.toArray⟩ i).2 → 128 ≤ (l.getD j 0).toNat) := by
  have e : Utf8.decode ⟨l.toArray⟩ i = Lib.decodeN (l.length - i) (l.getD i 0).toNat (l.getD (i + 1) 0).toNat (l.getD (i + 2) 0).toNat (l.getD (i + 3) 0).toNat := Lib.decode_N ⟨l.toArray⟩ i
  by_cases h : (l.getD i 0).toNat < 128
  · left
    refine ⟨h, ?_⟩
    rw [e]
    unfold Lib.decodeN
    rw [if_pos h]
  · right
    have w := decodeN_wide (l.length - i) (l.getD i 0).toNat (l.getD (i + 1) 0).toNat (l.getD (i + 2) 0).toNat (l.getD (i + 3) 0).toNat (by omega) (by omega)
    have le := decode_le ⟨l.toArray⟩ i
    rw [e] at le ⊢
    obtain ⟨w1, w2, w3, w4, w5, w6, w7⟩ := w
    refine ⟨by omega, w1, le, w2, w4, by omega, fun j h1 h2 => ?_⟩
    obtain h3 | h3 | h3 | h3 : j = i ∨ j = i + 1 ∨ j = i + 2 ∨ j = i + 3 := by omega
    · subst h3; omega
    · subst h3; exact w5 (by omega)
    · subst h3; exact w6 (by omega)
    · subst h3; exact w7 (by omega)

/-- The form at the head of a text, and its length. -/
def formL : List UInt8 → Option (UInt8 × Nat)
  | [] => none
  | c :: r => if c.toNat ≠ 92 then some (c, 1) else
    match r with
    | [] => none
    | d :: r2 => if d.toNat = 34 ∨ d.toNat = 92 then some (d, 2) else if d.toNat = 110 then some (10, 2) else if d.toNat = 116 then some (9, 2) else
      match r2 with
      | e :: f :: _ => if oct3 d e f then some (octB d e f, 4) else none
      | _ => none
theorem form_pos {l : List UInt8} {c : UInt8} {n : Nat} (h : formL l = some (c, n)) : 1 ≤ n ∧ n ≤ l.length := by
  revert h
  fun_cases formL l <;> intro h <;> simp only [Option.some.injEq, Prod.mk.injEq, reduceCtorEq] at h <;> (obtain ⟨_, rfl⟩ := h; simp)

/-- All the forms of a text. -/
def betL : Nat → List UInt8 → Option (List UInt8)
  | _, [] => some []
  | 0, _ :: _ => none
  | n + 1, c :: r => match formL (c :: r) with
    | none => none
    | some (x, k) => (betL n ((c :: r).drop k)).map (x :: ·)
theorem bet_nil (n : Nat) : betL n [] = some [] := by cases n <;> rfl
theorem bet_none {n : Nat} {l : List UInt8} (hl : l ≠ []) (h : formL l = none) : betL (n + 1) l = none := by
  cases l with
  | nil => exact absurd rfl hl
  | cons c r => simp only [betL, h]
theorem bet_some {n : Nat} {l : List UInt8} {x : UInt8} {k : Nat} (h : formL l = some (x, k)) : betL (n + 1) l = (betL n (l.drop k)).map (x :: ·) := by
  cases l with
  | nil => simp [formL] at h
  | cons c r => simp only [betL, h]
theorem form_one (c : UInt8) (r : List UInt8) : formL (oneL c ++ r) = some (c, (oneL c).length) := by
  unfold oneL
  by_cases h1 : c.toNat = 34
  · rw [if_pos h1]
    have : c = 34 := UInt8.toNat_inj.1 h1
    subst this
    rfl
  rw [if_neg h1]
  by_cases h2 : c.toNat = 92
  · rw [if_pos h2]
    have : c = 92 := UInt8.toNat_inj.1 h2
    subst this
    rfl
  rw [if_neg h2]
  by_cases h3 : c.toNat = 10
  · rw [if_pos h3]
    have : c = 10 := UInt8.toNat_inj.1 h3
    subst this
    rfl
  rw [if_neg h3]
  by_cases h4 : c.toNat = 9
  · rw [if_pos h4]
    have : c = 9 := UInt8.toNat_inj.1 h4
    subst this
    rfl
  rw [if_neg h4]
  by_cases h5 : c.toNat < 32 ∨ 127 ≤ c.toNat
  · rw [if_pos h5]
    obtain ⟨o1, o2, _, _⟩ := oct3_oct c
    have lt := c.toNat_lt
    have n1 : (UInt8.ofNat (48 + c.toNat / 64)).toNat = 48 + c.toNat / 64 := by rw [UInt8.toNat_ofNat']; omega
    unfold octL
    simp only [List.cons_append, List.nil_append, formL]
    rw [if_neg (by decide), if_neg (by omega), if_neg (by omega), if_neg (by omega), o1, if_pos rfl]
    rw [o2]
    rfl
  · rw [if_neg h5]
    simp only [List.cons_append, List.nil_append, formL]
    rw [if_pos h2]
    rfl
theorem bet_body : ∀ (l : List UInt8) (n : Nat), (bodyL l).length ≤ n → betL n (bodyL l) = some l
  | [], n, _ => bet_nil n
  | c :: r, n, h => by
    have e : bodyL (c :: r) = oneL c ++ bodyL r := by simp [bodyL]
    have o := one_len c
    rw [e, List.length_append] at h
    obtain ⟨m, rfl⟩ : ∃ m, n = m + 1 := ⟨n - 1, by omega⟩
    rw [e, bet_some (form_one c (bodyL r)), List.drop_left, bet_body r m (by omega)]
    rfl
/-- What is quoted with marks, by either decoder. -/
theorem quote_marks {t s : List UInt8} {e : Nat} (h0 : (s.getD 0 0).toNat = 34) (he : e < s.length) (h1 : 1 ≤ e) (h : quoteL t = s.take (e + 1)) : (s.take e).tail = bodyL t := by
  unfold quoteL at h
  split at h
  · next hp =>
    rw [Bool.and_eq_true] at hp
    have := (plain_all hp.1 hp.2).2.1
    rw [h, take_getD s (e + 1) 0 (by omega)] at this
    exact absurd h0 this
  · next hp =>
    have hl := congrArg List.length h
    rw [List.length_take, List.length_cons, List.length_append, List.length_cons, List.length_nil] at hl
    have hd : (s.take (e + 1)).dropLast = s.take e := by
      rw [List.dropLast_eq_take, List.length_take, List.take_take]
      congr 1
      omega
    rw [← hd, ← h, List.tail_dropLast, List.tail_cons, List.dropLast_concat]
theorem dec_either {s t' : List UInt8} {e n : Nat} (h0 : (s.getD 0 0).toNat = 34) (he : e < s.length) (h1 : 1 ≤ e) (hn : ((s.take e).tail).length ≤ n) :
    (betL n ((s.take e).tail) = some t' ∧ quoteL t' = s.take (e + 1)) ↔ (t' = unescL ((s.take e).tail) ∧ quoteL t' = s.take (e + 1)) := by
  constructor
  · rintro ⟨a, b⟩
    have := quote_marks h0 he h1 b
    exact ⟨by rw [this, dec_body], b⟩
  · rintro ⟨a, b⟩
    have := quote_marks h0 he h1 b
    refine ⟨?_, b⟩
    rw [this] at hn ⊢
    exact bet_body t' n hn
end Go.Proofs.YtalmoaofodjehaaDoor

/-
  The rune at a place, as a number, and its width.
-/
namespace Go.Proofs.YtalmoaofodjehaaDoor
open Go.RowKit
set_option linter.unusedVariables false

/-- The rune at a place, as a number, and its width. -/
theorem rune_int (l : List UInt8) (i : Nat) (hi : i < l.length) : ∃ (r : Int) (k : Nat), r = ((Utf8.decode ⟨l.toArray⟩ i).1 : Int) ∧ k = (Utf8.decode ⟨l.toArray⟩ i).2 ∧ 0 ≤ r ∧ r ≤ 2147483647 ∧ 1 ≤ k ∧ i + k ≤ l.length ∧
    ((r < 128 ∧ r = ((l.getD i 0).toNat : Int) ∧ k = 1) ∨ (128 ≤ r ∧ k ≤ 4 ∧ ∀ j, i ≤ j → j < i + k → 128 ≤ (l.getD j 0).toNat)) := by
  refine ⟨_, _, rfl, rfl, ?_⟩
  rcases rune_at l i hi with ⟨h1, h2⟩ | ⟨h1, h2, h3, h4, h5, h6, h7⟩
  · rw [h2]
    exact ⟨by omega, by simp only; omega, Nat.le_refl _, by simp only; omega, .inl ⟨by simp only; omega, rfl, rfl⟩⟩
  · exact ⟨by omega, by omega, h4, h6, .inr ⟨by omega, h5, h7⟩⟩
end Go.Proofs.YtalmoaofodjehaaDoor

/-
  Layer 8, the program: where a byte stands first; word, place, Before.
-/
namespace Go.Proofs.YtalmoaofodjehaaDoor
set_option maxRecDepth 20000
open Go.RowKit
set_option linter.unusedVariables false
set_option linter.unusedSimpArgs false

/-- Where a byte stands first, and whether it does. -/
def seekI (s : List UInt8) (c : UInt8) : Nat × Bool := if s.findIdx (· == c) < s.length then (s.findIdx (· == c), true) else (0, false)
theorem seek_here (s : List UInt8) (c : UInt8) (i : Nat) (hi : i < s.length) (h : s.getD i 0 = c) (hn : ∀ j, j < i → s.getD j 0 ≠ c) : seekI s c = (i, true) := by
  have e : s.findIdx (· == c) = i := by
    rw [List.findIdx_eq hi]
    refine ⟨?_, fun j hj => ?_⟩
    · rw [List.getD_eq_getElem?_getD, List.getElem?_eq_getElem hi] at h
      simp only [Option.getD_some] at h
      rw [h]; simp
    · have := hn j hj
      rw [List.getD_eq_getElem?_getD, List.getElem?_eq_getElem (by omega)] at this
      simp only [Option.getD_some] at this
      exact beq_false_of_ne this
  unfold seekI
  rw [e, if_pos hi]
theorem seek_none (s : List UInt8) (c : UInt8) (hn : ∀ j, j < s.length → s.getD j 0 ≠ c) : seekI s c = (0, false) := by
  unfold seekI
  rw [if_neg]
  intro h
  have h2 := List.findIdx_getElem (p := (· == c)) (w := h)
  have := hn (s.findIdx (· == c)) h
  rw [List.getD_eq_getElem?_getD, List.getElem?_eq_getElem h] at this
  simp only [Option.getD_some] at this
  exact this (eq_of_beq h2)
theorem seek_le (s : List UInt8) (c : UInt8) : (seekI s c).1 ≤ s.length := by
  unfold seekI
  split
  · next h => exact Nat.le_of_lt h
  · exact Nat.zero_le _
theorem seek_any (s : List UInt8) (c : UInt8) : (seekI s c).2 = s.any (fun x => x == c) := by
  unfold seekI
  by_cases h : s.findIdx (· == c) < s.length
  · rw [if_pos h]
    have h2 : s.any (fun x => x == c) = true := by
      rw [List.any_eq_true]
      exact ⟨s[s.findIdx (· == c)], List.getElem_mem h, List.findIdx_getElem (p := (· == c)) (w := h)⟩
    rw [h2]
  · rw [if_neg h]
    have h2 : s.any (fun x => x == c) = false := by
      rw [List.any_eq_false]
      intro x hx hc
      exact h (List.findIdx_lt_length.2 ⟨x, hx, hc⟩)
    rw [h2]
/-- A rune that is no such byte. -/
theorem seek_go {l : List UInt8} {c : UInt8} (h7 : c.toNat < 128) {i k : Nat} {r : Int} (h : (r < 128 ∧ r = ((l.getD i 0).toNat : Int) ∧ k = 1) ∨ (128 ≤ r ∧ k ≤ 4 ∧ ∀ j, i ≤ j → j < i + k → 128 ≤ (l.getD j 0).toNat)) (hr : r ≠ (c.toNat : Int))
    (hall : ∀ j, j < i → l.getD j 0 ≠ c) : ∀ j, j < i + k → l.getD j 0 ≠ c := by
  intro j hj e
  by_cases hji : j < i
  · exact hall j hji e
  · rcases h with ⟨_, h, hk⟩ | ⟨_, _, h⟩
    · obtain rfl : j = i := by omega
      rw [e] at h
      exact hr h
    · have := h j (by omega) hj
      rw [e] at this
      omega
theorem seek_stop {l : List UInt8} {c : UInt8} (h7 : c.toNat < 128) {i k : Nat} {r : Int} (h : (r < 128 ∧ r = ((l.getD i 0).toNat : Int) ∧ k = 1) ∨ (128 ≤ r ∧ k ≤ 4 ∧ ∀ j, i ≤ j → j < i + k → 128 ≤ (l.getD j 0).toNat)) (hr : r = (c.toNat : Int)) : l.getD i 0 = c := by
  rcases h with ⟨_, h, _⟩ | ⟨h, _, _⟩
  · exact UInt8.toNat_inj.1 (by omega)
  · omega

set_option maxHeartbeats 4000000 in
theorem indexOf_is (c : UInt8) (h7 : c.toNat < 128) (l : List UInt8) (cc : Int) (hcc : cc = c.toNat) (w : World) (hn : l.length ≤ 1000000) :
    Calls Tryd.prog 37 #[.string ⟨l.toArray⟩, .int .i32 cc] w fun e w' => e = .returned (.tuple #[.int .i64 (seekI l c).1, .bool (seekI l c).2]) ∧ Below w.heap.size w w' := by
  have SH := Lib.hid (seek_here l c)
  have SN := Lib.hid (seek_none l c)
  have GO := Lib.hid (fun i k r h hr ha => @seek_go l c h7 i k r h hr ha)
  have ST := Lib.hid (fun i k r h hr => @seek_stop l c h7 i k r h hr)
  have HC := Lib.hid hcc
  clear h7 hcc
  obtain ⟨R, hR⟩ : ∃ R, seekI l c = R := ⟨_, rfl⟩
  rw [hR] at SH SN ⊢
  clear hR
  go_enter Tryd.func37, Tryd.ntmps37
  go_wp2_with fail
  go_loopw [6, 7] (fun _ _ wr => ∃ i : Nat, i ≤ l.length ∧ wr = w.iter ⟨l.toArray⟩ i ∧ (∀ j, j < i → l.getD j 0 ≠ c)) (fun _ _ wr => l.length - wr.iterPos w.heap.size)
  case atStart => exact ⟨0, Nat.zero_le _, rfl, fun j h => absurd h (Nat.not_lt_zero _)⟩
  case round =>
    obtain ⟨i, hi, rfl, hall⟩ := hrel
    have HALL := Lib.hid hall; clear hall
    by_cases hlt : i < l.length
    · have hnx := fun ty => run_next_any (P := Tryd.prog) w ⟨l.toArray⟩ i ty (by rw [size_toArray]; exact hlt)
      obtain ⟨r, k, hr, hk, hr0, hr1, hk1, hkl, hw⟩ := rune_int l i hlt
      rw [← hr, ← hk] at hnx
      have HW := Lib.hid hw
      clear hr hk hw
      by_cases c1 : r = cc
      · have f1 : (r == cc) = true := by simp [c1]
        have hs := SH.out i hlt (ST.out i k r HW.out (by rw [c1, HC.out])) HALL.out
        subst hs
        clear c1
        go_wp2
        go_ret2
        exact ⟨rfl, (Below.refl _ _).alloc (Nat.le_refl _) _⟩
      · have f1 : (r == cc) = false := by simp [c1]
        have nx := GO.out i k r HW.out (by rw [← HC.out]; exact c1) HALL.out
        have NX := Lib.hid nx
        clear c1 nx
        go_wp2
        go_roundw
        case rel => exact ⟨i + k, hkl, rfl, NX.out⟩
        case measure => simp; omega
    · obtain rfl : i = l.length := by omega
      have hnx := fun ty => run_next_end (P := Tryd.prog) w ⟨l.toArray⟩ l.length ty (by rw [size_toArray]; omega)
      have hs := SN.out HALL.out
      subst hs
      go_wp2
      go_ret2
      exact ⟨rfl, (Below.refl _ _).alloc (Nat.le_refl _) _⟩

/-- A mode's digits; none for what is no mode. -/
def wordI (m : Int) : List UInt8 := if 1 ≤ m ∧ m ≤ 4 then modeL m else []
theorem word_no (m : Int) (h : ¬ (1 ≤ m ∧ m ≤ 4)) : wordI m = [] := if_neg h
theorem word_yes (m : Int) (h : 1 ≤ m ∧ m ≤ 4) : wordI m = modeL m := if_pos h
theorem word_is (m : Int) (w : World) : Calls Tryd.prog 27 #[.int .i64 m] w fun e w' => e = .returned (.string ⟨(wordI m).toArray⟩) ∧ w = w' := by
  unfold wordI modeL
  by_cases h1 : m = 1
  · subst h1
    go_enter Tryd.func27, Tryd.ntmps27
    go_wp2
    go_ret
    exact ⟨rfl, rfl⟩
  · by_cases h2 : m = 2
    · subst h2
      go_enter Tryd.func27, Tryd.ntmps27
      go_wp2
      go_ret
      exact ⟨rfl, rfl⟩
    · by_cases h3 : m = 3
      · subst h3
        go_enter Tryd.func27, Tryd.ntmps27
        go_wp2
        go_ret
        exact ⟨rfl, rfl⟩
      · by_cases h4 : m = 4
        · subst h4
          go_enter Tryd.func27, Tryd.ntmps27
          go_wp2
          go_ret
          exact ⟨rfl, rfl⟩
        · have e : ¬ (1 ≤ m ∧ m ≤ 4) := by omega
          rw [if_neg e]
          have f1 : (m == 1) = false := beq_false_of_ne h1
          have f2 : (m == 2) = false := beq_false_of_ne h2
          have f3 : (m == 3) = false := beq_false_of_ne h3
          have f4 : (m == 4) = false := beq_false_of_ne h4
          clear h1 h2 h3 h4 e
          go_enter Tryd.func27, Tryd.ntmps27
          go_wp2
          go_ret
          exact ⟨rfl, rfl⟩

set_option maxHeartbeats 2000000 in
theorem place_is (i : Itm) (hn : i.name.length ≤ 1000000) (w : World) :
    Calls Tryd.prog 39 #[.agg (cellsI i).toArray] w fun e w' => e = .returned (.string ⟨(fullI i).toArray⟩) ∧ Below w.heap.size w w' := by
  have h0 := heap_alloc_new w (.cells (cellsI i).toArray 30)
  have q0 : (w.alloc (.cells (cellsI i).toArray 30)).cell? ⟨w.heap.size, 0, none⟩ = some (.int .i64 i.mode) := (Lib.cell_of_heap h0 0).trans rfl
  have q1 : (w.alloc (.cells (cellsI i).toArray 30)).cell? ⟨w.heap.size, 1, none⟩ = some (.string ⟨i.name.toArray⟩) := (Lib.cell_of_heap h0 1).trans rfl
  have B0 := Lib.hid ((Below.refl w.heap.size w).alloc (Nat.le_refl _) (.cells (cellsI i).toArray 30))
  have ad := fun w => add_lists (P := Tryd.prog) w i.name [47] (by simp; omega)
  unfold fullI
  clear h0
  obtain ⟨m, hm⟩ : ∃ m, i.mode = m := ⟨_, rfl⟩
  rw [hm] at q0 ⊢
  by_cases h4 : m = 4
  · rw [if_pos h4]
    subst h4
    clear hm
    generalize (⟨(i.name ++ [47]).toArray⟩ : ByteArray) = s1 at ad ⊢
    generalize (⟨i.name.toArray⟩ : ByteArray) = s0 at ad q1
    generalize (cellsI i).toArray = arr at *
    go_enter Tryd.func39, Tryd.ntmps39
    go_wp2
    go_ret
    exact ⟨rfl, B0.out⟩
  · rw [if_neg h4]
    have hf : (m == 4) = false := beq_false_of_ne h4
    clear hm ad h4
    generalize (⟨i.name.toArray⟩ : ByteArray) = s0 at *
    generalize (cellsI i).toArray = arr at *
    go_enter Tryd.func39, Tryd.ntmps39
    go_wp2
    go_ret
    exact ⟨rfl, B0.out⟩
set_option maxHeartbeats 8000000 in
theorem pBefore_is (i j : Itm) (hi : i.id.length = 20) (hj : j.id.length = 20) (ni : i.name.length ≤ 1000000) (nj : j.name.length ≤ 1000000) (w : World) :
    Calls Tryd.prog 25 #[.agg (cellsI i).toArray, .agg (cellsI j).toArray] w fun e w' => e = .returned (.bool (befI i j)) ∧ Below w.heap.size w w' := by
  have c1 := fun w => place_is i ni w
  have c2 := fun w => place_is j nj w
  have hr := less_mk (fullI i) (fullI j)
  rw [show befI i j = decide (fullI i < fullI j) from rfl]
  generalize decide (fullI i < fullI j) = r at hr ⊢
  generalize (⟨(fullI i).toArray⟩ : ByteArray) = s1 at c1 hr
  generalize (⟨(fullI j).toArray⟩ : ByteArray) = s2 at c2 hr
  have b1 := (Below.refl w.heap.size w).alloc (Nat.le_refl _) (.cells (cellsI i).toArray 30)
  have b2 := b1.alloc b1.size (.cells (cellsI j).toArray 30)
  have e1 : (w.alloc (.cells (cellsI i).toArray 30)).heap.size = w.heap.size + 1 := by simp
  have h1 := (((Below.refl (w.alloc (.cells (cellsI i).toArray 30)).heap.size (w.alloc (.cells (cellsI i).toArray 30))).alloc (Nat.le_refl _) (.cells (cellsI j).toArray 30)).block w.heap.size (by simp)).trans (heap_alloc_new w _)
  have h2 := heap_alloc_new (w.alloc (.cells (cellsI i).toArray 30)) (.cells (cellsI j).toArray 30)
  rw [e1] at h2
  have K0 := restB_keep (show RestB w i j ((w.alloc (.cells (cellsI i).toArray 30)).alloc (.cells (cellsI j).toArray 30)) from ⟨h1, h2, b2⟩) ((Below.refl _ _).drew)
  have D1 := Lib.hid (fun u (h : RestB w i j u) => ((c1 u).mono (fun e u' ⟨he, hb⟩ => ⟨he, restB_keep h hb⟩) : Calls Tryd.prog 39 #[.agg (cellsI i).toArray] u fun e u' => e = .returned (.string s1) ∧ RestB w i j u'))
  have D2 := Lib.hid (fun u (h : RestB w i j u) => ((c2 u).mono (fun e u' ⟨he, hb⟩ => ⟨he, restB_keep h hb⟩) : Calls Tryd.prog 39 #[.agg (cellsI j).toArray] u fun e u' => e = .returned (.string s2) ∧ RestB w i j u'))
  have li : (Tryd.prog.info? 30).map (·.size) = some (cellsI i).length := by rw [cellsI_len i hi]; exact infoItem
  have lj : (Tryd.prog.info? 30).map (·.size) = some (cellsI j).length := by rw [cellsI_len j hj]; exact infoItem
  have KK := Lib.hid K0
  have LI := Lib.hid li; have LJ := Lib.hid lj
  clear c1 c2 b1 b2 e1 h1 h2 hi hj ni nj K0 li lj
  go_enter Tryd.func25, Tryd.ntmps25
  go_wp2_with fail
  refine wp_region_held_drew (S := RestB w i j) (by kernel_rfl) KK.out (fun hHeld => ?_)
  refine wpAnyH_take (i := 0) (v := .agg (cellsI i).toArray) rfl (by kernel_rfl) (by kernel_rfl) (by kernel_rfl) (fun _ _ _ h => h) (yieldsIf_load_mid (by rfl) 30 (.tmp 2) rfl w.heap.size 0 rfl (cellsI i) _ (fun u h => row_range h.1) Tryd.underlying30 rfl LI.out) hHeld ?_
  refine wpAnyH_take (i := 2) (v := .agg (cellsI j).toArray) rfl (by kernel_rfl) (by kernel_rfl) (by kernel_rfl) (fun _ _ _ h => h) (yieldsIf_load_mid (by rfl) 30 (.tmp 3) rfl (w.heap.size + 1) 0 rfl (cellsI j) _ (fun u h => row_range h.2.1) Tryd.underlying30 rfl LJ.out) hHeld ?_
  refine wpAnyH_ready (rs := [1]) (by kernel_rfl) (by simp) ?_
  refine AllReadyH.cons rfl (fun K hK => ?_) AllReadyH.nil
  go_simp
  refine (D1.out _ hHeld).mono ?_
  rintro e u1 ⟨rfl, hH1⟩
  refine hK.out _ _ hH1 (fun _ => ?_)
  clear hK K hHeld
  refine wpAnyH_ready (rs := [3]) (by kernel_rfl) (by simp) ?_
  refine AllReadyH.cons rfl (fun K hK => ?_) AllReadyH.nil
  go_simp
  refine (D2.out _ hH1).mono ?_
  rintro e u2 ⟨rfl, hH2⟩
  refine hK.out _ _ hH2 (fun _ => ?_)
  clear hK K
  refine wpAnyH_take (i := 4) (v := .bool r) rfl (by kernel_rfl) (by kernel_rfl) (by kernel_rfl) (fun _ _ _ h => h) (Or.inl ⟨by rfl, fun w _ => by go_simp⟩) hH2 ?_
  refine wpAnyH_take (i := 5) (v := .bool r) rfl (by kernel_rfl) (by kernel_rfl) (by kernel_rfl) (fun _ _ _ h => h) (Or.inl ⟨by rfl, fun w _ => by go_simp⟩) hH2 ?_
  refine wpAnyH_done (by kernel_rfl) ?_ _
  have H2 := Lib.hid hH2
  clear hH1 hH2
  go_wp2
  go_ret
  exact ⟨rfl, H2.out.2.2⟩
end Go.Proofs.YtalmoaofodjehaaDoor
