/-
  Texts that belong together, one behind the other.
-/
import Derived.Test.YtgbmbemmkadagaaFu16
/-
  Layer 15, plain: a log of texts: what is in it, what an Add makes of it.
-/
namespace Go.Proofs.Ytgbmbemmkadagaa
open Go
set_option linter.unusedVariables false
set_option linter.unusedSimpArgs false

/-- A text of a log: its node, its parents, its bytes, how long its chain is. -/
structure Rvl where
  n : List UInt8
  p : List UInt8
  q : List UInt8
  t : List UInt8
  c : Nat
abbrev LogV := List Rvl
def zeroV : List UInt8 := List.replicate 20 0
def nodeV (t p q : List UInt8) : List UInt8 := sumL (p ++ q ++ t)
/-- Where a node stands. -/
def atLv : LogV → List UInt8 → Option Nat
  | [], _ => none
  | r :: L, n => if r.n = n then some 0 else (atLv L n).map (· + 1)
theorem atLv_some : ∀ {L : LogV} {n : List UInt8} {k : Nat}, atLv L n = some k → ∃ h : k < L.length, (L[k]).n = n
  | [], _, _, h => by cases h
  | r :: L, n, k, h => by
    unfold atLv at h
    split at h
    · cases h
      exact ⟨by simp, by assumption⟩
    · cases hk : atLv L n with
      | none => rw [hk] at h; cases h
      | some j =>
        rw [hk] at h
        cases h
        obtain ⟨h1, h2⟩ := atLv_some hk
        exact ⟨by simp; omega, by simpa using h2⟩
theorem atLv_first : ∀ {L : LogV} {n : List UInt8} {k : Nat}, atLv L n = some k → ∀ j (hj : j < L.length), j < k → (L[j]).n ≠ n
  | [], _, _, h => by cases h
  | r :: L, n, k, h => by
    unfold atLv at h
    split at h
    · cases h
      intro j hj h0
      omega
    · rename_i hr
      cases hk : atLv L n with
      | none => rw [hk] at h; cases h
      | some i =>
        rw [hk] at h
        cases h
        intro j hj hlt
        cases j with
        | zero => exact hr
        | succ j => exact atLv_first hk j (by simpa using hj) (Nat.lt_of_succ_lt_succ hlt)
theorem atLv_none : ∀ {L : LogV} {n : List UInt8}, atLv L n = none ↔ ∀ r ∈ L, r.n ≠ n
  | [], _ => ⟨fun _ r h => (by cases h), fun _ => rfl⟩
  | r :: L, n => by
    unfold atLv
    split
    · rename_i h
      exact ⟨fun q => (by cases q), fun q => absurd h (q r (by simp))⟩
    · rename_i h
      rw [Option.map_eq_none_iff, atLv_none]
      refine ⟨fun q x hx => ?_, fun q x hx => q x (by simp [hx])⟩
      rcases List.mem_cons.1 hx with rfl | hx
      · exact h
      · exact q x hx
theorem atLv_is {L : LogV} {n : List UInt8} {k : Nat} (hk : k < L.length) (he : (L[k]).n = n) (hf : ∀ j (hj : j < L.length), j < k → (L[j]).n ≠ n) : atLv L n = some k := by
  cases h : atLv L n with
  | none => exact absurd he (atLv_none.1 h _ (List.getElem_mem hk))
  | some i =>
    obtain ⟨h1, h2⟩ := atLv_some h
    have h3 := atLv_first h
    congr 1
    rcases Nat.lt_trichotomy i k with q | q | q
    · exact absurd h2 (hf i h1 q)
    · exact q
    · exact absurd he (h3 k hk q)
/-- How long the chain of a text that is added will be. -/
def chainV (L : LogV) (t : List UInt8) : Nat :=
  match L.getLast? with
  | none => 0
  | some r => if r.c < 8 ∧ (dlB r.t t).length < t.length then r.c + 1 else 0
/-- A parent that may be named. -/
def mayV (L : LogV) (p : List UInt8) : Bool := p == zeroV || (atLv L p).isSome
/-- What an Add tells. -/
def errV (L : LogV) (t p q : List UInt8) : Nat :=
  if 65536 < t.length then 5 else if (mayV L p && mayV L q) = false then 6 else
  match atLv L (nodeV t p q) with
  | some k => if (L.getD k ⟨[], [], [], [], 0⟩).t = t ∧ (L.getD k ⟨[], [], [], [], 0⟩).p = p ∧ (L.getD k ⟨[], [], [], [], 0⟩).q = q then 0 else 7
  | none => if 2000 ≤ L.length then 5 else 0
def toldV (L : LogV) (t p q : List UInt8) : List UInt8 := if errV L t p q = 0 then nodeV t p q else zeroV
/-- What an Add leaves. -/
def addV (L : LogV) (t p q : List UInt8) : LogV :=
  if errV L t p q = 0 ∧ atLv L (nodeV t p q) = none then L ++ [⟨nodeV t p q, p, q, t, chainV L t⟩] else L
/-- What holds of a log. -/
structure GoodV (L : LogV) : Prop where
  node : ∀ r ∈ L, r.n = nodeV r.t r.p r.q
  ids : ∀ r ∈ L, r.p.length = 20 ∧ r.q.length = 20
  few : ∀ r ∈ L, r.t.length ≤ 65536 ∧ r.c ≤ 8
  one : ∀ i j (hi : i < L.length) (hj : j < L.length), (L[i]).n = (L[j]).n → i = j
  zero : ∀ r, L[0]? = some r → r.c = 0
  next : ∀ k (h : k + 1 < L.length), (L[k + 1]).c = chainV (L.take (k + 1)) (L[k + 1]).t
  len : L.length ≤ 2000
theorem GoodV.nil : GoodV [] := ⟨fun _ h => (by cases h), fun _ h => (by cases h), fun _ h => (by cases h), fun _ _ h => (by cases h), fun _ h => (by cases h), fun _ h => (by cases h), Nat.zero_le _⟩
theorem chainV_le (L : LogV) (h : ∀ r ∈ L, r.c ≤ 8) (t : List UInt8) : chainV L t ≤ 8 := by
  unfold chainV
  split
  · exact Nat.zero_le _
  · split
    · omega
    · exact Nat.zero_le _
theorem errV_ok {L : LogV} {t p q : List UInt8} (h : errV L t p q = 0) : t.length ≤ 65536 ∧ (mayV L p && mayV L q) = true ∧ (atLv L (nodeV t p q) = none → L.length < 2000) := by
  unfold errV at h
  split at h
  · omega
  · split at h
    · omega
    · rename_i h1 h2
      refine ⟨by omega, by simpa using h2, fun hn => ?_⟩
      rw [hn] at h
      simp only at h
      split at h
      · omega
      · omega
theorem GoodV.add {L : LogV} (G : GoodV L) (t p q : List UInt8) (hp : p.length = 20) (hq : q.length = 20) : GoodV (addV L t p q) := by
  unfold addV
  split
  · rename_i h
    obtain ⟨he, hn⟩ := h
    obtain ⟨h1, h2, h3⟩ := errV_ok he
    have h3 := h3 hn
    obtain ⟨x, hx⟩ : ∃ x : Rvl, (⟨nodeV t p q, p, q, t, chainV L t⟩ : Rvl) = x := ⟨_, rfl⟩
    have mem : ∀ (P : Rvl → Prop), (∀ r ∈ L, P r) → P x → ∀ r ∈ L ++ [x], P r := fun P a b r hr => by
      rcases List.mem_append.1 hr with hr | hr
      · exact a r hr
      · rw [List.mem_singleton.1 hr]; exact b
    have gl : ∀ i (hi : i < (L ++ [x]).length), i < L.length → ∃ h : i < L.length, (L ++ [x])[i] = L[i] := fun i hi h => ⟨h, List.getElem_append_left h⟩
    have gr : ∀ i (hi : i < (L ++ [x]).length), ¬ i < L.length → (L ++ [x])[i] = x := fun i hi h => by
      rw [List.getElem_append_right (by omega)]
      simp
    rw [hx]
    have nx : x.n = nodeV t p q := by rw [← hx]
    have ne : ∀ r ∈ L, r.n ≠ x.n := fun r hr => by rw [nx]; exact atLv_none.1 hn r hr
    refine ⟨mem _ G.node (by rw [← hx]), mem _ G.ids (by rw [← hx]; exact ⟨hp, hq⟩), mem _ G.few (by rw [← hx]; exact ⟨h1, chainV_le L (fun r hr => (G.few r hr).2) t⟩), ?_, ?_, ?_, ?_⟩
    · intro i j hi hj e
      by_cases ki : i < L.length
      · by_cases kj : j < L.length
        · obtain ⟨_, e1⟩ := gl i hi ki
          obtain ⟨_, e2⟩ := gl j hj kj
          rw [e1, e2] at e
          exact G.one i j ki kj e
        · obtain ⟨_, e1⟩ := gl i hi ki
          rw [e1, gr j hj kj] at e
          exact absurd e (ne _ (List.getElem_mem ki))
      · by_cases kj : j < L.length
        · obtain ⟨_, e2⟩ := gl j hj kj
          rw [gr i hi ki, e2] at e
          exact absurd e.symm (ne _ (List.getElem_mem kj))
        · simp at hi hj
          omega
    · intro r hr
      cases hl : L with
      | nil =>
        rw [hl] at hr
        simp only [List.nil_append, List.getElem?_cons_zero, Option.some.injEq] at hr
        rw [← hr, ← hx, hl]
        rfl
      | cons y m =>
        rw [hl] at hr
        exact G.zero r (by rw [hl]; simpa using hr)
    · intro k hk
      by_cases kl : k + 1 < L.length
      · obtain ⟨_, e1⟩ := gl (k + 1) hk kl
        rw [e1, List.take_append_of_le_length (by omega)]
        exact G.next k kl
      · have hkl : k + 1 = L.length := by simp at hk; omega
        rw [gr (k + 1) hk kl, hkl, List.take_left, ← hx]
    · simp
      omega
  · exact G
/-- The text behind another one, when it is told by a delta. -/
theorem GoodV.step {L : LogV} (G : GoodV L) (k : Nat) (h : k + 1 < L.length) (hc : 0 < (L[k + 1]).c) : (L[k + 1]).c = (L[k]).c + 1 ∧ (L[k]).c < 8 ∧ (dlB (L[k]).t (L[k + 1]).t).length < (L[k + 1]).t.length := by
  have e := G.next k h
  have el : (L.take (k + 1)).getLast? = some L[k] := by
    rw [List.getLast?_eq_getElem?, List.length_take, Nat.min_eq_left (by omega), Nat.add_sub_cancel, List.getElem?_take, if_pos (by omega), List.getElem?_eq_getElem (by omega)]
  unfold chainV at e
  rw [el] at e
  simp only at e
  split at e
  · rename_i q
    exact ⟨e, q⟩
  · omega
end Go.Proofs.Ytgbmbemmkadagaa

/-
  The id of twenty zeros.
-/
namespace Go.Proofs.Ytgbmbemmkadagaa

def idZ : List UInt8 := List.replicate 20 0
end Go.Proofs.Ytgbmbemmkadagaa
