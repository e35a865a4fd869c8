/-
  Layer 12, plain: a line of nodes, each the child of the one ahead of it.
-/
import Derived.Test.YtajmgjhknmkfpaaUy
namespace Go.Proofs.Ytajmgjhknmkfpaa
set_option linter.unusedVariables false
set_option linter.unusedSimpArgs false

def lid (m : Nat) : List UInt8 := idB (UInt8.ofNat (m + 1))
theorem lid_len (m : Nat) : (lid m).length = 20 := idB_len _
theorem lid_inj {a b : Nat} (ha : a < 100) (hb : b < 100) (h : lid a = lid b) : a = b := by
  unfold lid idB at h
  have e := congrArg UInt8.toNat (List.cons.inj h).1
  rw [UInt8.toNat_ofNat', UInt8.toNat_ofNat'] at e
  omega
theorem lid_nz {a : Nat} (ha : a < 100) : lid a ≠ zeroG := by
  intro h
  unfold lid idB zeroG at h
  have e := congrArg UInt8.toNat (List.cons.inj (h.trans (List.replicate_succ (n := 19) (a := (0 : UInt8))))).1
  rw [UInt8.toNat_ofNat'] at e
  have : (0 : UInt8).toNat = 0 := rfl
  omega
def ppl (m : Nat) : List Nat := if m = 0 then [] else [m - 1]
def pps (m : Nat) : List (List UInt8) := if m = 0 then [] else [lid (m - 1)]
theorem pps_each (m : Nat) : ∀ i ∈ pps m, i.length = 20 := by
  unfold pps
  split
  · intro i h; cases h
  · intro i h; rw [List.mem_singleton.1 h]; exact lid_len _
def lineG (n : Nat) : List Gn := (List.range n).map (fun m => ⟨lid m, ppl m⟩)
theorem lineG_len (n : Nat) : (lineG n).length = n := by simp [lineG]
theorem lineG_get {n k : Nat} (h : k < (lineG n).length) : (lineG n)[k] = ⟨lid k, ppl k⟩ := by simp [lineG]
theorem lineG_id {n k : Nat} (h : k < n) : idAt (lineG n) k = lid k := by rw [idAt_lt (by rw [lineG_len]; exact h), lineG_get]
theorem lineG_pl {n k : Nat} (h : k < n) : plAt (lineG n) k = ppl k := by rw [plAt_lt (by rw [lineG_len]; exact h), lineG_get]
theorem lineG_succ (n : Nat) : lineG (n + 1) = lineG n ++ [⟨lid n, ppl n⟩] := by simp [lineG, List.range_succ]
theorem lineG_good {n : Nat} (hn : n ≤ 50) : GoodG (lineG n) where
  len := fun x hx => by
    obtain ⟨k, hk, rfl⟩ := List.getElem_of_mem hx
    rw [lineG_get]; exact lid_len k
  nz := fun x hx => by
    obtain ⟨k, hk, rfl⟩ := List.getElem_of_mem hx
    rw [lineG_get]
    rw [lineG_len] at hk
    exact lid_nz (by omega)
  nod := fun i j hi hj h => by
    rw [lineG_get, lineG_get] at h
    rw [lineG_len] at hi hj
    exact lid_inj (by omega) (by omega) h
  low := fun k p hp => by
    rcases Nat.lt_or_ge k n with h | h
    · rw [lineG_pl h] at hp
      unfold ppl at hp
      split at hp
      · cases hp
      · simp at hp; omega
    · rw [plAt_out (by rw [lineG_len]; exact h)] at hp; cases hp
theorem lineG_at {n k : Nat} (hn : n ≤ 50) (hk : k < n) : atG (lineG n) (lid k) = some k :=
  atG_is (lineG_good hn) (by rw [lineG_len]; exact hk) (by rw [lineG_get])
theorem lineG_not {n k : Nat} (hn : n ≤ 50) (hk : n ≤ k) (h2 : k < 100) : atG (lineG n) (lid k) = none := by
  rw [atG_none]
  intro x hx e
  obtain ⟨j, hj, rfl⟩ := List.getElem_of_mem hx
  rw [lineG_get] at e
  rw [lineG_len] at hj
  have := lid_inj (by omega) h2 e
  omega
theorem lineG_places {n : Nat} (hn : n ≤ 50) : placesG (lineG n) (pps n) = some (ppl n) := by
  unfold pps ppl
  split
  · rfl
  · simp only [placesG]
    rw [lineG_at hn (by omega)]
theorem lineG_add {n : Nat} (hn : n ≤ 49) : addG (lineG n) (lid n) (pps n) = (0, lineG (n + 1)) := by
  unfold addG
  rw [lineG_not (by omega) (Nat.le_refl _) (by omega), lineG_places (by omega)]
  simp only
  rw [if_neg (lid_nz (by omega)), if_neg (by rw [lineG_len]; omega), lineG_succ]
theorem lineG_twice {n i : Nat} (hn : n ≤ 50) (hi : i < n) : addG (lineG n) (lid i) [lid n] = (8, lineG n) := by
  unfold addG
  rw [lineG_at hn hi, placesG_none.2 ⟨lid n, by simp, lineG_not hn (Nat.le_refl _) (by omega)⟩]
theorem lineG_none {n : Nat} (hn : n ≤ 50) : addG (lineG n) (lid n) [lid (n + 1)] = (6, lineG n) := by
  unfold addG
  rw [lineG_not hn (Nat.le_refl _) (by omega), placesG_none.2 ⟨lid (n + 1), by simp, lineG_not hn (by omega) (by omega)⟩]
theorem lineG_closed {n i : Nat} (hn : n ≤ 50) (hi : i < n) (k : Nat) (hk : k < n) : onG (closedG (lineG n) [i]) k = decide (k ≤ i) := by
  have F := closedG_fix (lineG_good hn) (l := [i]) (by simpa [lineG_len] using hi)
  have key : ∀ d k, n - k ≤ d → k < n → onG (closedG (lineG n) [i]) k = decide (k ≤ i) := by
    intro d
    induction d with
    | zero => intro k h1 h2; omega
    | succ d ih =>
      intro k h1 h2
      rw [Bool.eq_iff_iff, F.fix k (by rw [lineG_len]; exact h2), decide_eq_true_iff]
      constructor
      · rintro (h | ⟨j, h3, h4, h5, h6⟩)
        · have : k = i := by simpa using h
          omega
        · rw [lineG_len] at h4
          rw [ih j (by omega) h4, decide_eq_true_iff] at h5
          omega
      · intro h
        by_cases e : k = i
        · exact .inl (by simp [e])
        · refine .inr ⟨k + 1, by omega, by rw [lineG_len]; omega, ?_, ?_⟩
          · rw [ih (k + 1) (by omega) (by omega), decide_eq_true_iff]; omega
          · rw [lineG_pl (by omega)]
            unfold ppl
            rw [if_neg (by omega)]
            simp
  exact key (n - k) k (Nat.le_refl _) hk
theorem lineG_comes {n i k : Nat} (hn : n ≤ 50) (hi : i < n) (hk : k < n) : comesG (lineG n) (lid i) (lid k) = decide (k ≤ i) := by
  unfold comesG
  rw [lineG_at hn hi, lineG_at hn hk]
  exact lineG_closed hn hi k hk
theorem filter_le (n i : Nat) (hi : i < n) : ((List.range n).filter (fun k => decide (k ≤ i))).length = i + 1 := by
  induction n with
  | zero => omega
  | succ n ih =>
    rw [List.range_succ, List.filter_append, List.length_append]
    by_cases h : i = n
    · subst h
      rw [List.filter_eq_self.2 (fun k hk => by have := List.mem_range.1 hk; simpa using Nat.le_of_lt this)]
      simp
    · rw [ih (by omega)]
      simp; omega
theorem thoseG_size (L : List Gn) (f : Nat → Bool) : (thoseG L f).length = ((List.range L.length).filter f).length := by simp [thoseG]
theorem lineG_clo {n i : Nat} (hn : n ≤ 50) (hi : i < n) : (cloG (lineG n) [lid i]).length = i + 1 := by
  unfold cloG
  have e : [lid i].filterMap (atG (lineG n)) = [i] := by simp [lineG_at hn hi]
  rw [e, thoseG_size, lineG_len, ← filter_le n i hi]
  congr 1
  exact List.filter_congr (fun k hk => lineG_closed hn hi k (List.mem_range.1 hk))
theorem lineG_heads {n : Nat} (h0 : 0 < n) (hn : n ≤ 50) : headsG (lineG n) = [lid (n - 1)] := by
  unfold headsG thoseG
  have e : ∀ k, k < n → (!onG (parentsG (lineG n)) k) = decide (k = n - 1) := by
    intro k hk
    have h : onG (parentsG (lineG n)) k = true ↔ k + 1 < n := by
      rw [parentsG_is (lineG_good hn)]
      constructor
      · rintro ⟨j, hj, h⟩
        rw [lineG_len] at hj
        rw [lineG_pl hj] at h
        unfold ppl at h
        split at h
        · cases h
        · simp at h; omega
      · intro h
        refine ⟨k + 1, by rw [lineG_len]; exact h, ?_⟩
        rw [lineG_pl h]
        unfold ppl
        rw [if_neg (by omega)]
        simp
    by_cases h2 : k + 1 < n
    · rw [h.2 h2]
      have : ¬ k = n - 1 := by omega
      simp [this]
    · have h3 : onG (parentsG (lineG n)) k = false := by
        cases hb : onG (parentsG (lineG n)) k with
        | false => rfl
        | true => exact absurd (h.1 hb) h2
      rw [h3]
      have : k = n - 1 := by omega
      simp [this]
  rw [lineG_len, List.filter_congr (fun k hk => e k (List.mem_range.1 hk))]
  obtain ⟨m, rfl⟩ : ∃ m, n = m + 1 := ⟨n - 1, by omega⟩
  rw [List.range_succ, List.filter_append, List.filter_eq_nil_iff.2 (fun k hk => by have := List.mem_range.1 hk; simp; omega)]
  simp [lineG_id (show m < m + 1 by omega)]
theorem ppl_few (k : Nat) : (ppl k).length ≤ 1 := by unfold ppl; split <;> simp
theorem lineG_few {n : Nat} (k : Nat) : (plAt (lineG n) k).length ≤ 1000 := by
  rcases Nat.lt_or_ge k n with h | h
  · rw [lineG_pl h]; have := ppl_few k; omega
  · rw [plAt_out (by rw [lineG_len]; exact h)]; simp
end Go.Proofs.Ytajmgjhknmkfpaa
