/-
  Layer 11, plain: names joined, with one that may not be behind them; names of one letter, as long as they may be.
-/
import Derived.Test.YtbnhchffdccjnaaDoorVa
import Derived.Test.YtbnhchffdccjnaaDoorQpp
namespace Go.Proofs.YtbnhchffdccjnaaDoor
set_option linter.unusedVariables false
set_option linter.unusedSimpArgs false

def goodN (x : List UInt8) : Bool := partR x && x.all okR && pairsL x && !([46].isSuffixOf x)
structure GoodName (x : List UInt8) : Prop where
  good : goodN x = true
  slash : ∀ c ∈ x, c.toNat ≠ 47
  safe : Safe x
  len : x.length ≤ 5
theorem goodN_parts {x : List UInt8} (h : goodN x = true) : partR x = true ∧ x.all okR = true ∧ pairsL x = true ∧ ([46].isSuffixOf x : Bool) = false ∧ x ≠ [] := by
  unfold goodN at h
  simp only [Bool.and_eq_true, Bool.not_eq_true'] at h
  obtain ⟨⟨⟨h1, h2⟩, h3⟩, h4⟩ := h
  exact ⟨h1, h2, h3, h4, by rintro rfl; simp [partR] at h1⟩
theorem pair_slash (d : UInt8) : pairB d 47 = false := by unfold pairB; simp
theorem slash_pair (d : UInt8) : pairB 47 d = false := by unfold pairB; simp
theorem pairs_join (a b : List UInt8) (ha : pairsL a = true) (hb : pairsL b = true) : pairsL (a ++ 47 :: b) = true := by
  have e : pairsL (47 :: b) = true := by
    cases b with
    | nil => rfl
    | cons d r => rw [pairs_cons, hb, slash_pair]; rfl
  rw [pairs_app, ha, e, show (47 :: b).getD 0 0 = (47 : UInt8) from rfl, pair_slash]
  simp
theorem join_good : ∀ (ns : List (List UInt8)), ns ≠ [] → (∀ x ∈ ns, GoodName x) → (joinL ns).all okR = true ∧ pairsL (joinL ns) = true ∧ ([46].isSuffixOf (joinL ns) : Bool) = false ∧ joinL ns ≠ []
  | [], h, _ => absurd rfl h
  | [x], _, h => by
    obtain ⟨h1, h2, h3, h4, h5⟩ := goodN_parts (h x (by simp)).good
    exact ⟨h2, h3, h4, h5⟩
  | x :: y :: r, _, h => by
    obtain ⟨i1, i2, i3, i4⟩ := join_good (y :: r) (by simp) (fun n hn => h n (by simp at hn ⊢; right; exact hn))
    obtain ⟨h1, h2, h3, h4, h5⟩ := goodN_parts (h x (by simp)).good
    refine ⟨?_, pairs_join x _ h3 i2, ?_, by simp [joinL, h5]⟩
    · rw [joinL, List.all_append, h2, List.all_cons, i1]; rfl
    · have := suffix_dot (x ++ [47]) (joinL (y :: r)) i4
      rw [List.append_assoc] at this
      rw [joinL, show x ++ 47 :: joinL (y :: r) = x ++ ([47] ++ joinL (y :: r)) from rfl, this]
      exact i3
theorem parts_ref (ns : List (List UInt8)) (h0 : ns ≠ []) (h : ∀ x ∈ ns, GoodName x) (hn : ns.length ≤ 12) : refL (joinL ns) = decide (2 ≤ ns.length) := by
  obtain ⟨i1, i2, i3, i4⟩ := join_good ns h0 h
  have hl := join_len ns (fun x hx => (h x hx).len)
  have hv : Lib.validD (joinL ns) = true := safe_valid (safe_join ns (fun x hx => (h x hx).safe))
  have hs : splitL (joinL ns) = ns := split_join ns h0 (fun x hx => (h x hx).slash)
  have hp : ns.all partR = true := by
    rw [List.all_eq_true]
    exact fun x hx => (goodN_parts (h x hx).good).1
  unfold refL
  rw [i1, i2, i3, hv, hs, hp, decide_eq_true (show (joinL ns).length ≤ 200 by omega)]
  simp
theorem bad_ref (a w : List UInt8) (hs : ∀ c ∈ w, c.toNat ≠ 47) (hb : goodN w = false) : refL (a ++ 47 :: w) = false := by
  rw [← Bool.not_eq_true]
  intro h
  unfold refL at h
  simp only [Bool.and_eq_true, Bool.not_eq_true', decide_eq_true_eq] at h
  obtain ⟨⟨⟨⟨⟨⟨h1, h2⟩, h3⟩, h4⟩, h5⟩, h6⟩, h7⟩ := h
  rw [split_app w 47 (by decide) a, split_none w hs, List.all_append] at h5
  simp only [List.all_cons, List.all_nil, Bool.and_true, Bool.and_eq_true] at h5
  rw [List.all_append, List.all_cons, Bool.and_eq_true, Bool.and_eq_true] at h6
  rw [pairs_app, Bool.and_eq_true, Bool.and_eq_true] at h7
  have hw : w ≠ [] := by rintro rfl; simp [partR] at h5
  have p7 : pairsL w = true := by
    have := h7.1.2
    cases w with
    | nil => exact absurd rfl hw
    | cons d r => rw [pairs_cons, Bool.and_eq_true] at this; exact this.2
  have h3' : ([46].isSuffixOf w : Bool) = false := by
    have := suffix_dot (a ++ [47]) w hw
    rw [List.append_assoc] at this
    rw [show a ++ 47 :: w = a ++ ([47] ++ w) from rfl, this] at h3
    exact h3
  have : goodN w = true := by
    unfold goodN
    rw [h5.2, h6.2.2, p7, h3']
    rfl
  rw [this] at hb
  cases hb
def nameOf11 : Nat → List UInt8
  | 0 => [97]
  | 1 => [98, 45, 99]
  | 2 => [118, 49, 46, 48]
  | 3 => [99, 97, 102, 195, 169]
  | _ => [64]
theorem name_good (m : Nat) : GoodName (nameOf11 m) := by
  have key : ∀ x : List UInt8, goodN x = true → (x.all fun c => decide (c.toNat ≠ 47 ∧ c.toNat < 128)) = true → x.length ≤ 5 → GoodName x := by
    intro x h1 h2 h3
    rw [List.all_eq_true] at h2
    have h4 := fun c hc => of_decide_eq_true (h2 c hc)
    exact ⟨h1, fun c hc => (h4 c hc).1, safe_all x (fun c hc => (h4 c hc).2), h3⟩
  match m with
  | 0 => exact key [97] (by decide) (by decide) (by decide)
  | 1 => exact key [98, 45, 99] (by decide) (by decide) (by decide)
  | 2 => exact key [118, 49, 46, 48] (by decide) (by decide) (by decide)
  | 3 => exact ⟨by decide, by decide, safe_app (a := [99, 97, 102]) (b := [195, 169]) (safe_all _ (by decide)) safe_e, by decide⟩
  | n + 4 => exact key [64] (by decide) (by decide) (by decide)
def worseOf : Nat → List UInt8
  | 0 => []
  | 1 => [46, 97]
  | 2 => [97, 46, 108, 111, 99, 107]
  | 3 => [97, 46, 46, 98]
  | 4 => [97, 64, 123, 98]
  | 5 => [97, 32, 98]
  | 6 => [97, 126]
  | 7 => [97, 94]
  | 8 => [97, 58]
  | 9 => [97, 63]
  | 10 => [97, 42]
  | 11 => [97, 91]
  | 12 => [97, 92]
  | 13 => [97, 127]
  | 14 => [97, 1]
  | _ => [97, 46]
theorem worse_bad (m : Nat) (hm : m < 16) : goodN (worseOf m) = false ∧ (∀ c ∈ worseOf m, c.toNat ≠ 47) ∧ (worseOf m).length ≤ 6 := by
  have h : ∀ m, m < 16 → goodN (worseOf m) = false ∧ (∀ c ∈ worseOf m, c.toNat ≠ 47) ∧ (worseOf m).length ≤ 6 := by decide
  exact h m hm
/-- So many letters. -/
theorem x_branch (k : Nat) (h0 : 0 < k) : branchL (List.replicate k 120) = decide (k ≤ 189) := by
  have h2 : List.replicate k (120 : UInt8) ≠ [] := by intro e; have := congrArg List.length e; simp at this; omega
  have hs : splitL (List.replicate k 120) = [List.replicate k 120] := split_none _ (by intro c hc; rw [List.eq_of_mem_replicate hc]; decide)
  have hp : pairsL (List.replicate k 120) = true := by
    rw [pairs_iff]
    intro i hi
    rw [List.length_replicate] at hi
    rw [List.getD_eq_getElem?_getD, List.getElem?_eq_getElem (by simp; omega), List.getElem_replicate, List.getD_eq_getElem?_getD, List.getElem?_eq_getElem (by simp; omega), List.getElem_replicate]
    decide
  have ho : (List.replicate k (120 : UInt8)).all okR = true := by
    rw [List.all_eq_true]
    intro c hc
    rw [List.eq_of_mem_replicate hc]; decide
  have hsuf : ∀ t : List UInt8, ∀ z : UInt8, z ≠ 120 → (t ++ [z]).isSuffixOf (List.replicate k (120 : UInt8)) = false := by
    intro t z hz
    rw [← Bool.not_eq_true, List.isSuffixOf_iff_suffix]
    intro hh
    have := hh.subset (show z ∈ t ++ [z] by simp)
    exact hz (List.eq_of_mem_replicate this)
  have hpre : ∀ z : UInt8, z ≠ 120 → ([z] : List UInt8).isPrefixOf (List.replicate k (120 : UInt8)) = false := by
    intro z hz
    rw [← Bool.not_eq_true, List.isPrefixOf_iff_prefix]
    intro hh
    have := hh.subset (show z ∈ [z] by simp)
    exact hz (List.eq_of_mem_replicate this)
  have hpart : partR (List.replicate k 120) = true := by
    unfold partR
    rw [hpre 46 (by decide), show lockL = [46, 108, 111, 99] ++ [107] from rfl, hsuf _ 107 (by decide)]
    simp
    omega
  have hv : Lib.validD (List.replicate k (120 : UInt8)) = true := safe_valid (safe_all _ (by intro c hc; rw [List.eq_of_mem_replicate hc]; decide))
  rw [Bool.eq_iff_iff, branch_iff, decide_eq_true_eq, List.length_replicate, hs]
  constructor
  · exact fun h => h.1
  · intro h
    exact ⟨h, hv, hsuf [] 46 (by decide), h2, by simp [hpart], ho, hp, hpre 45 (by decide)⟩
theorem x_ref (k : Nat) (h0 : 0 < k) : refL (headsL ++ List.replicate k 120) = decide (k ≤ 189) := by
  have h := x_branch k h0
  unfold branchL at h
  have hpre : ([45] : List UInt8).isPrefixOf (List.replicate k (120 : UInt8)) = false := by
    rw [← Bool.not_eq_true, List.isPrefixOf_iff_prefix]
    intro hh
    have := hh.subset (show (45 : UInt8) ∈ [45] by simp)
    exact absurd (List.eq_of_mem_replicate this) (by decide)
  rw [hpre] at h
  simpa using h
end Go.Proofs.YtbnhchffdccjnaaDoor
