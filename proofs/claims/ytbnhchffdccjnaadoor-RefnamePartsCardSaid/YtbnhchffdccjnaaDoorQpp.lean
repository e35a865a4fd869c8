/-
  Layer 3, plain: the names of QuoteParts, joined; nothing of the program.
-/
import Derived.Test.YtbnhchffdccjnaaDoorQq
namespace Go.Proofs.YtbnhchffdccjnaaDoor
set_option linter.unusedVariables false

/-- ".git", however it is written. -/
structure Git (g : List UInt8) (y1 y2 y3 : UInt8) : Prop where
  eq : g = [46, y1, y2, y3]
  h1 : y1 = 103 ∨ y1 = 71
  h2 : y2 = 105 ∨ y2 = 73
  h3 : y3 = 116 ∨ y3 = 84
def partOf (g : List UInt8) : Nat → List UInt8
  | 0 => [97]
  | 1 => [98, 32, 99]
  | 2 => [99, 97, 102, 195, 169]
  | 3 => [46, 46, 120]
  | 4 => g
  | 5 => [46, 46]
  | 6 => [46]
  | _ => []
/-- What is asked of a name. -/
structure NameOk (x : List UInt8) : Prop where
  slash : ∀ c ∈ x, c.toNat ≠ 47
  zero : ∀ c ∈ x, c.toNat ≠ 0
  safe : Safe x
  len : x.length ≤ 5
theorem nameOk_of (x : List UInt8) (h : (x.all fun c => decide (c.toNat ≠ 47 ∧ c.toNat ≠ 0 ∧ c.toNat < 128)) = true) (hl : x.length ≤ 5) : NameOk x := by
  rw [List.all_eq_true] at h
  have h2 := fun c hc => of_decide_eq_true (h c hc)
  exact ⟨fun c hc => (h2 c hc).1, fun c hc => (h2 c hc).2.1, safe_all x (fun c hc => (h2 c hc).2.2), hl⟩
theorem cafe_ok : NameOk [99, 97, 102, 195, 169] := ⟨by decide, by decide, safe_app (a := [99, 97, 102]) (b := [195, 169]) (safe_all _ (by decide)) safe_e, by decide⟩
theorem git_ok {g : List UInt8} {y1 y2 y3 : UInt8} (hg : Git g y1 y2 y3) : NameOk g ∧ nameL g = false := by
  obtain ⟨rfl, h1, h2, h3⟩ := hg
  rcases h1 with rfl | rfl <;> rcases h2 with rfl | rfl <;> rcases h3 with rfl | rfl <;> exact ⟨nameOk_of _ (by decide) (by decide), by decide⟩
theorem partOf_ok {g : List UInt8} {y1 y2 y3 : UInt8} (hg : Git g y1 y2 y3) (n : Nat) : NameOk (partOf g n) := by
  match n with
  | 0 => exact nameOk_of [97] (by decide) (by decide)
  | 1 => exact nameOk_of [98, 32, 99] (by decide) (by decide)
  | 2 => exact cafe_ok
  | 3 => exact nameOk_of [46, 46, 120] (by decide) (by decide)
  | 4 => exact (git_ok hg).1
  | 5 => exact nameOk_of [46, 46] (by decide) (by decide)
  | 6 => exact nameOk_of [46] (by decide) (by decide)
  | n + 7 => exact nameOk_of [] (by decide) (by decide)
theorem partOf_name {g : List UInt8} {y1 y2 y3 : UInt8} (hg : Git g y1 y2 y3) (n : Nat) : nameL (partOf g n) = decide (n < 4) := by
  match n with
  | 0 => exact (show nameL [97] = true by decide)
  | 1 => exact (show nameL [98, 32, 99] = true by decide)
  | 2 => exact (show nameL [99, 97, 102, 195, 169] = true by decide)
  | 3 => exact (show nameL [46, 46, 120] = true by decide)
  | 4 => exact (git_ok hg).2
  | 5 => exact (show nameL [46, 46] = false by decide)
  | 6 => exact (show nameL [46] = false by decide)
  | n + 7 =>
    have e : partOf g (n + 7) = [] := rfl
    rw [e, name_empty]
    symm
    rw [decide_eq_false_iff_not]
    omega
/-- Names with slashes between, as the law joins them. -/
def glue (s : List UInt8) (k : Nat) (x : List UInt8) : List UInt8 := (if 0 < k then s ++ [47] else s) ++ x
theorem glue_join (ns : List (List UInt8)) (x : List UInt8) : glue (joinL ns) ns.length x = joinL (ns ++ [x]) := by
  unfold glue
  cases ns with
  | nil => simp [joinL]
  | cons y r =>
    rw [if_pos (by simp), join_snoc _ _ (by simp), List.append_assoc]
    rfl
theorem join_len (ns : List (List UInt8)) (h : ∀ n ∈ ns, n.length ≤ 5) : (joinL ns).length ≤ 6 * ns.length := by
  induction ns with
  | nil => simp [joinL]
  | cons x r ih =>
    have hx := h x (by simp)
    cases r with
    | nil => simp [joinL]; omega
    | cons y r =>
      have := ih (fun n hn => h n (by simp at hn ⊢; right; exact hn))
      simp only [joinL, List.length_append, List.length_cons] at this ⊢
      omega
theorem join_zero (ns : List (List UInt8)) (h : ∀ n ∈ ns, ∀ c ∈ n, c.toNat ≠ 0) : ∀ c ∈ joinL ns, c.toNat ≠ 0 := by
  induction ns with
  | nil => simp [joinL]
  | cons x r ih =>
    have hx := h x (by simp)
    cases r with
    | nil => simpa [joinL] using hx
    | cons y r =>
      have ih2 := ih (fun n hn => h n (by simp at hn ⊢; right; exact hn))
      intro c hc
      have e : joinL (x :: y :: r) = x ++ 47 :: joinL (y :: r) := rfl
      rw [e, List.mem_append, List.mem_cons] at hc
      rcases hc with hc | rfl | hc
      · exact hx c hc
      · decide
      · exact ih2 c hc
/-- Which of them are a path. -/
theorem path_join (ns : List (List UInt8)) (hne : ns ≠ []) (hlen : ns.length ≤ 20) (hok : ∀ n ∈ ns, NameOk n) : pathL (joinL ns) = (decide (ns.length ≤ 16) && ns.all nameL) := by
  have h1 := join_len ns (fun n hn => (hok n hn).len)
  have h2 := split_join ns hne (fun n hn => (hok n hn).slash)
  have h3 : (joinL ns).any (fun c => c.toNat == 0) = false := by
    rw [List.any_eq_false]
    intro c hc
    have := join_zero ns (fun n hn => (hok n hn).zero) c hc
    simpa using this
  have h4 := safe_valid (safe_join ns (fun n hn => (hok n hn).safe))
  unfold pathL
  rw [h2, h3, h4]
  have h5 : decide ((joinL ns).length ≤ 400) = true := decide_eq_true (by omega)
  rw [h5]
  by_cases h6 : 1 ≤ (joinL ns).length
  · rw [decide_eq_true h6]; simp
  · have e : joinL ns = [] := List.eq_nil_of_length_eq_zero (by omega)
    rw [e] at h2
    have e2 : ns = [[]] := by rw [← h2]; rfl
    subst e2
    decide
end Go.Proofs.YtbnhchffdccjnaaDoor
