/-
  Layer 3, plain: paths, as functions of lists of bytes; nothing of the program.
-/
import Derived.Lib.ValidLaws
namespace Go.Proofs.YtbnhchffdccjnaaDoor
set_option linter.unusedVariables false

/-- The names of a text: what stands between slashes. -/
def splitL : List UInt8 → List (List UInt8)
  | [] => [[]]
  | c :: r => if c.toNat = 47 then [] :: splitL r else
      match splitL r with
      | [] => [[c]]
      | n :: m => (c :: n) :: m
def lowB (c : UInt8) : UInt8 := if 65 ≤ c.toNat ∧ c.toNat ≤ 90 then UInt8.ofNat (c.toNat + 32) else c
def nameL (l : List UInt8) : Bool := !(l == []) && !(l == [46]) && !(l == [46, 46]) && !(l.map lowB == [46, 103, 105, 116])
/-- Is it a path? -/
def pathL (l : List UInt8) : Bool :=
  decide (1 ≤ l.length) && decide (l.length ≤ 400) && Lib.validD l && !l.any (fun c => c.toNat == 0) && decide ((splitL l).length ≤ 16) && (splitL l).all nameL
theorem split_slash (c : UInt8) (r : List UInt8) (h : c.toNat = 47) : splitL (c :: r) = [] :: splitL r := by
  rw [splitL.eq_def]; simp only [if_pos h]
theorem split_other (c : UInt8) (r n : List UInt8) (m : List (List UInt8)) (h : c.toNat ≠ 47) (hr : splitL r = n :: m) : splitL (c :: r) = (c :: n) :: m := by
  rw [splitL.eq_def]; simp only [if_neg h, hr]
theorem split_ne (l : List UInt8) : splitL l ≠ [] := by
  cases l with
  | nil => simp [splitL]
  | cons c r =>
    rw [splitL.eq_def]
    simp only
    split
    · simp
    · split <;> simp
theorem split_form (l : List UInt8) : ∃ n m, splitL l = n :: m := by
  cases h : splitL l with
  | nil => exact absurd h (split_ne l)
  | cons n m => exact ⟨n, m, rfl⟩
theorem split_none : ∀ (x : List UInt8), (∀ c ∈ x, c.toNat ≠ 47) → splitL x = [x]
  | [], _ => rfl
  | c :: r, h => split_other c r r [] (h c (by simp)) (split_none r (fun d hd => h d (by simp [hd])))
theorem split_at (y : List UInt8) (z : UInt8) (hz : z.toNat = 47) : ∀ (x : List UInt8), (∀ c ∈ x, c.toNat ≠ 47) → splitL (x ++ z :: y) = x :: splitL y
  | [], _ => split_slash z y hz
  | c :: r, h => split_other c (r ++ z :: y) r (splitL y) (h c (by simp)) (split_at y z hz r (fun d hd => h d (by simp [hd])))
theorem split_app (y : List UInt8) (z : UInt8) (hz : z.toNat = 47) : ∀ (x : List UInt8), splitL (x ++ z :: y) = splitL x ++ splitL y
  | [] => split_slash z y hz
  | c :: r => by
    have ih := split_app y z hz r
    by_cases hc : c.toNat = 47
    · rw [List.cons_append, split_slash c _ hc, split_slash c _ hc, ih]; rfl
    · obtain ⟨n, m, h⟩ := split_form r
      rw [h] at ih
      rw [List.cons_append, split_other c _ n (m ++ splitL y) hc ih, split_other c r n m hc h]; rfl
theorem name_empty : nameL [] = false := rfl
/-- With a slash at its end, or its head, a text is no path. -/
theorem path_end (l : List UInt8) (z : UInt8) (hz : z.toNat = 47) : pathL (l ++ [z]) = false := by
  unfold pathL
  rw [split_app [] z hz l]
  simp [splitL, name_empty]
theorem path_head (l : List UInt8) (z : UInt8) (hz : z.toNat = 47) : pathL (z :: l) = false := by
  unfold pathL
  rw [show splitL (z :: l) = [] :: splitL l by rw [splitL.eq_def]; simp only [if_pos hz]]
  simp [name_empty]
theorem path_nil : pathL [] = false := rfl
/-- Names with a slash between. -/
def joinL : List (List UInt8) → List UInt8
  | [] => []
  | [x] => x
  | x :: y :: r => x ++ 47 :: joinL (y :: r)
theorem split_join : ∀ (ns : List (List UInt8)), ns ≠ [] → (∀ n ∈ ns, ∀ c ∈ n, c.toNat ≠ 47) → splitL (joinL ns) = ns
  | [], h, _ => absurd rfl h
  | [x], _, h => split_none x (h x (by simp))
  | x :: y :: r, _, h => by
    rw [joinL, split_at _ 47 (by decide) x (h x (by simp)), split_join (y :: r) (by simp) (fun n hn => h n (by simp at hn ⊢; right; exact hn))]
theorem join_snoc : ∀ (ns : List (List UInt8)) (x : List UInt8), ns ≠ [] → joinL (ns ++ [x]) = joinL ns ++ 47 :: x
  | [], _, h => absurd rfl h
  | [y], x, _ => rfl
  | y :: z :: r, x, _ => by
    have ih := join_snoc (z :: r) x (by simp)
    simp only [List.cons_append, joinL, List.append_assoc] at ih ⊢
    rw [ih]
/-! What is right UTF-8. -/
/-- Bytes that stand by themselves: whatever follows, they are right. -/
def Safe (a : List UInt8) : Prop := ∀ t, Lib.validD (a ++ t) = Lib.validD t
theorem safe_nil : Safe [] := fun _ => rfl
theorem safe_app {a b : List UInt8} (ha : Safe a) (hb : Safe b) : Safe (a ++ b) := fun t => by rw [List.append_assoc, ha, hb]
theorem safe_ascii (c : UInt8) (h : c.toNat < 128) : Safe [c] := fun t => Lib.validD_cons c t h
theorem safe_all : ∀ (l : List UInt8), (∀ c ∈ l, c.toNat < 128) → Safe l
  | [], _ => safe_nil
  | c :: r, h => safe_app (a := [c]) (safe_ascii c (h c (by simp))) (safe_all r (fun d hd => h d (by simp [hd])))
theorem safe_join : ∀ (ns : List (List UInt8)), (∀ n ∈ ns, Safe n) → Safe (joinL ns)
  | [], _ => safe_nil
  | [x], h => h x (by simp)
  | x :: y :: r, h => by
    have e : joinL (x :: y :: r) = x ++ ([47] ++ joinL (y :: r)) := rfl
    rw [e]
    exact safe_app (h x (by simp)) (safe_app (safe_ascii 47 (by decide)) (safe_join (y :: r) (fun n hn => h n (by simp at hn ⊢; right; exact hn))))
theorem safe_valid {l : List UInt8} (h : Safe l) : Lib.validD l = true := by
  have := h []
  rw [List.append_nil] at this
  rw [this]; rfl
theorem safe_e : Safe [0xc3, 0xa9] := fun t => by
  rw [Lib.validD_lead _ (by simp) (by simp)]
  have e : Lib.checkN ([0xc3, 0xa9] ++ t : List UInt8).length 169 (([0xc3, 0xa9] ++ t : List UInt8).getD 2 0).toNat (([0xc3, 0xa9] ++ t : List UInt8).getD 3 0).toNat (Lib.firstT 195 % 8) (Lib.accLo (Lib.firstT 195 / 16)) (Lib.accHi (Lib.firstT 195 / 16)) = some 2 := by
    rw [show Lib.firstT 195 % 8 = 2 by decide, show Lib.accLo (Lib.firstT 195 / 16) = 128 by decide, show Lib.accHi (Lib.firstT 195 / 16) = 191 by decide]
    unfold Lib.checkN
    rw [if_pos rfl, if_neg (by simp)]
  have e2 : (([0xc3, 0xa9] ++ t : List UInt8).getD 1 0).toNat = 169 := rfl
  have e3 : (([0xc3, 0xa9] ++ t : List UInt8).getD 0 0).toNat = 195 := rfl
  rw [e2, e3, e]
  rfl
end Go.Proofs.YtbnhchffdccjnaaDoor
