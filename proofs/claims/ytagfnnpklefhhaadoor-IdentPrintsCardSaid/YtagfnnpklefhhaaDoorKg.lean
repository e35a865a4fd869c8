/-
  Layer 6: both ways to parse are one; numbers that fit; how long a text is.
-/
import Derived.Test.YtagfnnpklefhhaaDoorKf
import Derived.Test.YtagfnnpklefhhaaDoorKe
namespace Go.Proofs.YtagfnnpklefhhaaDoor
open Go.RowKit
set_option linter.unusedVariables false
set_option linter.unusedSimpArgs false

theorem num_itoa : Num Lib.itoa takeN := ⟨fun v h0 h1 => (take_itoa v (by omega) (by omega)).1, fun v h0 h1 => by
  have h := (take_itoa v (by omega) (by omega)).2.1
  cases e : Lib.itoa v with
  | nil => exact absurd e h
  | cons _ _ => simp⟩
theorem itoa_no_blank : ∀ v, 0 ≤ v → v ≤ 1099511627775 → ∀ c ∈ Lib.itoa v, c ≠ 32 := by
  intro v h0 h1 c hc
  unfold Lib.itoa at hc
  rw [if_neg (by omega)] at hc
  have := (decDigits_spec v.toNat).1 c hc
  intro e
  rw [e] at this
  exact absurd this (by decide)
/-- Both parse alike. -/
theorem parse_alike (s : List UInt8) : parseP Lib.itoa takeN s = parseR Lib.itoa takeN s := parse_same num_itoa itoa_no_blank s
theorem parse_nil : parseP Lib.itoa takeN [] = none := by rw [parse_alike]; exact parseR_badA (.inl (Nat.zero_le _))
theorem parse_right (i : Idt) (h : rightI i = true) : parseP Lib.itoa takeN (printI Lib.itoa i) = some i := by rw [parse_alike]; exact parse_print num_itoa h
theorem parse_some (s : List UInt8) (i : Idt) (h : parseP Lib.itoa takeN s = some i) : rightI i = true ∧ printI Lib.itoa i = s := by rw [parse_alike] at h; exact parse_only h
theorem right_len (i : Idt) (h : rightI i = true) : i.name.length ≤ 200 ∧ i.email.length ≤ 200 := by
  obtain ⟨r1, r2, _⟩ := (right_iff i).1 h
  exact ⟨((word_iff _).1 r1).2.1, ((word_iff _).1 r2).2.1⟩
theorem print_len (i : Idt) : (printI Lib.itoa i).length ≤ 1000 := by
  unfold printI
  split
  · rename_i h
    obtain ⟨r1, r2, r3, r4, r5, r6⟩ := (right_iff i).1 h
    have l1 := ((word_iff _).1 r1).2.1
    have l2 := ((word_iff _).1 r2).2.1
    have l3 := num_len i.whn r3 r4
    have l4 := zone_len i.zone
    have la : (aheadT i.name).length ≤ 201 := by
      unfold aheadT
      split
      · simp
      · simp; omega
    unfold textT
    simp only [List.length_append, List.length_cons]
    omega
  · simp
theorem idtA_some (i : Idt) : idtA (some i) = .tuple #[.agg #[.string ⟨i.name.toArray⟩, .string ⟨i.email.toArray⟩, .int .i64 i.whn, .int .i64 i.zone], .int .i64 0] := rfl
theorem idtA_none : idtA none = .tuple #[.agg #[.string ⟨#[]⟩, .string ⟨#[]⟩, .int .i64 0, .int .i64 0], .int .i64 4] := rfl
end Go.Proofs.YtagfnnpklefhhaaDoor
