/-
  What stands behind the first bytes of a row (cut out of Fal).
-/
import Derived.Test.YtbilempgnpnacaaFdc
namespace Go.Proofs.Ytbilempgnpnacaa
open Go.RowKit
set_option linter.unusedVariables false
set_option linter.unusedSimpArgs false

theorem bat_drop {w : World} {a : Option Addr} {l : List UInt8} (h : BAt w a l) (c k : Nat) (hk : k ≤ l.length) (hc : l.length ≤ c) : BAt w (if c = k then a else a.map (·.add k)) (l.drop k) := by
  by_cases hp : 0 < (l.drop k).length
  · have hl : k < l.length := by rw [List.length_drop] at hp; omega
    rw [if_neg (by omega)]
    obtain ⟨b, o, rfl, hb, hcell⟩ := h (by omega)
    simp only [Option.map_some, addr_add]
    have := (show BAt w (some ⟨b, o, none⟩) l from fun _ => ⟨b, o, rfl, hb, hcell⟩).cut k (l.length - k) (by omega)
    rwa [List.take_of_length_le (by rw [List.length_drop]; exact Nat.le_refl _)] at this
  · have e : l.drop k = [] := List.eq_nil_of_length_eq_zero (by omega)
    rw [e]; exact BAt.nil _ _
end Go.Proofs.Ytbilempgnpnacaa
