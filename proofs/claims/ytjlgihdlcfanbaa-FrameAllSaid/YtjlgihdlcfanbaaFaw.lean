/-
  Layer 5: awake.
-/
import Derived.Test.YtjlgihdlcfanbaaFk
import Derived.Lib.SlBytesConst
import Derived.Deep.QuietTactic
import Derived.BigQuiet
namespace Go.Proofs.Ytjlgihdlcfanbaa
open Go.RowKit
set_option linter.unusedVariables false
set_option linter.unusedSimpArgs false

/-- A row's bytes, in cells. -/
theorem Row.cells {w : World} {v : Value} {l : List UInt8} (h : Row w v l) (hp : 0 < l.length) : ∃ g c, v = .slice (some ⟨g, 0, none⟩) l.length c ∧ l.length ≤ c ∧ c ≤ maxLen ∧ g < w.heap.size ∧ ∀ i, i < l.length → w.cell? ⟨g, i, none⟩ = some (.int .u8 (l.getD i 0).toNat) := by
  rcases h with ⟨a, rfl, rfl⟩ | ⟨g, cap, cur, rfl, hh, h1, h2, h3, h4⟩
  · exact absurd hp (Nat.lt_irrefl 0)
  · refine ⟨g, cap + 1, rfl, h1, h2, (Array.getElem?_eq_some_iff.1 hh).1, fun i hi => ?_⟩
    have e : (cur.toList.take l.length)[i]? = (Lib.byteCells l)[i]? := by rw [h4]
    rw [List.getElem?_take, if_pos hi, byteCells_at, List.getElem?_eq_getElem hi] at e
    rw [cell_of_row w g i cur _ _ hh, ← Array.getElem?_toList, e]
    simp [hi]
set_option maxHeartbeats 4000000 in
theorem awake5 (w : World) : Calls Try.prog 8 #[] w fun e w' => e = .returned (.bool true) ∧ Below w.heap.size w w' := by
  have hL : (packL 1 [97]).length = 15 := by rw [packL_len]; rfl
  have h0 : (packL 1 [97]).getD 0 0 = 254 := by
    have := packL_app 1 [97] []
    rw [List.append_nil] at this
    rw [this]; rfl
  have h6 : (packL 1 [97]).getD 6 0 = 97 := by
    have := packL_app 1 [97] []
    rw [List.append_nil] at this
    rw [this]; rfl
  have C := Lib.hid (fun wq a (hb : BAt wq a [97]) (hno : a = none → 1 = 0 ∧ 1 = 0) => Pack_ok 1 a 1 1 [97] wq (by decide) rfl hb hno (by decide) (by decide))
  have HL := Lib.hid hL; have H0 := Lib.hid h0; have H6 := Lib.hid h6
  clear hL h0 h6
  go_enter Try.func8, Try.ntmps8
  have kc := Lib.run_convert_bytes_const (P := Try.prog) w 22 5 #[Value.int .u8 97] 1 1 Try.underlying22 Try.underlying5
  go_wp2_with fail
  clear kc
  have hbq : Below w.heap.size w (w.alloc (.cells #[Value.int .u8 97] 5 (1, 2))) := (Below.refl _ w).alloc (Nat.le_refl _) _
  have hq0 : (w.alloc (.cells #[Value.int .u8 97] 5 (1, 2))).heap[w.heap.size]? = some (.cells #[Value.int .u8 97] 5 (1, 2)) := heap_alloc_new w _
  generalize w.alloc (.cells #[Value.int .u8 97] 5 (1, 2)) = wq at hbq hq0 ⊢
  refine (C.out wq (some ⟨w.heap.size, 0, none⟩) (fun _ => ⟨_, _, rfl, (Array.getElem?_eq_some_iff.1 hq0).1, fun i hi => by
    have hi2 : i < 1 := hi
    obtain rfl : i = 0 := by omega
    rw [cell_of_row wq _ _ _ _ _ hq0]; rfl⟩) (fun h => by cases h)).mono ?_
  rintro e w1 ⟨v, rfl, hr, _, hb1⟩
  obtain ⟨g, c, rfl, hc1, hc2, hg, hcell⟩ := hr.cells (by rw [HL.out]; decide)
  have q0 := hcell 0 (by rw [HL.out]; decide)
  have q6 := hcell 6 (by rw [HL.out]; decide)
  rw [H0.out] at q0
  rw [H6.out] at q6
  rw [HL.out] at hc1 ⊢
  have hb01 := hbq.trans (hb1.mono hbq.size)
  have Q0 : w1.cell? ⟨g, 0, none⟩ = some (.int .u8 254) := q0
  have Q6 : w1.cell? ⟨g, 6, none⟩ = some (.int .u8 97) := q6
  clear C hbq hq0 hr hcell hb1 q0 q6
  go_wp2
  go_ret
  exact ⟨rfl, hb01⟩
end Go.Proofs.Ytjlgihdlcfanbaa
