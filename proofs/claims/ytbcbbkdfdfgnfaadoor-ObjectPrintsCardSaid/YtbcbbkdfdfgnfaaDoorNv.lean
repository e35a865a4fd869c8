/-
  Layer 7: what a program that does nothing does not answer.
-/
import Derived.Test.YtbcbbkdfdfgnfaaDoorNs
import Derived.Lib.SlBytesConst
namespace Go.Proofs.YtbcbbkdfdfgnfaaDoor
set_option maxRecDepth 20000
open Go.RowKit
set_option linter.unusedVariables false
set_option linter.unusedSimpArgs false

theorem obj_hi : objO 1 [104, 105] = [98, 108, 111, 98, 32, 50, 0, 104, 105] := by
  unfold objO headO
  rw [numO_dec]
  rw [show ([104, 105] : List UInt8).length = 2 from rfl, Lib.decDigits_one (by decide)]
  rfl
theorem bat2 (w : World) (x y : UInt8) (fr : Nat × Nat) : BAt (w.alloc (.cells #[.int .u8 x.toNat, .int .u8 y.toNat] 5 fr)) (some ⟨w.heap.size, 0, none⟩) [x, y] := fun _ =>
  ⟨w.heap.size, 0, rfl, by simp, fun i hi => by
    rw [Lib.cell_of_heap (heap_alloc_new w _)]
    match i, hi with
    | 0, _ => rfl
    | 1, _ => rfl⟩
set_option maxHeartbeats 4000000 in
theorem awake7 (w : World) (tab : Tab w) : Calls Tryd.prog 7 #[] w fun e w' => e = .returned (.bool true) ∧ Below w.heap.size w w' := by
  have b0 := (Below.refl w.heap.size w).alloc (Nat.le_refl _) (.cells #[.int .u8 104, .int .u8 105] 5 (2, 3))
  have c1 := Print_good 1 (.inl rfl) (some ⟨w.heap.size, 0, none⟩) 2 2 [104, 105] _ rfl (by omega) (bat2 w 104 105 (2, 3)) (fun h => by cases h) (by omega) (tab.keep b0)
  rw [obj_hi] at c1
  have kc := Lib.run_convert_bytes_const (P := Tryd.prog) w 22 5 #[Value.int .u8 104, Value.int .u8 105] 2 2 Tryd.underlying22 Tryd.underlying5
  rw [show (#[Value.int .u8 104, Value.int .u8 105] : Array Value).size = 2 from rfl] at kc
  have C1 := Lib.hid c1
  have B0 := Lib.hid b0
  clear c1 b0 tab
  go_enter Tryd.func7, Tryd.ntmps7
  go_wp2_with fail
  refine C1.out.mono ?_
  rintro e w1 ⟨v, rfl, r1, f1, b1⟩
  obtain ⟨va, vc, rfl, _, _, hb, _⟩ := r1.shape
  have cv := hb.conv (P := Tryd.prog) vc 22 5 Tryd.underlying22 Tryd.underlying5 9 Tryd.underlying9
  have B1 := Lib.hid (B0.out.trans (b1.mono B0.out.size))
  rw [show ([98, 108, 111, 98, 32, 50, 0, 104, 105] : List UInt8).length = 9 from rfl] at cv ⊢
  clear C1 r1 f1 b1 hb
  go_wp2
  go_ret
  exact ⟨rfl, B1.out⟩
end Go.Proofs.YtbcbbkdfdfgnfaaDoor
