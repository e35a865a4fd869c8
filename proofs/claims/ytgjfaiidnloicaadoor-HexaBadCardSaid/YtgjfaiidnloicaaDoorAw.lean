/-
  Layer 1's awake answers true.
-/
import Derived.Test.YtgjfaiidnloicaaDoorHb
import Derived.Test.YtgjfaiidnloicaaDoorHc
namespace Go.Proofs.YtgjfaiidnloicaaDoor
open Go.RowKit
set_option linter.unusedVariables false

theorem bat_two (w : World) (x y : UInt8) : BAt (w.alloc (.cells #[.int .u8 x.toNat, .int .u8 y.toNat] 5)) (some ⟨w.heap.size, 0, none⟩) [x, y] := fun _ =>
  ⟨w.heap.size, 0, rfl, by simp, fun i hi => by
    rw [Lib.cell_of_heap (heap_alloc_new w _)]
    match i, hi with
    | 0, _ => rfl
    | 1, _ => rfl⟩
theorem hex_lit : hexL [10, 255] = [48, 97, 102, 102] := by decide
theorem itoa_lit : Lib.itoa (-5) = [45, 53] := by
  rw [Lib.itoa, if_pos (by decide)]
  rw [show (-5 : Int).natAbs = 5 from rfl, Lib.decDigits_one (by decide)]
  rfl
set_option maxHeartbeats 400000 in
theorem awake_any (w : World) (tab : Tab w) :
    Calls Tryd.prog 8 #[] w fun e w' => e = .returned (.bool true) ∧ Below w.heap.size w w' := by
  have hb := bat_two w 10 255
  have C := Lib.hid (Hex_any (some ⟨w.heap.size, 0, none⟩) 2 2 [10, 255] _ hb rfl (by decide))
  have T := Lib.hid tab
  clear hb tab
  rw [hex_lit] at C
  go_enter Tryd.func8, Tryd.ntmps8
  go_wp2_with fail
  refine C.out.mono ?_
  rintro e w1 ⟨rfl, hb1⟩
  have hbw : Below w.heap.size w w1 := ((Below.refl _ w).alloc (Nat.le_refl _) _).trans (hb1.mono (by simp))
  have N := Number_any (-5) (by decide) (by decide) w1 (T.out.keep hbw)
  rw [itoa_lit] at N
  have HN := Lib.hid N
  clear N hb1
  go_wp2_with fail
  refine HN.out.mono ?_
  rintro e w2 ⟨rfl, hb2⟩
  go_wp2
  go_ret
  exact ⟨rfl, hbw.trans (hb2.mono hbw.size)⟩
end Go.Proofs.YtgjfaiidnloicaaDoor
