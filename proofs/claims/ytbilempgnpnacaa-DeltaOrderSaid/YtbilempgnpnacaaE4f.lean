/-
  Layer 14, the laws' helper: awake.
-/
import Derived.Test.YtbilempgnpnacaaE4e
import Derived.Lib.SlBytesConst
namespace Go.Proofs.Ytbilempgnpnacaa
set_option maxRecDepth 20000
open Go.RowKit
set_option linter.unusedVariables false
set_option linter.unusedSimpArgs false

theorem bat3 {w : World} {g : Nat} {x y z : UInt8} {t : TypeId} {fr : Nat × Nat} (h : w.heap[g]? = some (.cells #[.int .u8 x.toNat, .int .u8 y.toNat, .int .u8 z.toNat] t fr)) : BAt w (some ⟨g, 0, none⟩) [x, y, z] := fun _ =>
  ⟨g, 0, rfl, lt_of_heap h, fun i hi => by
    have hi2 : i < 3 := hi
    rw [Nat.zero_add, cell_of_row w g i _ _ _ h]
    match i, hi2 with
    | 0, _ => rfl
    | 1, _ => rfl
    | 2, _ => rfl⟩
theorem alloc_one (w : World) (o : Obj) : (w.alloc o).heap.size = w.heap.size + 1 := by simp
theorem made_abc (a : Option Addr) (c : Nat) : madeL [97, 98, 99] [97, 120, 99] a c = [⟨1, 2, .slice a 1 c, [120]⟩] := by
  have h1 : fromL [97, 98, 99] [97, 120, 99] = 1 := by decide
  have h2 : tailL [97, 98, 99] [97, 120, 99] = 1 := by decide
  have h3 : putL [97, 98, 99] [97, 120, 99] = [120] := by decide
  unfold madeL
  rw [if_neg (by decide), h1, h2, h3]
  rfl
set_option maxHeartbeats 8000000 in
theorem awake14 (w : World) : Calls Try.prog 8 #[] w fun e w' => e = .returned (.bool true) ∧ Below w.heap.size w w' := by
  obtain ⟨A, hA⟩ : ∃ A : Array Value, A = #[.int .u8 97, .int .u8 98, .int .u8 99] := ⟨_, rfl⟩
  obtain ⟨B, hB⟩ : ∃ B : Array Value, B = #[.int .u8 97, .int .u8 120, .int .u8 99] := ⟨_, rfl⟩
  have b1 := (Below.refl w.heap.size w).alloc (Nat.le_refl _) (.cells A 5 (3, 4))
  have b2 := b1.alloc b1.size (.cells B 5 (3, 4))
  have e1 : (w.alloc (.cells A 5 (3, 4))).heap.size = w.heap.size + 1 := by simp
  have g1 := (((Below.refl (w.alloc (.cells A 5 (3, 4))).heap.size (w.alloc (.cells A 5 (3, 4)))).alloc (Nat.le_refl _) (.cells B 5 (3, 4))).block w.heap.size (by rw [e1]; omega)).trans (heap_alloc_new w _)
  have g2 := heap_alloc_new (w.alloc (.cells A 5 (3, 4))) (.cells B 5 (3, 4))
  rw [e1] at g2
  rw [hA, hB] at g1 g2
  have C := Make_is (some ⟨w.heap.size, 0, none⟩) (some ⟨w.heap.size + 1, 0, none⟩) 3 3 3 3 [97, 98, 99] [97, 120, 99] _ (bat3 g1) (bat3 g2) rfl rfl (by decide) (by decide) (by decide) (by decide) (fun h => by cases h)
  have HC := Lib.hid C; have B2 := Lib.hid b2
  have s1 := Lib.run_convert_bytes_const (P := Try.prog) w 22 5 #[.int .u8 97, .int .u8 98, .int .u8 99] 3 3 Try.underlying22 Try.underlying5
  have s2 := Lib.run_convert_bytes_const (P := Try.prog) (w.alloc (.cells #[.int .u8 97, .int .u8 98, .int .u8 99] 5 (3, 4))) 22 5 #[.int .u8 97, .int .u8 120, .int .u8 99] 3 3 Try.underlying22 Try.underlying5
  rw [alloc_one] at s2
  rw [hA, hB] at B2
  clear C b1 b2 g1 g2 e1 hA hB A B
  go_enter Try.func8, Try.ntmps8
  go_wp2_with fail
  refine HC.out.mono ?_
  rintro e w1 ⟨ao, k, av, cv, rfl, hk, hno, he, hb⟩
  rw [made_abc] at hk he
  obtain rfl : k = 1 := hk
  obtain ⟨b, o, rfl, -⟩ := he.1.some (by simp)
  obtain ⟨c0, c1, c2, hr⟩ := he.cells 0 (by simp)
  obtain ⟨a', c', hv, hbat, hno', -⟩ := hr
  have hv' : av = a' ∧ cv = c' := by simpa using hv
  obtain ⟨rfl, rfl⟩ := hv'
  have hconv := fun W (h : BAt W av [120]) => h.conv (P := Try.prog) cv 22 5 Try.underlying22 Try.underlying5 9 Try.underlying9
  have hc1 := hconv _ hbat
  have FIN := Lib.hid (B2.out.trans (hb.mono B2.out.size))
  simp only [Nat.zero_mul, Nat.add_zero, List.getElem_cons_zero, List.length_cons, List.length_nil, Nat.zero_add] at c0 c1 c2 hc1
  clear hconv hbat hb he hno hno' hv HC B2
  go_wp2_with fail
  go_ret
  exact ⟨rfl, FIN.out⟩
end Go.Proofs.Ytbilempgnpnacaa
