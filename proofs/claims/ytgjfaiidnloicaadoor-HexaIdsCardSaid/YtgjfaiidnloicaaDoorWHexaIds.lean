/-
  The walk of HexaIds, over the contracts.
-/
import Derived.Test.YtgjfaiidnloicaaDoorAw
import Derived.Test.YtgjfaiidnloicaaDoorHo
import Derived.Test.YtgjfaiidnloicaaDoorHn
namespace Go.Proofs.YtgjfaiidnloicaaDoor.hexaIds
open Go.RowKit
set_option linter.unusedVariables false

theorem idR_hex (l : List UInt8) (h : l.length = 20) : idR (hexL l) = (l, 0) := by
  unfold idR; rw [unhex_hex]; simp only; rw [if_pos h]
theorem bat_arr {arr : Array Value} {l : List UInt8} (h : Arr20 arr l) {w : World} {g : Nat} {fr : Nat × Nat} (hg : w.heap[g]? = some (.cells arr 29 fr)) : BAt w (some ⟨g, 0, none⟩) l := fun _ =>
  ⟨g, 0, rfl, by
    rcases Nat.lt_or_ge g w.heap.size with h' | h'
    · exact h'
    · simp [Array.getElem?_eq_none h'] at hg, fun i hi => by
    rw [Nat.zero_add, Lib.cell_of_heap hg, h.eq, List.getElem?_toArray, byteCells_at, List.getElem?_eq_getElem hi]; rfl⟩
theorem own_of_block {w : World} {b : Nat} {o : Obj} (h : w.heap[b]? = some o) : b < w.heap.size := by
  rcases Nat.lt_or_ge b w.heap.size with h' | h'
  · exact h'
  · simp [Array.getElem?_eq_none h'] at h
set_option maxHeartbeats 1000000 in
theorem walk (w : World) (l : List UInt8) (hl : l.length = 20) (x : Int) (x0 : -9223372036854775808 ≤ x) (x1 : x ≤ 9223372036854775807) (tab : Tab w) :
    Calls Tryd.prog 6 #[idv l, .int .i64 x] w fun e w' => e = .returned (.bool true) ∧ Below w.heap.size w w' := by
  unfold idv
  have hid : Arr20 (Lib.byteCells l).toArray l := ⟨rfl, hl⟩
  have c3 := fun w => Id_all (hexL l) (by rw [hexL_length]; omega) w
  rw [idR_hex l hl] at c3
  have c4 := fun s w hs he => Id_len s w hs he
  rw [zero20_idv] at c4
  obtain ⟨zz, z20⟩ : ∃ zz, zz = zero20 ∧ Arr20 zz (List.replicate 20 0) := ⟨zero20, rfl, (Value.agg.inj zero20_idv).symm, by simp⟩
  rw [← z20.1] at c4
  have hstore2 := z20.2.store
  have hsz2 := z20.2.size
  clear z20
  unfold idv at c3
  generalize (Lib.byteCells l).toArray = arr at hid c3
  have C3 := Lib.hid c3
  have C4 := Lib.hid c4
  clear c3 c4
  have heql := hid.eql hid
  rw [show (l == l) = true by simp] at heql
  have hstore := hid.store
  have hsz := hid.size
  have HID := Lib.hid hid; clear hid
  have T := Lib.hid tab; clear tab
  have hb0 : BAt (w.alloc (.cells arr 29)) (some ⟨w.heap.size, 0, none⟩) l := bat_arr HID.out (heap_alloc_new w _)
  have C1 := Lib.hid (Hex_any (some ⟨w.heap.size, 0, none⟩) 20 20 l _ hb0 hl.symm (by omega))
  clear hb0
  have h40 : (hexL l).length = 40 := by rw [hexL_length, hl]
  obtain ⟨hx, hhx⟩ : ∃ h, h = hexL l := ⟨_, rfl⟩
  rw [← hhx] at C1 C3 h40
  clear hhx
  have HL := Lib.hid hl; clear hl
  obtain ⟨u, hu⟩ : ∃ u, IntKind.u64.wrap x = u := ⟨_, rfl⟩
  have hu0 : 0 ≤ u := by rw [← hu, IntKind.wrap_u64]; omega
  obtain ⟨k, hk⟩ : ∃ k, u.tmod 40 = k := ⟨_, rfl⟩
  have hk0 : 0 ≤ k := by rw [← hk, IntWalk.rem_in u 40 hu0]; omega
  have hk1 : k < 40 := by rw [← hk, IntWalk.rem_in u 40 hu0]; omega
  obtain ⟨S, hS⟩ : ∃ S, (⟨hx.toArray⟩ : ByteArray).extract 0 k.toNat = S := ⟨_, rfl⟩
  have hSs : S.size = k.toNat := by rw [← hS, ByteArray.size_extract, size_toArray]; omega
  have C5 := Lib.hid (fun w => C4.out S w (by omega) (by omega))
  obtain ⟨S2, hS2⟩ : ∃ S2, hx ++ [48, 48] = S2 := ⟨_, rfl⟩
  have hadd := fun w => add_lists (P := Tryd.prog) w hx [48, 48] (by rw [h40]; decide)
  rw [hS2] at hadd
  have C6 := Lib.hid (fun w => C4.out ⟨S2.toArray⟩ w (by rw [size_toArray, ← hS2, List.length_append, h40]; decide) (by rw [size_toArray, ← hS2, List.length_append, h40]; decide))
  clear hSs hS2 C4
  go_enter Tryd.func6, Tryd.ntmps6
  go_wp2_with fail
  refine C1.out.mono ?_
  rintro e w1 ⟨rfl, b1⟩
  have x1' : w1.heap[w.heap.size]? = some (.cells arr 29 (0, 0)) := (b1.block _ (by simp)).trans (heap_alloc_new w _)
  have b01 : Below w.heap.size w w1 := ((Below.refl _ w).alloc (Nat.le_refl _) _).trans (b1.mono (by simp))
  have HX1 := Lib.hid x1'; clear x1' b1
  go_wp2_with fail
  refine (awake_any _ (T.out.keep b01)).mono ?_
  rintro e w2 ⟨rfl, b2⟩
  have b02 := b01.trans (b2.mono b01.size)
  go_wp2_with fail
  refine (C3.out _).mono ?_
  rintro e w3 ⟨rfl, b3⟩
  have b03 := b02.trans (b3.mono b02.size)
  have q3 := b2.trans (b3.mono b2.size)
  clear b01 b2 b02 b3
  have x3 : w3.heap[w.heap.size]? = some (.cells arr 29 (0, 0)) := (q3.block _ (own_of_block HX1.out)).trans HX1.out
  have HX3 := Lib.hid x3; clear x3 HX1 q3
  go_wp2_with fail
  refine (C5.out _).mono ?_
  rintro e w4 ⟨rfl, b4⟩
  have x4 : w4.heap[w.heap.size]? = some (.cells arr 29 (0, 0)) := (b4.block _ (by have := own_of_block HX3.out; simp; omega)).trans ((Below.heap_alloc w3 _ _ (own_of_block HX3.out)).trans HX3.out)
  have y4 : w4.heap[w3.heap.size]? = some (.cells arr 29 (0, 0)) := (b4.block _ (by simp)).trans (heap_alloc_new w3 _)
  have b04 := b03.trans (((Below.refl _ w3).alloc (Nat.le_refl _) (.cells arr 29)).trans (b4.mono (by simp)) |>.mono b03.size)
  have HX4 := Lib.hid x4; have HY4 := Lib.hid y4; clear x4 y4 HX3 b03 b4
  go_wp2_with fail
  refine (C6.out _).mono ?_
  rintro e w5 ⟨rfl, b5⟩
  have x5 : w5.heap[w.heap.size]? = some (.cells arr 29 (0, 0)) := (b5.block _ (by have := own_of_block HX4.out; simp; omega)).trans ((Below.heap_alloc w4 _ _ (own_of_block HX4.out)).trans HX4.out)
  have y5 : w5.heap[w3.heap.size]? = some (.cells arr 29 (0, 0)) := (b5.block _ (by have := own_of_block HY4.out; simp; omega)).trans ((Below.heap_alloc w4 _ _ (own_of_block HY4.out)).trans HY4.out)
  have b05 := b04.trans (((Below.refl _ w4).alloc (Nat.le_refl _) (.cells zz 29)).trans (b5.mono (by simp)) |>.mono b04.size)
  have x6 : (w5.alloc (.cells zz 29)).heap[w.heap.size]? = some (.cells arr 29 (0, 0)) := (Below.heap_alloc w5 _ _ (own_of_block x5)).trans x5
  have y6 : (w5.alloc (.cells zz 29)).heap[w3.heap.size]? = some (.cells arr 29 (0, 0)) := (Below.heap_alloc w5 _ _ (own_of_block y5)).trans y5
  have b06 := b05.alloc b05.size (.cells zz 29)
  have HX6 := Lib.hid x6; have HY6 := Lib.hid y6; clear x5 y5 x6 y6 HX4 HY4 b04 b5 b05
  go_wp2_with (first | (with_reducible refine wpList_load_guard ?hw1 29 (.tmp 6) rfl w3.heap.size rfl 29 arr (0, 0) _ ?hg1 Tryd.underlying29 rfl ?hi1 ?_) | (with_reducible refine wpList_load_guard ?hw2 29 (.tmp 2) rfl w.heap.size rfl 29 arr (0, 0) _ ?hg2 Tryd.underlying29 rfl ?hi2 ?_))
  case hg1 => exact HY6.out
  case hi1 => first | (rw [info29, hsz]) | simpa using info29
  case hg2 => exact HX6.out
  case hi2 => first | (rw [info29, hsz]) | simpa using info29
  go_ret
  exact ⟨rfl, b06⟩
end Go.Proofs.YtgjfaiidnloicaaDoor.hexaIds
