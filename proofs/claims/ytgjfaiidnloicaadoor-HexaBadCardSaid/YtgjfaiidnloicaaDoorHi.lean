/-
  Layer 1: Id of the reference.
-/
import Derived.Test.YtgjfaiidnloicaaDoorHh
namespace Go.Proofs.YtgjfaiidnloicaaDoor
open Go.RowKit
set_option linter.unusedVariables false

set_option maxHeartbeats 400000 in
theorem rId_none (s : ByteArray) (w : World) (hs : s.size ≤ 1099511627776) (hu : unhexL s.data.toList = none) :
    Calls Tryd.prog 13 #[.string s] w fun e w' => e = .returned (.tuple #[idv (List.replicate 20 0), .int .i64 4]) ∧ Below w.heap.size w w' := by
  have C := Lib.hid (fun w => rUnhex_none s w hs hu)
  clear hu
  rw [zero20_idv]
  go_enter Tryd.func13, Tryd.ntmps13
  go_wp2_with fail
  refine (C.out _).mono ?_
  rintro e w1 ⟨rfl, hb⟩
  have hg1 : w1.heap[w.heap.size]? = some (.cells zero20 29 (0, 0)) := (hb.block _ (by simp)).trans (heap_alloc_new w _)
  have hbw : Below w.heap.size w w1 := ((Below.refl _ w).alloc (Nat.le_refl _) _).trans (hb.mono (by simp))
  clear hb C
  have HG := Lib.hid hg1; clear hg1
  go_wp2_with (with_reducible refine wpList_store_row rfl 29 _ _ rfl w.heap.size zero20 rfl rfl 29 zero20 ?hg ?hi ?ho ?h1 ?_)
  case hg => exact HG.out
  case hi => exact info29
  case ho => rfl
  case h1 => kernel_rfl
  rw [setRow_self _ w.heap.size zero20 29 (0, 0) HG.out]
  go_wp2_with fail
  exact bodyPost_ret (results_id Tryd.results13 _ _ w.heap.size zero20 (0, 0) (.int .i64 4) rfl rfl HG.out rfl) rfl ⟨rfl, hbw⟩
set_option maxHeartbeats 400000 in
theorem rId_len (s : ByteArray) (t : List UInt8) (w : World) (hs : s.size ≤ 1099511627776) (hu : unhexL s.data.toList = some t) (hne : t.length ≠ 20) :
    Calls Tryd.prog 13 #[.string s] w fun e w' => e = .returned (.tuple #[idv (List.replicate 20 0), .int .i64 4]) ∧ Below w.heap.size w w' := by
  have ht : t.length ≤ 1099511627776 := by have := (unhex_spec _ _ _ (Nat.le_refl _) hu).1; rw [size_list] at this; omega
  have hne2 : ((t.length : Int) != 20) = true := by simp; omega
  have C := Lib.hid (fun w => rUnhex_some s t w hs hu)
  clear hu hne
  rw [zero20_idv]
  go_enter Tryd.func13, Tryd.ntmps13
  go_wp2_with fail
  refine (C.out _).mono ?_
  rintro e w1 ⟨g, c, rfl, _, _, _, hb⟩
  have hg1 : w1.heap[w.heap.size]? = some (.cells zero20 29 (0, 0)) := (hb.block _ (by simp)).trans (heap_alloc_new w _)
  have hbw : Below w.heap.size w w1 := ((Below.refl _ w).alloc (Nat.le_refl _) _).trans (hb.mono (by simp))
  clear hb C
  have HG := Lib.hid hg1; clear hg1
  go_wp2_with (with_reducible refine wpList_store_row rfl 29 _ _ rfl w.heap.size zero20 rfl rfl 29 zero20 ?hg ?hi ?ho ?h1 ?_)
  case hg => exact HG.out
  case hi => exact info29
  case ho => rfl
  case h1 => kernel_rfl
  rw [setRow_self _ w.heap.size zero20 29 (0, 0) HG.out]
  go_wp2_with fail
  exact bodyPost_ret (results_id Tryd.results13 _ _ w.heap.size zero20 (0, 0) (.int .i64 4) rfl rfl HG.out rfl) rfl ⟨rfl, hbw⟩

set_option maxHeartbeats 400000 in
theorem rId_good (s : ByteArray) (t : List UInt8) (w : World) (hs : s.size ≤ 1099511627776) (hu : unhexL s.data.toList = some t) (ht : t.length = 20) :
    Calls Tryd.prog 13 #[.string s] w fun e w' => e = .returned (.tuple #[idv t, .int .i64 0]) ∧ Below w.heap.size w w' := by
  have C := Lib.hid (fun w => rUnhex_some s t w hs hu)
  clear hu
  have HT := Lib.hid ht; clear ht
  go_enter Tryd.func13, Tryd.ntmps13
  go_wp2_with fail
  refine (C.out _).mono ?_
  rintro e w1 ⟨g, c, rfl, hbat, hlc, _, hb⟩
  obtain ⟨b, o, rfl, hbl, hcl⟩ := hbat (by rw [HT.out]; omega)
  have hg0 : w1.heap[w.heap.size]? = some (.cells zero20 29 (0, 0)) := (hb.block _ (by simp)).trans (heap_alloc_new w _)
  have hbw : Below w.heap.size w w1 := ((Below.refl _ w).alloc (Nat.le_refl _) _).trans (hb.mono (by simp))
  have hsz : w.heap.size < w1.heap.size := by have := hb.size; simp at this; omega
  clear hb C hbat
  have HG0 := Lib.hid hg0; clear hg0
  have HCL := Lib.hid hcl; clear hcl
  rw [HT.out]
  go_wp2_with fail
  go_loopw [7] (fun i wr => ∃ (k : Nat) (cur : Array Value), k ≤ 20 ∧ i = .int .i64 k ∧ wr.heap[w1.heap.size]? = some (.cells cur 29 (0, 0)) ∧ cur.size = 20 ∧ cur.toList.take k = Lib.byteCells (t.take k) ∧ Below w1.heap.size w1 wr) (fun i _ => 20 - (intOf i).toNat)
  case atStart => exact ⟨0, zero20, by omega, rfl, heap_alloc_new w1 _, rfl, by simp [Lib.byteCells], (Below.refl _ w1).alloc (Nat.le_refl _) _⟩
  case round =>
    obtain ⟨k, cur, hk, rfl, hh, hcs, hcur, hbr⟩ := hrel
    have HCS := Lib.hid hcs; clear hcs
    have HCUR := Lib.hid hcur; clear hcur
    by_cases hlt : k < 20
    · have hkt : k < t.length := by rw [HT.out]; exact hlt
      have hcell : wr.cell? ⟨b, o + k, none⟩ = some (.int .u8 (t[k]).toNat) := (hbr.cell (p := ⟨b, o + k, none⟩) hbl).trans (HCL.out k hkt)
      obtain ⟨y, hy⟩ : ∃ y, wr.cell? ⟨w1.heap.size, k, none⟩ = some y := ⟨cur[k]'(by rw [HCS.out]; exact hlt), by rw [Lib.cell_of_heap hh, Array.getElem?_eq_getElem]⟩
      have hfz : wr.frozen? ⟨w1.heap.size, k, none⟩ = false := Lib.frozen_of_heap hh k
      have hst := heap_setCell_same wr w1.heap.size k cur 29 (.int .u8 (t[k]).toNat) hh
      have hbr2 := hbr.setCell (p := ⟨w1.heap.size, k, none⟩) (Nat.le_refl _) (.int .u8 (t[k]).toNat)
      have HS := Lib.hid hst; clear hst
      have HB := Lib.hid hbr2; clear hbr2
      clear hh
      go_wp2
      go_roundw
      case rel =>
        refine ⟨k + 1, _, by omega, by go_num, HS.out, by rw [Array.size_setIfInBounds]; exact HCS.out, ?_, HB.out⟩
        have hl : cur.toList.length = 20 := by rw [Array.length_toList]; exact HCS.out
        rw [Array.toList_setIfInBounds, List.take_succ_eq_append_getElem (by rw [List.length_set, hl]; omega), List.take_set_of_le (Nat.le_refl _), HCUR.out, List.take_succ_eq_append_getElem hkt, Lib.byteCells_append]
        simp [Lib.byteCells]
      case measure => simp [intOf]; omega
    · obtain rfl : k = 20 := by omega
      have e : cur = (Lib.byteCells t).toArray := by
        have h := HCUR.out
        rw [List.take_of_length_le (by rw [Array.length_toList, HCS.out]; exact Nat.le_refl _), List.take_of_length_le (by rw [HT.out]; exact Nat.le_refl _)] at h
        rw [← h]
      subst e
      have hb0 : wr.heap[w.heap.size]? = some (.cells zero20 29 (0, 0)) := (hbr.block _ hsz).trans HG0.out
      have hst : (storeCells ⟨w.heap.size, 0, none⟩ (Lib.byteCells t)).run Tryd.prog wr = .ok () (wr.setRow w.heap.size (Lib.byteCells t).toArray) := by
        have h := run_storeCells_from (P := Tryd.prog) w.heap.size 29 (Lib.byteCells t) 0 zero20 wr hb0 (by simp [Lib.byteCells, HT.out]) (oneCell_bytes t)
        simpa using h
      have hbl : (Lib.byteCells t).length = 20 := by simp [Lib.byteCells, HT.out]
      have HH := Lib.hid hh; clear hh
      have HB0 := Lib.hid hb0; clear hb0
      go_wp2_with (with_reducible refine wpList_load_row rfl 29 _ rfl w1.heap.size rfl 29 (Lib.byteCells t).toArray (0, 0) _ ?hg Tryd.underlying29 rfl ?hi ?_)
      case hg => exact HH.out
      case hi => first | rw [info29, size_bytes, HT.out] | simpa using info29
      exact bodyPost_ret (results_id Tryd.results13 _ _ w.heap.size (Lib.byteCells t).toArray (0, 0) (.int .i64 0) rfl rfl (setRow_heap _ _ _ _ _ _ HB0.out) (by rw [size_bytes, HT.out])) rfl ⟨rfl, below_setRow (hbw.trans (hbr.mono (by omega))) (Nat.le_refl _) _⟩
end Go.Proofs.YtgjfaiidnloicaaDoor
