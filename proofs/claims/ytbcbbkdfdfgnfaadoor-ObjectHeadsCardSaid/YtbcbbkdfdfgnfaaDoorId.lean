/-
  Layer 2: id: the words as twenty bytes.
-/
import Derived.Test.YtbcbbkdfdfgnfaaDoorMi
namespace Go.Proofs.YtbcbbkdfdfgnfaaDoor
set_option maxRecDepth 20000
open Go.RowKit
set_option linter.unusedVariables false
set_option linter.unusedSimpArgs false

theorem digest_at (h : H5) (k : Nat) (hk : k < 20) : (digest h).getD k 0 = outB h k := by
  unfold digest
  rw [List.getD_eq_getElem?_getD, List.getElem?_map, List.getElem?_range hk]; rfl
theorem outB_int (h : H5) (k a b : Nat) (ha : a = k / 4) (hb : b = k % 4) : (((h.get a).toNat : Int) / 2 ^ (8 * (3 - b)) % 256) = ((outB h k).toNat : Int) := by
  subst ha; subst hb
  unfold outB
  rw [UInt8.toNat_ofNat', Int.natCast_emod, Int.natCast_ediv, Int.natCast_pow]
  rfl
set_option maxHeartbeats 4000000 in
theorem id_any (w : World) (g : Nat) (cs : Array Value) (h : H5) (hg : w.heap[g]? = some (.cells cs 77 (0, 0))) (hs : StB cs h) :
    Calls Tryd.prog 42 #[.pointer (some ⟨g, 0, none⟩)] w fun e w' => e = .returned (idv (digest h)) ∧ Below w.heap.size w w' := by
  obtain ⟨z, hz, hze⟩ := z29
  have hzv := zero_arr hz
  have HZ := Lib.hid hz; clear hz
  have HZE := Lib.hid hze; clear hze
  have HG := Lib.hid hg; clear hg
  have HS := Lib.hid hs; clear hs
  go_enter Tryd.func42, Tryd.ntmps42
  go_wp2_with fail
  go_loopw [5] (fun i wr => ∃ (k : Nat) (arr : Array Value), k ≤ 20 ∧ i = .int .i64 k ∧ wr.heap[w.heap.size + 1]? = some (.cells arr 34 (0, 0)) ∧ wr.heap[w.heap.size]? = some (.cells z 34 (0, 0)) ∧ arr.size = 20 ∧
      (∀ j, j < k → arr[j]? = some (.int .u8 ((digest h).getD j 0).toNat)) ∧ Below w.heap.size w wr) (fun i _ => 20 - (intOf i).toNat)
  case atStart => exact ⟨0, z, Nat.zero_le _, rfl, by rw [show w.heap.size + 1 = (w.alloc (.cells z 34)).heap.size by simp]; exact heap_alloc_new _ _, two_new w _ _, by rw [HZE.out]; simp, fun j hj => absurd hj (Nat.not_lt_zero _), ((Below.refl _ w).alloc (Nat.le_refl _) _).alloc (by simp) _⟩
  case round =>
    obtain ⟨k, arr, hk, rfl, ha, h2, hsz, har, hbr⟩ := hrel
    have HA := Lib.hid ha; clear ha
    have H2 := Lib.hid h2; clear h2
    have HAR := Lib.hid har; clear har
    by_cases hlt : k < 20
    · have hgw : wr.heap[g]? = some (.cells cs 77 (0, 0)) := (hbr.block g (lt_of_heap HG.out)).trans HG.out
      obtain ⟨a, ha⟩ : ∃ a, a = k / 4 := ⟨_, rfl⟩
      obtain ⟨b, hb⟩ : ∃ b, b = k % 4 := ⟨_, rfl⟩
      have hd : (k : Int) / 4 = (a : Int) := by omega
      have hm : (k : Int) % 4 = (b : Int) := by omega
      have hb4 : b < 4 := by omega
      have q : wr.cell? ⟨g, a, none⟩ = some (.int .u32 (h.get a).toNat) := (cell_of_row wr g a cs _ _ hgw).trans (HS.out.word a (by omega))
      obtain ⟨x, hx⟩ : ∃ x : Int, x = (h.get a).toNat := ⟨_, rfl⟩
      rw [← hx] at q
      have i5 := fun u => index_arr5 u g a (by omega) a rfl
      have i20 := fun u => index_arr20 u (w.heap.size + 1) k hlt k rfl
      have HA2 := Lib.hid ha; have HB2 := Lib.hid hb; have HX := Lib.hid hx
      clear ha hb hx hgw
      obtain ⟨old, ho⟩ : ∃ v, wr.cell? ⟨w.heap.size + 1, k, none⟩ = some v := ⟨arr[k]'(by omega), by rw [cell_of_row wr _ k arr _ _ HA.out]; simp⟩
      have hf : wr.frozen? ⟨w.heap.size + 1, k, none⟩ = false := not_frozen HA.out k
      go_wp2
      go_roundw
      case rel =>
        refine ⟨k + 1, arr.setIfInBounds k _, by omega, by go_num, heap_set HA.out k _, ?_, by simpa using hsz, ?_, hbr.setCell (by simp) _⟩
        · exact (Below.heap_setCell wr ⟨w.heap.size + 1, k, none⟩ _ w.heap.size (by simp)).trans H2.out
        · intro j hj
          rw [set_get _ _ _ _ (by omega)]
          split
          · rename_i e; subst e
            rw [HX.out, outB_int h j a b HA2.out HB2.out, digest_at h j hlt]
          · exact HAR.out j (by omega)
      case measure => simp [intOf]; omega
    · obtain rfl : k = 20 := by omega
      have harr : arr = (Lib.byteCells (digest h)).toArray := arr_bc (by rw [hsz, digest_len]) (fun j hj => HAR.out j (by rwa [digest_len] at hj))
      have hall := bc_all (digest h)
      rw [← harr] at hall
      have HARR := Lib.hid harr; clear harr
      have HALL := Lib.hid hall; clear hall
      go_wp2_with (first
        | (with_reducible refine wpList_load_row rfl 34 (.tmp 3) rfl (w.heap.size + 1) rfl 34 arr (0, 0) _ ?lg Tryd.underlying34 rfl ?li ?_)
        | (with_reducible refine wpList_store_row rfl 34 _ _ rfl w.heap.size arr rfl rfl 34 z ?sg ?si ?so ?s1 ?_))
      case lg => exact HA.out
      case li => rw [info29, hsz]
      case sg => exact H2.out
      case si => rw [info29, hsz]
      case so => rw [HZE.out, hsz]; simp
      case s1 => exact HALL.out
      refine bodyPost_ret (results_cell_row Tryd.results42 _ _ w.heap.size 34 arr (0, 0) _ rfl (setRow_heap wr w.heap.size z arr _ (0, 0) H2.out) Tryd.underlying34 rfl (by rw [info29, hsz])) rfl ⟨by rw [HARR.out]; rfl, below_setRow hbr (Nat.le_refl _) arr⟩
end Go.Proofs.YtbcbbkdfdfgnfaaDoor
