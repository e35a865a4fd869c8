/-
  Texts that belong together, one behind the other.
-/
import Derived.Test.YtgbmbemmkadagaaFu02
import Derived.Test.YtgbmbemmkadagaaFu32
import Derived.Test.YtgbmbemmkadagaaFu18
import Derived.Laws.CopyRow
import Derived.Laws.CopyOwn
import Derived.Laws.Rows
import Derived.Laws.Tables
import Derived.Deep.WholeRow
import Derived.Lib.BytesEntry
import Derived.Deep.QuietTactic
import Derived.BigQuiet
import Derived.BigRegion
import Derived.StillTailTactics
/-
  Layer 2: what the blocks of the program hold: arrays of words, the state.
-/
namespace Go.Proofs.Ytgbmbemmkadagaa
open Go.RowKit
set_option linter.unusedVariables false
set_option linter.unusedSimpArgs false

/-- Words as values. -/
def wv (l : List (BitVec 32)) : List Value := l.map fun x => .int .u32 x.toNat
theorem wv_len (l : List (BitVec 32)) : (wv l).length = l.length := by simp [wv]
theorem wv_at (l : List (BitVec 32)) (i : Nat) (h : i < l.length) : (wv l)[i]? = some (.int .u32 (l.getD i 0).toNat) := by
  simp [wv, h]
theorem wv_one (l : List (BitVec 32)) : ∀ v ∈ wv l, v.oneCell' = true := by
  intro v hv; simp [wv] at hv; obtain ⟨x, _, rfl⟩ := hv; rfl
theorem arr_wv {arr : Array Value} {l : List (BitVec 32)} (hs : arr.size = l.length) (h : ∀ j, j < l.length → arr[j]? = some (.int .u32 (l.getD j 0).toNat)) : arr = (wv l).toArray := by
  apply Array.ext_getElem?
  intro i
  have e : (wv l).toArray[i]? = (wv l)[i]? := by simp
  by_cases hi : i < l.length
  · rw [h i hi, e, wv_at l i hi]
  · rw [Array.getElem?_eq_none (by omega), e, List.getElem?_eq_none (by rw [wv_len]; omega)]
theorem wv_all (l : List (BitVec 32)) : (wv l).toArray.all (·.oneCell') = true := by
  rw [Array.all_eq_true]
  intro i hi
  exact wv_one l _ (by simp)
theorem info43 : (Try.prog.info? 84).map (·.size) = some 80 := by kernel_rfl
theorem info36 : (Try.prog.info? 82).map (·.size) = some 5 := by kernel_rfl
theorem info40 : (Try.prog.info? 98).map (·.size) = some 71 := by kernel_rfl
theorem z43 : ∃ z : Array Value, (Try.prog.info? 84).map (fun i => (i.zero, i.size)) = some (some (.agg z), 80) ∧ z = Array.replicate 80 (.int .u32 0) := ⟨Array.replicate 80 (.int .u32 0), by kernel_rfl, rfl⟩
theorem z36 : ∃ z : Array Value, (Try.prog.info? 82).map (fun i => (i.zero, i.size)) = some (some (.agg z), 5) ∧ z = Array.replicate 5 (.int .u32 0) := ⟨Array.replicate 5 (.int .u32 0), by kernel_rfl, rfl⟩
def zer40 : Array Value := (List.replicate 5 (Value.int .u32 0) ++ (List.replicate 64 (Value.int .u8 0) ++ [Value.int .i64 0, Value.int .u64 0])).toArray
theorem z40 : (Try.prog.info? 98).map (fun i => (i.zero, i.size)) = some (some (.agg zer40), 71) := by kernel_rfl
theorem slice64_lh (w : World) (g k : Nat) (hk : k < 16) (l h : Int) (hl : l = 4 * (k : Int)) (hh : h = 4 * (k : Int) + 4) :
    (Instr.sliceAt 96 (.pointer (some ⟨g, 5, none⟩)) (some (.int .i64 l)) (some (.int .i64 h)) none).run Try.prog w = .ok (.slice (some ⟨g, 5 + 4 * k, none⟩) 4 (64 - 4 * k)) w := by
  have ea : Try.prog.arrayLen 96 = 64 := by kernel_rfl
  have ee : Try.prog.elem 96 = 5 := by kernel_rfl
  rw [run_sliceAt_array_lh w 96 ⟨g, 5, none⟩ (by rw [ea, ee]; exact Try.underlying96) .i64 .i64 l h (by omega) (by omega) (by rw [ea]; omega), ea, ee, size_u8]
  simp only [Result.andThen_ok, slicedAt]
  rw [if_neg (by omega), show h.toNat - l.toNat = 4 by omega, show l.toNat = 4 * k by omega]
  unfold Addr.add
  simp only [Nat.mul_one]
  split
  · rename_i h0; simp [show k = 0 by omega]
  · rfl
theorem slice64_l (w : World) (g k : Nat) (hk : k < 64) (l : Int) (hl : l = (k : Int)) :
    (Instr.sliceAt 96 (.pointer (some ⟨g, 5, none⟩)) (some (.int .i64 l)) none none).run Try.prog w = .ok (.slice (some ⟨g, 5 + k, none⟩) (64 - k) (64 - k)) w := by
  have ea : Try.prog.arrayLen 96 = 64 := by kernel_rfl
  have ee : Try.prog.elem 96 = 5 := by kernel_rfl
  rw [run_sliceAt_array_l w 96 ⟨g, 5, none⟩ (by rw [ea, ee]; exact Try.underlying96) .i64 l (by omega) (by rw [ea]; omega), ea, ee, size_u8]
  simp only [Result.andThen_ok, slicedAt]
  rw [if_neg (by omega), show l.toNat = k by omega]
  unfold Addr.add
  simp only [Nat.mul_one]
  split
  · rename_i h0; simp [show k = 0 by omega]
  · rfl
theorem index_arr80 (w : World) (b k : Nat) (hk : k < 80) (i : Int) (hi : i = (k : Int)) :
    (Instr.indexAt 84 (.pointer (some ⟨b, 0, none⟩)) (.int .i64 i)).run Try.prog w = .ok (.pointer (some ⟨b, k, none⟩)) w := by
  have ea : Try.prog.arrayLen 84 = 80 := by kernel_rfl
  have ee : Try.prog.elem 84 = 81 := by kernel_rfl
  rw [run_indexAt_array w 84 ⟨b, 0, none⟩ .i64 i (by rw [ea, ee]; exact Try.underlying84), if_pos (by rw [ea]; omega), ee, Try.sizeOf81 w]
  simp only [Result.andThen_ok, show i.toNat = k by omega, Nat.mul_one]
  unfold Addr.add
  split
  · rename_i h0; simp [h0]
  · simp
theorem index_arr5 (w : World) (b k : Nat) (hk : k < 5) (i : Int) (hi : i = (k : Int)) :
    (Instr.indexAt 82 (.pointer (some ⟨b, 0, none⟩)) (.int .i64 i)).run Try.prog w = .ok (.pointer (some ⟨b, k, none⟩)) w := by
  have ea : Try.prog.arrayLen 82 = 5 := by kernel_rfl
  have ee : Try.prog.elem 82 = 81 := by kernel_rfl
  rw [run_indexAt_array w 82 ⟨b, 0, none⟩ .i64 i (by rw [ea, ee]; exact Try.underlying82), if_pos (by rw [ea]; omega), ee, Try.sizeOf81 w]
  simp only [Result.andThen_ok, show i.toNat = k by omega, Nat.mul_one]
  unfold Addr.add
  split
  · rename_i h0; simp [h0]
  · simp
theorem index_arr20 (w : World) (b k : Nat) (hk : k < 20) (i : Int) (hi : i = (k : Int)) :
    (Instr.indexAt 24 (.pointer (some ⟨b, 0, none⟩)) (.int .i64 i)).run Try.prog w = .ok (.pointer (some ⟨b, k, none⟩)) w := by
  have ea : Try.prog.arrayLen 24 = 20 := by kernel_rfl
  have ee : Try.prog.elem 24 = 5 := by kernel_rfl
  rw [run_indexAt_array w 24 ⟨b, 0, none⟩ .i64 i (by rw [ea, ee]; exact Try.underlying24), if_pos (by rw [ea]; omega), ee, Try.sizeOf5 w]
  simp only [Result.andThen_ok, show i.toNat = k by omega, Nat.mul_one]
  unfold Addr.add
  split
  · rename_i h0; simp [h0]
  · simp
theorem index_agg80 (w : World) (cs : Array Value) (k : Nat) (hk : k < 80) (v : Value) (hv : cs[k]? = some v) (i : Int) (hi : i = (k : Int)) :
    (Instr.index 84 (.agg cs) (.int .i64 i)).run Try.prog w = .ok v w := by
  subst hi
  have h1 : 0 ≤ (k : Int) ∧ (k : Int) < (80 : Nat) := by omega
  have ha : (isAgg 81).run Try.prog w = .ok false w := by unfold isAgg; rw [Sem.run_bind, run_underlying Try.underlying81 w]; rfl
  simp [Instr.index, run_underlying Try.underlying84, asIntOf, h1, go_sem, part, ha, Try.sizeOf81 w, hv]
  omega
end Go.Proofs.Ytgbmbemmkadagaa

/-
  Layer 2: schedule.
-/
namespace Go.Proofs.Ytgbmbemmkadagaa
set_option maxRecDepth 20000
open Go.RowKit
set_option linter.unusedVariables false
set_option linter.unusedSimpArgs false

set_option maxHeartbeats 400000 in
theorem schedule_any (w : World) (g : Nat) (cs : Array Value) (fr : Nat × Nat) (m : Nat → UInt8) (hg : w.heap[g]? = some (.cells cs 98 fr)) (hb : ∀ i, i < 64 → cs[5 + i]? = some (.int .u8 (m i).toNat)) :
    Calls Try.prog 51 #[.pointer (some ⟨g, 0, none⟩)] w fun e w' => e = .returned (.agg (wv (sched m 80)).toArray) ∧ Below w.heap.size w w' := by
  obtain ⟨z, hz, hze⟩ := z43
  have hzv := zero_arr hz
  have HZ := Lib.hid hz; clear hz
  have HZE := Lib.hid hze; clear hze
  have HB := Lib.hid hb; clear hb
  have HG := Lib.hid hg; clear hg
  go_enter Try.func51, Try.ntmps51
  go_wp2_with fail
  go_loopw [7] (fun i wr => ∃ (k : Nat) (arr : Array Value), k ≤ 16 ∧ i = .int .i64 k ∧ wr.heap[w.heap.size + 1]? = some (.cells arr 84 (0, 0)) ∧ wr.heap[w.heap.size]? = some (.cells z 84 (0, 0)) ∧ arr.size = 80 ∧
      (∀ j, j < k → arr[j]? = some (.int .u32 (W80 m j).toNat)) ∧ Below w.heap.size w wr) (fun i _ => 16 - (intOf i).toNat)
  case atStart => exact ⟨0, z, Nat.zero_le _, rfl, by rw [show w.heap.size + 1 = (w.alloc (.cells z 84)).heap.size by simp]; exact heap_alloc_new _ _, two_new w _ _, by rw [HZE.out]; simp, fun j hj => absurd hj (Nat.not_lt_zero _), ((Below.refl _ w).alloc (Nat.le_refl _) _).alloc (by simp) _⟩
  case round =>
    obtain ⟨k, arr, hk, rfl, ha, h2, hsz, har, hbr⟩ := hrel
    have HA := Lib.hid ha; clear ha
    have H2 := Lib.hid h2; clear h2
    have HAR := Lib.hid har; clear har
    have hgw : wr.heap[g]? = some (.cells cs 98 fr) := (hbr.block g (lt_of_heap HG.out)).trans HG.out
    by_cases hlt : k < 16
    · have hsl := fun w => slice64_lh w g k hlt (4 * (k : Int)) (4 * (k : Int) + 4) rfl rfl
      have hx : ∀ j, j < 4 → wr.cell? ⟨g, 5 + 4 * k + j, none⟩ = some (.int .u8 (m (4 * k + j)).toNat) := fun j hj => by
        rw [cell_of_row wr g _ cs _ fr hgw, Nat.add_assoc, HB.out (4 * k + j) (by omega)]
      have q0 := hx 0 (by omega); have q1 := hx 1 (by omega); have q2 := hx 2 (by omega); have q3 := hx 3 (by omega)
      clear hx
      rw [Nat.add_zero] at q0
      obtain ⟨x0, e0⟩ : ∃ x : Int, x = (m (4 * k + 0)).toNat := ⟨_, rfl⟩
      obtain ⟨x1, e1⟩ : ∃ x : Int, x = (m (4 * k + 1)).toNat := ⟨_, rfl⟩
      obtain ⟨x2, e2⟩ : ∃ x : Int, x = (m (4 * k + 2)).toNat := ⟨_, rfl⟩
      obtain ⟨x3, e3⟩ : ∃ x : Int, x = (m (4 * k + 3)).toNat := ⟨_, rfl⟩
      rw [← e0] at q0; rw [← e1] at q1; rw [← e2] at q2; rw [← e3] at q3
      have l0 : 0 ≤ x0 ∧ x0 < 256 := by rw [e0]; exact u8_lt _
      have l1 : 0 ≤ x1 ∧ x1 < 256 := by rw [e1]; exact u8_lt _
      have l2 : 0 ≤ x2 ∧ x2 < 256 := by rw [e2]; exact u8_lt _
      have l3 : 0 ≤ x3 ∧ x3 < 256 := by rw [e3]; exact u8_lt _
      obtain ⟨l0a, l0b⟩ := l0; obtain ⟨l1a, l1b⟩ := l1; obtain ⟨l2a, l2b⟩ := l2; obtain ⟨l3a, l3b⟩ := l3
      have E0 := Lib.hid e0; have E1 := Lib.hid e1; have E2 := Lib.hid e2; have E3 := Lib.hid e3
      clear e0 e1 e2 e3 hgw
      obtain ⟨old, ho⟩ : ∃ v, wr.cell? ⟨w.heap.size + 1, k, none⟩ = some v := ⟨arr[k]'(by omega), by rw [cell_of_row wr _ k arr _ _ HA.out]; simp⟩
      have hf : wr.frozen? ⟨w.heap.size + 1, k, none⟩ = false := not_frozen HA.out k
      have hix := fun u => index_arr80 u (w.heap.size + 1) k (by omega) k rfl
      go_wp2_with fail
      go_still_tail 24, (by kernel_rfl)
      change wpList _ _ _ _ _ wr.drew
      go_wp2
      go_roundw
      case rel =>
        refine ⟨k + 1, arr.setIfInBounds k _, by omega, by go_num, heap_set HA.out k _, ?_, by simpa using hsz, ?_, ?_⟩
        · exact (Below.heap_setCell wr ⟨w.heap.size + 1, k, none⟩ _ w.heap.size (by simp)).trans H2.out
        · intro j hj
          rw [set_get _ _ _ _ (by omega)]
          split
          · rename_i e; subst e
            rw [E0.out, E1.out, E2.out, E3.out, W80_lo m _ hlt, ← word_int]; rfl
          · exact HAR.out j (by omega)
        · exact (hbr.setCell (by simp) _).drew
      case measure => simp [intOf]; omega
    · have hk16 : k = 16 := by omega
      subst hk16
      clear hlt
      go_wp2_with fail
      go_loopw [6] (fun i wr => ∃ (k : Nat) (arr : Array Value), 16 ≤ k ∧ k ≤ 80 ∧ i = .int .i64 k ∧ wr.heap[w.heap.size + 1]? = some (.cells arr 84 (0, 0)) ∧ wr.heap[w.heap.size]? = some (.cells z 84 (0, 0)) ∧ arr.size = 80 ∧
        (∀ j, j < k → arr[j]? = some (.int .u32 (W80 m j).toNat)) ∧ Below w.heap.size w wr) (fun i _ => 80 - (intOf i).toNat)
      case atStart => exact ⟨16, arr, Nat.le_refl _, by omega, rfl, HA.out, H2.out, hsz, HAR.out, hbr⟩
      case round =>
        clear hbr HA H2 HAR hsz hgw
        clear arr
        obtain ⟨k, arr, hk0, hk, rfl, ha, h2, hsz, har, hbr⟩ := hrel
        rename_i wr0 wr
        have HA := Lib.hid ha; clear ha
        have H2 := Lib.hid h2; clear h2
        have HAR := Lib.hid har; clear har
        by_cases hlt : k < 80
        · go_wp2_with fail
          have hx : ∀ j, j < k → wr.cell? ⟨w.heap.size + 1, j, none⟩ = some (.int .u32 (W80 m j).toNat) := fun j hj => by
            rw [cell_of_row wr _ j arr _ _ HA.out, HAR.out j hj]
          have hy := W80_hi m k hk0 hlt
          obtain ⟨a3, f3⟩ : ∃ a, a = k - 3 := ⟨_, rfl⟩
          have q3 := hx a3 (by omega)
          have i3 := fun u => index_arr80 u (w.heap.size + 1) a3 (by omega) ((k : Int) - 3) (by omega)
          rw [← f3] at hy
          have w3 : IntKind.i64.wrap ((k : Int) - 3) = (k : Int) - 3 := by rw [IntKind.wrap_i64]; omega
          generalize W80 m a3 = y3 at hy q3
          obtain ⟨a8, f8⟩ : ∃ a, a = k - 8 := ⟨_, rfl⟩
          have q8 := hx a8 (by omega)
          have i8 := fun u => index_arr80 u (w.heap.size + 1) a8 (by omega) ((k : Int) - 8) (by omega)
          rw [← f8] at hy
          have w8 : IntKind.i64.wrap ((k : Int) - 8) = (k : Int) - 8 := by rw [IntKind.wrap_i64]; omega
          generalize W80 m a8 = y8 at hy q8
          obtain ⟨a14, f14⟩ : ∃ a, a = k - 14 := ⟨_, rfl⟩
          have q14 := hx a14 (by omega)
          have i14 := fun u => index_arr80 u (w.heap.size + 1) a14 (by omega) ((k : Int) - 14) (by omega)
          rw [← f14] at hy
          have w14 : IntKind.i64.wrap ((k : Int) - 14) = (k : Int) - 14 := by rw [IntKind.wrap_i64]; omega
          generalize W80 m a14 = y14 at hy q14
          obtain ⟨a16, f16⟩ : ∃ a, a = k - 16 := ⟨_, rfl⟩
          have q16 := hx a16 (by omega)
          have i16 := fun u => index_arr80 u (w.heap.size + 1) a16 (by omega) ((k : Int) - 16) (by omega)
          rw [← f16] at hy
          have w16 : IntKind.i64.wrap ((k : Int) - 16) = (k : Int) - 16 := by rw [IntKind.wrap_i64]; omega
          generalize W80 m a16 = y16 at hy q16
          have hix := fun u => index_arr80 u (w.heap.size + 1) k (by omega) k rfl
          obtain ⟨old, ho⟩ : ∃ v, wr.cell? ⟨w.heap.size + 1, k, none⟩ = some v := ⟨arr[k]'(by omega), by rw [cell_of_row wr _ k arr _ _ HA.out]; simp⟩
          have hf : wr.frozen? ⟨w.heap.size + 1, k, none⟩ = false := not_frozen HA.out k
          obtain ⟨x, hxe⟩ : ∃ x, x = y3 ^^^ y8 ^^^ y14 ^^^ y16 := ⟨_, rfl⟩
          rw [← hxe] at hy
          have HY := Lib.hid hy
          have hX : bits BinOp.xor .u32 (bits BinOp.xor .u32 (bits BinOp.xor .u32 (y3.toNat : Int) (y8.toNat : Int)) (y14.toNat : Int)) (y16.toNat : Int) = (x.toNat : Int) := by rw [hxe, b_xor, b_xor, b_xor]
          clear hxe
          clear hy hx f3 f8 f14 f16
          go_still_tail 22, (by kernel_rfl)
          still_call (rot_flip (rot_1 x _))
          repeat still_step
          refine wpStill_nil ?_
          change wpList _ _ _ _ _ wr.drew
          go_wp2
          refine ⟨?_, ?me2⟩
          (repeat apply Exists.intro)
          refine ⟨?re2, rfl⟩
          case re2 =>
            refine ⟨k + 1, arr.setIfInBounds k _, by omega, by omega, by go_num, heap_set HA.out k _, ?_, by simpa using hsz, ?_, ?_⟩
            · exact (Below.heap_setCell wr ⟨w.heap.size + 1, k, none⟩ _ w.heap.size (by simp)).trans H2.out
            · intro j hj
              rw [set_get _ _ _ _ (by omega)]
              split
              · rename_i e; subst e
                rw [HY.out]
              · exact HAR.out j (by omega)
            · exact (hbr.setCell (by simp) _).drew
          case me2 => simp [intOf]; omega
        · obtain rfl : k = 80 := by omega
          have harr : arr = (wv (sched m 80)).toArray := arr_wv (by rw [hsz, sched_len]) (fun j hj => HAR.out j (by rwa [sched_len] at hj))
          have hall := wv_all (sched m 80)
          rw [← harr] at hall
          have HARR := Lib.hid harr; clear harr
          have HALL := Lib.hid hall; clear hall
          go_wp2_with (first
            | (with_reducible refine wpList_load_row rfl 84 (.tmp 3) rfl (w.heap.size + 1) rfl 84 arr (0, 0) _ ?lg Try.underlying84 rfl ?li ?_)
            | (with_reducible refine wpList_store_row rfl 84 _ _ rfl w.heap.size arr rfl rfl 84 z ?sg ?si ?so ?s1 ?_))
          case lg => exact HA.out
          case li => rw [info43, hsz]
          case sg => exact H2.out
          case si => rw [info43, hsz]
          case so => rw [HZE.out, hsz]; simp
          case s1 => exact HALL.out
          refine bodyPost_ret (results_cell_row Try.results51 _ _ w.heap.size 84 arr (0, 0) _ rfl (setRow_heap wr w.heap.size z arr _ (0, 0) H2.out) Try.underlying84 rfl (by rw [info43, hsz])) rfl ⟨by rw [HARR.out], below_setRow hbr (Nat.le_refl _) arr⟩
end Go.Proofs.Ytgbmbemmkadagaa
