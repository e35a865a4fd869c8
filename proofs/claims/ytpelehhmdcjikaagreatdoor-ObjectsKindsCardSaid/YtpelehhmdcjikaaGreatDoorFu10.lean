/-
  Texts that belong together, one behind the other.
-/
import Derived.Test.YtpelehhmdcjikaaGreatDoorFu09
import Derived.Test.YtpelehhmdcjikaaGreatDoorFu02
import Derived.IntWalk
import Derived.WalkSmall
import Derived.Laws.CopyRow
import Derived.Laws.CopyOwn
import Derived.Laws.Rows
import Derived.Laws.Tables
import Derived.Deep.WholeRow
import Derived.Lib.BytesEntry
import Derived.Deep.QuietTactic
import Derived.BigQuiet
import Derived.BigRegion
import Derived.StillTailTactics
import Derived.OwnWalk
import Derived.Test.YtpelehhmdcjikaaGreatDoorFu05
/-
  Layer 2: the small calls on words: RotateLeft32, join; of the reference left, mix.
-/
namespace Go.Proofs.YtpelehhmdcjikaaGreatDoor
open Go.RowKit
set_option linter.unusedVariables false
set_option linter.unusedSimpArgs false
theorem rot_flip {P : Program} {f : Nat} {args : Array Value} {w : World} {v : Value} (h : Calls P f args w fun e w' => e = .returned v ∧ w = w') : Calls P f args w fun e w' => e = .returned v ∧ w' = w := h.mono fun _ _ h => ⟨h.1, h.2.symm⟩
theorem shl_i (x : BitVec 32) (n : Nat) (m : Int) (hm : m = 2 ^ n) (X : Int) (hX : X = x.toNat) : X * m % 4294967296 = ((x <<< n).toNat : Int) := by subst hm; subst hX; exact b_shl x n
theorem shr_i (x : BitVec 32) (n : Nat) (m : Int) (hm : m = 2 ^ n) (X : Int) (hX : X = x.toNat) : X / m = ((x >>> n).toNat : Int) := by subst hm; subst hX; exact b_shr x n
theorem rl_1 (x : BitVec 32) : bits BinOp.or .u32 ((x.toNat : Int) * 2 % 4294967296) ((x.toNat : Int) / 2147483648) = (rl x 1).toNat := by
  rw [shl_i x 1 2 (by decide) _ rfl, shr_i x 31 2147483648 (by decide) _ rfl, b_or]
  rfl
theorem rl_5 (x : BitVec 32) : bits BinOp.or .u32 ((x.toNat : Int) * 32 % 4294967296) ((x.toNat : Int) / 134217728) = (rl x 5).toNat := by
  rw [shl_i x 5 32 (by decide) _ rfl, shr_i x 27 134217728 (by decide) _ rfl, b_or]
  rfl
theorem rl_30 (x : BitVec 32) : bits BinOp.or .u32 ((x.toNat : Int) * 1073741824 % 4294967296) ((x.toNat : Int) / 4) = (rl x 30).toNat := by
  rw [shl_i x 30 1073741824 (by decide) _ rfl, shr_i x 2 4 (by decide) _ rfl, b_or]
  rfl
theorem c_0 : (1518500249 : Int) = (0x5a827999#32).toNat := by decide
theorem c_1 : (1859775393 : Int) = (0x6ed9eba1#32).toNat := by decide
theorem c_2 : (2400959708 : Int) = (0x8f1bbcdc#32).toNat := by decide
theorem c_3 : (3395469782 : Int) = (0xca62c1d6#32).toNat := by decide
set_option maxHeartbeats 400000 in
theorem rot_1 (x : BitVec 32) (w : World) :
    Calls Tryz.prog 142 #[.int .u32 x.toNat, .int .i64 1] w fun e w' => e = .returned (.int .u32 (rl x 1).toNat) ∧ w = w' := by
  have hk : bits BinOp.and IntKind.u64 1 31 = 1 := by decide
  go_enter Tryz.func142, Tryz.ntmps142
  go_wp2
  go_ret
  exact ⟨ret_int (rl_1 x), rfl⟩
set_option maxHeartbeats 400000 in
theorem rot_5 (x : BitVec 32) (w : World) :
    Calls Tryz.prog 142 #[.int .u32 x.toNat, .int .i64 5] w fun e w' => e = .returned (.int .u32 (rl x 5).toNat) ∧ w = w' := by
  have hk : bits BinOp.and IntKind.u64 5 31 = 5 := by decide
  go_enter Tryz.func142, Tryz.ntmps142
  go_wp2
  go_ret
  exact ⟨ret_int (rl_5 x), rfl⟩
set_option maxHeartbeats 400000 in
theorem rot_30 (x : BitVec 32) (w : World) :
    Calls Tryz.prog 142 #[.int .u32 x.toNat, .int .i64 30] w fun e w' => e = .returned (.int .u32 (rl x 30).toNat) ∧ w = w' := by
  have hk : bits BinOp.and IntKind.u64 30 31 = 30 := by decide
  go_enter Tryz.func142, Tryz.ntmps142
  go_wp2
  go_ret
  exact ⟨ret_int (rl_30 x), rfl⟩
set_option maxHeartbeats 400000 in
theorem join_0 (t : Nat) (h1 : t < 20) (b c d : BitVec 32) (w : World) :
    Calls Tryz.prog 143 #[.int .i64 t, .int .u32 b.toNat, .int .u32 c.toNat, .int .u32 d.toNat] w fun e w' => e = .returned (.int .u32 (fk t b c d).toNat) ∧ w = w' := by
  go_enter Tryz.func143, Tryz.ntmps143
  go_wp2
  go_ret
  refine ⟨ret_int ?_, rfl⟩
  unfold fk fF kF
  simp only [if_pos h1, b_and, b_or, b_xor, b_not, b_add, c_0, c_1, c_2, c_3, ch_xor, maj_xor]
set_option maxHeartbeats 400000 in
theorem join_1 (t : Nat) (h0 : 20 ≤ t) (h1 : t < 40) (b c d : BitVec 32) (w : World) :
    Calls Tryz.prog 143 #[.int .i64 t, .int .u32 b.toNat, .int .u32 c.toNat, .int .u32 d.toNat] w fun e w' => e = .returned (.int .u32 (fk t b c d).toNat) ∧ w = w' := by
  go_enter Tryz.func143, Tryz.ntmps143
  go_wp2
  go_ret
  refine ⟨ret_int ?_, rfl⟩
  unfold fk fF kF
  simp only [if_neg (show ¬ t < 20 by omega), if_pos h1, b_and, b_or, b_xor, b_not, b_add, c_0, c_1, c_2, c_3, ch_xor, maj_xor]
set_option maxHeartbeats 400000 in
theorem join_2 (t : Nat) (h0 : 40 ≤ t) (h1 : t < 60) (b c d : BitVec 32) (w : World) :
    Calls Tryz.prog 143 #[.int .i64 t, .int .u32 b.toNat, .int .u32 c.toNat, .int .u32 d.toNat] w fun e w' => e = .returned (.int .u32 (fk t b c d).toNat) ∧ w = w' := by
  go_enter Tryz.func143, Tryz.ntmps143
  go_wp2
  go_ret
  refine ⟨ret_int ?_, rfl⟩
  unfold fk fF kF
  simp only [if_neg (show ¬ t < 20 by omega), if_neg (show ¬ t < 40 by omega), if_pos h1, b_and, b_or, b_xor, b_not, b_add, c_0, c_1, c_2, c_3, ch_xor, maj_xor]
set_option maxHeartbeats 400000 in
theorem join_3 (t : Nat) (h0 : 60 ≤ t) (h1 : t < 80) (b c d : BitVec 32) (w : World) :
    Calls Tryz.prog 143 #[.int .i64 t, .int .u32 b.toNat, .int .u32 c.toNat, .int .u32 d.toNat] w fun e w' => e = .returned (.int .u32 (fk t b c d).toNat) ∧ w = w' := by
  go_enter Tryz.func143, Tryz.ntmps143
  go_wp2
  go_ret
  refine ⟨ret_int ?_, rfl⟩
  unfold fk fF kF
  simp only [if_neg (show ¬ t < 20 by omega), if_neg (show ¬ t < 40 by omega), if_neg (show ¬ t < 60 by omega), b_and, b_or, b_xor, b_not, b_add, c_0, c_1, c_2, c_3, ch_xor, maj_xor]
theorem join_any (t : Nat) (h : t < 80) (b c d : BitVec 32) (w : World) :
    Calls Tryz.prog 143 #[.int .i64 t, .int .u32 b.toNat, .int .u32 c.toNat, .int .u32 d.toNat] w fun e w' => e = .returned (.int .u32 (fk t b c d).toNat) ∧ w = w' := by
  by_cases h1 : t < 20
  · exact join_0 t h1 b c d w
  · by_cases h2 : t < 40
    · exact join_1 t (by omega) h2 b c d w
    · by_cases h3 : t < 60
      · exact join_2 t (by omega) h3 b c d w
      · exact join_3 t (by omega) h b c d w
end Go.Proofs.YtpelehhmdcjikaaGreatDoor

/-
  Layer 2: what the blocks of the program hold: arrays of words, the state.
-/
namespace Go.Proofs.YtpelehhmdcjikaaGreatDoor
open Go.RowKit
set_option linter.unusedVariables false
set_option linter.unusedSimpArgs false
/-- Words as values. -/
def wv (l : List (BitVec 32)) : List Value := l.map fun x => .int .u32 x.toNat
theorem wv_len (l : List (BitVec 32)) : (wv l).length = l.length := by simp [wv]
theorem wv_at (l : List (BitVec 32)) (i : Nat) (h : i < l.length) : (wv l)[i]? = some (.int .u32 (l.getD i 0).toNat) := by
  simp [wv, h]
theorem wv_one (l : List (BitVec 32)) : ∀ v ∈ wv l, v.oneCell' = true := by
  intro v hv; simp [wv] at hv; obtain ⟨x, _, rfl⟩ := hv; rfl
theorem arr_wv {arr : Array Value} {l : List (BitVec 32)} (hs : arr.size = l.length) (h : ∀ j, j < l.length → arr[j]? = some (.int .u32 (l.getD j 0).toNat)) : arr = (wv l).toArray := by
  apply Array.ext_getElem?
  intro i
  have e : (wv l).toArray[i]? = (wv l)[i]? := by simp
  by_cases hi : i < l.length
  · rw [h i hi, e, wv_at l i hi]
  · rw [Array.getElem?_eq_none (by omega), e, List.getElem?_eq_none (by rw [wv_len]; omega)]
theorem wv_all (l : List (BitVec 32)) : (wv l).toArray.all (·.oneCell') = true := by
  rw [Array.all_eq_true]
  intro i hi
  exact wv_one l _ (by simp)
theorem info43 : (Tryz.prog.info? 148).map (·.size) = some 80 := by kernel_rfl
theorem info40 : (Tryz.prog.info? 145).map (·.size) = some 71 := by kernel_rfl
theorem z43 : ∃ z : Array Value, (Tryz.prog.info? 148).map (fun i => (i.zero, i.size)) = some (some (.agg z), 80) ∧ z = Array.replicate 80 (.int .u32 0) := ⟨Array.replicate 80 (.int .u32 0), by kernel_rfl, rfl⟩
def zer40 : Array Value := (List.replicate 5 (Value.int .u32 0) ++ (List.replicate 64 (Value.int .u8 0) ++ [Value.int .i64 0, Value.int .u64 0])).toArray
theorem z40 : (Tryz.prog.info? 145).map (fun i => (i.zero, i.size)) = some (some (.agg zer40), 71) := by kernel_rfl
theorem size_u8 (w : World) : (sizeOf 5).run Tryz.prog w = .ok 1 w := Tryz.sizeOf5 w
theorem slice64_lh (w : World) (g k : Nat) (hk : k < 16) (l h : Int) (hl : l = 4 * (k : Int)) (hh : h = 4 * (k : Int) + 4) :
    (Instr.sliceAt 142 (.pointer (some ⟨g, 5, none⟩)) (some (.int .i64 l)) (some (.int .i64 h)) none).run Tryz.prog w = .ok (.slice (some ⟨g, 5 + 4 * k, none⟩) 4 (64 - 4 * k)) w := by
  have ea : Tryz.prog.arrayLen 142 = 64 := by kernel_rfl
  have ee : Tryz.prog.elem 142 = 5 := by kernel_rfl
  rw [run_sliceAt_array_lh w 142 ⟨g, 5, none⟩ (by rw [ea, ee]; exact Tryz.underlying142) .i64 .i64 l h (by omega) (by omega) (by rw [ea]; omega), ea, ee, size_u8]
  simp only [Result.andThen_ok, slicedAt]
  rw [if_neg (by omega), show h.toNat - l.toNat = 4 by omega, show l.toNat = 4 * k by omega]
  unfold Addr.add
  simp only [Nat.mul_one]
  split
  · rename_i h0; simp [show k = 0 by omega]
  · rfl
theorem slice64_l (w : World) (g k : Nat) (hk : k < 64) (l : Int) (hl : l = (k : Int)) :
    (Instr.sliceAt 142 (.pointer (some ⟨g, 5, none⟩)) (some (.int .i64 l)) none none).run Tryz.prog w = .ok (.slice (some ⟨g, 5 + k, none⟩) (64 - k) (64 - k)) w := by
  have ea : Tryz.prog.arrayLen 142 = 64 := by kernel_rfl
  have ee : Tryz.prog.elem 142 = 5 := by kernel_rfl
  rw [run_sliceAt_array_l w 142 ⟨g, 5, none⟩ (by rw [ea, ee]; exact Tryz.underlying142) .i64 l (by omega) (by rw [ea]; omega), ea, ee, size_u8]
  simp only [Result.andThen_ok, slicedAt]
  rw [if_neg (by omega), show l.toNat = k by omega]
  unfold Addr.add
  simp only [Nat.mul_one]
  split
  · rename_i h0; simp [show k = 0 by omega]
  · rfl
theorem index_arr80 (w : World) (b k : Nat) (hk : k < 80) (i : Int) (hi : i = (k : Int)) :
    (Instr.indexAt 148 (.pointer (some ⟨b, 0, none⟩)) (.int .i64 i)).run Tryz.prog w = .ok (.pointer (some ⟨b, k, none⟩)) w := by
  have ea : Tryz.prog.arrayLen 148 = 80 := by kernel_rfl
  have ee : Tryz.prog.elem 148 = 140 := by kernel_rfl
  rw [run_indexAt_array w 148 ⟨b, 0, none⟩ .i64 i (by rw [ea, ee]; exact Tryz.underlying148), if_pos (by rw [ea]; omega), ee, Tryz.sizeOf140 w]
  simp only [Result.andThen_ok, show i.toNat = k by omega, Nat.mul_one]
  unfold Addr.add
  split
  · rename_i h0; simp [h0]
  · simp
theorem index_arr5 (w : World) (b k : Nat) (hk : k < 5) (i : Int) (hi : i = (k : Int)) :
    (Instr.indexAt 141 (.pointer (some ⟨b, 0, none⟩)) (.int .i64 i)).run Tryz.prog w = .ok (.pointer (some ⟨b, k, none⟩)) w := by
  have ea : Tryz.prog.arrayLen 141 = 5 := by kernel_rfl
  have ee : Tryz.prog.elem 141 = 140 := by kernel_rfl
  rw [run_indexAt_array w 141 ⟨b, 0, none⟩ .i64 i (by rw [ea, ee]; exact Tryz.underlying141), if_pos (by rw [ea]; omega), ee, Tryz.sizeOf140 w]
  simp only [Result.andThen_ok, show i.toNat = k by omega, Nat.mul_one]
  unfold Addr.add
  split
  · rename_i h0; simp [h0]
  · simp
theorem index_arr20 (w : World) (b k : Nat) (hk : k < 20) (i : Int) (hi : i = (k : Int)) :
    (Instr.indexAt 24 (.pointer (some ⟨b, 0, none⟩)) (.int .i64 i)).run Tryz.prog w = .ok (.pointer (some ⟨b, k, none⟩)) w := by
  have ea : Tryz.prog.arrayLen 24 = 20 := by kernel_rfl
  have ee : Tryz.prog.elem 24 = 5 := by kernel_rfl
  rw [run_indexAt_array w 24 ⟨b, 0, none⟩ .i64 i (by rw [ea, ee]; exact Tryz.underlying24), if_pos (by rw [ea]; omega), ee, Tryz.sizeOf5 w]
  simp only [Result.andThen_ok, show i.toNat = k by omega, Nat.mul_one]
  unfold Addr.add
  split
  · rename_i h0; simp [h0]
  · simp
theorem index_agg80 (w : World) (cs : Array Value) (k : Nat) (hk : k < 80) (v : Value) (hv : cs[k]? = some v) (i : Int) (hi : i = (k : Int)) :
    (Instr.index 148 (.agg cs) (.int .i64 i)).run Tryz.prog w = .ok v w := by
  subst hi
  have h1 : 0 ≤ (k : Int) ∧ (k : Int) < (80 : Nat) := by omega
  have ha : (isAgg 140).run Tryz.prog w = .ok false w := by unfold isAgg; rw [Sem.run_bind, run_underlying Tryz.underlying140 w]; rfl
  simp [Instr.index, run_underlying Tryz.underlying148, asIntOf, h1, go_sem, part, ha, Tryz.sizeOf140 w, hv]
  omega
theorem slice_u8_l (w : World) (a : Option Addr) (len cap k : Nat) (h : k ≤ len) (l : Int) (hl : l = (k : Int)) :
    (Instr.sliceAt 32 (.slice a len cap) (some (.int .i64 l)) none none).run Tryz.prog w = .ok (.slice (if cap = k then a else a.map (·.add k)) (len - k) (cap - k)) w := by
  have ee : Tryz.prog.elem 32 = 5 := by kernel_rfl
  rw [run_sliceAt_slice (P := Tryz.prog) (w := w) 32 _ _ _ _ (by rw [ee]; exact Tryz.underlying32), run_slice_l (P := Tryz.prog) (w := w) 32 a len cap (by rw [ee]; exact Tryz.underlying32) .i64 l (by omega) (by omega), ee, size_u8]
  simp only [Result.andThen_ok, sliced, show l.toNat = k by omega, Nat.mul_one]
theorem addr_add (b o k : Nat) : (⟨b, o, none⟩ : Addr).add k = ⟨b, o + k, none⟩ := by unfold Addr.add; split <;> simp_all
end Go.Proofs.YtpelehhmdcjikaaGreatDoor

/-
  Layer 2: schedule.
-/
namespace Go.Proofs.YtpelehhmdcjikaaGreatDoor
set_option maxRecDepth 20000
open Go.RowKit
set_option linter.unusedVariables false
set_option linter.unusedSimpArgs false
set_option maxHeartbeats 400000 in
theorem schedule_any (w : World) (g : Nat) (cs : Array Value) (fr : Nat × Nat) (m : Nat → UInt8) (hg : w.heap[g]? = some (.cells cs 145 fr)) (hb : ∀ i, i < 64 → cs[5 + i]? = some (.int .u8 (m i).toNat)) :
    Calls Tryz.prog 141 #[.pointer (some ⟨g, 0, none⟩)] w fun e w' => e = .returned (.agg (wv (sched m 80)).toArray) ∧ Below w.heap.size w w' := by
  obtain ⟨z, hz, hze⟩ := z43
  have hzv := zero_arr hz
  have HZ := Lib.hid hz; clear hz
  have HZE := Lib.hid hze; clear hze
  have HB := Lib.hid hb; clear hb
  have HG := Lib.hid hg; clear hg
  go_enter Tryz.func141, Tryz.ntmps141
  go_wp2_with fail
  go_loopw [7] (fun i wr => ∃ (k : Nat) (arr : Array Value), k ≤ 16 ∧ i = .int .i64 k ∧ wr.heap[w.heap.size + 1]? = some (.cells arr 148 (0, 0)) ∧ wr.heap[w.heap.size]? = some (.cells z 148 (0, 0)) ∧ arr.size = 80 ∧
      (∀ j, j < k → arr[j]? = some (.int .u32 (W80 m j).toNat)) ∧ Below w.heap.size w wr) (fun i _ => 16 - (intOf i).toNat)
  case atStart => exact ⟨0, z, Nat.zero_le _, rfl, by rw [show w.heap.size + 1 = (w.alloc (.cells z 148)).heap.size by simp]; exact heap_alloc_new _ _, two_new w _ _, by rw [HZE.out]; simp, fun j hj => absurd hj (Nat.not_lt_zero _), ((Below.refl _ w).alloc (Nat.le_refl _) _).alloc (by simp) _⟩
  case round =>
    obtain ⟨k, arr, hk, rfl, ha, h2, hsz, har, hbr⟩ := hrel
    have HA := Lib.hid ha; clear ha
    have H2 := Lib.hid h2; clear h2
    have HAR := Lib.hid har; clear har
    have hgw : wr.heap[g]? = some (.cells cs 145 fr) := (hbr.block g (lt_of_heap HG.out)).trans HG.out
    by_cases hlt : k < 16
    · have hsl := fun w => slice64_lh w g k hlt (4 * (k : Int)) (4 * (k : Int) + 4) rfl rfl
      have hx : ∀ j, j < 4 → wr.cell? ⟨g, 5 + 4 * k + j, none⟩ = some (.int .u8 (m (4 * k + j)).toNat) := fun j hj => by
        rw [cell_of_row wr g _ cs _ fr hgw, Nat.add_assoc, HB.out (4 * k + j) (by omega)]
      have q0 := hx 0 (by omega); have q1 := hx 1 (by omega); have q2 := hx 2 (by omega); have q3 := hx 3 (by omega)
      clear hx
      rw [Nat.add_zero] at q0
      obtain ⟨x0, e0⟩ : ∃ x : Int, x = (m (4 * k + 0)).toNat := ⟨_, rfl⟩
      obtain ⟨x1, e1⟩ : ∃ x : Int, x = (m (4 * k + 1)).toNat := ⟨_, rfl⟩
      obtain ⟨x2, e2⟩ : ∃ x : Int, x = (m (4 * k + 2)).toNat := ⟨_, rfl⟩
      obtain ⟨x3, e3⟩ : ∃ x : Int, x = (m (4 * k + 3)).toNat := ⟨_, rfl⟩
      rw [← e0] at q0; rw [← e1] at q1; rw [← e2] at q2; rw [← e3] at q3
      have l0 : 0 ≤ x0 ∧ x0 < 256 := by rw [e0]; exact u8_lt _
      have l1 : 0 ≤ x1 ∧ x1 < 256 := by rw [e1]; exact u8_lt _
      have l2 : 0 ≤ x2 ∧ x2 < 256 := by rw [e2]; exact u8_lt _
      have l3 : 0 ≤ x3 ∧ x3 < 256 := by rw [e3]; exact u8_lt _
      obtain ⟨l0a, l0b⟩ := l0; obtain ⟨l1a, l1b⟩ := l1; obtain ⟨l2a, l2b⟩ := l2; obtain ⟨l3a, l3b⟩ := l3
      have E0 := Lib.hid e0; have E1 := Lib.hid e1; have E2 := Lib.hid e2; have E3 := Lib.hid e3
      clear e0 e1 e2 e3 hgw
      obtain ⟨old, ho⟩ : ∃ v, wr.cell? ⟨w.heap.size + 1, k, none⟩ = some v := ⟨arr[k]'(by omega), by rw [cell_of_row wr _ k arr _ _ HA.out]; simp⟩
      have hf : wr.frozen? ⟨w.heap.size + 1, k, none⟩ = false := not_frozen HA.out k
      have hix := fun u => index_arr80 u (w.heap.size + 1) k (by omega) k rfl
      go_wp2_with fail
      go_still_tail 24, (by kernel_rfl)
      change wpList _ _ _ _ _ wr.drew
      go_wp2
      go_roundw
      case rel =>
        refine ⟨k + 1, arr.setIfInBounds k _, by omega, by go_num, heap_set HA.out k _, ?_, by simpa using hsz, ?_, ?_⟩
        · exact (Below.heap_setCell wr ⟨w.heap.size + 1, k, none⟩ _ w.heap.size (by simp)).trans H2.out
        · intro j hj
          rw [set_get _ _ _ _ (by omega)]
          split
          · rename_i e; subst e
            rw [E0.out, E1.out, E2.out, E3.out, W80_lo m _ hlt, ← word_int]; rfl
          · exact HAR.out j (by omega)
        · exact (hbr.setCell (by simp) _).drew
      case measure => simp [intOf]; omega
    · have hk16 : k = 16 := by omega
      subst hk16
      clear hlt
      go_wp2_with fail
      go_loopw [6] (fun i wr => ∃ (k : Nat) (arr : Array Value), 16 ≤ k ∧ k ≤ 80 ∧ i = .int .i64 k ∧ wr.heap[w.heap.size + 1]? = some (.cells arr 148 (0, 0)) ∧ wr.heap[w.heap.size]? = some (.cells z 148 (0, 0)) ∧ arr.size = 80 ∧
        (∀ j, j < k → arr[j]? = some (.int .u32 (W80 m j).toNat)) ∧ Below w.heap.size w wr) (fun i _ => 80 - (intOf i).toNat)
      case atStart => exact ⟨16, arr, Nat.le_refl _, by omega, rfl, HA.out, H2.out, hsz, HAR.out, hbr⟩
      case round =>
        clear hbr HA H2 HAR hsz hgw
        clear arr
        obtain ⟨k, arr, hk0, hk, rfl, ha, h2, hsz, har, hbr⟩ := hrel
        rename_i wr0 wr
        have HA := Lib.hid ha; clear ha
        have H2 := Lib.hid h2; clear h2
        have HAR := Lib.hid har; clear har
        by_cases hlt : k < 80
        · go_wp2_with fail
          have hx : ∀ j, j < k → wr.cell? ⟨w.heap.size + 1, j, none⟩ = some (.int .u32 (W80 m j).toNat) := fun j hj => by
            rw [cell_of_row wr _ j arr _ _ HA.out, HAR.out j hj]
          have hy := W80_hi m k hk0 hlt
          obtain ⟨a3, f3⟩ : ∃ a, a = k - 3 := ⟨_, rfl⟩
          have q3 := hx a3 (by omega)
          have i3 := fun u => index_arr80 u (w.heap.size + 1) a3 (by omega) ((k : Int) - 3) (by omega)
          rw [← f3] at hy
          have w3 : IntKind.i64.wrap ((k : Int) - 3) = (k : Int) - 3 := by rw [IntKind.wrap_i64]; omega
          generalize W80 m a3 = y3 at hy q3
          obtain ⟨a8, f8⟩ : ∃ a, a = k - 8 := ⟨_, rfl⟩
          have q8 := hx a8 (by omega)
          have i8 := fun u => index_arr80 u (w.heap.size + 1) a8 (by omega) ((k : Int) - 8) (by omega)
          rw [← f8] at hy
          have w8 : IntKind.i64.wrap ((k : Int) - 8) = (k : Int) - 8 := by rw [IntKind.wrap_i64]; omega
          generalize W80 m a8 = y8 at hy q8
          obtain ⟨a14, f14⟩ : ∃ a, a = k - 14 := ⟨_, rfl⟩
          have q14 := hx a14 (by omega)
          have i14 := fun u => index_arr80 u (w.heap.size + 1) a14 (by omega) ((k : Int) - 14) (by omega)
          rw [← f14] at hy
          have w14 : IntKind.i64.wrap ((k : Int) - 14) = (k : Int) - 14 := by rw [IntKind.wrap_i64]; omega
          generalize W80 m a14 = y14 at hy q14
          obtain ⟨a16, f16⟩ : ∃ a, a = k - 16 := ⟨_, rfl⟩
          have q16 := hx a16 (by omega)
          have i16 := fun u => index_arr80 u (w.heap.size + 1) a16 (by omega) ((k : Int) - 16) (by omega)
          rw [← f16] at hy
          have w16 : IntKind.i64.wrap ((k : Int) - 16) = (k : Int) - 16 := by rw [IntKind.wrap_i64]; omega
          generalize W80 m a16 = y16 at hy q16
          have hix := fun u => index_arr80 u (w.heap.size + 1) k (by omega) k rfl
          obtain ⟨old, ho⟩ : ∃ v, wr.cell? ⟨w.heap.size + 1, k, none⟩ = some v := ⟨arr[k]'(by omega), by rw [cell_of_row wr _ k arr _ _ HA.out]; simp⟩
          have hf : wr.frozen? ⟨w.heap.size + 1, k, none⟩ = false := not_frozen HA.out k
          obtain ⟨x, hxe⟩ : ∃ x, x = y3 ^^^ y8 ^^^ y14 ^^^ y16 := ⟨_, rfl⟩
          rw [← hxe] at hy
          have HY := Lib.hid hy
          have hX : bits BinOp.xor .u32 (bits BinOp.xor .u32 (bits BinOp.xor .u32 (y3.toNat : Int) (y8.toNat : Int)) (y14.toNat : Int)) (y16.toNat : Int) = (x.toNat : Int) := by rw [hxe, b_xor, b_xor, b_xor]
          clear hxe
          clear hy hx f3 f8 f14 f16
          go_still_tail 22, (by kernel_rfl)
          still_call (rot_flip (rot_1 x _))
          repeat still_step
          refine wpStill_nil ?_
          change wpList _ _ _ _ _ wr.drew
          go_wp2
          refine ⟨?_, ?me2⟩
          (repeat apply Exists.intro)
          refine ⟨?re2, rfl⟩
          case re2 =>
            refine ⟨k + 1, arr.setIfInBounds k _, by omega, by omega, by go_num, heap_set HA.out k _, ?_, by simpa using hsz, ?_, ?_⟩
            · exact (Below.heap_setCell wr ⟨w.heap.size + 1, k, none⟩ _ w.heap.size (by simp)).trans H2.out
            · intro j hj
              rw [set_get _ _ _ _ (by omega)]
              split
              · rename_i e; subst e
                rw [HY.out]
              · exact HAR.out j (by omega)
            · exact (hbr.setCell (by simp) _).drew
          case me2 => simp [intOf]; omega
        · obtain rfl : k = 80 := by omega
          have harr : arr = (wv (sched m 80)).toArray := arr_wv (by rw [hsz, sched_len]) (fun j hj => HAR.out j (by rwa [sched_len] at hj))
          have hall := wv_all (sched m 80)
          rw [← harr] at hall
          have HARR := Lib.hid harr; clear harr
          have HALL := Lib.hid hall; clear hall
          go_wp2_with (first
            | (with_reducible refine wpList_load_row rfl 148 (.tmp 3) rfl (w.heap.size + 1) rfl 148 arr (0, 0) _ ?lg Tryz.underlying148 rfl ?li ?_)
            | (with_reducible refine wpList_store_row rfl 148 _ _ rfl w.heap.size arr rfl rfl 148 z ?sg ?si ?so ?s1 ?_))
          case lg => exact HA.out
          case li => rw [info43, hsz]
          case sg => exact H2.out
          case si => rw [info43, hsz]
          case so => rw [HZE.out, hsz]; simp
          case s1 => exact HALL.out
          refine bodyPost_ret (results_cell_row Tryz.results141 _ _ w.heap.size 148 arr (0, 0) _ rfl (setRow_heap wr w.heap.size z arr _ (0, 0) H2.out) Tryz.underlying148 rfl (by rw [info43, hsz])) rfl ⟨by rw [HARR.out], below_setRow hbr (Nat.le_refl _) arr⟩
end Go.Proofs.YtpelehhmdcjikaaGreatDoor

/-
  Layer 2: mix: a full block goes into the words.
-/
namespace Go.Proofs.YtpelehhmdcjikaaGreatDoor
open Go.RowKit
set_option linter.unusedVariables false
set_option linter.unusedSimpArgs false
/-- What lies in the block of a state. -/
structure StB (cs : Array Value) (h : H5) : Prop where
  size : cs.size = 71
  word : ∀ i, i < 5 → cs[i]? = some (.int .u32 (h.get i).toNat)
theorem grown_of_below {w w' : World} (h : Below w.heap.size w w') (row : Option Nat) : w.grownBy w' row := ⟨h.os, h.tape, h.output, h.size, fun k hk _ => h.block k hk⟩
theorem grown_trans {a b c : World} {row : Option Nat} (h : a.grownBy b row) (k : b.grownBy c row) : a.grownBy c row :=
  ⟨k.os.trans h.os, k.tape.trans h.tape, k.output.trans h.output, Nat.le_trans h.size k.size, fun i hi hr => (k.block i (Nat.lt_of_lt_of_le hi h.size) hr).trans (h.block i hi hr)⟩
theorem grown_set (w : World) (g i : Nat) (v : Value) : w.grownBy (w.setCell ⟨g, i, none⟩ v) (some g) :=
  ⟨rfl, rfl, rfl, by simp [World.setCell], fun k hk hr => Below.heap_setCell _ _ _ _ (fun e => hr (by rw [e]))⟩
theorem grown_drew {w w' : World} {row : Option Nat} (h : w.grownBy w' row) : w.grownBy w'.drew row := ⟨h.os, h.tape, h.output, h.size, h.block⟩
theorem step_heap {u u' : World} {g : Nat} {cs : Array Value} {t : TypeId} {i : Nat} {v : Value} (h : u.heap[g]? = some (.cells cs t (0, 0))) (hw : (u.setCell ⟨g, i, none⟩ v).drew = u') : u'.heap[g]? = some (.cells (cs.setIfInBounds i v) t (0, 0)) := by
  subst hw; exact heap_set h i v
theorem step_grown {w u u' : World} {g i : Nat} {v : Value} (h : w.grownBy u (some g)) (hw : (u.setCell ⟨g, i, none⟩ v).drew = u') : w.grownBy u' (some g) := by
  subst hw; exact grown_drew (grown_trans h (grown_set u g i v))
theorem old_at1 {cs : Array Value} {v0 x : Value} (hs : cs.size = 71) (h : cs[1]? = some x) : (cs.setIfInBounds 0 v0)[1]? = some x := by
  rw [set_get _ _ _ _ (by simp [hs]), if_neg (by omega)]; exact h
theorem old_at2 {cs : Array Value} {v0 v1 x : Value} (hs : cs.size = 71) (h : cs[2]? = some x) : ((cs.setIfInBounds 0 v0).setIfInBounds 1 v1)[2]? = some x := by
  rw [set_get _ _ _ _ (by simp [hs]), if_neg (by omega), set_get _ _ _ _ (by simp [hs]), if_neg (by omega)]; exact h
theorem old_at3 {cs : Array Value} {v0 v1 v2 x : Value} (hs : cs.size = 71) (h : cs[3]? = some x) : (((cs.setIfInBounds 0 v0).setIfInBounds 1 v1).setIfInBounds 2 v2)[3]? = some x := by
  rw [set_get _ _ _ _ (by simp [hs]), if_neg (by omega), set_get _ _ _ _ (by simp [hs]), if_neg (by omega), set_get _ _ _ _ (by simp [hs]), if_neg (by omega)]; exact h
theorem old_at4 {cs : Array Value} {v0 v1 v2 v3 x : Value} (hs : cs.size = 71) (h : cs[4]? = some x) : ((((cs.setIfInBounds 0 v0).setIfInBounds 1 v1).setIfInBounds 2 v2).setIfInBounds 3 v3)[4]? = some x := by
  rw [set_get _ _ _ _ (by simp [hs]), if_neg (by omega), set_get _ _ _ _ (by simp [hs]), if_neg (by omega), set_get _ _ _ _ (by simp [hs]), if_neg (by omega), set_get _ _ _ _ (by simp [hs]), if_neg (by omega)]; exact h
theorem stB_added {cs : Array Value} (hz : cs.size = 71) (h s : H5) : StB (((((cs.setIfInBounds 0 (.int .u32 (((h.a.toNat : Int) + s.a.toNat) % 4294967296))).setIfInBounds 1 (.int .u32 (((h.b.toNat : Int) + s.b.toNat) % 4294967296))).setIfInBounds 2 (.int .u32 (((h.c.toNat : Int) + s.c.toNat) % 4294967296))).setIfInBounds 3 (.int .u32 (((h.d.toNat : Int) + s.d.toNat) % 4294967296))).setIfInBounds 4 (.int .u32 (((h.e.toNat : Int) + s.e.toNat) % 4294967296))) (addH h s) where
  size := by simp [hz]
  word := by
    intro i hi
    rw [b_add, b_add, b_add, b_add, b_add]
    match i, hi with
    | 0, _ => rw [set_get _ _ _ _ (by simp [hz]), if_neg (by omega), set_get _ _ _ _ (by simp [hz]), if_neg (by omega), set_get _ _ _ _ (by simp [hz]), if_neg (by omega), set_get _ _ _ _ (by simp [hz]), if_neg (by omega), set_get _ _ _ _ (by simp [hz]), if_pos rfl]; rfl
    | 1, _ => rw [set_get _ _ _ _ (by simp [hz]), if_neg (by omega), set_get _ _ _ _ (by simp [hz]), if_neg (by omega), set_get _ _ _ _ (by simp [hz]), if_neg (by omega), set_get _ _ _ _ (by simp [hz]), if_pos rfl]; rfl
    | 2, _ => rw [set_get _ _ _ _ (by simp [hz]), if_neg (by omega), set_get _ _ _ _ (by simp [hz]), if_neg (by omega), set_get _ _ _ _ (by simp [hz]), if_pos rfl]; rfl
    | 3, _ => rw [set_get _ _ _ _ (by simp [hz]), if_neg (by omega), set_get _ _ _ _ (by simp [hz]), if_pos rfl]; rfl
    | 4, _ => rw [set_get _ _ _ _ (by simp [hz]), if_pos rfl]; rfl
set_option maxRecDepth 10000 in
set_option maxHeartbeats 4000000 in
theorem mix_any (w : World) (g : Nat) (cs : Array Value) (h : H5) (m : Nat → UInt8) (hg : w.heap[g]? = some (.cells cs 145 (0, 0))) (hs : StB cs h) (hb : ∀ i, i < 64 → cs[5 + i]? = some (.int .u8 (m i).toNat)) :
    Calls Tryz.prog 109 #[.pointer (some ⟨g, 0, none⟩)] w fun e w' => e = .returned (.tuple #[]) ∧ w.grownBy w' (some g) ∧
      ∃ cs', w'.heap[g]? = some (.cells cs' 145 (0, 0)) ∧ StB cs' (comp m h) ∧ ∀ i, 5 ≤ i → cs'[i]? = cs[i]? := by
  have hc : ∀ i, i < 5 → w.cell? ⟨g, i, none⟩ = some (.int .u32 (h.get i).toNat) := fun i hi => by rw [cell_of_row w g i cs _ _ hg, hs.word i hi]
  have q0 : w.cell? ⟨g, 0, none⟩ = some (.int .u32 h.a.toNat) := hc 0 (by omega)
  have q1 : w.cell? ⟨g, 1, none⟩ = some (.int .u32 h.b.toNat) := hc 1 (by omega)
  have q2 : w.cell? ⟨g, 2, none⟩ = some (.int .u32 h.c.toNat) := hc 2 (by omega)
  have q3 : w.cell? ⟨g, 3, none⟩ = some (.int .u32 h.d.toNat) := hc 3 (by omega)
  have q4 : w.cell? ⟨g, 4, none⟩ = some (.int .u32 h.e.toNat) := hc 4 (by omega)
  clear hc
  have i0 := fun u => index_arr5 u g 0 (by omega) 0 rfl
  have i1 := fun u => index_arr5 u g 1 (by omega) 1 rfl
  have i2 := fun u => index_arr5 u g 2 (by omega) 2 rfl
  have i3 := fun u => index_arr5 u g 3 (by omega) 3 rfl
  have i4 := fun u => index_arr5 u g 4 (by omega) 4 rfl
  have C := Lib.hid (fun u (hu : Below w.heap.size w u) => schedule_any u g cs (0, 0) m ((hu.block g (lt_of_heap hg)).trans hg) hb)
  have HG := Lib.hid hg; clear hg
  have HS := Lib.hid hs; clear hs
  have HB := Lib.hid hb; clear hb
  go_enter Tryz.func109, Tryz.ntmps109
  go_wp2_with fail
  go_quiet (fail)
  clear q0 q1 q2 q3 q4
  go_wp2_with fail
  refine (C.out _ (_root_.Go.below_drewN (Below.refl _ _) _)).mono ?_
  rintro e w1 ⟨rfl, hb1⟩
  have hb : Below w.heap.size w w1 := (_root_.Go.below_drewN (Below.refl _ _) _).trans (hb1.mono (Nat.le_refl _))
  clear hb1 C
  generalize hlst : wv (sched m 80) = lst
  have hwl : ∀ j, j < 80 → lst.toArray[j]? = some (.int .u32 (W80 m j).toNat) := fun j hj => by
    rw [← hlst, List.getElem?_toArray, wv_at _ _ (by rw [sched_len]; exact hj)]; rfl
  generalize lst.toArray = arr at hwl
  clear hlst
  have HWL := Lib.hid hwl; clear hwl
  go_wp2_with fail
  go_loopw [2, 3, 4, 5, 6, 36] (fun a b c d e i wr => ∃ (k : Nat) (s : H5), k ≤ 80 ∧ i = .int .i64 k ∧ a = .int .u32 s.a.toNat ∧ b = .int .u32 s.b.toNat ∧ c = .int .u32 s.c.toNat ∧ d = .int .u32 s.d.toNat ∧ e = .int .u32 s.e.toNat ∧
      s = rounds (sched m 80) h k ∧ Below w.heap.size w wr) (fun _ _ _ _ _ i _ => 80 - (intOf i).toNat)
  case atStart => exact ⟨0, h, Nat.zero_le _, rfl, rfl, rfl, rfl, rfl, rfl, rfl, hb⟩
  case round =>
    clear hb
    obtain ⟨k, s, hk, rfl, rfl, rfl, rfl, rfl, rfl, hs, hbr⟩ := hrel
    have HSK := Lib.hid hs; clear hs
    by_cases hlt : k < 80
    · have hk1 : k + 1 ≤ 80 := hlt
      have hix := index_agg80 wr arr k hlt _ (HWL.out k hlt) k rfl
      obtain ⟨y, hy⟩ : ∃ y : Int, y = (W80 m k).toNat := ⟨_, rfl⟩
      rw [← hy] at hix
      have HY := Lib.hid hy; clear hy
      go_wp2_with fail
      clear hix
      refine (rot_5 s.a _).mono ?_
      rintro e w2 ⟨rfl, rfl⟩
      generalize hr5 : (((rl s.a 5).toNat : Nat) : Int) = r5
      have H5 := Lib.hid hr5; clear hr5
      go_wp2_with fail
      refine (join_any k hlt s.b s.c s.d _).mono ?_
      rintro e w2 ⟨rfl, rfl⟩
      generalize hrj : (((fk k s.b s.c s.d).toNat : Nat) : Int) = rj
      have HJ := Lib.hid hrj; clear hrj
      go_wp2_with fail
      refine (rot_30 s.b _).mono ?_
      rintro e w2 ⟨rfl, rfl⟩
      generalize hr30 : (((rl s.b 30).toNat : Nat) : Int) = r30
      have H30 := Lib.hid hr30; clear hr30
      go_wp2
      go_roundw
      case rel =>
        refine ⟨k + 1, stepH k (W80 m k) s, hk1, by go_num, ?_, ?_, ?_, ?_, ?_, ?_, hbr⟩
        · rw [← H5.out, ← HJ.out, HY.out]
          exact congrArg (Value.int .u32) (step_a2 k _ s)
        · rw [step_b]
        · rw [← H30.out, step_c]
        · rw [step_d]
        · rw [step_e]
        · rw [HSK.out, rounds80]
      case measure => simp [intOf]; omega
    · obtain rfl : k = 80 := by omega
      clear HWL
      have hgr : wr.heap[g]? = some (.cells cs 145 (0, 0)) := (hbr.block g (lt_of_heap HG.out)).trans HG.out
      have hcs : ∀ i, i < 5 → cs[i]? = some (.int .u32 (h.get i).toNat) := HS.out.word
      have hsz := HS.out.size
      have HCS := Lib.hid hcs; clear hcs
      have HSZ := Lib.hid hsz; clear hsz
      have GR0 := Lib.hid (grown_of_below hbr (some g))
      have HGR0 := Lib.hid hgr
      clear hgr
      go_wp2_with fail
      have q : wr.cell? ⟨g, 0, none⟩ = some (.int .u32 h.a.toNat) := (cell_of_row wr g 0 _ _ _ HGR0.out).trans (HCS.out 0 (by omega))
      have z := not_frozen HGR0.out 0
      go_still_tail 10, (by kernel_rfl)
      change wpList _ _ _ _ _ (World.drew wr)
      go_wp2_with fail
      clear q z
      generalize hw : (wr.setCell ⟨g, 0, none⟩ (Value.int .u32 (((h.a.toNat : Int) + s.a.toNat) % 4294967296))).drew = w1
      have HGR1 := Lib.hid (step_heap HGR0.out hw)
      have GR1 := Lib.hid (step_grown GR0.out hw)
      clear hw
      have q : w1.cell? ⟨g, 1, none⟩ = some (.int .u32 h.b.toNat) := (cell_of_row w1 g 1 _ _ _ HGR1.out).trans (old_at1 HSZ.out (HCS.out 1 (by omega)))
      have z := not_frozen HGR1.out 1
      go_still_tail 10, (by kernel_rfl)
      change wpList _ _ _ _ _ (World.drew w1)
      go_wp2_with fail
      clear q z
      generalize hw : (w1.setCell ⟨g, 1, none⟩ (Value.int .u32 (((h.b.toNat : Int) + s.b.toNat) % 4294967296))).drew = w2
      have HGR2 := Lib.hid (step_heap HGR1.out hw)
      have GR2 := Lib.hid (step_grown GR1.out hw)
      clear hw
      have q : w2.cell? ⟨g, 2, none⟩ = some (.int .u32 h.c.toNat) := (cell_of_row w2 g 2 _ _ _ HGR2.out).trans (old_at2 HSZ.out (HCS.out 2 (by omega)))
      have z := not_frozen HGR2.out 2
      go_still_tail 10, (by kernel_rfl)
      change wpList _ _ _ _ _ (World.drew w2)
      go_wp2_with fail
      clear q z
      generalize hw : (w2.setCell ⟨g, 2, none⟩ (Value.int .u32 (((h.c.toNat : Int) + s.c.toNat) % 4294967296))).drew = w3
      have HGR3 := Lib.hid (step_heap HGR2.out hw)
      have GR3 := Lib.hid (step_grown GR2.out hw)
      clear hw
      have q : w3.cell? ⟨g, 3, none⟩ = some (.int .u32 h.d.toNat) := (cell_of_row w3 g 3 _ _ _ HGR3.out).trans (old_at3 HSZ.out (HCS.out 3 (by omega)))
      have z := not_frozen HGR3.out 3
      go_still_tail 10, (by kernel_rfl)
      change wpList _ _ _ _ _ (World.drew w3)
      go_wp2_with fail
      clear q z
      generalize hw : (w3.setCell ⟨g, 3, none⟩ (Value.int .u32 (((h.d.toNat : Int) + s.d.toNat) % 4294967296))).drew = w4
      have HGR4 := Lib.hid (step_heap HGR3.out hw)
      have GR4 := Lib.hid (step_grown GR3.out hw)
      clear hw
      have q : w4.cell? ⟨g, 4, none⟩ = some (.int .u32 h.e.toNat) := (cell_of_row w4 g 4 _ _ _ HGR4.out).trans (old_at4 HSZ.out (HCS.out 4 (by omega)))
      have z := not_frozen HGR4.out 4
      go_still_tail 10, (by kernel_rfl)
      change wpList _ _ _ _ _ (World.drew w4)
      go_wp2_with fail
      clear q z
      go_end0
      refine ⟨rfl, grown_drew (grown_trans GR4.out (grown_set w4 g 4 _)), _, heap_set HGR4.out 4 _, ?_, ?_⟩
      · rw [comp, ← HSK.out]
        exact stB_added HSZ.out h s
      · intro i hi
        rw [set_get _ _ _ _ (by simp [HSZ.out]), if_neg (by omega), set_get _ _ _ _ (by simp [HSZ.out]), if_neg (by omega), set_get _ _ _ _ (by simp [HSZ.out]), if_neg (by omega), set_get _ _ _ _ (by simp [HSZ.out]), if_neg (by omega), set_get _ _ _ _ (by simp [HSZ.out]), if_neg (by omega)]
end Go.Proofs.YtpelehhmdcjikaaGreatDoor

/-
  Layer 2: add: one more part goes into the state.
-/
namespace Go.Proofs.YtpelehhmdcjikaaGreatDoor
set_option maxRecDepth 20000
open Go.RowKit
set_option linter.unusedVariables false
set_option linter.unusedSimpArgs false
/-- What lies in a state's block behind p bytes of a text. -/
structure StC (cs : Array Value) (T : Nat → UInt8) (p n : Nat) : Prop where
  words : StB cs (hs T (p / 64))
  bytes : ∀ i, i < p % 64 → cs[5 + i]? = some (.int .u8 (T (64 * (p / 64) + i)).toNat)
  fill : cs[69]? = some (.int .i64 ((p % 64 : Nat) : Int))
  len : cs[70]? = some (.int .u64 (n : Int))
def StT (w : World) (g : Nat) (T : Nat → UInt8) (p n : Nat) : Prop := ∃ cs, w.heap[g]? = some (.cells cs 145 (0, 0)) ∧ StC cs T p n
theorem splice_get (cs : Array Value) (off : Nat) (ch : List Value) (hf : off + ch.length ≤ cs.size) (i : Nat) :
    (cs.toList.take off ++ (ch ++ cs.toList.drop (off + ch.length))).toArray[i]? = if i < off then cs[i]? else if i < off + ch.length then ch[i - off]? else cs[i]? := by
  have hl : (cs.toList.take off).length = off := by simp; omega
  have e : (cs.toList.take off ++ (ch ++ cs.toList.drop (off + ch.length))).toArray[i]? = (cs.toList.take off ++ (ch ++ cs.toList.drop (off + ch.length)))[i]? := by simp
  rw [e]
  by_cases h1 : i < off
  · rw [if_pos h1, List.getElem?_append_left (by omega), List.getElem?_take, if_pos h1]; simp
  · rw [if_neg h1, List.getElem?_append_right (by omega), hl]
    by_cases h2 : i < off + ch.length
    · rw [if_pos h2, List.getElem?_append_left (by omega)]
    · rw [if_neg h2, List.getElem?_append_right (by omega), List.getElem?_drop]
      rw [show off + ch.length + (i - off - ch.length) = i by omega]; simp
def chunk (T : Nat → UInt8) (p n : Nat) : List Value := (List.range n).map fun i => .int .u8 (T (p + i)).toNat
theorem chunk_len (T : Nat → UInt8) (p n : Nat) : (chunk T p n).length = n := by simp [chunk]
theorem chunk_at (T : Nat → UInt8) (p n i : Nat) (h : i < n) : (chunk T p n)[i]? = some (.int .u8 (T (p + i)).toNat) := by simp [chunk, h]
theorem chunk_one (T : Nat → UInt8) (p n : Nat) : ∀ v ∈ chunk T p n, v.oneCell' = true := by
  intro v hv; simp [chunk] at hv; obtain ⟨x, _, rfl⟩ := hv; rfl
/-- How long a slice is. -/
def sliceLen : Value → Nat | .slice _ n _ => n | _ => 0
theorem info5' : (Tryz.prog.info? 5).map (·.size) = some 1 := by kernel_rfl
set_option maxHeartbeats 4000000 in
theorem add_some (w : World) (g : Nat) (T : Nat → UInt8) (p n : Nat) (b o N c : Nat) (hst : StT w g T p n) (hbg : b ≠ g) (hbl : b < w.heap.size) (hN : N ≤ c) (hNs : n + N ≤ 1099511627776)
    (hcell : ∀ i, i < N → w.cell? ⟨b, o + i, none⟩ = some (.int .u8 (T (p + i)).toNat)) :
    Calls Tryz.prog 79 #[.pointer (some ⟨g, 0, none⟩), .slice (some ⟨b, o, none⟩) N c] w fun e w' => e = .returned (.tuple #[]) ∧ w.grownBy w' (some g) ∧ StT w' g T (p + N) (n + N) := by
  obtain ⟨cs, hg, hc⟩ := hst
  have HC := Lib.hid hcell; clear hcell
  have q70 : w.cell? ⟨g, 70, none⟩ = some (.int .u64 n) := (cell_of_row w g 70 cs _ _ hg).trans hc.len
  have z70 := not_frozen hg 70
  have hgl := lt_of_heap hg
  have HG := Lib.hid hg; clear hg
  have HS := Lib.hid hc; clear hc
  go_enter Tryz.func79, Tryz.ntmps79
  go_wp2_with fail
  generalize hw1 : w.setCell ⟨g, 70, none⟩ (.int .u64 ((n : Int) + (N : Int))) = w1
  have hst1 : StT w1 g T p (n + N) := by
    subst hw1
    have e : ∀ i, i ≠ 70 → (cs.setIfInBounds 70 (.int .u64 ((n : Int) + (N : Int))))[i]? = cs[i]? := fun i hi => by rw [set_get _ _ _ _ (by rw [HS.out.words.size]; omega), if_neg hi]
    refine ⟨_, heap_set HG.out 70 _, ⟨⟨by simp [HS.out.words.size], fun i hi => by rw [e i (by omega)]; exact HS.out.words.word i hi⟩, fun i hi => by rw [e _ (by omega)]; exact HS.out.bytes i hi, by rw [e 69 (by omega)]; exact HS.out.fill, ?_⟩⟩
    rw [set_get _ _ _ _ (by rw [HS.out.words.size]; omega), if_pos rfl]; rfl
  have hgr1 : w.grownBy w1 (some g) := by subst hw1; exact grown_set w g 70 _
  clear hw1 q70 z70 HS HG
  go_loopw [1] (fun v wr => ∃ (j r : Nat) (A : Option Addr) (C : Nat), j + r = N ∧ v = .slice A r C ∧ r ≤ C ∧ (0 < r → A = some ⟨b, o + j, none⟩) ∧ StT wr g T (p + j) (n + N) ∧ w.grownBy wr (some g)) (fun v _ => sliceLen v)
  case atStart => exact ⟨0, N, _, c, Nat.zero_add _, rfl, hN, fun _ => rfl, hst1, hgr1⟩
  case round =>
    clear hst1 hgr1
    obtain ⟨j, r, A, C, hj, rfl, hC, hA, hst, hgr⟩ := hrel
    by_cases hlt : 0 < r
    · obtain rfl := hA hlt
      clear hA
      obtain ⟨cs, hg, hc⟩ := hst
      obtain ⟨f, hf⟩ : ∃ f, f = (p + j) % 64 := ⟨_, rfl⟩
      obtain ⟨q, hq⟩ : ∃ q, q = (p + j) / 64 := ⟨_, rfl⟩
      have hf64 : f < 64 := by omega
      have hcw := hc.words; have hcb := hc.bytes; have hcf := hc.fill; have hcl := hc.len
      rw [← hf] at hcb hcf; rw [← hq] at hcw hcb
      clear hc
      have hz := hcw.size
      have q69 : wr.cell? ⟨g, 69, none⟩ = some (.int .i64 f) := (cell_of_row wr g 69 cs _ _ hg).trans hcf
      have hsl := fun u => slice64_l u g f hf64 f rfl
      have HF := Lib.hid hf; have HQ := Lib.hid hq; clear hf hq
      have HCW := Lib.hid hcw; have HCB := Lib.hid hcb; have HCF := Lib.hid hcf; have HCL := Lib.hid hcl; have HZ := Lib.hid hz; have HG := Lib.hid hg; have HJ := Lib.hid hj
      clear hcw hcb hcf hcl hz hg hj
      go_wp2_with fail
      go_still_tail 9, (by kernel_rfl)
      change wpList _ _ _ _ _ wr.drew
      obtain ⟨k, hk⟩ : ∃ k, k = min r (64 - f) := ⟨_, rfl⟩
      have hk1 : k ≤ r := by omega
      have hk2 : k ≤ 64 - f := by omega
      have hk3 : 0 < k := by omega
      have hk4 : k < r → k = 64 - f := by omega
      have hj0 := HJ.out
      have hz0 := HZ.out
      refine wpList_copy_own rfl (.tmp 25) (.tmp 26) 32 32 rfl 5 Tryz.underlying32 info5' g (5 + f) (64 - f) (64 - f) ⟨b, o + j, none⟩ r C rfl rfl cs 145 HG.out (chunk T (p + j) k) (by rw [chunk_len, hk]) ?src (by rw [chunk_len]; omega) (chunk_one _ _ _) ?_
      case src =>
        intro i v hv
        have hi : i < k := by
          rcases Nat.lt_or_ge i k with h | h
          · exact h
          · rw [List.getElem?_eq_none (by rw [chunk_len]; exact h)] at hv; cases hv
        rw [chunk_at _ _ _ _ hi] at hv
        have h1 : wr.heap[b]? = w.heap[b]? := hgr.block b hbl (fun e => hbg (by cases e; rfl))
        have h2 := HC.out (j + i) (by omega)
        have h3 : (⟨b, o + j, none⟩ : Addr).add i = ⟨b, o + (j + i), none⟩ := by unfold Addr.add; split <;> simp_all [Nat.add_assoc]
        rw [h3]
        rw [show wr.drew.cell? ⟨b, o + (j + i), none⟩ = w.cell? ⟨b, o + (j + i), none⟩ from World.cell?_of_block (w := w) (w' := wr.drew) h1, h2, show p + (j + i) = p + j + i by omega]
        exact hv
      obtain ⟨cs2, hcs2⟩ : ∃ cs2, cs2 = (cs.toList.take (5 + f) ++ (chunk T (p + j) k ++ cs.toList.drop (5 + f + (chunk T (p + j) k).length))).toArray := ⟨_, rfl⟩
      rw [← hcs2]
      have hget : ∀ i, cs2[i]? = if i < 5 + f then cs[i]? else if i < 5 + f + k then (chunk T (p + j) k)[i - (5 + f)]? else cs[i]? := fun i => by
        rw [hcs2, splice_get _ _ _ (by rw [chunk_len]; omega), chunk_len]
      have hsz2 : cs2.size = 71 := by rw [hcs2]; simp [chunk_len]; omega
      have hg2 : (wr.drew.setRow g cs2).heap[g]? = some (.cells cs2 145 (0, 0)) := setRow_heap wr.drew g cs cs2 _ _ HG.out
      have hgr2 : w.grownBy (wr.drew.setRow g cs2) (some g) := grown_trans hgr ⟨rfl, rfl, rfl, by simp [World.setRow], fun i hi hr => setRow_other wr.drew g i cs2 (fun e => hr (by rw [e]))⟩
      rw [chunk_len]
      generalize wr.drew.setRow g cs2 = w2 at hg2 hgr2 ⊢
      clear hcs2 hgr q69 hsl
      have hlo : ∀ i, i < 5 + f → cs2[i]? = cs[i]? := fun i hi => by rw [hget, if_pos hi]
      have hmid : ∀ i, i < k → cs2[5 + (f + i)]? = some (.int .u8 (T (p + j + i)).toNat) := fun i hi => by
        rw [hget, if_neg (by omega), if_pos (by omega), show 5 + (f + i) - (5 + f) = i by omega, chunk_at _ _ _ _ hi]
      have hhi : ∀ i, 69 ≤ i → cs2[i]? = cs[i]? := fun i hi => by rw [hget, if_neg (by omega), if_neg (by omega)]
      have hpj : p + j = 64 * q + f := by have := HF.out; have := HQ.out; omega
      have hby : ∀ i, i < f + k → cs2[5 + i]? = some (.int .u8 (T (64 * q + i)).toNat) := fun i hi => by
        by_cases h : i < f
        · rw [hlo _ (by omega), HCB.out i h]
        · rw [show 5 + i = 5 + (f + (i - f)) by omega, hmid (i - f) (by omega), show p + j + (i - f) = 64 * q + i by omega]
      have hwd : ∀ i, i < 5 → cs2[i]? = some (.int .u32 ((hs T q).get i).toNat) := fun i hi => by rw [hlo i (by omega), HCW.out.word i hi]
      have q69 : w2.cell? ⟨g, 69, none⟩ = some (.int .i64 f) := (cell_of_row w2 g 69 cs2 _ _ hg2).trans ((hhi 69 (by omega)).trans HCF.out)
      have z69 := not_frozen hg2 69
      have hl70 : cs2[70]? = some (.int .u64 ((n + N : Nat) : Int)) := (hhi 70 (by omega)).trans HCL.out
      have HBY := Lib.hid hby; have HWD := Lib.hid hwd; have HL70 := Lib.hid hl70; have HG2 := Lib.hid hg2; have HS2 := Lib.hid hsz2; have HPJ := Lib.hid hpj
      clear hget hlo hmid hhi hby hwd hl70 hg2 hsz2 hpj HCW HCB HCF HCL HG HZ HF HQ hz0 hj0 hk
      have HK4 := Lib.hid hk4; clear hk4
      have hs2 := fun u => slice_u8_l u (some ⟨b, o + j, none⟩) r C k hk1 k rfl
      obtain ⟨A2, hA2⟩ : ∃ A2, A2 = (if C = k then (some ⟨b, o + j, none⟩ : Option Addr) else (some ⟨b, o + j, none⟩ : Option Addr).map (·.add k)) := ⟨_, rfl⟩
      rw [← hA2] at hs2
      have hA3 : 0 < r - k → A2 = some ⟨b, o + (j + k), none⟩ := fun h => by
        rw [hA2, if_neg (by omega), Option.map_some, addr_add, Nat.add_assoc]
      have HA3 := Lib.hid hA3; clear hA2 hA3
      have hnx : r - k < r := by omega
      by_cases h64 : f + k = 64
      · have hb64 : (((f : Int) + (k : Int)) == 64) = true := by rw [beq_iff_eq]; omega
        have C3 := Lib.hid (mix_any (w2.setCell ⟨g, 69, none⟩ (.int .i64 ((f : Int) + (k : Int)))) g _ (hs T q) (fun i => T (64 * q + i)) (heap_set HG2.out 69 _)
          ⟨by rw [Array.size_setIfInBounds]; exact HS2.out, fun i hi => by rw [set_get _ _ _ _ (by rw [HS2.out]; omega), if_neg (by omega)]; exact HWD.out i hi⟩
          (fun i hi => by rw [set_get _ _ _ _ (by rw [HS2.out]; omega), if_neg (by omega)]; exact HBY.out i (by omega)))
        have hg69 := grown_trans hgr2 (grown_set w2 g 69 (.int .i64 ((f : Int) + (k : Int))))
        go_wp2_with fail
        refine C3.out.mono ?_
        rintro e w4 ⟨rfl, hgr4, cs4, hg4, hst4, hhi4⟩
        have hgr5 := grown_trans hg69 hgr4
        clear C3 hg69 hgr4 q69 z69 hgr2
        have hsz4 := hst4.size
        obtain ⟨old, ho⟩ : ∃ v, w4.cell? ⟨g, 69, none⟩ = some v := ⟨cs4[69]'(by omega), by rw [cell_of_row w4 g 69 cs4 _ _ hg4]; simp⟩
        have z4 := not_frozen hg4 69
        have HG4 := Lib.hid hg4; have HST4 := Lib.hid hst4; have HH4 := Lib.hid hhi4; have HZ4 := Lib.hid hsz4
        clear hg4 hst4 hhi4 hsz4
        go_wp2
        go_roundw
        case rel =>
          have hpj := HPJ.out
          have hj0 := HJ.out
          refine ⟨j + k, r - k, A2, C - k, by omega, rfl, by omega, HA3.out, ⟨_, heap_set HG4.out 69 _, ?_⟩, grown_trans hgr5 (grown_set w4 g 69 _)⟩
          have e1 : (p + (j + k)) % 64 = 0 := by omega
          have e2 : (p + (j + k)) / 64 = q + 1 := by omega
          refine ⟨⟨by rw [Array.size_setIfInBounds]; exact HZ4.out, fun i hi => ?_⟩, fun i hi => by rw [e1] at hi; exact absurd hi (Nat.not_lt_zero _), ?_, ?_⟩
          · rw [set_get _ _ _ _ (by rw [HZ4.out]; omega), if_neg (by omega), e2]
            exact HST4.out.word i hi
          · rw [set_get _ _ _ _ (by rw [HZ4.out]; omega), if_pos rfl, e1]; rfl
          · rw [set_get _ _ _ _ (by rw [HZ4.out]; omega), if_neg (by omega), HH4.out 70 (by omega), set_get _ _ _ _ (by rw [HS2.out]; omega), if_neg (by omega)]
            exact HL70.out
        case measure => exact hnx
      · have hb64 : (((f : Int) + (k : Int)) == 64) = false := by rw [beq_eq_false_iff_ne]; omega
        go_wp2
        refine ⟨?re2, hnx⟩
        case re2 =>
          have hpj := HPJ.out
          have hj0 := HJ.out
          have hk5 := HK4.out
          refine ⟨j + k, r - k, A2, C - k, by omega, rfl, by omega, HA3.out, ⟨_, heap_set HG2.out 69 _, ?_⟩, grown_trans hgr2 (grown_set w2 g 69 _)⟩
          have e1 : (p + (j + k)) % 64 = f + k := by omega
          have e2 : (p + (j + k)) / 64 = q := by omega
          refine ⟨⟨by rw [Array.size_setIfInBounds]; exact HS2.out, fun i hi => ?_⟩, fun i hi => ?_, ?_, ?_⟩
          · rw [set_get _ _ _ _ (by rw [HS2.out]; omega), if_neg (by omega), e2]
            exact HWD.out i hi
          · rw [e1] at hi
            rw [set_get _ _ _ _ (by rw [HS2.out]; omega), if_neg (by omega), e2]
            exact HBY.out i hi
          · rw [set_get _ _ _ _ (by rw [HS2.out]; omega), if_pos rfl, e1]; rfl
          · rw [set_get _ _ _ _ (by rw [HS2.out]; omega), if_neg (by omega)]
            exact HL70.out
    · obtain rfl : r = 0 := by omega
      go_wp2_with fail
      go_end0
      have e : j = N := by omega
      subst e
      exact ⟨rfl, hgr, hst⟩
end Go.Proofs.YtpelehhmdcjikaaGreatDoor

/-
  Layer 2: end: the text is closed.
-/
namespace Go.Proofs.YtpelehhmdcjikaaGreatDoor
set_option maxRecDepth 20000
open Go.RowKit
set_option linter.unusedVariables false
set_option linter.unusedSimpArgs false
theorem StT.grown {w w' : World} {g : Nat} {T : Nat → UInt8} {p n : Nat} {row : Option Nat} (h : StT w g T p n) (hg : w.grownBy w' row) (hr : some g ≠ row) : StT w' g T p n := by
  obtain ⟨cs, h1, h2⟩ := h
  exact ⟨cs, (hg.block g (lt_of_heap h1) hr).trans h1, h2⟩
theorem grown_new {a b c : World} {row : Option Nat} {k : Nat} (h : a.grownBy b row) (h2 : b.grownBy c (some k)) (hk : a.heap.size ≤ k) : a.grownBy c row :=
  ⟨h2.os.trans h.os, h2.tape.trans h.tape, h2.output.trans h.output, Nat.le_trans h.size h2.size, fun i hi hr => (h2.block i (Nat.lt_of_lt_of_le hi h.size) (fun e => by cases e; omega)).trans (h.block i hi hr)⟩
set_option maxHeartbeats 4000000 in
theorem end_any (w : World) (g : Nat) (l : List UInt8) (hl : l.length ≤ 1000000) (hst : StT w g (padF l) l.length l.length) :
    Calls Tryz.prog 80 #[.pointer (some ⟨g, 0, none⟩)] w fun e w' => e = .returned (.tuple #[]) ∧ w.grownBy w' (some g) ∧ StT w' g (padF l) (padLen l.length) (padLen l.length) := by
  obtain ⟨i0, hi, hz0, hz1, hz2⟩ := info_parts info5
  have HST := Lib.hid hst
  obtain ⟨cs, hg, hc⟩ := hst
  obtain ⟨n, hn⟩ : ∃ n, n = l.length := ⟨_, rfl⟩
  have q70 : w.cell? ⟨g, 70, none⟩ = some (.int .u64 n) := by rw [hn]; exact (cell_of_row w g 70 cs _ _ hg).trans hc.len
  obtain ⟨f, hf⟩ : ∃ f, f = n % 64 := ⟨_, rfl⟩
  have q69 : w.cell? ⟨g, 69, none⟩ = some (.int .i64 f) := by rw [hf, hn]; exact (cell_of_row w g 69 cs _ _ hg).trans hc.fill
  have hgl := lt_of_heap hg
  have hf64 : f < 64 := by omega
  have hn6 : n ≤ 1000000 := by omega
  obtain ⟨z, hz⟩ : ∃ z, z = (119 - f) % 64 := ⟨_, rfl⟩
  have hz64 : z < 64 := by omega
  have hzm : IntKind.i64.wrap ((119 - (f : Int)).tmod 64) = z := by rw [IntWalk.rem_in _ _ (by omega), IntKind.wrap_i64]; omega
  have hzm2 : (119 - (f : Int)).tmod 64 = z := by rw [IntWalk.rem_in _ _ (by omega)]; omega
  have HN := Lib.hid hn; have HF := Lib.hid hf; have HZ := Lib.hid hz
  clear hc hg hn hf hz hl
  go_enter Tryz.func80, Tryz.ntmps80
  go_wp2_with (at_make; refine wpList_make_full _ rfl _ _ 32 rfl w.heap.size 5 i0 (.int .u8 0) 1 Tryz.underlying32 hi hz0 hz1 _ _ _ _ (1 + z + 8) rfl rfl (by omega) (by omega) ?b2 ?b3 (Nat.le_refl _) ?_)
  case b2 => rw [hz2]; omega
  case b3 => unfold maxLen; omega
  intro w0 hown0 hgrow0
  have hgr0 : w.grownBy w0 (some g) := ⟨hgrow0.os, hgrow0.tape, hgrow0.output, hgrow0.size, fun k hk _ => hgrow0.block k hk (by simp)⟩
  have hs0 : StT w0 g (padF l) l.length l.length := HST.out.grown hgrow0 (by simp)
  obtain ⟨M, hM⟩ : ∃ M, M = 1 + z + 8 := ⟨_, rfl⟩
  have hM2 : 1 + z + 8 = M := hM.symm
  rw [hM2] at hown0 ⊢
  have hgl2 : w.heap.size ≠ g := by omega
  obtain ⟨y0, hy0⟩ := own_cell hown0 0 (by omega)
  have hf0 := hown0.frozenAt 0
  obtain ⟨hst0, hgs0⟩ := hown0.stored 0 (.int .u8 128)
  have hmade : ∀ j, j < M → (madeCells #[Value.int .u8 0] M).toList[j]? = some (.int .u8 0) := fun j hj => by
    rw [toList_madeCells_one, List.getElem?_replicate, if_pos hj]
  generalize hyz : (madeCells #[Value.int .u8 0] M).toList = ys0 at hown0 hst0 hmade
  have hgr1 := grown_new hgr0 hgs0 (Nat.le_refl _)
  have hs1 := hs0.grown hgs0 (by simp; omega)
  have HO := Lib.hid hown0; have HS0 := Lib.hid hst0; have HMD := Lib.hid hmade; have HM := Lib.hid hM
  clear hown0 hst0 hmade hyz hs0 hgrow0 hgs0 q70 q69 hM
  go_wp2_with fail
  generalize hw1 : w0.setCell ⟨w.heap.size, 0, none⟩ (.int .u8 128) = w1 at hgr1 hs1
  have HS0' := HS0.out
  rw [hw1] at HS0'
  have HSS := Lib.hid HS0'; have HS1 := Lib.hid hs1; clear hs1
  clear HS0' HS0 hw1 hy0 hf0
  go_loopw [23] (fun v wr => ∃ (k : Nat) (ys : List Value), k ≤ 8 ∧ v = .int .i64 k ∧ wr.ownsRow w.heap.size 5 1 (.slice (some ⟨w.heap.size, 0, none⟩) M M) M ys ∧
      (∀ j, j < 1 + z + k → ys[j]? = some (.int .u8 (padF l (n + j)).toNat)) ∧ StT wr g (padF l) l.length l.length ∧ w.grownBy wr (some g)) (fun v _ => 8 - (intOf v).toNat)
  case atStart =>
    refine ⟨0, _, Nat.zero_le _, rfl, HSS.out, fun j hj => ?_, HS1.out, hgr1⟩
    have h1 := HMD.out j (by have := HM.out; omega)
    rw [List.getElem?_set]
    split
    · rename_i e; subst e
      have := own_len HO.out
      rw [if_pos (by omega), Nat.add_zero, HN.out, padF_0]; rfl
    · rw [h1, padF_z l (n + j) (by have := HN.out; omega) (by have := HN.out; have := HF.out; have := HZ.out; have := pad_z l.length; have := HN.out; subst n; subst f; omega)]; rfl
  case round =>
    clear hgr1 HS1 HSS HMD HO
    obtain ⟨k, ys, hk, rfl, hown, hys, hst, hgr⟩ := hrel
    by_cases hlt : k < 8
    · have hb : 1 + z + k < M := by have := HM.out; omega
      have htn : ((1 : Int) + (z : Int) + (k : Int)).toNat = 1 + z + k := by omega
      obtain ⟨y, hy⟩ := own_cell hown (1 + z + k) hb
      have hfz := hown.frozenAt (1 + z + k)
      have HO := Lib.hid hown; have HYS := Lib.hid hys; have HST2 := Lib.hid hst; have HGR := Lib.hid hgr
      clear hown hys hst hgr
      go_wp2
      go_roundw
      case rel =>
        obtain ⟨hst1, hgs1⟩ := HO.out.stored (1 + z + k) (.int .u8 ((n : Int) * 8 / 2 ^ (8 * (7 - k)) % 256))
        refine ⟨k + 1, _, by omega, by go_num, hst1, fun j hj => ?_, HST2.out.grown hgs1 (by simp; omega), grown_new HGR.out hgs1 (Nat.le_refl _)⟩
        rw [List.getElem?_set]
        split
        · rename_i e; subst e
          have h1 := own_len HO.out
          have h2 := HN.out; have h3 := HF.out; have h4 := HZ.out; have h5 := pad_z l.length
          rw [if_pos (by omega), h2, pad_val l (l.length + (1 + z + k)) k (by omega) hlt (by subst n; subst f; omega)]
        · exact HYS.out j (by omega)
      case measure => simp [intOf]; omega
    · obtain rfl : k = 8 := by omega
      have HO := Lib.hid hown; have HYS := Lib.hid hys; have HST2 := Lib.hid hst; have HGR := Lib.hid hgr
      clear hown hys hst hgr
      have C := Lib.hid (add_some wr g (padF l) l.length l.length w.heap.size 0 M M HST2.out hgl2 (own_lt HO.out) (Nat.le_refl _) (by have := HM.out; have := HN.out; omega) (fun i hi => by
        rw [HO.out.cellAt (0 + i) (by omega), Nat.zero_add, HYS.out i (by have := HM.out; omega), HN.out]))
      go_wp2_with fail
      refine C.out.mono ?_
      rintro e w4 ⟨rfl, hgr4, hst4⟩
      have hM2 : l.length + M = padLen l.length := by
        have h2 := HN.out; have h3 := HF.out; have h4 := HZ.out; have h5 := pad_z l.length; have h6 := HM.out
        subst n; subst f; omega
      go_wp2_with fail
      go_end0
      rw [hM2] at hst4
      exact ⟨rfl, grown_trans HGR.out hgr4, hst4⟩
end Go.Proofs.YtpelehhmdcjikaaGreatDoor
