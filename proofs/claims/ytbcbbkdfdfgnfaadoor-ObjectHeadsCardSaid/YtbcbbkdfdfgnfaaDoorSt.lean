/-
  Layer 2: what the blocks of the program hold: arrays of words, the state.
-/
import Derived.Test.YtbcbbkdfdfgnfaaDoorRl
import Derived.Test.YtbcbbkdfdfgnfaaDoorAr
import Derived.Laws.CopyRow
import Derived.Laws.CopyOwn
import Derived.Laws.Rows
import Derived.Laws.Tables
import Derived.Deep.WholeRow
import Derived.Lib.BytesEntry
namespace Go.Proofs.YtbcbbkdfdfgnfaaDoor
open Go.RowKit
set_option linter.unusedVariables false
set_option linter.unusedSimpArgs false

theorem lt_of_heap {w : World} {b : Nat} {o : Obj} (h : w.heap[b]? = some o) : b < w.heap.size := by
  rcases Nat.lt_or_ge b w.heap.size with h' | h'
  · exact h'
  · simp [Array.getElem?_eq_none h'] at h
theorem not_frozen {w : World} {g : Nat} {cs : Array Value} {t : TypeId} (h : w.heap[g]? = some (.cells cs t (0, 0))) (i : Nat) : w.frozen? ⟨g, i, none⟩ = false := by
  simp [World.frozen?, h]
theorem u8_lt (b : UInt8) : (0 : Int) ≤ b.toNat ∧ (b.toNat : Int) < 256 := by have := b.toNat_lt; omega
theorem heap_set {w : World} {g : Nat} {cs : Array Value} {t : TypeId} {fr : Nat × Nat} (h : w.heap[g]? = some (.cells cs t fr)) (i : Nat) (v : Value) : (w.setCell ⟨g, i, none⟩ v).heap[g]? = some (.cells (cs.setIfInBounds i v) t fr) := by
  simp [World.setCell, Array.getElem?_modify, h]
theorem set_get (cs : Array Value) (i j : Nat) (v : Value) (h : i < cs.size) : (cs.setIfInBounds i v)[j]? = if j = i then some v else cs[j]? := by
  rw [Array.getElem?_setIfInBounds]
  by_cases e : j = i
  · subst e; simp [h]
  · rw [if_neg (fun q => e q.symm), if_neg e]
/-- Words as values. -/
def wv (l : List (BitVec 32)) : List Value := l.map fun x => .int .u32 x.toNat
theorem wv_len (l : List (BitVec 32)) : (wv l).length = l.length := by simp [wv]
theorem wv_at (l : List (BitVec 32)) (i : Nat) (h : i < l.length) : (wv l)[i]? = some (.int .u32 (l.getD i 0).toNat) := by
  simp [wv, h]
theorem wv_one (l : List (BitVec 32)) : ∀ v ∈ wv l, v.oneCell' = true := by
  intro v hv; simp [wv] at hv; obtain ⟨x, _, rfl⟩ := hv; rfl
theorem arr_wv {arr : Array Value} {l : List (BitVec 32)} (hs : arr.size = l.length) (h : ∀ j, j < l.length → arr[j]? = some (.int .u32 (l.getD j 0).toNat)) : arr = (wv l).toArray := by
  apply Array.ext_getElem?
  intro i
  have e : (wv l).toArray[i]? = (wv l)[i]? := by simp
  by_cases hi : i < l.length
  · rw [h i hi, e, wv_at l i hi]
  · rw [Array.getElem?_eq_none (by omega), e, List.getElem?_eq_none (by rw [wv_len]; omega)]
theorem wv_all (l : List (BitVec 32)) : (wv l).toArray.all (·.oneCell') = true := by
  rw [Array.all_eq_true]
  intro i hi
  exact wv_one l _ (by simp)
theorem info43 : (Tryd.prog.info? 62).map (·.size) = some 80 := by kernel_rfl
theorem info36 : (Tryd.prog.info? 60).map (·.size) = some 5 := by kernel_rfl
theorem info40 : (Tryd.prog.info? 77).map (·.size) = some 71 := by kernel_rfl
theorem bc_len (l : List UInt8) : (Lib.byteCells l).length = l.length := by simp [Lib.byteCells]
theorem bc_at (l : List UInt8) (i : Nat) (h : i < l.length) : (Lib.byteCells l)[i]? = some (.int .u8 (l.getD i 0).toNat) := by simp [Lib.byteCells, h]
theorem arr_bc {arr : Array Value} {l : List UInt8} (hs : arr.size = l.length) (h : ∀ j, j < l.length → arr[j]? = some (.int .u8 (l.getD j 0).toNat)) : arr = (Lib.byteCells l).toArray := by
  apply Array.ext_getElem?
  intro i
  have e : (Lib.byteCells l).toArray[i]? = (Lib.byteCells l)[i]? := by simp
  by_cases hi : i < l.length
  · rw [h i hi, e, bc_at l i hi]
  · rw [Array.getElem?_eq_none (by omega), e, List.getElem?_eq_none (by rw [bc_len]; omega)]
theorem bc_all (l : List UInt8) : (Lib.byteCells l).toArray.all (·.oneCell') = true := by
  rw [Array.all_eq_true]
  intro i hi
  simp [Lib.byteCells, Value.oneCell']
/-- An array's zero value, carried by a name. -/
theorem zero_arr {t : TypeId} {n : Nat} {z : Array Value} (h : (Tryd.prog.info? t).map (fun i => (i.zero, i.size)) = some (some (.agg z), n)) : ∀ w, (zeroValue t).run Tryd.prog w = .ok (.agg z) w := (zero_of_info h).1
theorem z43 : ∃ z : Array Value, (Tryd.prog.info? 62).map (fun i => (i.zero, i.size)) = some (some (.agg z), 80) ∧ z = Array.replicate 80 (.int .u32 0) := ⟨Array.replicate 80 (.int .u32 0), by kernel_rfl, rfl⟩
theorem z36 : ∃ z : Array Value, (Tryd.prog.info? 60).map (fun i => (i.zero, i.size)) = some (some (.agg z), 5) ∧ z = Array.replicate 5 (.int .u32 0) := ⟨Array.replicate 5 (.int .u32 0), by kernel_rfl, rfl⟩
theorem z29 : ∃ z : Array Value, (Tryd.prog.info? 34).map (fun i => (i.zero, i.size)) = some (some (.agg z), 20) ∧ z = Array.replicate 20 (.int .u8 0) := ⟨Array.replicate 20 (.int .u8 0), by kernel_rfl, rfl⟩
def zer40 : Array Value := (List.replicate 5 (Value.int .u32 0) ++ (List.replicate 64 (Value.int .u8 0) ++ [Value.int .i64 0, Value.int .u64 0])).toArray
theorem z40 : (Tryd.prog.info? 77).map (fun i => (i.zero, i.size)) = some (some (.agg zer40), 71) := by kernel_rfl
theorem size_u8 (w : World) : (sizeOf 5).run Tryd.prog w = .ok 1 w := Tryd.sizeOf5 w
theorem slice64_lh (w : World) (g k : Nat) (hk : k < 16) (l h : Int) (hl : l = 4 * (k : Int)) (hh : h = 4 * (k : Int) + 4) :
    (Instr.sliceAt 75 (.pointer (some ⟨g, 5, none⟩)) (some (.int .i64 l)) (some (.int .i64 h)) none).run Tryd.prog w = .ok (.slice (some ⟨g, 5 + 4 * k, none⟩) 4 (64 - 4 * k)) w := by
  have ea : Tryd.prog.arrayLen 75 = 64 := by kernel_rfl
  have ee : Tryd.prog.elem 75 = 5 := by kernel_rfl
  rw [run_sliceAt_array_lh w 75 ⟨g, 5, none⟩ (by rw [ea, ee]; exact Tryd.underlying75) .i64 .i64 l h (by omega) (by omega) (by rw [ea]; omega), ea, ee, size_u8]
  simp only [Result.andThen_ok, slicedAt]
  rw [if_neg (by omega), show h.toNat - l.toNat = 4 by omega, show l.toNat = 4 * k by omega]
  unfold Addr.add
  simp only [Nat.mul_one]
  split
  · rename_i h0; simp [show k = 0 by omega]
  · rfl
theorem slice64_l (w : World) (g k : Nat) (hk : k < 64) (l : Int) (hl : l = (k : Int)) :
    (Instr.sliceAt 75 (.pointer (some ⟨g, 5, none⟩)) (some (.int .i64 l)) none none).run Tryd.prog w = .ok (.slice (some ⟨g, 5 + k, none⟩) (64 - k) (64 - k)) w := by
  have ea : Tryd.prog.arrayLen 75 = 64 := by kernel_rfl
  have ee : Tryd.prog.elem 75 = 5 := by kernel_rfl
  rw [run_sliceAt_array_l w 75 ⟨g, 5, none⟩ (by rw [ea, ee]; exact Tryd.underlying75) .i64 l (by omega) (by rw [ea]; omega), ea, ee, size_u8]
  simp only [Result.andThen_ok, slicedAt]
  rw [if_neg (by omega), show l.toNat = k by omega]
  unfold Addr.add
  simp only [Nat.mul_one]
  split
  · rename_i h0; simp [show k = 0 by omega]
  · rfl
theorem index_arr80 (w : World) (b k : Nat) (hk : k < 80) (i : Int) (hi : i = (k : Int)) :
    (Instr.indexAt 62 (.pointer (some ⟨b, 0, none⟩)) (.int .i64 i)).run Tryd.prog w = .ok (.pointer (some ⟨b, k, none⟩)) w := by
  have ea : Tryd.prog.arrayLen 62 = 80 := by kernel_rfl
  have ee : Tryd.prog.elem 62 = 59 := by kernel_rfl
  rw [run_indexAt_array w 62 ⟨b, 0, none⟩ .i64 i (by rw [ea, ee]; exact Tryd.underlying62), if_pos (by rw [ea]; omega), ee, Tryd.sizeOf59 w]
  simp only [Result.andThen_ok, show i.toNat = k by omega, Nat.mul_one]
  unfold Addr.add
  split
  · rename_i h0; simp [h0]
  · simp
theorem index_arr5 (w : World) (b k : Nat) (hk : k < 5) (i : Int) (hi : i = (k : Int)) :
    (Instr.indexAt 60 (.pointer (some ⟨b, 0, none⟩)) (.int .i64 i)).run Tryd.prog w = .ok (.pointer (some ⟨b, k, none⟩)) w := by
  have ea : Tryd.prog.arrayLen 60 = 5 := by kernel_rfl
  have ee : Tryd.prog.elem 60 = 59 := by kernel_rfl
  rw [run_indexAt_array w 60 ⟨b, 0, none⟩ .i64 i (by rw [ea, ee]; exact Tryd.underlying60), if_pos (by rw [ea]; omega), ee, Tryd.sizeOf59 w]
  simp only [Result.andThen_ok, show i.toNat = k by omega, Nat.mul_one]
  unfold Addr.add
  split
  · rename_i h0; simp [h0]
  · simp
theorem index_arr20 (w : World) (b k : Nat) (hk : k < 20) (i : Int) (hi : i = (k : Int)) :
    (Instr.indexAt 34 (.pointer (some ⟨b, 0, none⟩)) (.int .i64 i)).run Tryd.prog w = .ok (.pointer (some ⟨b, k, none⟩)) w := by
  have ea : Tryd.prog.arrayLen 34 = 20 := by kernel_rfl
  have ee : Tryd.prog.elem 34 = 5 := by kernel_rfl
  rw [run_indexAt_array w 34 ⟨b, 0, none⟩ .i64 i (by rw [ea, ee]; exact Tryd.underlying34), if_pos (by rw [ea]; omega), ee, Tryd.sizeOf5 w]
  simp only [Result.andThen_ok, show i.toNat = k by omega, Nat.mul_one]
  unfold Addr.add
  split
  · rename_i h0; simp [h0]
  · simp
theorem index_agg80 (w : World) (cs : Array Value) (k : Nat) (hk : k < 80) (v : Value) (hv : cs[k]? = some v) (i : Int) (hi : i = (k : Int)) :
    (Instr.index 62 (.agg cs) (.int .i64 i)).run Tryd.prog w = .ok v w := by
  subst hi
  have h1 : 0 ≤ (k : Int) ∧ (k : Int) < (80 : Nat) := by omega
  have ha : (isAgg 59).run Tryd.prog w = .ok false w := by unfold isAgg; rw [Sem.run_bind, run_underlying Tryd.underlying59 w]; rfl
  simp [Instr.index, run_underlying Tryd.underlying62, asIntOf, h1, go_sem, part, ha, Tryd.sizeOf59 w, hv]
  omega
theorem slice_u8_l (w : World) (a : Option Addr) (len cap k : Nat) (h : k ≤ len) (l : Int) (hl : l = (k : Int)) :
    (Instr.sliceAt 22 (.slice a len cap) (some (.int .i64 l)) none none).run Tryd.prog w = .ok (.slice (if cap = k then a else a.map (·.add k)) (len - k) (cap - k)) w := by
  have ee : Tryd.prog.elem 22 = 5 := by kernel_rfl
  rw [run_sliceAt_slice (P := Tryd.prog) (w := w) 22 _ _ _ _ (by rw [ee]; exact Tryd.underlying22), run_slice_l (P := Tryd.prog) (w := w) 22 a len cap (by rw [ee]; exact Tryd.underlying22) .i64 l (by omega) (by omega), ee, size_u8]
  simp only [Result.andThen_ok, sliced, show l.toNat = k by omega, Nat.mul_one]
theorem slice_u8_lh (w : World) (a : Option Addr) (len cap k m : Nat) (h : k ≤ m) (h2 : m ≤ cap) (l r : Int) (hl : l = (k : Int)) (hr : r = (m : Int)) :
    (Instr.sliceAt 22 (.slice a len cap) (some (.int .i64 l)) (some (.int .i64 r)) none).run Tryd.prog w = .ok (.slice (if cap = k then a else a.map (·.add k)) (m - k) (cap - k)) w := by
  have ee : Tryd.prog.elem 22 = 5 := by kernel_rfl
  rw [run_sliceAt_slice (P := Tryd.prog) (w := w) 22 _ _ _ _ (by rw [ee]; exact Tryd.underlying22), run_slice_lh (P := Tryd.prog) (w := w) 22 a len cap (by rw [ee]; exact Tryd.underlying22) .i64 .i64 l r (by omega) (by omega) (by omega), ee, size_u8]
  simp only [Result.andThen_ok, sliced, show l.toNat = k by omega, show r.toNat = m by omega, Nat.mul_one]
theorem addr_add (b o k : Nat) : (⟨b, o, none⟩ : Addr).add k = ⟨b, o + k, none⟩ := by unfold Addr.add; split <;> simp_all
end Go.Proofs.YtbcbbkdfdfgnfaaDoor
