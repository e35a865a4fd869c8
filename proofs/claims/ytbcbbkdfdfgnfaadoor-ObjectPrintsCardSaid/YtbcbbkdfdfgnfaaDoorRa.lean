/-
  Layer 2: small words for the walk of the reference's Sum.
-/
import Derived.Test.YtbcbbkdfdfgnfaaDoorSu
import Derived.Laws.AppendOwnNone
import Derived.Deep.CutRange
import Derived.Deep.QuietTactic
import Derived.BigQuiet
namespace Go.Proofs.YtbcbbkdfdfgnfaaDoor
set_option maxRecDepth 20000
open Go.RowKit
set_option linter.unusedVariables false
set_option linter.unusedSimpArgs false

/-- 'append(m, b...)', m the call's own, b any bytes, nil let in. -/
theorem wpList_append_bat {ops : Array Oper} {rest : List Oper} {o : Oper} {a : Act} {w : World} {Q : Exit → Act → World → Prop} (hgd : o.guard = none) (s x : Operand)
    (ho : o.op = .call { callee := .builtin .append, args := #[s, x], argTypes := #[22, 22] })
    (base : Nat) (v : Value) (n : Nat) (xs : List Value) (hs : a.eval s = v) (hown : w.ownsRow base 5 1 v n xs) (A : Option Addr) (m c : Nat) (l : List UInt8) (hm : m = l.length) (hx : a.eval x = .slice A m c)
    (hb : ∀ ad, A = some ad → ∀ j u, (Lib.byteCells l)[j]? = some u → w.cell? (ad.add j) = some u) (hnone : A = none → l.length = 0 ∧ c = 0) (hn : n + m ≤ 1000000000) (hbase : base ≤ w.heap.size)
    (h : ∀ v' w', w'.ownsRow base 5 1 v' (n + m) (xs ++ Lib.byteCells l) → w.grownBy w' v.ownBlock → wpList Tryd.prog ops Q rest (a.put o.dst v') w') : wpList Tryd.prog ops Q (o :: rest) a w := by
  obtain ⟨i0, hi, hz0, hz1, hz2⟩ := info_parts info5
  subst hm
  cases A with
  | none =>
    obtain ⟨h1, h2⟩ := hnone rfl
    obtain rfl : l = [] := List.eq_nil_of_length_eq_zero h1
    subst h2
    refine wpList_append_own_none hgd s x 22 ho base 5 i0 1 Tryd.underlying22 hi v n xs hs hown hx ?_
    exact h v w (by simpa [Lib.byteCells] using hown) (World.grownBy.refl w _)
  | some ad =>
    refine wpList_append_own w hgd s x 22 ho base 5 i0 _ 1 1 Tryd.underlying22 hi hz0 hz1 hz2 rfl (by omega) v n xs hs hown ad l.length c (Lib.byteCells l) hx (by rw [bc_len, Nat.mul_one]) (hb ad rfl)
      (fun u hu => by simp [Lib.byteCells] at hu; obtain ⟨x, _, rfl⟩ := hu; rfl) (by unfold maxLen; omega) (by omega) hbase ?_
    intro v' w' h2 h3 _
    exact h v' w' h2 h3
/-- One byte more. -/
theorem wpList_append_one {ops : Array Oper} {rest : List Oper} {o : Oper} {a : Act} {w : World} {Q : Exit → Act → World → Prop} (hgd : o.guard = none) (s x : Operand)
    (ho : o.op = .call { callee := .builtin .append, args := #[s, x], argTypes := #[22, 22] })
    (base : Nat) (v : Value) (n : Nat) (xs : List Value) (hs : a.eval s = v) (hown : w.ownsRow base 5 1 v n xs) (ad : Addr) (c : Nat) (hx : a.eval x = .slice (some ad) 1 c) (y : Int)
    (hc : w.cell? (ad.add 0) = some (.int .u8 y)) (hn : n ≤ 1000000000) (hbase : base ≤ w.heap.size)
    (h : ∀ v' w', w'.ownsRow base 5 1 v' (n + 1) (xs ++ [.int .u8 y]) → w.grownBy w' v.ownBlock → wpList Tryd.prog ops Q rest (a.put o.dst v') w') : wpList Tryd.prog ops Q (o :: rest) a w := by
  obtain ⟨i0, hi, hz0, hz1, hz2⟩ := info_parts info5
  refine wpList_append_own w hgd s x 22 ho base 5 i0 _ 1 1 Tryd.underlying22 hi hz0 hz1 hz2 rfl (by omega) v n xs hs hown ad 1 c [.int .u8 y] hx rfl (fun j u hu => ?_)
    (fun u hu => by simp at hu; subst hu; rfl) (by unfold maxLen; omega) (by omega) hbase ?_
  · match j, hu with
    | 0, hu => simp at hu; subst hu; exact hc
  · intro v' w' h2 h3 _
    exact h v' w' h2 h3
theorem own_form {w : World} {base : Nat} {e : TypeId} {v : Value} {n : Nat} {xs : List Value} (h : w.ownsRow base e 1 v n xs) (hn : 0 < n) : ∃ g cap, v = .slice (some ⟨g, 0, none⟩) n cap ∧ base ≤ g ∧ g < w.heap.size := by
  rcases h.2 with ⟨h', h2⟩ | ⟨g', cap', cur, h', hb, hg, _⟩
  · have := h.1
    subst h2
    simp at this; omega
  · exact ⟨g', cap', h', hb, lt_of_heap hg⟩
/-- The bytes of a row, told by a function. -/
def RowIs (xs : List Value) (k : Nat) (T : Nat → UInt8) : Prop := ∀ i, i < k → xs[i]? = some (.int .u8 (T i).toNat)
theorem RowIs.more {xs : List Value} {k : Nat} {T : Nat → UInt8} (h : RowIs xs k T) (hl : xs.length = k) (x : UInt8) (hx : T k = x) : RowIs (xs ++ [Value.int .u8 x.toNat]) (k + 1) T := fun i hi => by
  by_cases h1 : i < k
  · rw [List.getElem?_append_left (by omega)]; exact h i h1
  · obtain rfl : i = k := by omega
    rw [List.getElem?_append_right (by omega), hl, Nat.sub_self, hx]; rfl
theorem new_cell (w : World) (x : Value) (t : TypeId) : (w.alloc (.cells #[x] t)).cell? ((⟨w.heap.size, 0, none⟩ : Addr).add 0) = some x := by
  rw [addr_add]; exact (cell_of_row _ _ _ _ _ _ (heap_alloc_new w _)).trans rfl
theorem grown_size {w w' : World} {row : Option Nat} {k : Nat} (h : w.grownBy w' row) (hk : k ≤ w.heap.size) (o : Obj) : k ≤ (w'.alloc o).heap.size := by have := h.size; simp; omega
theorem row_bytes (l : List UInt8) : RowIs (Lib.byteCells l) l.length (padF l) := fun i hi => by rw [bc_at l i hi, padF_in l i hi]
/-- Five words in a block. -/
structure W5 (arr : Array Value) (h : H5) : Prop where
  size : arr.size = 5
  word : ∀ i, i < 5 → arr[i]? = some (.int .u32 (h.get i).toNat)
theorem w5_W5 : W5 w5 h0 := ⟨rfl, fun i hi => by
    match i, hi with
    | 0, _ => rfl
    | 1, _ => rfl
    | 2, _ => rfl
    | 3, _ => rfl
    | 4, _ => rfl⟩
theorem w5_all : w5.all (·.oneCell') = true := by kernel_rfl
theorem zero_more (l : List UInt8) (k : Nat) (h : l.length < k) (h2 : k + 8 < padLen l.length) : padF l k = 0 := padF_z l k h (by omega)
theorem pad_more (l : List UInt8) (t q : Nat) (hq : q = (119 - l.length % 64) % 64) (ht : t < 8) (X : Int) (hX : X = ((l.length : Nat) : Int) * 8 / 2 ^ (8 * (7 - t)) % 256) {xs : List Value} (h : RowIs xs (l.length + 1 + q + t) (padF l)) (hl : xs.length = l.length + 1 + q + t) :
    RowIs (xs ++ [Value.int .u8 X]) (l.length + 1 + q + (t + 1)) (padF l) := by
  have hz := pad_z l.length
  have e := pad_val l (l.length + 1 + q + t) t (by omega) ht (by omega)
  rw [hX, e]
  exact h.more hl _ rfl
/-- What the reference's Sum keeps through its loops: the result's block, the five words. -/
structure Rv (w wr : World) (z : Array Value) (h : H5) : Prop where
  res : wr.heap[w.heap.size]? = some (.cells z 34 (0, 0))
  words : ∃ ha, wr.heap[w.heap.size + 1]? = some (.cells ha 60 (0, 0)) ∧ W5 ha h
  size : w.heap.size + 2 ≤ wr.heap.size
  below : Below w.heap.size w wr
theorem Rv.grown {w wr w' : World} {z : Array Value} {h : H5} {row : Option Nat} (r : Rv w wr z h) (hg : wr.grownBy w' row) (hr : ∀ k, row = some k → w.heap.size + 2 ≤ k) : Rv w w' z h where
  res := (hg.block _ (by have := r.size; omega) (fun e => by have := hr _ e.symm; omega)).trans r.res
  words := by
    obtain ⟨ha, h1, h2⟩ := r.words
    exact ⟨ha, (hg.block _ (by have := r.size; omega) (fun e => by have := hr _ e.symm; omega)).trans h1, h2⟩
  size := by have := r.size; have := hg.size; omega
  below := r.below.grown hg r.below.size (fun k hk => by have := hr k hk; omega)
theorem Rv.alloc {w wr : World} {z : Array Value} {h : H5} (r : Rv w wr z h) (o : Obj) : Rv w (wr.alloc o) z h := r.grown (World.grownBy_alloc wr o none) (fun k hk => by cases hk)
theorem RowIs.len {w : World} {base : Nat} {e : TypeId} {v : Value} {n : Nat} {xs : List Value} (h : w.ownsRow base e 1 v n xs) : xs.length = n := by simpa using h.1
theorem W5.all {arr : Array Value} {h : H5} (w5 : W5 arr h) : arr.all (·.oneCell') = true := by
  rw [Array.all_eq_true]
  intro i hi
  have h1 := w5.word i (by rw [← w5.size]; exact hi)
  rw [Array.getElem?_eq_getElem hi] at h1
  cases h1' : arr[i] <;> rw [h1'] at h1 <;> simp_all [Value.oneCell']
theorem five (a b c d e : Int) : Tryd.prog.built 60 [(0, .int .u32 a), (1, .int .u32 b), (2, .int .u32 c), (3, .int .u32 d), (4, .int .u32 e)] = some #[.int .u32 a, .int .u32 b, .int .u32 c, .int .u32 d, .int .u32 e] := by kernel_rfl
theorem run_five (w : World) (a b c d e : Int) : (Instr.build 60 #[(0, .int .u32 a), (1, .int .u32 b), (2, .int .u32 c), (3, .int .u32 d), (4, .int .u32 e)]).run Tryd.prog w = .ok (.agg #[.int .u32 a, .int .u32 b, .int .u32 c, .int .u32 d, .int .u32 e]) w :=
  run_build w _ _ _ (five a b c d e)
theorem five_W5 (s : H5) : W5 #[.int .u32 s.a.toNat, .int .u32 s.b.toNat, .int .u32 s.c.toNat, .int .u32 s.d.toNat, .int .u32 s.e.toNat] s := ⟨rfl, fun i hi => by
    match i, hi with
    | 0, _ => rfl
    | 1, _ => rfl
    | 2, _ => rfl
    | 3, _ => rfl
    | 4, _ => rfl⟩
theorem zlit36 : (Tryd.prog.info? 60).map (fun i => (i.zero, i.size)) = some (some (.agg #[.int .u32 0, .int .u32 0, .int .u32 0, .int .u32 0, .int .u32 0]), 5) := by kernel_rfl
theorem five_all (a b c d e : Int) : (#[Value.int .u32 a, .int .u32 b, .int .u32 c, .int .u32 d, .int .u32 e] : Array Value).all (·.oneCell') = true := by simp [Value.oneCell']
theorem index_u8 (w : World) (g n cap k : Nat) (hk : k < n) (i : Int) (hi : i = (k : Int)) :
    (Instr.indexAt 22 (.slice (some ⟨g, 0, none⟩) n cap) (.int .i64 i)).run Tryd.prog w = .ok (.pointer (some ⟨g, k, none⟩)) w := by
  have ee : Tryd.prog.elem 22 = 5 := by kernel_rfl
  rw [run_indexAt_slice (P := Tryd.prog) w 22 ⟨g, 0, none⟩ n cap .i64 i (by rw [ee]; exact Tryd.underlying22), if_pos (by omega), ee, size_u8]
  simp only [Result.andThen_ok, show i.toNat = k by omega, Nat.mul_one, addr_add, Nat.zero_add]
end Go.Proofs.YtbcbbkdfdfgnfaaDoor
