/-
  Texts that belong together, one behind the other.
-/
import Derived.Test.YtdgcjjledbnofaaDoorFu23
import Derived.Lib.FrozenHead2
import Derived.OwnWalk
import Derived.Test.YtdgcjjledbnofaaDoorShelf
import Derived.Test.YtdgcjjledbnofaaDoorFu04
import Derived.Test.YtdgcjjledbnofaaDoorFu15
import Derived.Test.YtdgcjjledbnofaaDoorFu16
import Derived.Great.BuildSlice
import Derived.Great.FillDense
/-
  Rows of bytes that a call owns, appended to: texts, cells; cut in two.
-/
namespace Go.Proofs.YtdgcjjledbnofaaDoor
open Go.RowKit
set_option linter.unusedVariables false
set_option linter.unusedSimpArgs false

/-- A row of bytes that a call owns. -/
abbrev OwnF (B : Nat) (v : Value) (l : List UInt8) (w : World) : Prop := w.ownsRowF B 5 1 v l.length (Lib.byteCells l)
theorem ownF_below {B : Nat} {v : Value} {l : List UInt8} {w w' : World} (h : OwnF B v l w) (hb : Below w.heap.size w w') : OwnF B v l w' :=
  World.ownsRowF.kept (row := none) h ⟨hb.os, hb.tape, hb.output, hb.size, fun k hk _ => hb.block k hk⟩ (Classical.em _)
theorem ownF_shape {B : Nat} {v : Value} {l : List UInt8} {w : World} (h : OwnF B v l w) : ∃ a c, v = .slice a l.length c ∧ l.length ≤ c ∧ c ≤ maxLen ∧ BAt w a l := by
  rcases h.2 with ⟨hv, h0⟩ | ⟨g, cap, cur, fz, hv, hB, hg, _, hc, hm, _, _⟩
  · obtain rfl : l = [] := List.eq_nil_of_length_eq_zero h0
    exact ⟨none, 0, hv, Nat.le_refl _, Nat.zero_le _, BAt.nil w _⟩
  · have hcs := World.ownsRowF.cells h (g := g) (by rw [hv]; rfl)
    refine ⟨_, cap, hv, hc, hm, fun _ => ⟨g, 0, rfl, (Array.getElem?_eq_some_iff.1 hg).1, fun i hi => ?_⟩⟩
    have := hcs i (.int .u8 (l[i]).toNat) (by simp [Lib.byteCells, List.getElem?_map, hi])
    cases i with
    | zero => simpa [Addr.add] using this
    | succ k => simpa [Addr.add] using this
theorem info_byte : (Tryd.prog.info? 5).map (fun i => (i.zero, i.size, i.bytes)) = some (some (.int .u8 0), 1, 1) := by kernel_rfl
/-- 'append(b, s...)' onto a row that the call owns, s a text. -/
theorem wpList_append_str {ops : Array Oper} {rest : List Oper} {o : Oper} {a : Act} {w : World} {Q : Exit → Act → World → Prop} (hgd : o.guard = none) (sl x : Operand)
    (ho : o.op = .call { callee := .builtin .append, args := #[sl, x], argTypes := #[23, 9] }) (B : Nat) (v : Value) (out m : List UInt8) (s : ByteArray) (hs : a.eval sl = v) (hx : a.eval x = .string s)
    (hS : s = ⟨m.toArray⟩) (hown : OwnF B v out w) (hb : out.length + m.length ≤ 1099511627776) (hB : B ≤ w.heap.size)
    (h : ∀ v' w', OwnF B v' (out ++ m) w' → w.grownBy w' v.ownBlock → wpList Tryd.prog ops Q rest (a.put o.dst v') w') : wpList Tryd.prog ops Q (o :: rest) a w := by
  subst hS
  obtain ⟨i, hi, hz, hz1, hz2⟩ := info_parts info_byte
  refine Lib.wpList_append_own_stringF w hgd sl x 23 9 ho B 5 i Tryd.underlying23 Tryd.underlying9 hi hz hz1 hz2 v out.length (Lib.byteCells out) hs hown ⟨m.toArray⟩ hx (by rw [size_toArray]; unfold maxLen; omega) (by rw [size_toArray]; omega) hB ?_
  intro v' w' ho hg _
  refine h v' w' ?_ hg
  rw [size_toArray, Lib.strCells_eq] at ho
  unfold OwnF
  rw [List.length_append, Lib.byteCells_append]
  exact ho
theorem elem_b : Tryd.prog.underlying 23 = some (.slice (Tryd.prog.elem 23)) := by kernel_rfl
/-- 'b[:k]'. -/
theorem bs_head (a : Option Addr) (n c k : Nat) (x : Int) (hx : x = k) (hk : k ≤ c) (u : World) :
    (Instr.sliceAt 23 (.slice a n c) none (some (.int .i64 x)) none).run Tryd.prog u = .ok (.slice a k c) u := by
  subst hx
  obtain ⟨i, hi, hz, hs, hby⟩ := info_parts info_byte
  have e : Tryd.prog.elem 23 = 5 := by kernel_rfl
  rw [run_sliceAt_slice (h := elem_b), run_slice_h (ht := elem_b) (h0 := by omega) (h2 := by omega)]
  rw [e]
  simp [sizeOf, typeInfo, hi, hs, Result.andThen, sliced]
  cases a with
  | none => simp
  | some a => simp [Addr.add]
/-- 'b[k:]'. -/
theorem bs_tail (a : Option Addr) (n c k : Nat) (l : List UInt8) (hn : n = l.length) (hk : k ≤ n) (hc : n ≤ c) :
    ∃ a', (∀ (x : Int) (u : World), x = k → (Instr.sliceAt 23 (.slice a n c) (some (.int .i64 x)) none none).run Tryd.prog u = .ok (.slice a' (n - k) (c - k)) u) ∧
      ∀ w, BAt w a l → BAt w a' (l.drop k) := by
  obtain ⟨i, hi, hz, hs, hby⟩ := info_parts info_byte
  have e : Tryd.prog.elem 23 = 5 := by kernel_rfl
  refine ⟨if c = k then a else a.map (·.add (k * 1)), fun x u hx => ?_, fun w hb => ?_⟩
  · subst hx
    rw [run_sliceAt_slice (h := elem_b), run_slice_l (ht := elem_b) (h0 := by omega) (h1 := by omega)]
    rw [e]
    simp [sizeOf, typeInfo, hi, hs, Result.andThen, sliced]
  · subst hn
    by_cases hck : c = k
    · rw [if_pos hck]
      intro hp
      rw [List.length_drop] at hp; omega
    · rw [if_neg hck]
      intro hp
      rw [List.length_drop] at hp
      obtain ⟨b, o, rfl, h1, h2⟩ := hb (by omega)
      refine ⟨b, o + k, ?_, h1, fun j hj => ?_⟩
      · simp [Addr.add]
      · rw [List.length_drop] at hj
        rw [show o + k + j = o + (k + j) by omega, h2 (k + j) (by omega), List.getElem_drop]
theorem ownF_red {B : Nat} {v : Value} {l : List UInt8} {w : World} (h : OwnF B v l w) : Red w v l := by
  obtain ⟨a, c, hv, hl, hm, hb⟩ := ownF_shape h
  refine ⟨a, c, hv, hb, fun hn => ?_, hl, hm⟩
  rcases h.2 with ⟨hv2, h0⟩ | ⟨g, cap, cur, fz, hv2, _⟩
  · rw [hv] at hv2
    simp only [Value.slice.injEq] at hv2
    exact ⟨hv2.2.1, hv2.2.2⟩
  · rw [hv] at hv2
    simp only [Value.slice.injEq] at hv2
    rw [hn] at hv2
    exact absurd hv2.1 (by simp)
/-- 'append(b, c...)' onto a row that the call owns, c bytes that lie anywhere. -/
theorem wpList_append_cells {ops : Array Oper} {rest : List Oper} {o : Oper} {a : Act} {w : World} {Q : Exit → Act → World → Prop} (hgd : o.guard = none) (sl x : Operand)
    (ho : o.op = .call { callee := .builtin .append, args := #[sl, x], argTypes := #[23, 23] }) (B : Nat) (v : Value) (out m : List UInt8) (ad : Addr) (n c : Nat) (hs : a.eval sl = v) (hx : a.eval x = .slice (some ad) n c)
    (hn : n = m.length) (hc : ∀ j u, (Lib.byteCells m)[j]? = some u → w.cell? (ad.add j) = some u) (hown : OwnF B v out w) (hb : out.length + m.length ≤ 1099511627776) (hB : B ≤ w.heap.size)
    (h : ∀ v' w', OwnF B v' (out ++ m) w' → w.grownBy w' v.ownBlock → wpList Tryd.prog ops Q rest (a.put o.dst v') w') : wpList Tryd.prog ops Q (o :: rest) a w := by
  subst hn
  obtain ⟨i, hi, hz, hz1, hz2⟩ := info_parts info_byte
  have hbl : (Lib.byteCells m).length = m.length := by simp [Lib.byteCells]
  refine wpList_append_ownF w hgd sl x 23 ho B 5 i (.int .u8 0) 1 1 Tryd.underlying23 hi hz hz1 hz2 rfl (by decide) v out.length (Lib.byteCells out) hs hown ad m.length c (Lib.byteCells m) hx (by rw [hbl]; omega) hc (fun u hu => by simp [Lib.byteCells] at hu; obtain ⟨x, _, rfl⟩ := hu; rfl) (by unfold maxLen; omega) (by omega) hB ?_
  intro v' w' ho hg _
  refine h v' w' ?_ hg
  unfold OwnF
  rw [List.length_append, Lib.byteCells_append]
  exact ho
end Go.Proofs.YtdgcjjledbnofaaDoor

/-
  Cut of Hb: Grow_int, Hex_some, Hex_none, Hex_any.
-/
namespace Go.Proofs.YtdgcjjledbnofaaDoor
set_option maxRecDepth 20000
open Go.RowKit
set_option linter.unusedVariables false

theorem Grow_int (B b : Nat) (n : Int) (w : World) (hB : B ≤ b) (hbk : w.heap[b]? = some (.cells #[.pointer none, .slice none 0 0] 59 (0, 0))) (hBw : B ≤ w.heap.size) (h0 : 0 ≤ n) (hn : n ≤ 281474976710656) :
    Calls Tryd.prog 32 #[.pointer (some ⟨b, 0, none⟩), .int .i64 n] w fun e w' => e = .returned (.tuple #[]) ∧ Lib.BuilderAt 59 5 B b (.pointer (some ⟨b, 0, none⟩)) [] w' ∧ Below B w w' := by
  obtain ⟨m, rfl⟩ := Int.eq_ofNat_of_zero_le h0
  exact Tryd.Builder_Grow_fresh B b m w hB hbk hBw (by omega)

set_option maxHeartbeats 400000 in
theorem Hex_some (b o c : Nat) (l : List UInt8) (w : World) (hb : b < w.heap.size) (hc : ∀ i (h : i < l.length), w.cell? ⟨b, o + i, none⟩ = some (.int .u8 (l[i]).toNat)) (hn : l.length ≤ 1099511627776) :
    Calls Tryd.prog 19 #[.slice (some ⟨b, o, none⟩) l.length c] w fun e w' => e = .returned (.string ⟨(hexL l).toArray⟩) ∧ Below w.heap.size w w' := by
  have HC := Lib.hid hc; clear hc
  go_enter Tryd.func19, Tryd.ntmps19
  go_wp2_with fail
  refine (Grow_int w.heap.size w.heap.size _ _ (Nat.le_refl _) ?_ ?_ ?_ ?_).mono ?_
  · exact heap_alloc_new _ _
  · simp
  · omega
  · omega
  rintro e w1 ⟨rfl, hbu, hbel⟩
  have hbw : Below w.heap.size w w1 := ((Below.refl _ w).alloc (Nat.le_refl _) _).trans (hbel.mono (by simp))
  have hF := Lib.IsBuilderF.of (Or.inr hbu)
  clear hbu hbel
  go_wp2_with fail
  go_loopw [12] (fun i wr => ∃ k : Nat, k ≤ l.length ∧ i = .int .i64 k ∧ Lib.IsBuilderF 59 5 w.heap.size w.heap.size (Lib.byteCells (hexL (l.take k))) wr ∧ Below w.heap.size w wr) (fun i _ => l.length - (intOf i).toNat)
  case atStart => exact ⟨0, Nat.zero_le _, rfl, hF, hbw⟩
  case round =>
    obtain ⟨k, hk, rfl, hI, hbr⟩ := hrel
    by_cases hlt : k < l.length
    · have hcell : wr.cell? ⟨b, o + k, none⟩ = some (.int .u8 (l[k]).toNat) := (hbr.cell (p := ⟨b, o + k, none⟩) hb).trans (HC.out k hlt)
      have hx : (l[k]).toNat < 256 := (l[k]).toNat_lt
      obtain ⟨x, hxe⟩ : ∃ x : Nat, x = (l[k]).toNat := ⟨_, rfl⟩
      rw [← hxe] at hcell hx
      have HX := Lib.hid hxe; clear hxe
      have hI0 := hI
      go_wp2_with fail
      refine (Tryd.Builder_WriteByte_k w.heap.size w.heap.size _ _ _ hI ?_ hbr.size).mono ?_
      · rw [Lib.byteCells_length, hexL_length, List.length_take]; omega
      rintro e w2 ⟨rfl, h2, b2, _⟩
      rw [hex_at _ (by omega)] at h2
      have hI2 : Lib.IsBuilderF 59 5 w.heap.size w.heap.size (Lib.byteCells (hexL (l.take k) ++ [hexDig (x / 16)])) w2 := by
        rw [Lib.byteCells_append]; exact Or.inr h2
      have hbr2 := hbr.trans b2
      clear h2 b2 hI hbr hI0
      go_wp2_with fail
      refine (Tryd.Builder_WriteByte_k w.heap.size w.heap.size _ _ _ hI2 ?_ hbr2.size).mono ?_
      · rw [Lib.byteCells_length, List.length_append, hexL_length, List.length_take]; simp; omega
      rintro e w3 ⟨rfl, h3, b3, _⟩
      rw [hex_at _ (by omega)] at h3
      have hI3 : Lib.IsBuilderF 59 5 w.heap.size w.heap.size (Lib.byteCells (hexL (l.take (k + 1)))) w3 := by
        rw [hexL_snoc l k hlt, ← HX.out, show [hexDig (x / 16), hexDig (x % 16)] = [hexDig (x / 16)] ++ [hexDig (x % 16)] from rfl, ← List.append_assoc, Lib.byteCells_append]
        exact Or.inr h3
      have hbr3 := hbr2.trans b3
      clear h3 b3 hI2 hbr2
      go_wp2
      go_roundw
      case rel => exact ⟨k + 1, by omega, by go_num, hI3, hbr3⟩
      case measure => simp [intOf]; omega
    · obtain rfl : k = l.length := by omega
      rw [List.take_length] at hI
      go_wp2_with fail
      refine (Tryd.Builder_String_any_k w.heap.size w.heap.size _ _ hI hbr.size).mono ?_
      rintro e w2 ⟨rfl, _, b2, _⟩
      go_wp2
      go_ret
      exact ⟨rfl, hbr.trans b2⟩

set_option maxHeartbeats 400000 in
theorem Hex_none (a : Option Addr) (c : Nat) (w : World) :
    Calls Tryd.prog 19 #[.slice a 0 c] w fun e w' => e = .returned (.string ⟨(hexL []).toArray⟩) ∧ Below w.heap.size w w' := by
  go_enter Tryd.func19, Tryd.ntmps19
  go_wp2_with fail
  refine (Grow_int w.heap.size w.heap.size _ _ (Nat.le_refl _) ?_ ?_ ?_ ?_).mono ?_
  · exact heap_alloc_new _ _
  · simp
  · omega
  · omega
  rintro e w1 ⟨rfl, hbu, hbel⟩
  have hbw : Below w.heap.size w w1 := ((Below.refl _ w).alloc (Nat.le_refl _) _).trans (hbel.mono (by simp))
  have hF : Lib.IsBuilderF 59 5 w.heap.size w.heap.size (Lib.byteCells []) w1 := Lib.IsBuilderF.of (Or.inr hbu)
  clear hbu hbel
  go_wp2_with fail
  refine wp_loop_rounds 1 ?_
  rw [rounds_succ]
  go_wp2_with fail
  refine (Tryd.Builder_String_any_k w.heap.size w.heap.size _ _ hF hbw.size).mono ?_
  rintro e w2 ⟨rfl, _, b2, _⟩
  go_wp2
  go_ret
  exact ⟨rfl, hbw.trans b2⟩

theorem Hex_any (a : Option Addr) (n c : Nat) (l : List UInt8) (w : World) (h : BAt w a l) (hl : n = l.length) (hn : l.length ≤ 1099511627776) :
    Calls Tryd.prog 19 #[.slice a n c] w fun e w' => e = .returned (.string ⟨(hexL l).toArray⟩) ∧ Below w.heap.size w w' := by
  subst hl
  by_cases hp : 0 < l.length
  · obtain ⟨b, o, rfl, hb, hc⟩ := h hp
    exact Hex_some b o c l w hb hc hn
  · obtain rfl : l = [] := List.eq_nil_of_length_eq_zero (by omega)
    exact Hex_none a c w
end Go.Proofs.YtdgcjjledbnofaaDoor

/-
  A literal of one element of a row (cut out of Uh).
-/
namespace Go.Proofs.YtdgcjjledbnofaaDoor
set_option maxRecDepth 20000
open Go.RowKit
set_option linter.unusedVariables false
set_option linter.unusedSimpArgs false

section
variable {α : Type} {R : RowT α} {P : Program}
theorem build_fill {n : Nat} (hn : 0 < n) (A : Array Value) (hA : A.size = n) (z : Array Value) : Instr.fill (fun i => some (i * n, n)) ((Array.range (1 * n)).map (z[· % z.size]!)) [(0, .agg A)] = some A := by
  have h := Great.fill_whole (s := n) hn [.agg A] ((Array.range (1 * n)).map (z[· % z.size]!)) (fun v hv => by simp at hv; subst hv; exact hA) (by simp)
  simpa [Value.cells] using h
theorem wp_build_oneR (G : R.Good P) {o : Oper} {a : Act} {w : World} {K : Act → World → Prop} {Q : Exit → Act → World → Prop} (x : Operand) (ho : o.op = .buildSlice R.sl 1 #[(0, x)])
    (A : Array Value) (hA : A.size = R.size) (hx : a.eval x = .agg A)
    (h : K (a.put o.dst (.slice (some ⟨w.heap.size, 0, none⟩) 1 1)) (w.alloc (.cells A R.ty))) : o.wp P a w K Q := by
  obtain ⟨ie, z, hie, hz, hs, _, hzs⟩ := G.info
  have h1 := G.small.1
  have h2 := G.pos
  refine wp_buildSlice R.sl R.ty 1 _ ho A ie z G.under hie hz (by rw [hs]; omega) (by rw [hs]; omega) ?_ h
  rw [hs]
  have e : (Array.map (fun (p : Nat × Operand) => (p.1, a.eval p.2)) #[(0, x)]).toList = [(0, .agg A)] := by simp [hx]
  rw [show (fun (p : Nat × Operand) => match p with | (i, x) => (i, a.eval x)) = (fun (p : Nat × Operand) => (p.1, a.eval p.2)) from rfl, e]
  exact build_fill h2 A hA _
theorem wpList_build_oneR (G : R.Good P) {ops : Array Oper} {rest : List Oper} {o : Oper} {a : Act} {w : World} {Q : Exit → Act → World → Prop} (hgd : o.guard = none) (x : Operand) (ho : o.op = .buildSlice R.sl 1 #[(0, x)])
    (A : Array Value) (hA : A.size = R.size) (hx : a.eval x = .agg A)
    (h : wpList P ops Q rest (a.put o.dst (.slice (some ⟨w.heap.size, 0, none⟩) 1 1)) (w.alloc (.cells A R.ty))) : wpList P ops Q (o :: rest) a w :=
  wpList_plain hgd fun K hK => wp_build_oneR G x ho A hA hx (hK _ _ h)
theorem rowR_one (G : R.Good P) {w : World} {q : Nat} {x : α} {t : TypeId} {fr : Nat × Nat} (h : w.heap[q]? = some (.cells (R.cl x).toArray t fr)) : RowAt R w (some ⟨q, 0, none⟩) [x] := fun _ =>
  ⟨q, 0, rfl, lt_of_heap h, fun k hk j v hv => by
    obtain rfl : k = 0 := by simpa using hk
    simp only [Nat.zero_mul, Nat.zero_add]
    rw [Lib.cell_of_heap h, ← hv]
    show (R.cl x).toArray[j]? = (R.cl x)[j]?
    simp⟩
/-- An operation that has no guard is carried out. -/
theorem stepW {o : Oper} {ops : Array Oper} {a : Act} {w : World} {K : Act → World → Prop} {Q : Exit → Act → World → Prop} (hg : o.guard = none) (h : o.wp P a w K Q) : if Region.wanted o (yielded ops a.tmps) = true then o.wp P a w K Q else K (a.put o.dst undef) w := by
  rw [if_pos]
  · exact h
  · unfold Region.wanted; rw [hg]
end
end Go.Proofs.YtdgcjjledbnofaaDoor
