/-
  Texts that belong together, one behind the other.
-/
import Derived.Test.YtalmoaofodjehaaDoorFu03
import Derived.Great.BuildSlice
import Derived.Great.FillDense
import Derived.Laws.AppendOwn
import Derived.OwnWalk
import Derived.Test.YtalmoaofodjehaaDoorFu02
import Derived.IntWalk
import Derived.WalkSmall
import Derived.Laws.OwnMore
import Derived.Laws.CopyOwn
/-
  Layer 8: rows of items that a call owns.
-/
namespace Go.Proofs.YtalmoaofodjehaaDoor
set_option maxRecDepth 20000
open Go.RowKit
set_option linter.unusedVariables false
set_option linter.unusedSimpArgs false

/-- A row of items that a call owns. -/
abbrev OwnI (B : Nat) (v : Value) (l : List Itm) (w : World) : Prop := w.ownsRow B 30 22 v l.length (l.flatMap cellsI)
theorem ownI_nil (w : World) (B : Nat) : OwnI B (.slice none 0 0) [] w := World.ownsRow_nil w B _ _
theorem ownI_below {B : Nat} {v : Value} {l : List Itm} {w w' : World} (h : OwnI B v l w) (hb : Below w.heap.size w w') : OwnI B v l w' :=
  World.ownsRow.kept (row := none) h ⟨hb.os, hb.tape, hb.output, hb.size, fun k hk _ => hb.block k hk⟩ (by cases v.ownBlock <;> simp)
theorem flat_at : ∀ (l : List Itm) (hid : ∀ i ∈ l, i.id.length = 20) (k : Nat) (h : k < l.length) (j : Nat) (v : Value), (cellsI l[k])[j]? = some v → (l.flatMap cellsI)[k * 22 + j]? = some v
  | [], _, k, h, _, _, _ => absurd h (Nat.not_lt_zero _)
  | i :: l, hid, 0, h, j, v, hv => by
    have hj : j < (cellsI i).length := (List.getElem?_eq_some_iff.1 hv).1
    rw [List.flatMap_cons, Nat.zero_mul, Nat.zero_add, List.getElem?_append_left hj]
    exact hv
  | i :: l, hid, k + 1, h, j, v, hv => by
    have hl := cellsI_len i (hid i (by simp))
    rw [List.flatMap_cons, List.getElem?_append_right (by omega), hl, show (k + 1) * 22 + j - 22 = k * 22 + j by omega]
    exact flat_at l (fun x hx => hid x (by simp [hx])) k (by simpa using h) j v hv
theorem flat_cells_len (l : List Itm) (hid : ∀ i ∈ l, i.id.length = 20) : (l.flatMap cellsI).length = l.length * 22 := by
  induction l with
  | nil => rfl
  | cons i l ih =>
    rw [List.flatMap_cons, List.length_append, cellsI_len i (hid i (by simp)), ih (fun x hx => hid x (by simp [hx])), List.length_cons]
    omega
theorem ownI_items {B : Nat} {v : Value} {l : List Itm} {w : World} (h : OwnI B v l w) (hid : ∀ i ∈ l, i.id.length = 20) : ∃ a c, v = .slice a l.length c ∧ l.length ≤ c ∧ c ≤ maxLen ∧ ItemsAt w a l ∧ (a = none → l.length = 0 ∧ c = 0) := by
  rcases h.2 with ⟨hv, h0⟩ | ⟨g, cap, cur, hv, hB, hg, hc, hm, _, _⟩
  · obtain rfl : l = [] := List.eq_nil_of_length_eq_zero h0
    exact ⟨none, 0, hv, Nat.le_refl _, Nat.zero_le _, ItemsAt.nil w _, fun _ => ⟨rfl, rfl⟩⟩
  · have hcs := World.ownsRow.cells h (g := g) (by rw [hv]; rfl)
    refine ⟨_, cap, hv, hc, hm, fun _ => ⟨g, 0, rfl, (Array.getElem?_eq_some_iff.1 hg).1, fun k hk j u hu => ?_⟩, fun e => by cases e⟩
    have := hcs (k * 22 + j) u (flat_at l hid k hk j u hu)
    rw [show (⟨g, 0, none⟩ : Addr).add (k * 22 + j) = ⟨g, 0 + k * 22 + j, none⟩ by unfold Addr.add; split <;> simp_all] at this
    exact this
theorem info_item : (Tryd.prog.info? 30).map (fun i => (i.zero, i.size)) = some (some (.agg (arrI zItm)), 22) := zItem
theorem info_item_b : (Tryd.prog.info? 30).map (fun i => i.bytes) = some 48 := by kernel_rfl
theorem info_all : ∃ ie, Tryd.prog.info? 30 = some ie ∧ ie.zero = some (.agg (arrI zItm)) ∧ ie.size = 22 ∧ ie.bytes = 48 := by
  have h1 := info_item
  have h2 := info_item_b
  cases hq : Tryd.prog.info? 30 with
  | none => rw [hq] at h1; cases h1
  | some ie =>
    rw [hq] at h1 h2
    simp only [Option.map_some, Option.some.injEq, Prod.mk.injEq] at h1 h2
    exact ⟨ie, rfl, h1.1, h1.2, h2⟩
theorem fill_one (A z : Array Value) (hA : A.size = 22) (hz : z.size = 22) : Instr.fill (fun i => some (i * 22, 22)) z [(0, .agg A)] = some A := by
  have h := Great.fill_whole (s := 22) (by decide) [.agg A] z (fun v hv => by simp at hv; subst hv; exact hA) (by simp [hz])
  simpa [Value.cells] using h
/-- A literal of one item: a block of its own. -/
theorem wpList_build_item {ops : Array Oper} {rest : List Oper} {o : Oper} {a : Act} {w : World} {Q : Exit → Act → World → Prop} (hgd : o.guard = none) (x : Operand) (ho : o.op = .buildSlice 22 1 #[(0, x)])
    (A : Array Value) (hA : A.size = 22) (hx : a.eval x = .agg A)
    (h : wpList Tryd.prog ops Q rest (a.put o.dst (.slice (some ⟨w.heap.size, 0, none⟩) 1 1)) (w.alloc (.cells A 30))) : wpList Tryd.prog ops Q (o :: rest) a w := by
  obtain ⟨ie, hie, hz, hs, _⟩ := info_all
  have hzs : (arrI zItm).size = 22 := arrI_size _ (by simp [zItm, zeroId])
  refine wpList_buildSlice hgd 22 30 1 _ ho A ie (.agg (arrI zItm)) Tryd.underlying22 hie hz (by rw [hs]; decide) (by rw [hs]; decide) ?_ h
  rw [hs]
  have e : (Array.map (fun (p : Nat × Operand) => (p.1, a.eval p.2)) #[(0, x)]).toList = [(0, .agg A)] := by simp [hx]
  rw [show (fun (p : Nat × Operand) => match p with | (i, x) => (i, a.eval x)) = (fun (p : Nat × Operand) => (p.1, a.eval p.2)) from rfl, e]
  exact fill_one A _ hA (by simp)
/-- 'append(l, x)'. -/
theorem wpList_append_item {ops : Array Oper} {rest : List Oper} {o : Oper} {a : Act} {w : World} {Q : Exit → Act → World → Prop} (hgd : o.guard = none) (sl x : Operand)
    (ho : o.op = .call { callee := .builtin .append, args := #[sl, x], argTypes := #[22, 22] }) (B : Nat) (v : Value) (l : List Itm) (i : Itm) (g : Nat) (A : Array Value) (hA : A = arrI i) (hs : a.eval sl = v) (hx : a.eval x = .slice (some ⟨g, 0, none⟩) 1 1)
    (hg : w.heap[g]? = some (.cells A 30 (0, 0))) (hid : i.id.length = 20) (hown : OwnI B v l w) (hb : l.length ≤ 1000000000) (hB : B ≤ w.heap.size)
    (h : ∀ v' w', OwnI B v' (l ++ [i]) w' → w.grownBy w' v.ownBlock → wpList Tryd.prog ops Q rest (a.put o.dst v') w') : wpList Tryd.prog ops Q (o :: rest) a w := by
  obtain ⟨ie, hie, hz, hsz, hby⟩ := info_all
  refine wpList_append_own w hgd sl x 22 ho B 30 ie (.agg (arrI zItm)) 22 48 Tryd.underlying22 hie hz hsz hby (arrI_size _ (by simp [zItm, zeroId])) (by decide) v l.length (l.flatMap cellsI) hs hown ⟨g, 0, none⟩ 1 1 (cellsI i) hx (by rw [cellsI_len i hid]) (fun j u hu => ?_) (fun u hu => (Array.all_eq_true_iff_forall_mem.1 (cellsI_one i)) u (by simpa using hu)) (by unfold maxLen; omega) (by omega) hB ?_
  · have := row_cells (i := i) (by rw [hA] at hg; exact hg) j u hu
    rw [show (⟨g, 0, none⟩ : Addr).add j = ⟨g, 0 + j, none⟩ by unfold Addr.add; split <;> simp_all]
    exact this
  · intro v' w' ho hgr _
    refine h v' w' ?_ hgr
    unfold OwnI
    rw [List.length_append, List.flatMap_append]
    simpa using ho
end Go.Proofs.YtalmoaofodjehaaDoor

/-
  Rows of bytes that a call has made itself.
-/
namespace Go.Proofs.YtalmoaofodjehaaDoor
open Go.RowKit
set_option linter.unusedVariables false

theorem info5 : (Tryd.prog.info? 5).map (fun i => (i.zero, i.size, i.bytes)) = some (some (.int .u8 0), 1, 1) := by kernel_rfl

theorem own_full {w : World} {base : Nat} {e : TypeId} {g n cap : Nat} {xs : List Value} (h : w.ownsRow base e 1 (.slice (some ⟨g, 0, none⟩) n cap) n xs) :
    ∃ ys, w.ownsRow base e 1 (.slice (some ⟨g, 0, none⟩) cap cap) cap ys ∧ ys.take n = xs := by
  rcases h.2 with ⟨h', _⟩ | ⟨g', cap', cur, h', hb, hg, hnc, hcm, hcs, htake⟩
  · simp at h'
  · simp only [Value.slice.injEq, Option.some.injEq, Addr.mk.injEq, and_true, true_and] at h'
    obtain ⟨rfl, rfl⟩ := h'
    refine ⟨cur.toList, ⟨by simpa using hcs, .inr ⟨g, cap, cur, rfl, hb, hg, Nat.le_refl _, hcm, hcs, List.take_of_length_le (by rw [Array.length_toList, hcs]; exact Nat.le_refl _)⟩⟩, by simpa using htake⟩
theorem own_len {w : World} {base : Nat} {e : TypeId} {g n cap : Nat} {xs : List Value} (h : w.ownsRow base e 1 (.slice (some ⟨g, 0, none⟩) n cap) n xs) : xs.length = n := by simpa using h.1
theorem own_cell {w : World} {base : Nat} {e : TypeId} {g n cap : Nat} {xs : List Value} (h : w.ownsRow base e 1 (.slice (some ⟨g, 0, none⟩) n cap) n xs) (j : Nat) (hj : j < n) : ∃ y, w.cell? ⟨g, j, none⟩ = some y := by
  have hl := own_len h
  exact ⟨xs[j], by rw [h.cellAt j (by omega), List.getElem?_eq_getElem]⟩
theorem own_lt {w : World} {base : Nat} {e : TypeId} {g n cap : Nat} {xs : List Value} (h : w.ownsRow base e 1 (.slice (some ⟨g, 0, none⟩) n cap) n xs) : g < w.heap.size := by
  rcases h.2 with ⟨h', _⟩ | ⟨g', cap', cur, h', hb, hg, hnc, hcm, hcs, htake⟩
  · simp at h'
  · simp only [Value.slice.injEq, Option.some.injEq, Addr.mk.injEq, and_true, true_and] at h'
    obtain ⟨rfl, rfl⟩ := h'
    rcases Nat.lt_or_ge g w.heap.size with h' | h'
    · exact h'
    · simp [Array.getElem?_eq_none h'] at hg

theorem own_keep {w w' : World} {base : Nat} {e : TypeId} {g n cap : Nat} {xs : List Value} (h : w.ownsRow base e 1 (.slice (some ⟨g, 0, none⟩) n cap) n xs) (hb : Below w.heap.size w w') :
    w'.ownsRow base e 1 (.slice (some ⟨g, 0, none⟩) n cap) n xs := by
  have hlt := own_lt h
  refine ⟨h.1, ?_⟩
  rcases h.2 with ⟨h', _⟩ | ⟨g', cap', cur, h', hb', hg, r⟩
  · simp at h'
  · refine .inr ⟨g', cap', cur, h', hb', ?_, r⟩
    simp only [Value.slice.injEq, Option.some.injEq, Addr.mk.injEq, and_true, true_and] at h'
    obtain ⟨rfl, rfl⟩ := h'
    exact (hb.block g hlt).trans hg

theorem own_block {w : World} {base : Nat} {e : TypeId} {v : Value} {n : Nat} {xs : List Value} (h : w.ownsRow base e 1 v n xs) (k : Nat) (hk : v.ownBlock = some k) : base ≤ k := by
  rcases h.2 with ⟨rfl, _⟩ | ⟨g, cap, cur, rfl, hb, _⟩
  · cases hk
  · cases hk; exact hb

/-- The bytes as cells. -/
theorem byteCells_at (l : List UInt8) (i : Nat) : (Lib.byteCells l)[i]? = (l[i]?).map fun c => Value.int .u8 c.toNat := by simp [Lib.byteCells]

theorem own_bat {w : World} {base : Nat} {e : TypeId} {g cap : Nat} {l : List UInt8} (h : w.ownsRow base e 1 (.slice (some ⟨g, 0, none⟩) l.length cap) l.length (Lib.byteCells l)) : BAt w (some ⟨g, 0, none⟩) l := fun hp =>
  ⟨g, 0, rfl, own_lt h, fun i hi => by
    rw [Nat.zero_add, h.cellAt i (by omega), byteCells_at]
    simp [hi]⟩
end Go.Proofs.YtalmoaofodjehaaDoor

/-
  Rows of items: stores into them; the helper Own of the statements over items.
-/
namespace Go.Proofs.YtalmoaofodjehaaDoor
set_option maxRecDepth 20000
open Go.RowKit
set_option linter.unusedVariables false
set_option linter.unusedSimpArgs false

theorem flat_back : ∀ (l : List Itm) (hid : ∀ i ∈ l, i.id.length = 20) (j : Nat) (v : Value), (l.flatMap cellsI)[j]? = some v → ∃ (k : Nat) (h : k < l.length) (q : Nat), j = k * 22 + q ∧ (cellsI l[k])[q]? = some v
  | [], _, _, _, h => by simp at h
  | i :: l, hid, j, v, h => by
    have hl := cellsI_len i (hid i (by simp))
    rw [List.flatMap_cons] at h
    by_cases hj : j < 22
    · rw [List.getElem?_append_left (by omega)] at h
      exact ⟨0, by simp, j, by omega, h⟩
    · rw [List.getElem?_append_right (by omega), hl] at h
      obtain ⟨k, hk, q, e, hq⟩ := flat_back l (fun x hx => hid x (by simp [hx])) (j - 22) v h
      exact ⟨k + 1, by simpa using hk, q, by omega, by simpa using hq⟩
theorem flat_one (l : List Itm) : ∀ v ∈ l.flatMap cellsI, v.oneCell' = true := by
  intro v hv
  obtain ⟨i, _, hi⟩ := List.mem_flatMap.1 hv
  exact (Array.all_eq_true_iff_forall_mem.1 (cellsI_one i)) v (by simpa using hi)
theorem ItemsAt.cells {w : World} {a : Option Addr} {l : List Itm} (h : ItemsAt w a l) (hid : ∀ i ∈ l, i.id.length = 20) (ad : Addr) (had : a = some ad) (j : Nat) (u : Value) (hj : (l.flatMap cellsI)[j]? = some u) : w.cell? (ad.add j) = some u := by
  obtain ⟨k, hk, q, e, hq⟩ := flat_back l hid j u hj
  obtain ⟨b, o, e2, _, hc⟩ := h (by omega)
  rw [had] at e2
  cases e2
  rw [show (⟨b, o, none⟩ : Addr).add j = ⟨b, o + j, none⟩ by unfold Addr.add; split <;> simp_all, e, ← Nat.add_assoc]
  exact hc k hk q u hq
theorem own_full_n {w : World} {base : Nat} {e : TypeId} {s g n cap : Nat} {xs : List Value} (h : w.ownsRow base e s (.slice (some ⟨g, 0, none⟩) n cap) n xs) :
    ∃ ys, w.ownsRow base e s (.slice (some ⟨g, 0, none⟩) cap cap) cap ys ∧ ys.take (n * s) = xs := by
  rcases h.2 with ⟨h', _⟩ | ⟨g', cap', cur, h', hb, hg, hnc, hcm, hcs, htake⟩
  · simp at h'
  · simp only [Value.slice.injEq, Option.some.injEq, Addr.mk.injEq, and_true, true_and] at h'
    obtain ⟨rfl, rfl⟩ := h'
    refine ⟨cur.toList, ⟨by simpa using hcs, .inr ⟨g, cap, cur, rfl, hb, hg, Nat.le_refl _, hcm, hcs, List.take_of_length_le (by rw [Array.length_toList, hcs]; exact Nat.le_refl _)⟩⟩, by simpa using htake⟩
theorem own_lt_n {w : World} {base : Nat} {e : TypeId} {s g n cap : Nat} {xs : List Value} (h : w.ownsRow base e s (.slice (some ⟨g, 0, none⟩) n cap) n xs) : g < w.heap.size := by
  rcases h.2 with ⟨h', _⟩ | ⟨g', cap', cur, h', hb, hg, hnc, hcm, hcs, htake⟩
  · simp at h'
  · simp only [Value.slice.injEq, Option.some.injEq, Addr.mk.injEq, and_true, true_and] at h'
    obtain ⟨rfl, rfl⟩ := h'
    exact lt_of_heap hg
theorem own_same_n {w w' : World} {base : Nat} {e : TypeId} {s g n cap : Nat} {xs : List Value} (h : w.ownsRow base e s (.slice (some ⟨g, 0, none⟩) n cap) n xs) (hk : w'.heap[g]? = w.heap[g]?) :
    w'.ownsRow base e s (.slice (some ⟨g, 0, none⟩) n cap) n xs := by
  refine ⟨h.1, ?_⟩
  rcases h.2 with ⟨h', _⟩ | ⟨g', cap', cur, h', hb', hg, r⟩
  · simp at h'
  · refine .inr ⟨g', cap', cur, h', hb', ?_, r⟩
    simp only [Value.slice.injEq, Option.some.injEq, Addr.mk.injEq, and_true, true_and] at h'
    obtain ⟨rfl, rfl⟩ := h'
    exact hk.trans hg
theorem own_keep_n {w w' : World} {base : Nat} {e : TypeId} {s g n cap : Nat} {xs : List Value} (h : w.ownsRow base e s (.slice (some ⟨g, 0, none⟩) n cap) n xs) (hb : Below w.heap.size w w') :
    w'.ownsRow base e s (.slice (some ⟨g, 0, none⟩) n cap) n xs := own_same_n h (hb.block g (own_lt_n h))
theorem take_put {α : Type} (l cs : List α) (p q m : Nat) (hq : q = p + cs.length) (hqm : q ≤ m) (hm : m ≤ l.length) : (l.take p ++ cs ++ l.drop q).take m = (l.take m).take p ++ cs ++ (l.take m).drop q := by
  rw [List.append_assoc, List.take_append, List.take_append, List.length_take, List.take_take, List.take_take, List.drop_take, show min p l.length = p by omega, show min m p = p by omega, show min p m = p by omega,
    List.take_of_length_le (l := cs) (by omega), show m - p - cs.length = m - q by omega, List.append_assoc]
theorem grown_setRow (w : World) (g : Nat) (cs : Array Value) : w.grownBy (w.setRow g cs) (some g) := by
  have b := below_setRow (B := g) (Below.refl g w) (Nat.le_refl _) cs
  refine ⟨b.os, b.tape, b.output, b.size, fun k _ hk => ?_⟩
  have hkg : k ≠ g := fun e => hk (by rw [e])
  simp [World.setRow, Array.getElem?_modify, hkg.symm]
/-- What an item is stored into: the row's other cells stay. -/
def putI (ys : List Value) (k : Nat) (i : Itm) : List Value := ys.take (k * 22) ++ cellsI i ++ ys.drop (k * 22 + 22)
theorem wpList_store_cells22 {ops : Array Oper} {rest : List Oper} {o : Oper} {a : Act} {w : World} {Q : Exit → Act → World → Prop} (hgd : o.guard = none) (x y : Operand) (ho : o.op = .store 30 x y)
    (B g n c k off : Nat) (ys : List Value) (i : Itm) (A : Array Value) (hA : A = arrI i) (hoff : off = k * 22) (hx : a.eval x = .pointer (some ⟨g, off, none⟩)) (hy : a.eval y = .agg A) (hk : k < n) (hi : i.id.length = 20) (hown : w.ownsRow B 30 22 (.slice (some ⟨g, 0, none⟩) n c) n ys)
    (h : ∀ w', w'.ownsRow B 30 22 (.slice (some ⟨g, 0, none⟩) n c) n (putI ys k i) → w.grownBy w' (some g) → wpList Tryd.prog ops Q rest (a.put o.dst undef) w') : wpList Tryd.prog ops Q (o :: rest) a w := by
  subst hA; subst hoff
  refine wpList_plain hgd fun K hK => ?_
  have hcl := cellsI_len i hi
  have hmul : k * 22 + 22 ≤ n * 22 := by omega
  rcases hown.2 with ⟨h', _⟩ | ⟨g', cap', cur, h', hb', hg, hnc, hcm, hcs, htake⟩
  · simp at h'
  · simp only [Value.slice.injEq, Option.some.injEq, Addr.mk.injEq, and_true, true_and] at h'
    obtain ⟨rfl, rfl⟩ := h'
    have hc22 : n * 22 ≤ c * 22 := Nat.mul_le_mul_right 22 hnc
    have hst := run_storeCells_at Tryd.prog g (k * 22) 30 (cellsI i) 0 cur w hg (by rw [hcl, hcs]; omega) (fun v hv => (Array.all_eq_true_iff_forall_mem.1 (cellsI_one i)) v (by simpa using hv))
    have hi' : (Tryd.prog.info? 30).map (·.size) = some (arrI i).size := info_arr _ (arrI_size i hi)
    obtain ⟨ie, hie, _, hsz, _⟩ := info_all
    unfold Oper.wp execOp
    simp only [ho, hx, hy, Instr.storeAt, Instr.sureAddr, Sem.run_bind, Sem.run_pure, Result.andThen_ok]
    have hrun : (storeVar 30 ⟨g, k * 22, none⟩ (.agg (arrI i))).run Tryd.prog w = .ok () (w.setRow g (cur.toList.take (k * 22) ++ cellsI i ++ cur.toList.drop (k * 22 + 22)).toArray) := by
      simp only [Nat.add_zero] at hst
      rw [hcl] at hst
      simp [storeVar, sizeOf, typeInfo, hie, hsz, Value.cells, arrI, hcl, hst]
    rw [hrun]
    refine hK _ _ (h _ ⟨?_, .inr ⟨g, c, _, rfl, hb', setRow_heap w g cur _ 30 (0, 0) hg, hnc, hcm, ?_, ?_⟩⟩ (grown_setRow w g _))
    · unfold putI
      have := hown.1
      simp only [List.length_append, List.length_take, List.length_drop, hcl]
      omega
    · simp only [List.size_toArray, List.length_append, List.length_take, List.length_drop, hcl, Array.length_toList, hcs]
      omega
    · unfold putI
      rw [← htake]
      exact take_put cur.toList (cellsI i) (k * 22) (k * 22 + 22) (n * 22) (by rw [hcl]) hmul (by rw [Array.length_toList, hcs]; exact hc22)
theorem putI_take (ys : List Value) (k : Nat) (i : Itm) (hi : i.id.length = 20) (h : k * 22 + 22 ≤ ys.length) : (putI ys k i).take ((k + 1) * 22) = ys.take (k * 22) ++ cellsI i := by
  unfold putI
  have hl := cellsI_len i hi
  exact List.take_left' (by rw [List.length_append, List.length_take, hl]; omega)
theorem flat_take (l : List Itm) (hid : ∀ i ∈ l, i.id.length = 20) (k : Nat) (hk : k ≤ l.length) : (l.flatMap cellsI).take (k * 22) = (l.take k).flatMap cellsI := by
  have h1 : l.flatMap cellsI = (l.take k).flatMap cellsI ++ (l.drop k).flatMap cellsI := by rw [← List.flatMap_append, List.take_append_drop]
  have h2 := flat_cells_len (l.take k) (fun i hi => hid i (List.mem_of_mem_take hi))
  rw [List.length_take, Nat.min_eq_left hk] at h2
  rw [h1, ← h2, List.take_left]
theorem flat_drop (l : List Itm) (hid : ∀ i ∈ l, i.id.length = 20) (k : Nat) (hk : k ≤ l.length) : (l.flatMap cellsI).drop (k * 22) = (l.drop k).flatMap cellsI := by
  have h1 : l.flatMap cellsI = (l.take k).flatMap cellsI ++ (l.drop k).flatMap cellsI := by rw [← List.flatMap_append, List.take_append_drop]
  have h2 := flat_cells_len (l.take k) (fun i hi => hid i (List.mem_of_mem_take hi))
  rw [List.length_take, Nat.min_eq_left hk] at h2
  rw [h1, ← h2, List.drop_left]
theorem putI_flat (l : List Itm) (hid : ∀ i ∈ l, i.id.length = 20) (k : Nat) (hk : k < l.length) (i : Itm) : putI (l.flatMap cellsI) k i = (l.set k i).flatMap cellsI := by
  unfold putI
  rw [flat_take l hid k (by omega), show k * 22 + 22 = (k + 1) * 22 by omega, flat_drop l hid (k + 1) (by omega), List.set_eq_take_append_cons_drop, if_pos hk, List.flatMap_append, List.flatMap_cons, List.append_assoc]
/-- An item is stored into a row that a call owns. -/
theorem wpList_store_item {ops : Array Oper} {rest : List Oper} {o : Oper} {a : Act} {w : World} {Q : Exit → Act → World → Prop} (hgd : o.guard = none) (x y : Operand) (ho : o.op = .store 30 x y)
    (B g c k off : Nat) (l : List Itm) (hid : ∀ i ∈ l, i.id.length = 20) (i : Itm) (A : Array Value) (hA : A = arrI i) (hoff : off = k * 22) (hx : a.eval x = .pointer (some ⟨g, off, none⟩)) (hy : a.eval y = .agg A) (hk : k < l.length) (hi : i.id.length = 20) (hown : OwnI B (.slice (some ⟨g, 0, none⟩) l.length c) l w)
    (h : ∀ w', OwnI B (.slice (some ⟨g, 0, none⟩) l.length c) (l.set k i) w' → w.grownBy w' (some g) → wpList Tryd.prog ops Q rest (a.put o.dst undef) w') : wpList Tryd.prog ops Q (o :: rest) a w := by
  refine wpList_store_cells22 hgd x y ho B g l.length c k off _ i A hA hoff hx hy hk hi hown (fun w' hw hg => h w' ?_ hg)
  unfold OwnI
  rw [List.length_set, ← putI_flat l hid k hk i]
  exact hw
theorem set_ids {l : List Itm} (hid : ∀ i ∈ l, i.id.length = 20) (k : Nat) {x : Itm} (hx : x.id.length = 20) : ∀ i ∈ l.set k x, i.id.length = 20 := fun i hi => by
  rcases List.mem_or_eq_of_mem_set hi with h | rfl
  · exact hid i h
  · exact hx
end Go.Proofs.YtalmoaofodjehaaDoor

/-
  The helper Own of the statements over items: a copy with three items of room behind it.
-/
namespace Go.Proofs.YtalmoaofodjehaaDoor
set_option maxRecDepth 20000
open Go.RowKit
set_option linter.unusedVariables false
set_option linter.unusedSimpArgs false

/-- What Own leaves: the copy, and its room, in a block of its own. -/
def OwnItm (w : World) (g : Nat) (l : List Itm) (f : Itm) : Prop :=
  w.ownsRow g 30 22 (.slice (some ⟨g, 0, none⟩) (l.length + 3) (l.length + 3)) (l.length + 3) ((l ++ List.replicate 3 f).flatMap cellsI)
theorem OwnItm.keep {w w' : World} {g : Nat} {l : List Itm} {f : Itm} (h : OwnItm w g l f) (hb : Below w.heap.size w w') : OwnItm w' g l f := own_keep_n h hb
theorem OwnItm.lt {w : World} {g : Nat} {l : List Itm} {f : Itm} (h : OwnItm w g l f) : g < w.heap.size := own_lt_n h
set_option maxHeartbeats 8000000 in
theorem OwnItm_any (a : Option Addr) (n c : Nat) (l : List Itm) (f : Itm) (w : World) (h : ItemsAt w a l) (hnone : a = none → n = 0 ∧ c = 0) (hl : n = l.length) (hn : n ≤ 1000000) (hid : ∀ i ∈ l, i.id.length = 20) (hf : f.id.length = 20) :
    Calls Tryd.prog 11 #[.slice a n c, .agg (arrI f)] w fun e w' => e = .returned (.slice (some ⟨w.heap.size + 1, 0, none⟩) n (n + 3)) ∧ OwnItm w' (w.heap.size + 1) l f ∧ Below w.heap.size w w' := by
  obtain ⟨i0, hi, hz0, hz1, hz2⟩ := info_all
  obtain ⟨A, hA⟩ : ∃ A, arrI f = A := ⟨_, rfl⟩
  have HAS := Lib.hid (show A.size = 22 by rw [← hA]; exact arrI_size f hf)
  have HA := Lib.hid hA
  have b1 := (Below.refl w.heap.size w).alloc (Nat.le_refl _) (.cells A 30)
  have h1 := heap_alloc_new w (.cells A 30)
  have hs1 : (w.alloc (.cells A 30)).heap.size = w.heap.size + 1 := by simp
  have HC := Lib.hid (fun w' (hb : Below w.heap.size w w') => (h.keep hb).cells hid)
  have HFL := Lib.hid (flat_cells_len l hid)
  have HN := Lib.hid hnone
  have HL := Lib.hid hl
  have H1 := Lib.hid h1
  have B1 := Lib.hid b1
  have S1 := Lib.hid hs1
  rw [hA]
  obtain ⟨g, hg⟩ : ∃ g, g = w.heap.size + 1 := ⟨_, rfl⟩
  have HG := Lib.hid hg
  rw [← hg]
  rw [← hg] at hs1
  clear h hnone hl hid hA b1 h1 hg
  go_enter Tryd.func11, Tryd.ntmps11
  go_wp2_with (at_make; refine wpList_make_own _ rfl _ _ 22 rfl w.heap.size 30 i0 (.agg (arrI zItm)) 22 Tryd.underlying22 hi hz0 hz1 _ _ _ (n + 3) rfl rfl (by omega) (by rw [hz2]; omega) (by unfold maxLen; omega) (by have := S1.out; omega) ?_)
  intro w0 hown0 hgrow0
  have hb0 : Below w.heap.size w w0 := B1.out.grown hgrow0 B1.out.size (fun k h => by cases h)
  have hx0 := (hgrow0.block w.heap.size (by have := S1.out; omega) (by simp)).trans H1.out
  have HC0 := Lib.hid (HC.out w0 hb0)
  have HN2 := Lib.hid (show (l.flatMap cellsI).length = n * 22 by rw [HFL.out, ← HL.out])
  have HX0 := Lib.hid hx0
  clear hgrow0 hx0
  go_wp2_with (at_builtin; refine wpList_append_fits_any _ rfl _ _ 22 rfl w.heap.size 30 i0 22 Tryd.underlying22 hi hz1 g 0 (n + 3) _ rfl hown0 a n c (l.flatMap cellsI) rfl HN2.out HN.out HC0.out (flat_one l) (by omega) ?_)
  intro w1 hown1 hgrow1
  have hlt0 := Nat.lt_of_lt_of_le (own_lt_n hown0) hgrow1.size
  have hb1 : Below w.heap.size w w1 := hb0.grown hgrow1 hb0.size (fun k hk => by cases hk; have := HG.out; omega)
  have hx1 := (hgrow1.block w.heap.size (lt_of_heap HX0.out) (by intro e; have := HG.out; cases e; omega)).trans HX0.out
  clear hown0 HC0 hb0 HX0 hgrow1
  have hown2 : w1.ownsRow w.heap.size 30 22 (.slice (some ⟨g, 0, none⟩) n (n + 3)) n (l.flatMap cellsI) := by simpa using hown1
  obtain ⟨ys, hown, hys⟩ := own_full_n hown2
  clear hown2 hown1
  have HY := Lib.hid hys; have HX1 := Lib.hid hx1; have HOWN := Lib.hid hown; have HB1 := Lib.hid hb1
  clear hys hx1 hown hb1 hlt0 HN2
  go_wp2_with fail
  go_loopw [7] (fun i wr => ∃ (k : Nat) (ys : List Value), n ≤ k ∧ k ≤ n + 3 ∧ i = .int .i64 k ∧ wr.ownsRow w.heap.size 30 22 (.slice (some ⟨g, 0, none⟩) (n + 3) (n + 3)) (n + 3) ys ∧
      ys.take (k * 22) = (l ++ List.replicate (k - n) f).flatMap cellsI ∧ wr.heap[w.heap.size]? = some (.cells A 30 (0, 0)) ∧ Below w.heap.size w wr) (fun i _ => n + 3 - (intOf i).toNat)
  case atStart => exact ⟨n, ys, Nat.le_refl _, by omega, rfl, HOWN.out, by rw [HY.out]; simp, HX1.out, HB1.out⟩
  case round =>
    clear HOWN HB1 HY HX1
    obtain ⟨k, ys, hk0, hk, rfl, hown, hys, hx, hbr⟩ := hrel
    have HY := Lib.hid hys; have HOWN := Lib.hid hown; have HX := Lib.hid hx; have HBR := Lib.hid hbr
    clear hys hown hx hbr
    by_cases hlt : k < n + 3
    · go_wp2_with (first
        | (with_reducible refine wpList_load_row rfl 30 _ rfl w.heap.size rfl 30 A (0, 0) _ HX.out Tryd.underlying30 rfl (info_arr A HAS.out) ?_)
        | (refine wpList_store_cells22 rfl _ _ rfl w.heap.size g (n + 3) (n + 3) k _ ys f A HA.out.symm rfl rfl rfl hlt hf HOWN.out ?_))
      intro w2 hown2 hgr2
      have HO2 := Lib.hid hown2
      have HB2 := Lib.hid (HBR.out.grown hgr2 HBR.out.size (fun k hk => by cases hk; have := HG.out; omega))
      have HX2 := Lib.hid ((hgr2.block w.heap.size (lt_of_heap HX.out) (by intro e; have := HG.out; cases e; omega)).trans HX.out)
      clear hown2 hgr2
      go_wp2
      go_roundw
      case rel =>
        refine ⟨k + 1, _, by omega, by omega, by go_num, HO2.out, ?_, HX2.out, HB2.out⟩
        rw [putI_take ys k f hf (by rw [HOWN.out.1]; omega), HY.out, show k + 1 - n = (k - n) + 1 by omega, List.replicate_succ', ← List.append_assoc, List.flatMap_append]
        simp
      case measure => simp [intOf]; omega
    · obtain rfl : k = n + 3 := by omega
      have hY := HY.out
      rw [List.take_of_length_le (by rw [HOWN.out.1]; omega), show n + 3 - n = 3 by omega] at hY
      subst hY
      go_wp2
      go_ret
      refine ⟨rfl, ?_, HBR.out⟩
      unfold OwnItm
      rw [← HL.out]
      have ho := HOWN.out
      refine ⟨ho.1, ?_⟩
      rcases ho.2 with ⟨h', _⟩ | ⟨g', cap', cur, h', hb', r⟩
      · simp at h'
      · refine .inr ⟨g', cap', cur, h', ?_, r⟩
        simp only [Value.slice.injEq, Option.some.injEq, Addr.mk.injEq, and_true, true_and] at h'
        omega
end Go.Proofs.YtalmoaofodjehaaDoor
