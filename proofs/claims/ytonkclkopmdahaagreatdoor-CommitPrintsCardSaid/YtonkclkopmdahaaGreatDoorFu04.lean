/-
  Texts that belong together, one behind the other.
-/
import Derived.Test.YtonkclkopmdahaaGreatDoorFu03
import Derived.Laws.OwnMore
import Derived.Laws.CopyOwn
import Derived.Deep.MidRow
import Derived.Laws.ResultCell
import Derived.Laws.CopyRow
import Derived.Deep.RegionHeld3
import Derived.Test.YtonkclkopmdahaaGreatDoorFu02
import Derived.Lib.TrimByte
/-
  Rows of ids: stores into them; the helper Own of the statements over ids.
-/
namespace Go.Proofs.YtonkclkopmdahaaGreatDoor
set_option maxRecDepth 20000
open Go.RowKit
set_option linter.unusedVariables false
set_option linter.unusedSimpArgs false

theorem flatD_back : ∀ (l : List (List UInt8)) (hid : ∀ i ∈ l, i.length = 20) (j : Nat) (v : Value), (l.flatMap cellsD)[j]? = some v → ∃ (k : Nat) (h : k < l.length) (q : Nat), j = k * 20 + q ∧ (cellsD l[k])[q]? = some v
  | [], _, _, _, h => by simp at h
  | i :: l, hid, j, v, h => by
    have hl := cellsD_len i (hid i (by simp))
    rw [List.flatMap_cons] at h
    by_cases hj : j < 20
    · rw [List.getElem?_append_left (by omega)] at h
      exact ⟨0, by simp, j, by omega, h⟩
    · rw [List.getElem?_append_right (by omega), hl] at h
      obtain ⟨k, hk, q, e, hq⟩ := flatD_back l (fun x hx => hid x (by simp [hx])) (j - 20) v h
      exact ⟨k + 1, by simpa using hk, q, by omega, by simpa using hq⟩
theorem flatD_one (l : List (List UInt8)) : ∀ v ∈ l.flatMap cellsD, v.oneCell' = true := by
  intro v hv
  obtain ⟨i, _, hi⟩ := List.mem_flatMap.1 hv
  exact (Array.all_eq_true_iff_forall_mem.1 (cellsD_one i)) v (by simpa using hi)
theorem IdsAt.cells {w : World} {a : Option Addr} {l : List (List UInt8)} (h : IdsAt w a l) (hid : ∀ i ∈ l, i.length = 20) (ad : Addr) (had : a = some ad) (j : Nat) (u : Value) (hj : (l.flatMap cellsD)[j]? = some u) : w.cell? (ad.add j) = some u := by
  obtain ⟨k, hk, q, e, hq⟩ := flatD_back l hid j u hj
  obtain ⟨b, o, e2, _, hc⟩ := h (by omega)
  rw [had] at e2
  cases e2
  rw [show (⟨b, o, none⟩ : Addr).add j = ⟨b, o + j, none⟩ by unfold Addr.add; split <;> simp_all, e, ← Nat.add_assoc]
  exact hc k hk q u hq
theorem own_fullD {w : World} {base : Nat} {e : TypeId} {s g n cap : Nat} {xs : List Value} (h : w.ownsRow base e s (.slice (some ⟨g, 0, none⟩) n cap) n xs) :
    ∃ ys, w.ownsRow base e s (.slice (some ⟨g, 0, none⟩) cap cap) cap ys ∧ ys.take (n * s) = xs := by
  rcases h.2 with ⟨h', _⟩ | ⟨g', cap', cur, h', hb, hg, hnc, hcm, hcs, htake⟩
  · simp at h'
  · simp only [Value.slice.injEq, Option.some.injEq, Addr.mk.injEq, and_true, true_and] at h'
    obtain ⟨rfl, rfl⟩ := h'
    refine ⟨cur.toList, ⟨by simpa using hcs, .inr ⟨g, cap, cur, rfl, hb, hg, Nat.le_refl _, hcm, hcs, List.take_of_length_le (by rw [Array.length_toList, hcs]; exact Nat.le_refl _)⟩⟩, by simpa using htake⟩
theorem own_ltD {w : World} {base : Nat} {e : TypeId} {s g n cap : Nat} {xs : List Value} (h : w.ownsRow base e s (.slice (some ⟨g, 0, none⟩) n cap) n xs) : g < w.heap.size := by
  rcases h.2 with ⟨h', _⟩ | ⟨g', cap', cur, h', hb, hg, hnc, hcm, hcs, htake⟩
  · simp at h'
  · simp only [Value.slice.injEq, Option.some.injEq, Addr.mk.injEq, and_true, true_and] at h'
    obtain ⟨rfl, rfl⟩ := h'
    exact lt_of_heap hg
theorem own_sameD {w w' : World} {base : Nat} {e : TypeId} {s g n cap : Nat} {xs : List Value} (h : w.ownsRow base e s (.slice (some ⟨g, 0, none⟩) n cap) n xs) (hk : w'.heap[g]? = w.heap[g]?) :
    w'.ownsRow base e s (.slice (some ⟨g, 0, none⟩) n cap) n xs := by
  refine ⟨h.1, ?_⟩
  rcases h.2 with ⟨h', _⟩ | ⟨g', cap', cur, h', hb', hg, r⟩
  · simp at h'
  · refine .inr ⟨g', cap', cur, h', hb', ?_, r⟩
    simp only [Value.slice.injEq, Option.some.injEq, Addr.mk.injEq, and_true, true_and] at h'
    obtain ⟨rfl, rfl⟩ := h'
    exact hk.trans hg
theorem own_keepD {w w' : World} {base : Nat} {e : TypeId} {s g n cap : Nat} {xs : List Value} (h : w.ownsRow base e s (.slice (some ⟨g, 0, none⟩) n cap) n xs) (hb : Below w.heap.size w w') :
    w'.ownsRow base e s (.slice (some ⟨g, 0, none⟩) n cap) n xs := own_sameD h (hb.block g (own_ltD h))
theorem take_putD {α : Type} (l cs : List α) (p q m : Nat) (hq : q = p + cs.length) (hqm : q ≤ m) (hm : m ≤ l.length) : (l.take p ++ cs ++ l.drop q).take m = (l.take m).take p ++ cs ++ (l.take m).drop q := by
  rw [List.append_assoc, List.take_append, List.take_append, List.length_take, List.take_take, List.take_take, List.drop_take, show min p l.length = p by omega, show min m p = p by omega, show min p m = p by omega,
    List.take_of_length_le (l := cs) (by omega), show m - p - cs.length = m - q by omega, List.append_assoc]
theorem grown_setRowD (w : World) (g : Nat) (cs : Array Value) : w.grownBy (w.setRow g cs) (some g) := by
  have b := below_setRow (B := g) (Below.refl g w) (Nat.le_refl _) cs
  refine ⟨b.os, b.tape, b.output, b.size, fun k _ hk => ?_⟩
  have hkg : k ≠ g := fun e => hk (by rw [e])
  simp [World.setRow, Array.getElem?_modify, hkg.symm]
/-- What an item is stored into: the row's other cells stay. -/
def putD (ys : List Value) (k : Nat) (i : List UInt8) : List Value := ys.take (k * 20) ++ cellsD i ++ ys.drop (k * 20 + 20)
theorem wpList_store_cells20 {ops : Array Oper} {rest : List Oper} {o : Oper} {a : Act} {w : World} {Q : Exit → Act → World → Prop} (hgd : o.guard = none) (x y : Operand) (ho : o.op = .store 23 x y)
    (B g n c k off : Nat) (ys : List Value) (i : List UInt8) (A : Array Value) (hA : A = arrD i) (hoff : off = k * 20) (hx : a.eval x = .pointer (some ⟨g, off, none⟩)) (hy : a.eval y = .agg A) (hk : k < n) (hi : i.length = 20) (hown : w.ownsRow B 23 20 (.slice (some ⟨g, 0, none⟩) n c) n ys)
    (h : ∀ w', w'.ownsRow B 23 20 (.slice (some ⟨g, 0, none⟩) n c) n (putD ys k i) → w.grownBy w' (some g) → wpList Tryz.prog ops Q rest (a.put o.dst undef) w') : wpList Tryz.prog ops Q (o :: rest) a w := by
  subst hA; subst hoff
  refine wpList_plain hgd fun K hK => ?_
  have hcl := cellsD_len i hi
  have hmul : k * 20 + 20 ≤ n * 20 := by omega
  rcases hown.2 with ⟨h', _⟩ | ⟨g', cap', cur, h', hb', hg, hnc, hcm, hcs, htake⟩
  · simp at h'
  · simp only [Value.slice.injEq, Option.some.injEq, Addr.mk.injEq, and_true, true_and] at h'
    obtain ⟨rfl, rfl⟩ := h'
    have hc22 : n * 20 ≤ c * 20 := Nat.mul_le_mul_right 20 hnc
    have hst := run_storeCells_at Tryz.prog g (k * 20) 23 (cellsD i) 0 cur w hg (by rw [hcl, hcs]; omega) (fun v hv => (Array.all_eq_true_iff_forall_mem.1 (cellsD_one i)) v (by simpa using hv))
    have hi' : (Tryz.prog.info? 23).map (·.size) = some (arrD i).size := infoD_arr _ (arrD_size i hi)
    obtain ⟨ie, hie, _, hsz, _⟩ := infoD_all
    unfold Oper.wp execOp
    simp only [ho, hx, hy, Instr.storeAt, Instr.sureAddr, Sem.run_bind, Sem.run_pure, Result.andThen_ok]
    have hrun : (storeVar 23 ⟨g, k * 20, none⟩ (.agg (arrD i))).run Tryz.prog w = .ok () (w.setRow g (cur.toList.take (k * 20) ++ cellsD i ++ cur.toList.drop (k * 20 + 20)).toArray) := by
      simp only [Nat.add_zero] at hst
      rw [hcl] at hst
      simp [storeVar, sizeOf, typeInfo, hie, hsz, Value.cells, arrD, hcl, hst]
    rw [hrun]
    refine hK _ _ (h _ ⟨?_, .inr ⟨g, c, _, rfl, hb', setRow_heap w g cur _ 23 (0, 0) hg, hnc, hcm, ?_, ?_⟩⟩ (grown_setRowD w g _))
    · unfold putD
      have := hown.1
      simp only [List.length_append, List.length_take, List.length_drop, hcl]
      omega
    · simp only [List.size_toArray, List.length_append, List.length_take, List.length_drop, hcl, Array.length_toList, hcs]
      omega
    · unfold putD
      rw [← htake]
      exact take_putD cur.toList (cellsD i) (k * 20) (k * 20 + 20) (n * 20) (by rw [hcl]) hmul (by rw [Array.length_toList, hcs]; exact hc22)
theorem putD_take (ys : List Value) (k : Nat) (i : List UInt8) (hi : i.length = 20) (h : k * 20 + 20 ≤ ys.length) : (putD ys k i).take ((k + 1) * 20) = ys.take (k * 20) ++ cellsD i := by
  unfold putD
  have hl := cellsD_len i hi
  exact List.take_left' (by rw [List.length_append, List.length_take, hl]; omega)
theorem flatD_take (l : List (List UInt8)) (hid : ∀ i ∈ l, i.length = 20) (k : Nat) (hk : k ≤ l.length) : (l.flatMap cellsD).take (k * 20) = (l.take k).flatMap cellsD := by
  have h1 : l.flatMap cellsD = (l.take k).flatMap cellsD ++ (l.drop k).flatMap cellsD := by rw [← List.flatMap_append, List.take_append_drop]
  have h2 := flatD_len (l.take k) (fun i hi => hid i (List.mem_of_mem_take hi))
  rw [List.length_take, Nat.min_eq_left hk] at h2
  rw [h1, ← h2, List.take_left]
theorem flatD_drop (l : List (List UInt8)) (hid : ∀ i ∈ l, i.length = 20) (k : Nat) (hk : k ≤ l.length) : (l.flatMap cellsD).drop (k * 20) = (l.drop k).flatMap cellsD := by
  have h1 : l.flatMap cellsD = (l.take k).flatMap cellsD ++ (l.drop k).flatMap cellsD := by rw [← List.flatMap_append, List.take_append_drop]
  have h2 := flatD_len (l.take k) (fun i hi => hid i (List.mem_of_mem_take hi))
  rw [List.length_take, Nat.min_eq_left hk] at h2
  rw [h1, ← h2, List.drop_left]
theorem putD_flat (l : List (List UInt8)) (hid : ∀ i ∈ l, i.length = 20) (k : Nat) (hk : k < l.length) (i : List UInt8) : putD (l.flatMap cellsD) k i = (l.set k i).flatMap cellsD := by
  unfold putD
  rw [flatD_take l hid k (by omega), show k * 20 + 20 = (k + 1) * 20 by omega, flatD_drop l hid (k + 1) (by omega), List.set_eq_take_append_cons_drop, if_pos hk, List.flatMap_append, List.flatMap_cons, List.append_assoc]
/-- An id is stored into a row that a call owns. -/
theorem wpList_store_idD {ops : Array Oper} {rest : List Oper} {o : Oper} {a : Act} {w : World} {Q : Exit → Act → World → Prop} (hgd : o.guard = none) (x y : Operand) (ho : o.op = .store 23 x y)
    (B g c k off : Nat) (l : List (List UInt8)) (hid : ∀ i ∈ l, i.length = 20) (i : List UInt8) (A : Array Value) (hA : A = arrD i) (hoff : off = k * 20) (hx : a.eval x = .pointer (some ⟨g, off, none⟩)) (hy : a.eval y = .agg A) (hk : k < l.length) (hi : i.length = 20) (hown : OwnD B (.slice (some ⟨g, 0, none⟩) l.length c) l w)
    (h : ∀ w', OwnD B (.slice (some ⟨g, 0, none⟩) l.length c) (l.set k i) w' → w.grownBy w' (some g) → wpList Tryz.prog ops Q rest (a.put o.dst undef) w') : wpList Tryz.prog ops Q (o :: rest) a w := by
  refine wpList_store_cells20 hgd x y ho B g l.length c k off _ i A hA hoff hx hy hk hi hown (fun w' hw hg => h w' ?_ hg)
  unfold OwnD
  rw [List.length_set, ← putD_flat l hid k hk i]
  exact hw
theorem set_idsD {l : List (List UInt8)} (hid : ∀ i ∈ l, i.length = 20) (k : Nat) {x : List UInt8} (hx : x.length = 20) : ∀ i ∈ l.set k x, i.length = 20 := fun i hi => by
  rcases List.mem_or_eq_of_mem_set hi with h | rfl
  · exact hid i h
  · exact hx
end Go.Proofs.YtonkclkopmdahaaGreatDoor

/-
  Layer 9: whole blocks and parts of blocks, read; is an id among some.
-/
namespace Go.Proofs.YtonkclkopmdahaaGreatDoor
set_option maxRecDepth 20000
open Go.RowKit
set_option linter.unusedVariables false
set_option linter.unusedSimpArgs false

theorem row_arrD {w : World} {g : Nat} {A : Array Value} {t : TypeId} {fr : Nat × Nat} (h : w.heap[g]? = some (.cells A t fr)) : w.rangeAt g 0 A.toList := fun j v hv => by
  rw [Nat.zero_add, Lib.cell_of_heap h, ← hv]
  simp
theorem row_keepD {w u : World} {g : Nat} {cs : List Value} (h : w.rangeAt g 0 cs) (hg : g < w.heap.size) (hb : Below w.heap.size w u) : u.rangeAt g 0 cs := fun j v hv => (hb.cell (p := ⟨g, 0 + j, none⟩) hg).trans (h j v hv)
/-- Is it among them? -/
def amongD (l : List (List UInt8)) (x : List UInt8) : Bool := l.any (fun y => eqD y x)
theorem among_iff (l : List (List UInt8)) (x : List UInt8) : amongD l x = true ↔ x ∈ l := by
  unfold amongD
  rw [List.any_eq_true]
  constructor
  · rintro ⟨y, hy, e⟩
    rw [← (eqD_iff y x).1 e]; exact hy
  · exact fun h => ⟨x, h, eqD_same x⟩
theorem among_here {l : List (List UInt8)} {x : List UInt8} {k : Nat} (hk : k < l.length) (h : eqD l[k] x = true) : amongD l x = true := List.any_eq_true.2 ⟨l[k], List.getElem_mem hk, h⟩
theorem among_none {l : List (List UInt8)} {x : List UInt8} (h : ∀ j (hj : j < l.length), eqD l[j] x = false) : amongD l x = false := by
  unfold amongD
  rw [List.any_eq_false]
  intro y hy
  obtain ⟨i, hi, rfl⟩ := List.mem_iff_getElem.1 hy
  rw [h i hi]; decide
/-- A load of many cells out of the middle of a block, under a guard that holds. -/
theorem wpList_load_midD {ops : Array Oper} {rest : List Oper} {op : Oper} {a : Act} {w : World} {Q : Exit → Act → World → Prop} (ty : TypeId) (x : Operand) (ho : op.op = .load ty x) (hw : Region.wanted op (yielded ops a.tmps) = true)
    (b o : Nat) (hx : a.eval x = .pointer (some ⟨b, o, none⟩)) (cs : List Value) (d : TypeDesc) (hc : w.rangeAt b o cs)
    (hu : Tryz.prog.underlying ty = some d) (hd : d.isRow = true) (hi : (Tryz.prog.info? ty).map (·.size) = some cs.length)
    (h : wpList Tryz.prog ops Q rest (a.put op.dst (.agg cs.toArray)) w) : wpList Tryz.prog ops Q (op :: rest) a w :=
  Go.BigFrame.wpList_want hw fun _ hK => wp_load_mid ty x ho b o hx cs d hc hu hd hi (hK _ _ h)
end Go.Proofs.YtonkclkopmdahaaGreatDoor

/-
  Layer 9: a record's cells and where they lie; idents held against each other.
-/
namespace Go.Proofs.YtonkclkopmdahaaGreatDoor
set_option maxRecDepth 20000
open Go.RowKit
set_option linter.unusedVariables false
set_option linter.unusedSimpArgs false

/-- An ident's cells. -/
def cellsT (i : Idt) : List Value := [.string ⟨i.name.toArray⟩, .string ⟨i.email.toArray⟩, .int .i64 i.whn, .int .i64 i.zone]
theorem cellsT_len (i : Idt) : (cellsT i).length = 4 := rfl
theorem cellsT_one (i : Idt) : (cellsT i).toArray.all (·.oneCell') = true := by simp [cellsT, Value.oneCell']
theorem infoT : (Tryz.prog.info? 26).map (·.size) = some 4 := by kernel_rfl
/-- A record's cells. -/
def cellsC (t : List UInt8) (v : Value) (a c : Idt) (x : List UInt8) : List Value := cellsD t ++ v :: (cellsT a ++ (cellsT c ++ [.string ⟨x.toArray⟩]))
theorem cellsC_len (t : List UInt8) (v : Value) (a c : Idt) (x : List UInt8) (ht : t.length = 20) : (cellsC t v a c x).length = 30 := by simp [cellsC, cellsD_len t ht, cellsT_len]
def arrC (t : List UInt8) (v : Value) (a c : Idt) (x : List UInt8) : Array Value := (cellsC t v a c x).toArray
theorem arrC_size (t : List UInt8) (v : Value) (a c : Idt) (x : List UInt8) (ht : t.length = 20) : (arrC t v a c x).size = 30 := by unfold arrC; rw [List.size_toArray, cellsC_len t v a c x ht]
theorem infoC : (Tryz.prog.info? 28).map (·.size) = some 30 := by kernel_rfl
theorem infoC_arr (a : Array Value) (h : a.size = 30) : (Tryz.prog.info? 28).map (·.size) = some a.size := by rw [h]; exact infoC
theorem arrC_one (t : List UInt8) (a1 : Option Addr) (n m : Nat) (a c : Idt) (x : List UInt8) : (arrC t (.slice a1 n m) a c x).all (·.oneCell') = true := by
  rw [Array.all_eq_true']
  intro v hv
  simp only [arrC, List.mem_toArray, cellsC, List.mem_append, List.mem_cons, cellsT, List.not_mem_nil, or_false] at hv
  have h20 := (Array.all_eq_true_iff_forall_mem.1 (cellsD_one t)) v
  rcases hv with hv | rfl | (rfl | rfl | rfl | rfl) | (rfl | rfl | rfl | rfl) | rfl
  · exact h20 (by simpa using hv)
  all_goals rfl
/-- A record in a block of its own. -/
structure RecAt (w : World) (g : Nat) (t : List UInt8) (v : Value) (a c : Idt) (x : List UInt8) : Prop where
  lt : g < w.heap.size
  tree : w.rangeAt g 0 (cellsD t)
  parents : w.cell? ⟨g, 20, none⟩ = some v
  author : w.rangeAt g 21 (cellsT a)
  committer : w.rangeAt g 25 (cellsT c)
  text : w.cell? ⟨g, 29, none⟩ = some (.string ⟨x.toArray⟩)
theorem cellsC_at (t : List UInt8) (v : Value) (a c : Idt) (x : List UInt8) (ht : t.length = 20) :
    (∀ j u, (cellsD t)[j]? = some u → (cellsC t v a c x)[0 + j]? = some u) ∧ (cellsC t v a c x)[20]? = some v ∧ (∀ j u, (cellsT a)[j]? = some u → (cellsC t v a c x)[21 + j]? = some u) ∧
    (∀ j u, (cellsT c)[j]? = some u → (cellsC t v a c x)[25 + j]? = some u) ∧ (cellsC t v a c x)[29]? = some (.string ⟨x.toArray⟩) := by
  have hd := cellsD_len t ht
  have ha := cellsT_len a
  have hc := cellsT_len c
  unfold cellsC
  generalize cellsD t = d at *
  generalize cellsT a = p at *
  generalize cellsT c = q at *
  refine ⟨fun j u h => ?_, ?_, fun j u h => ?_, fun j u h => ?_, ?_⟩
  · have hj := (List.getElem?_eq_some_iff.1 h).1
    rw [Nat.zero_add, List.getElem?_append_left hj]; exact h
  · rw [List.getElem?_append_right (by omega), hd]; rfl
  · have hj := (List.getElem?_eq_some_iff.1 h).1
    rw [List.getElem?_append_right (by omega), hd, show 21 + j - 20 = j + 1 by omega, List.getElem?_cons_succ, List.getElem?_append_left hj]; exact h
  · have hj := (List.getElem?_eq_some_iff.1 h).1
    rw [List.getElem?_append_right (by omega), hd, show 25 + j - 20 = (4 + j) + 1 by omega, List.getElem?_cons_succ, List.getElem?_append_right (by omega), ha, show 4 + j - 4 = j by omega, List.getElem?_append_left hj]; exact h
  · rw [List.getElem?_append_right (by omega), hd, show 29 - 20 = 8 + 1 by omega, List.getElem?_cons_succ, List.getElem?_append_right (by omega), ha, List.getElem?_append_right (by omega), hc]; rfl
theorem recAt_of {w : World} {g : Nat} {t : List UInt8} {v : Value} {a c : Idt} {x : List UInt8} {ty : TypeId} {fr : Nat × Nat} (ht : t.length = 20) (h : w.heap[g]? = some (.cells (arrC t v a c x) ty fr)) : RecAt w g t v a c x := by
  have hcell : ∀ j, w.cell? ⟨g, j, none⟩ = (cellsC t v a c x)[j]? := fun j => by
    rw [Lib.cell_of_heap h]
    unfold arrC
    rw [List.getElem?_toArray]
  obtain ⟨h1, h2, h3, h4, h5⟩ := cellsC_at t v a c x ht
  exact ⟨lt_of_heap h, fun j u hu => (hcell _).trans (h1 j u hu), (hcell _).trans h2, fun j u hu => (hcell _).trans (h3 j u hu), fun j u hu => (hcell _).trans (h4 j u hu), (hcell _).trans h5⟩
theorem RecAt.keep {w u : World} {g : Nat} {t : List UInt8} {v : Value} {a c : Idt} {x : List UInt8} (h : RecAt w g t v a c x) (hb : Below w.heap.size w u) : RecAt u g t v a c x :=
  ⟨Nat.lt_of_lt_of_le h.lt hb.size, fun j v hv => (hb.cell (p := ⟨g, 0 + j, none⟩) h.lt).trans (h.tree j v hv), (hb.cell (p := ⟨g, 20, none⟩) h.lt).trans h.parents,
    fun j v hv => (hb.cell (p := ⟨g, 21 + j, none⟩) h.lt).trans (h.author j v hv), fun j v hv => (hb.cell (p := ⟨g, 25 + j, none⟩) h.lt).trans (h.committer j v hv), (hb.cell (p := ⟨g, 29, none⟩) h.lt).trans h.text⟩

theorem part_plain {ty : TypeId} {d : TypeDesc} (hu : Tryz.prog.underlying ty = some d) (hd : d.isRow = false) (xs : Array Value) (k : Nat) (v : Value) (u : World) (h : xs[k]? = some v) : (part ty xs k).run Tryz.prog u = .ok v u := by
  cases d <;> first | (simp [part, isAgg, run_underlying hu, h]; done) | (simp [TypeDesc.isRow] at hd)
theorem idt_fields : ∃ f0 f1 f2 f3 : Field, (Tryz.prog.fieldsOf 26).toList = [f0, f1, f2, f3] ∧ (f0.type = 9 ∧ f0.offset = 0 ∧ (f0.name == "_") = false) ∧ (f1.type = 9 ∧ f1.offset = 1 ∧ (f1.name == "_") = false) ∧ (f2.type = 2 ∧ f2.offset = 2 ∧ (f2.name == "_") = false) ∧ (f3.type = 3 ∧ f3.offset = 3 ∧ (f3.name == "_") = false) := by
  have h : (Tryz.prog.fieldsOf 26).toList.map (fun f => (f.type, f.offset, f.name == "_")) = [(9, 0, false), (9, 1, false), (2, 2, false), (3, 3, false)] := by kernel_rfl
  generalize (Tryz.prog.fieldsOf 26).toList = fs at h ⊢
  rcases fs with _ | ⟨f0, _ | ⟨f1, _ | ⟨f2, _ | ⟨f3, _ | ⟨f4, fs⟩⟩⟩⟩⟩
  · cases h
  · exact absurd (congrArg List.length h) (by simp)
  · exact absurd (congrArg List.length h) (by simp)
  · exact absurd (congrArg List.length h) (by simp)
  · simp only [List.map_cons, List.map_nil, List.cons.injEq, Prod.mk.injEq, and_true] at h
    exact ⟨f0, f1, f2, f3, rfl, h.1, h.2.1, h.2.2.1, h.2.2.2⟩
  · exact absurd (congrArg List.length h) (by simp)
theorem idt_under : Tryz.prog.underlying 26 = some (.struct (Tryz.prog.fieldsOf 26)) := by kernel_rfl
theorem equalIn_idt (d : Nat) (i : Idt) (w : World) : (Op.equalIn (d + 3) 26 (.agg (cellsT i).toArray) (.agg (cellsT i).toArray)).run Tryz.prog w = .ok true w := by
  obtain ⟨f0, f1, f2, f3, hf, ⟨a0, b0, c0⟩, ⟨a1, b1, c1⟩, ⟨a2, b2, c2⟩, ⟨a3, b3, c3⟩⟩ := idt_fields
  have n0 : f0.name ≠ "_" := by intro e; rw [e] at c0; simp at c0
  have n1 : f1.name ≠ "_" := by intro e; rw [e] at c1; simp at c1
  have n2 : f2.name ≠ "_" := by intro e; rw [e] at c2; simp at c2
  have n3 : f3.name ≠ "_" := by intro e; rw [e] at c3; simp at c3
  have p0 := fun u => part_plain Tryz.underlying9 rfl (cellsT i).toArray 0 (.string ⟨i.name.toArray⟩) u rfl
  have p1 := fun u => part_plain Tryz.underlying9 rfl (cellsT i).toArray 1 (.string ⟨i.email.toArray⟩) u rfl
  have p2 := fun u => part_plain Tryz.underlying2 rfl (cellsT i).toArray 2 (.int .i64 i.whn) u rfl
  have p3 := fun u => part_plain Tryz.underlying3 rfl (cellsT i).toArray 3 (.int .i64 i.zone) u rfl
  have e0 := fun u => run_equalIn_string (P := Tryz.prog) u (d + 1) 9 ⟨i.name.toArray⟩ ⟨i.name.toArray⟩ Tryz.underlying9
  have e1 := fun u => run_equalIn_string (P := Tryz.prog) u (d + 1) 9 ⟨i.email.toArray⟩ ⟨i.email.toArray⟩ Tryz.underlying9
  have e2 := fun u => run_equalIn_int (P := Tryz.prog) u (d + 1) 2 .i64 .i64 i.whn i.whn Tryz.underlying2
  have e3 := fun u => run_equalIn_int (P := Tryz.prog) u (d + 1) 3 .i64 .i64 i.zone i.zone Tryz.underlying3
  rw [run_equalIn_struct w (d + 2) 26 _ _ idt_under (by kernel_rfl), hf]
  simp only [beq_self_eq_true] at e0 e1 e2 e3
  generalize (cellsT i).toArray = X at *
  simp only [Op.eqFields, n0, n1, n2, n3, ne_eq, not_false_eq_true, if_true, Sem.run_bind, a0, b0, a1, b1, a2, b2, a3, b3, p0, p1, p2, p3, Result.andThen_ok, e0, e1, e2, e3]
  simp [e1, e2, e3, p1, p2, p3]
theorem eql_idt_same (i : Idt) (w : World) : (binOp .eql 26 (.agg (cellsT i).toArray) (.agg (cellsT i).toArray)).run Tryz.prog w = .ok (.bool true) w := by
  have h := equalIn_idt 9997 i w
  rw [run_eql_struct]
  rw [show Op.equalIn 10000 = Op.equalIn (9997 + 3) from rfl, h]
  rfl
end Go.Proofs.YtonkclkopmdahaaGreatDoor

/-
  Layer 9: stores into blocks, the world behind them told by what stays; a record in a block of its own.
-/
namespace Go.Proofs.YtonkclkopmdahaaGreatDoor
set_option maxRecDepth 20000
open Go.RowKit
set_option linter.unusedVariables false
set_option linter.unusedSimpArgs false

/-- All blocks but one stay. -/
structure Off (g : Nat) (w w' : World) : Prop where
  os : w'.os = w.os
  tape : w'.tape = w.tape
  output : w'.output = w.output
  size : w.heap.size ≤ w'.heap.size
  block : ∀ k, k < w.heap.size → k ≠ g → w'.heap[k]? = w.heap[k]?
theorem Off.refl (g : Nat) (w : World) : Off g w w := ⟨rfl, rfl, rfl, Nat.le_refl _, fun _ _ _ => rfl⟩
theorem Off.trans {g : Nat} {a b c : World} (h : Off g a b) (k : Off g b c) : Off g a c :=
  ⟨k.os.trans h.os, k.tape.trans h.tape, k.output.trans h.output, Nat.le_trans h.size k.size, fun i hi hn => (k.block i (Nat.lt_of_lt_of_le hi h.size) hn).trans (h.block i hi hn)⟩
theorem Off.below {g B : Nat} {w w' : World} (h : Off g w w') (hB : B ≤ g) (hs : B ≤ w.heap.size) : Below B w w' := ⟨h.os, h.tape, h.output, h.size, fun k hk => h.block k (by omega) (by omega)⟩
theorem off_of {g : Nat} {w w' : World} (h : Below w.heap.size w w') : Off g w w' := ⟨h.os, h.tape, h.output, h.size, fun k hk _ => h.block k hk⟩
theorem Off.cell {g : Nat} {w w' : World} (h : Off g w w') {p : Addr} {v : Value} (hv : w.cell? p = some v) (hn : p.block ≠ g) : w'.cell? p = some v := by
  have hb := h.block p.block (World.block_lt_of_cell? w p hv) hn
  rw [← hv]
  exact World.cell?_of_block (w := w) hb
/-- A value of cells, stored into a block. -/
theorem wpList_store_any {ops : Array Oper} {rest : List Oper} {o : Oper} {a : Act} {w : World} {Q : Exit → Act → World → Prop} (hgd : o.guard = none) (ty : TypeId) (x y : Operand) (ho : o.op = .store ty x y) (g off : Nat) (cells : Array Value)
    (hx : a.eval x = .pointer (some ⟨g, off, none⟩)) (hy : a.eval y = .agg cells) (T : TypeId) (cur : Array Value) (hg : w.heap[g]? = some (.cells cur T (0, 0))) (hi : (Tryz.prog.info? ty).map (·.size) = some cells.size) (hfit : off + cells.size ≤ cur.size)
    (h1 : cells.all (·.oneCell') = true)
    (h : ∀ w', w'.heap[g]? = some (.cells (cur.toList.take off ++ cells.toList ++ cur.toList.drop (off + cells.size)).toArray T (0, 0)) → Off g w w' → w'.heap.size = w.heap.size → wpList Tryz.prog ops Q rest (a.put o.dst undef) w') :
    wpList Tryz.prog ops Q (o :: rest) a w := by
  refine wpList_plain hgd fun K hK => ?_
  obtain ⟨ie, hie, hsz⟩ : ∃ ie, Tryz.prog.info? ty = some ie ∧ ie.size = cells.size := by
    cases e : Tryz.prog.info? ty with
    | none => rw [e] at hi; cases hi
    | some ie => rw [e] at hi; exact ⟨ie, rfl, Option.some.inj hi⟩
  have hst := run_storeCells_at Tryz.prog g off T cells.toList 0 cur w hg (by rw [Array.length_toList]; omega) (fun v hv => (Array.all_eq_true_iff_forall_mem.1 h1) v (by simpa using hv))
  unfold Oper.wp execOp
  simp only [ho, hx, hy, Instr.storeAt, Instr.sureAddr, Sem.run_bind, Sem.run_pure, Result.andThen_ok]
  have hrun : (storeVar ty ⟨g, off, none⟩ (.agg cells)).run Tryz.prog w = .ok () (w.setRow g (cur.toList.take off ++ cells.toList ++ cur.toList.drop (off + cells.size)).toArray) := by
    simp only [Nat.add_zero, Array.length_toList] at hst
    simp [storeVar, sizeOf, typeInfo, hie, hsz, Value.cells, hst]
  rw [hrun]
  have b := below_setRow (B := g) (Below.refl g w) (Nat.le_refl _) (cur.toList.take off ++ cells.toList ++ cur.toList.drop (off + cells.size)).toArray
  refine hK _ _ (h _ (setRow_heap w g cur _ T (0, 0) hg) ⟨b.os, b.tape, b.output, b.size, fun k _ hk => ?_⟩ (by simp [World.setRow]))
  have hkg : ¬ g = k := fun e => hk e.symm
  simp [World.setRow, Array.getElem?_modify, hkg]
/-- All of a block. -/
theorem wpList_store_all {ops : Array Oper} {rest : List Oper} {o : Oper} {a : Act} {w : World} {Q : Exit → Act → World → Prop} (hgd : o.guard = none) (ty : TypeId) (x y : Operand) (ho : o.op = .store ty x y) (g : Nat) (cells : Array Value)
    (hx : a.eval x = .pointer (some ⟨g, 0, none⟩)) (hy : a.eval y = .agg cells) (T : TypeId) (cur : Array Value) (hg : w.heap[g]? = some (.cells cur T (0, 0))) (hi : (Tryz.prog.info? ty).map (·.size) = some cells.size) (hfit : cells.size = cur.size)
    (h1 : cells.all (·.oneCell') = true)
    (h : ∀ w', w'.heap[g]? = some (.cells cells T (0, 0)) → Off g w w' → w'.heap.size = w.heap.size → wpList Tryz.prog ops Q rest (a.put o.dst undef) w') :
    wpList Tryz.prog ops Q (o :: rest) a w := by
  refine wpList_store_any hgd ty x y ho g 0 cells hx hy T cur hg hi (by omega) h1 (fun w' hw => h w' ?_)
  rw [hw, List.take_zero, List.nil_append, Nat.zero_add, hfit, List.drop_of_length_le (by simp), List.append_nil]
/-- All of a block, read. -/
theorem wpList_load_all {ops : Array Oper} {rest : List Oper} {op : Oper} {a : Act} {w : World} {Q : Exit → Act → World → Prop} (ty : TypeId) (x : Operand) (ho : op.op = .load ty x) (hw : Region.wanted op (yielded ops a.tmps) = true)
    (g : Nat) (A : Array Value) (T : TypeId) (fr : Nat × Nat) (hx : a.eval x = .pointer (some ⟨g, 0, none⟩)) (hg : w.heap[g]? = some (.cells A T fr)) (d : TypeDesc)
    (hu : Tryz.prog.underlying ty = some d) (hd : d.isRow = true) (hi : (Tryz.prog.info? ty).map (·.size) = some A.size)
    (h : wpList Tryz.prog ops Q rest (a.put op.dst (.agg A)) w) : wpList Tryz.prog ops Q (op :: rest) a w :=
  wpList_load_midD ty x ho hw g 0 hx A.toList d (row_arrD hg) hu hd (by rw [Array.length_toList]; exact hi) (by rw [Array.toArray_toList]; exact h)
/-- A literal without parts: the zero value. -/
theorem wpList_build_none {ops : Array Oper} {rest : List Oper} {o : Oper} {a : Act} {w : World} {Q : Exit → Act → World → Prop} (hgd : o.guard = none) (t : TypeId) (ho : o.op = .build t #[])
    (cells : Array Value) (hb : Tryz.prog.built t [] = some cells) (h : wpList Tryz.prog ops Q rest (a.put o.dst (.agg cells)) w) : wpList Tryz.prog ops Q (o :: rest) a w :=
  wpList_plain hgd fun K hK => wp_build t #[] ho (by simp [hb]) (by simp [hb]; exact hK _ _ h)
theorem yields_build0 {ops : Array Oper} {S : World → Prop} {o : Oper} {a : Act} (hw : Region.wanted o (yielded ops a.tmps) = true) (t : TypeId) (ho : o.op = .build t #[]) (cells : Array Value) (hb : Tryz.prog.built t [] = some cells) : YieldsIf Tryz.prog ops S o (.agg cells) a :=
  .inl ⟨hw, fun u _ => by
    have hp : Tryz.prog.built t ((#[] : Array (Nat × Operand)).map fun (i, x) => (i, a.eval x)).toList = some cells := by simp [hb]
    unfold execOp
    simp only [ho, Sem.run_bind, run_build u t _ cells hp, Result.andThen_ok, Sem.run_pure]⟩
/-- The zero ident. -/
def zT : Idt := ⟨[], [], 0, 0⟩
/-- The zero record. -/
def recZ : Array Value := arrC idZ (.slice none 0 0) zT zT []
theorem zRec : (Tryz.prog.info? 28).map (fun i => (i.zero, i.size)) = some (some (.agg recZ), 30) := by kernel_rfl
theorem recZ_size : recZ.size = 30 := arrC_size _ _ _ _ _ rfl
theorem recZ_one : recZ.all (·.oneCell') = true := arrC_one _ _ _ _ _ _ _
theorem zRec_any : ∃ z : Array Value, z = recZ ∧ z.size = 30 ∧ (∀ w, (zeroValue 28).run Tryz.prog w = .ok (.agg z) w) ∧ Tryz.prog.built 28 [] = some z ∧ z.all (·.oneCell') = true :=
  ⟨recZ, rfl, recZ_size, zero_arr zRec, by kernel_rfl, recZ_one⟩
theorem zId_any : ∃ z : Array Value, z = arrD idZ ∧ z.size = 20 ∧ (∀ w, (zeroValue 23).run Tryz.prog w = .ok (.agg z) w) ∧ Tryz.prog.built 23 [] = some z ∧ z.all (·.oneCell') = true :=
  ⟨arrD idZ, rfl, arrD_size _ rfl, zero_arr zIdD, by kernel_rfl, arrD_one _⟩
theorem zIdt : (Tryz.prog.info? 26).map (fun i => (i.zero, i.size)) = some (some (.agg (cellsT zT).toArray), 4) := by kernel_rfl
theorem zIdt_any : ∃ z : Array Value, z = (cellsT zT).toArray ∧ z.size = 4 ∧ (∀ w, (zeroValue 26).run Tryz.prog w = .ok (.agg z) w) ∧ Tryz.prog.built 26 [] = some z ∧ z.all (·.oneCell') = true :=
  ⟨(cellsT zT).toArray, rfl, rfl, zero_arr zIdt, by kernel_rfl, cellsT_one _⟩
theorem infoT_arr (i : Idt) : (Tryz.prog.info? 26).map (·.size) = some (cellsT i).toArray.size := infoT
theorem results_rec {fn : Func} {p u : Tmp} (h : fn.results = #[.cell p 28, .tmp u]) (tmps : Array Value) (w : World) (g : Nat) (cs : Array Value) (fr : Nat × Nat) (x : Value)
    (hp : tmps.getD p undef = .pointer (some ⟨g, 0, none⟩)) (hx : tmps.getD u undef = x) (hg : w.heap[g]? = some (.cells cs 28 fr)) (hn : cs.size = 30) :
    (results fn tmps).run Tryz.prog w = .ok (.tuple #[.agg cs, x]) w := by
  rw [results_cell_tmp h, hp, hx]
  have e : (asAddr (.pointer (some ⟨g, 0, none⟩))).run Tryz.prog w = .ok ⟨g, 0, none⟩ w := rfl
  rw [e]
  simp only [Result.andThen_ok]
  rw [run_loadVar_row w g 28 28 cs fr _ hg Tryz.underlying28 rfl (by rw [infoC, hn])]
  rfl
theorem results_id9 {fn : Func} {p u : Tmp} (h : fn.results = #[.cell p 23, .tmp u]) (tmps : Array Value) (w : World) (g : Nat) (cs : Array Value) (fr : Nat × Nat) (x : Value)
    (hp : tmps.getD p undef = .pointer (some ⟨g, 0, none⟩)) (hx : tmps.getD u undef = x) (hg : w.heap[g]? = some (.cells cs 23 fr)) (hn : cs.size = 20) :
    (results fn tmps).run Tryz.prog w = .ok (.tuple #[.agg cs, x]) w := by
  rw [results_cell_tmp h, hp, hx]
  have e : (asAddr (.pointer (some ⟨g, 0, none⟩))).run Tryz.prog w = .ok ⟨g, 0, none⟩ w := rfl
  rw [e]
  simp only [Result.andThen_ok]
  rw [run_loadVar_row w g 23 23 cs fr _ hg Tryz.underlying23 rfl (by rw [infoD_n, hn])]
  rfl
theorem results_idt9 {fn : Func} {p u : Tmp} (h : fn.results = #[.cell p 26, .tmp u]) (tmps : Array Value) (w : World) (g : Nat) (cs : Array Value) (fr : Nat × Nat) (x : Value)
    (hp : tmps.getD p undef = .pointer (some ⟨g, 0, none⟩)) (hx : tmps.getD u undef = x) (hg : w.heap[g]? = some (.cells cs 26 fr)) (hn : cs.size = 4) :
    (results fn tmps).run Tryz.prog w = .ok (.tuple #[.agg cs, x]) w := by
  rw [results_cell_tmp h, hp, hx]
  have e : (asAddr (.pointer (some ⟨g, 0, none⟩))).run Tryz.prog w = .ok ⟨g, 0, none⟩ w := rfl
  rw [e]
  simp only [Result.andThen_ok]
  rw [run_loadVar_row w g 26 26 cs fr _ hg Tryz.underlying26 rfl (by rw [infoT, hn])]
  rfl
/-- A record's parts turned in its cells. -/
theorem put_tree (t t' : List UInt8) (v : Value) (a c : Idt) (x : List UInt8) (ht : t.length = 20) (ht' : t'.length = 20) :
    ((arrC t v a c x).toList.take 0 ++ (arrD t').toList ++ (arrC t v a c x).toList.drop (0 + (arrD t').size)).toArray = arrC t' v a c x := by
  rw [arrD_size t' ht', List.take_zero, List.nil_append, Nat.zero_add]
  unfold arrC arrD cellsC
  rw [List.toList_toArray, List.toList_toArray, List.drop_left' (cellsD_len t ht)]
theorem put_author (t : List UInt8) (v : Value) (a a' c : Idt) (x : List UInt8) (ht : t.length = 20) :
    ((arrC t v a c x).toList.take 21 ++ (cellsT a').toArray.toList ++ (arrC t v a c x).toList.drop (21 + (cellsT a').toArray.size)).toArray = arrC t v a' c x := by
  have hd := cellsD_len t ht
  unfold arrC cellsC
  rw [List.toList_toArray, List.toList_toArray, List.size_toArray]
  generalize cellsD t = d at *
  have e1 : d ++ v :: (cellsT a ++ (cellsT c ++ [.string ⟨x.toArray⟩])) = (d ++ [v]) ++ (cellsT a ++ (cellsT c ++ [.string ⟨x.toArray⟩])) := by simp
  have e2 : d ++ v :: (cellsT a ++ (cellsT c ++ [.string ⟨x.toArray⟩])) = (d ++ v :: cellsT a) ++ (cellsT c ++ [.string ⟨x.toArray⟩]) := by simp
  have e3 : (d ++ v :: (cellsT a ++ (cellsT c ++ [.string ⟨x.toArray⟩]))).take 21 = d ++ [v] := by rw [e1]; exact List.take_left' (by simp [hd])
  have e4 : (d ++ v :: (cellsT a ++ (cellsT c ++ [.string ⟨x.toArray⟩]))).drop (21 + (cellsT a').length) = cellsT c ++ [.string ⟨x.toArray⟩] := by rw [e2]; exact List.drop_left' (by simp [hd, cellsT_len])
  rw [e3, e4]
  simp
theorem put_committer (t : List UInt8) (v : Value) (a c c' : Idt) (x : List UInt8) (ht : t.length = 20) :
    ((arrC t v a c x).toList.take 25 ++ (cellsT c').toArray.toList ++ (arrC t v a c x).toList.drop (25 + (cellsT c').toArray.size)).toArray = arrC t v a c' x := by
  have hd := cellsD_len t ht
  unfold arrC cellsC
  rw [List.toList_toArray, List.toList_toArray, List.size_toArray]
  generalize cellsD t = d at *
  have e1 : d ++ v :: (cellsT a ++ (cellsT c ++ [.string ⟨x.toArray⟩])) = (d ++ v :: cellsT a) ++ (cellsT c ++ [.string ⟨x.toArray⟩]) := by simp
  have e2 : d ++ v :: (cellsT a ++ (cellsT c ++ [.string ⟨x.toArray⟩])) = (d ++ v :: (cellsT a ++ cellsT c)) ++ [.string ⟨x.toArray⟩] := by simp
  have e3 : (d ++ v :: (cellsT a ++ (cellsT c ++ [.string ⟨x.toArray⟩]))).take 25 = d ++ v :: cellsT a := by rw [e1]; exact List.take_left' (by simp [hd, cellsT_len])
  have e4 : (d ++ v :: (cellsT a ++ (cellsT c ++ [.string ⟨x.toArray⟩]))).drop (25 + (cellsT c').length) = [.string ⟨x.toArray⟩] := by rw [e2]; exact List.drop_left' (by simp [hd, cellsT_len])
  rw [e3, e4]
  simp
theorem put_parents (t : List UInt8) (v v' : Value) (a c : Idt) (x : List UInt8) (ht : t.length = 20) : (arrC t v a c x).setIfInBounds 20 v' = arrC t v' a c x := by
  have hd := cellsD_len t ht
  unfold arrC cellsC
  rw [List.setIfInBounds_toArray, List.set_append, if_neg (by omega), hd]
  rfl
theorem put_text (t : List UInt8) (v : Value) (a c : Idt) (x x' : List UInt8) (ht : t.length = 20) : (arrC t v a c x).setIfInBounds 29 (.string ⟨x'.toArray⟩) = arrC t v a c x' := by
  have hd := cellsD_len t ht
  unfold arrC cellsC
  rw [List.setIfInBounds_toArray, List.set_append, if_neg (by omega), hd]
  rfl
theorem built_rec20 (b0 b1 b2 b3 b4 b5 b6 b7 b8 b9 b10 b11 b12 b13 b14 b15 b16 b17 b18 b19 : UInt8) (a1 : Option Addr) (n c1 : Nat) (a c : Idt) (x : List UInt8) :
    Tryz.prog.built 28 [(0, .agg (arrD [b0, b1, b2, b3, b4, b5, b6, b7, b8, b9, b10, b11, b12, b13, b14, b15, b16, b17, b18, b19])), (1, .slice a1 n c1), (2, .agg (cellsT a).toArray), (3, .agg (cellsT c).toArray), (4, .string ⟨x.toArray⟩)] = some (arrC [b0, b1, b2, b3, b4, b5, b6, b7, b8, b9, b10, b11, b12, b13, b14, b15, b16, b17, b18, b19] (.slice a1 n c1) a c x) := by kernel_rfl
theorem built_rec (t : List UInt8) (ht : t.length = 20) (a1 : Option Addr) (n c1 : Nat) (a c : Idt) (x : List UInt8) :
    Tryz.prog.built 28 [(0, .agg (arrD t)), (1, .slice a1 n c1), (2, .agg (cellsT a).toArray), (3, .agg (cellsT c).toArray), (4, .string ⟨x.toArray⟩)] = some (arrC t (.slice a1 n c1) a c x) := by
  match t, ht with
  | [b0, b1, b2, b3, b4, b5, b6, b7, b8, b9, b10, b11, b12, b13, b14, b15, b16, b17, b18, b19], _ => exact built_rec20 b0 b1 b2 b3 b4 b5 b6 b7 b8 b9 b10 b11 b12 b13 b14 b15 b16 b17 b18 b19 a1 n c1 a c x
theorem slice20_D (u : World) (g k : Nat) : (Instr.sliceAt 23 (.pointer (some ⟨g, k, none⟩)) none none none).run Tryz.prog u = .ok (.slice (some ⟨g, k, none⟩) 20 20) u := by
  have ea : Tryz.prog.arrayLen 23 = 20 := by kernel_rfl
  have ee : Tryz.prog.elem 23 = 5 := by kernel_rfl
  rw [run_sliceAt_array_all u 23 ⟨g, k, none⟩ (by rw [ea, ee]; exact Tryz.underlying23), ea, ee, Tryz.sizeOf5]
  simp [Result.andThen, slicedAt, Addr.add]
/-- An id's cells are its bytes. -/
theorem bat_of_range {w : World} {b o : Nat} {i : List UInt8} (hb : b < w.heap.size) (h : w.rangeAt b o (cellsD i)) : BAt w (some ⟨b, o, none⟩) i := fun _ =>
  ⟨b, o, rfl, hb, fun j hj => h j _ (by simp [cellsD, Lib.byteCells, List.getElem?_map, hj])⟩
end Go.Proofs.YtonkclkopmdahaaGreatDoor

/-
  Layer 6, plain: a text without its broken bytes, blanks off its ends, what fits; nothing of the program.
-/
namespace Go.Proofs.YtonkclkopmdahaaGreatDoor
set_option linter.unusedVariables false
set_option linter.unusedSimpArgs false

/-- A text without its broken bytes. -/
def valN : Nat → List UInt8 → List UInt8
  | 0, _ => []
  | n + 1, l => if l = [] then [] else if goodL l then l.take (widL l) ++ valN n (l.drop (widL l)) else valN n (l.drop (widL l))
def valT (l : List UInt8) : List UInt8 := valN l.length l
theorem valN_fuel : ∀ (n m : Nat) (l : List UInt8), l.length ≤ n → l.length ≤ m → valN n l = valN m l
  | 0, 0, _, _, _ => rfl
  | 0, m + 1, l, h, _ => by
    have e : l = [] := List.eq_nil_of_length_eq_zero (by omega)
    simp [valN, e]
  | n + 1, 0, l, _, h => by
    have e : l = [] := List.eq_nil_of_length_eq_zero (by omega)
    simp [valN, e]
  | n + 1, m + 1, l, h1, h2 => by
    by_cases e : l = []
    · simp [valN, e]
    · have hp := wid_pos l
      have ih := valN_fuel n m (l.drop (widL l)) (by rw [List.length_drop]; omega) (by rw [List.length_drop]; omega)
      unfold valN
      rw [if_neg e, if_neg e, ih]
theorem valT_nil : valT [] = [] := rfl
theorem valT_step (l : List UInt8) (h : l ≠ []) : valT l = if goodL l then l.take (widL l) ++ valT (l.drop (widL l)) else valT (l.drop (widL l)) := by
  have hp := wid_pos l
  have hl : 1 ≤ l.length := by cases l with | nil => exact absurd rfl h | cons _ _ => simp
  obtain ⟨n, hn⟩ : ∃ n, l.length = n + 1 := ⟨l.length - 1, by omega⟩
  have e : valN n (l.drop (widL l)) = valT (l.drop (widL l)) := valN_fuel _ _ _ (by rw [List.length_drop]; omega) (Nat.le_refl _)
  rw [← e]
  unfold valT
  rw [hn]
  conv => lhs; unfold valN
  rw [if_neg h]
theorem bad_wid (l : List UInt8) (h : ¬ goodL l) : widL l = 1 := (Decidable.not_not.1 h).2
theorem val_ind {M : List UInt8 → Prop} (h0 : M []) (h1 : ∀ l, l ≠ [] → M (l.drop (widL l)) → M l) (l : List UInt8) : M l := by
  have key : ∀ (n : Nat) (l : List UInt8), l.length ≤ n → M l := by
    intro n
    induction n with
    | zero => intro l hl; rw [List.eq_nil_of_length_eq_zero (show l.length = 0 by omega)]; exact h0
    | succ n ih =>
      intro l hl
      by_cases e : l = []
      · rw [e]; exact h0
      · have hp := wid_pos l
        exact h1 l e (ih _ (by rw [List.length_drop]; omega))
  exact key l.length l (Nat.le_refl _)
theorem valT_len (l : List UInt8) : (valT l).length ≤ l.length := by
  refine val_ind (M := fun l => (valT l).length ≤ l.length) (by simp [valT_nil]) (fun l h ih => ?_) l
  rw [List.length_drop] at ih
  have hp := wid_pos l
  rw [valT_step l h]
  split
  · rw [List.length_append, List.length_take]; omega
  · omega
/-- At a right rune: what follows is put behind it. -/
theorem good_put (l t : List UInt8) (h : l ≠ []) (hg : goodL l) : l.take (widL l) ++ t ≠ [] ∧ goodL (l.take (widL l) ++ t) ∧ widL (l.take (widL l) ++ t) = widL l ∧ (l.take (widL l) ++ t).take (widL l) = l.take (widL l) ∧ (l.take (widL l) ++ t).drop (widL l) = t ∧ (l.take (widL l) ++ t).getD 0 0 = l.getD 0 0 := by
  have hd := good_take l t h hg
  have hp := wid_pos l
  have hle := wid_le l h
  have hlen : (l.take (widL l)).length = widL l := by rw [List.length_take]; omega
  refine ⟨fun e => ?_, ?_, ?_, List.take_left' hlen, List.drop_left' hlen, ?_⟩
  · have := congrArg List.length e; rw [List.length_append, hlen] at this; simp at this; omega
  · unfold goodL; rw [hd]; exact hg
  · show (Lib.decodeL _).2 = _; rw [hd]; rfl
  · rw [List.getD_eq_getElem?_getD, List.getD_eq_getElem?_getD, List.getElem?_append_left (by omega), List.getElem?_take, if_pos (by omega)]
theorem valT_valid (l : List UInt8) : Lib.validD (valT l) = true := by
  refine val_ind (M := fun l => Lib.validD (valT l) = true) rfl (fun l h ih => ?_) l
  rw [valT_step l h]
  split
  · rename_i hg
    obtain ⟨h1, h2, h3, _, h5, _⟩ := good_put l (valT (l.drop (widL l))) h hg
    rw [Lib.validD_step _ h1, if_neg h2]
    show Lib.validD (List.drop (widL (l.take (widL l) ++ valT (l.drop (widL l)))) _) = true
    rw [h3, h5]
    exact ih
  · exact ih
theorem valT_pieces (l : List UInt8) : pieces (valT l) = pieces l := by
  refine val_ind (M := fun l => pieces (valT l) = pieces l) rfl (fun l h ih => ?_) l
  rw [pieces_step l h, valT_step l h]
  by_cases hg : goodL l
  · rw [if_pos hg]
    obtain ⟨h1, h2, h3, h4, h5, h6⟩ := good_put l (valT (l.drop (widL l))) h hg
    rw [pieces_step _ h1, h3, h4, h5, ih]
    have hk : keepL (l.take (widL l) ++ valT (l.drop (widL l))) ↔ keepL l := by
      unfold keepL
      rw [h3, h6]
      exact ⟨fun q => ⟨hg, q.2⟩, fun q => ⟨h2, q.2⟩⟩
    by_cases k : keepL l
    · rw [if_pos (hk.2 k), if_pos k]
    · rw [if_neg (fun q => k (hk.1 q)), if_neg k]
  · rw [if_neg hg, if_neg (fun q => hg q.1)]
    exact ih
theorem valT_same (l : List UInt8) (hv : Lib.validD l = true) : valT l = l := by
  revert hv
  refine val_ind (M := fun l => Lib.validD l = true → valT l = l) (fun _ => rfl) (fun l h ih => ?_) l
  intro hv
  rw [Lib.validD_step l h] at hv
  split at hv
  · cases hv
  · rename_i hg
    have hg : goodL l := hg
    rw [valT_step l h, if_pos hg, ih hv, List.take_append_drop]
theorem good_of_valid (l : List UInt8) (h : l ≠ []) (hv : Lib.validD l = true) : goodL l ∧ Lib.validD (l.drop (widL l)) = true := by
  rw [Lib.validD_step l h] at hv
  split at hv
  · cases hv
  · rename_i hg; exact ⟨hg, hv⟩
/-! By places. -/
theorem dec_drop (l : List UInt8) (i : Nat) : Utf8.decode ⟨l.toArray⟩ i = Lib.decodeL (l.drop i) := by
  rw [decodeL_N, Lib.decode_N ⟨l.toArray⟩ i]
  simp [List.getD_eq_getElem?_getD, List.getElem?_drop, ByteArray.size]
theorem drop_ne (l : List UInt8) (i : Nat) (h : i < l.length) : l.drop i ≠ [] := fun e => by
  have := congrArg List.length e; rw [List.length_drop] at this; simp at this; omega
/-- What a rune is that stands at the head of a right text. -/
theorem rune_val (l : List UInt8) (h : l ≠ []) (hg : goodL l) : ((Lib.decodeL l).1 = (l.getD 0 0).toNat ∧ (l.getD 0 0).toNat < 128 ∧ widL l = 1) ∨ (128 ≤ (Lib.decodeL l).1 ∧ 128 ≤ (l.getD 0 0).toNat ∧ 1 < widL l) := by
  have hr := rune_at l 0 (by cases l with | nil => exact absurd rfl h | cons _ _ => simp)
  rw [dec_drop, List.drop_zero] at hr
  rcases hr with ⟨h1, h2⟩ | ⟨h1, h2, _⟩
  · left
    exact ⟨by rw [h2], h1, by show (Lib.decodeL l).2 = 1; rw [h2]⟩
  · right
    exact ⟨h2, h1, good_high l h h1 hg⟩
def barR (r : Nat) : Bool := r == 0 || r == 10 || r == 60 || r == 62
/-- A right rune is kept if it is not barred. -/
theorem keep_iff (l : List UInt8) (h : l ≠ []) (hg : goodL l) : keepL l ↔ barR (Lib.decodeL l).1 = false := by
  unfold keepL
  rcases rune_val l h hg with ⟨h1, h2, h3⟩ | ⟨h1, h2, h3⟩
  · rw [h1, h3]
    unfold barR barB
    constructor
    · rintro ⟨_, q⟩
      cases hb : ((l.getD 0 0).toNat == 0 || (l.getD 0 0).toNat == 10 || (l.getD 0 0).toNat == 60 || (l.getD 0 0).toNat == 62) with
      | false => rfl
      | true => exact absurd ⟨rfl, hb⟩ q
    · intro q
      exact ⟨hg, fun p => by rw [q] at p; exact absurd p.2 (by decide)⟩
  · constructor
    · intro _
      unfold barR
      simp
      omega
    · intro _
      exact ⟨hg, fun p => by omega⟩
/-! Blanks off the ends. -/
theorem trimLeft_flat : ∀ gs : List (List UInt8), (∀ g ∈ gs, Rune g) → Lib.trimLeftB gs.flatten 32 = (lstrip gs).flatten
  | [], _ => rfl
  | g :: r, h => by
    have hg := h g (by simp)
    cases hb : blank g with
    | true =>
      have e : g = [32] := of_decide_eq_true hb
      subst e
      have ih := trimLeft_flat r (fun x hx => h x (by simp [hx]))
      unfold lstrip at ih ⊢
      rw [List.dropWhile_cons_of_pos hb, ← ih]
      unfold Lib.trimLeftB
      rw [List.flatten_cons, List.singleton_append, List.dropWhile_cons_of_pos (by decide)]
    | false =>
      rw [lstrip_none g r hb]
      have hf := hg.first hb
      cases g with
      | nil => exact absurd rfl hg.ne
      | cons c t =>
        unfold Lib.trimLeftB
        rw [List.flatten_cons, List.cons_append, List.dropWhile_cons_of_neg]
        simp
        intro e
        apply hf
        rw [e]; rfl
theorem rstrip_blank : ∀ r : List (List UInt8), rstrip (r ++ [[32]]) = rstrip r
  | [] => rfl
  | g :: r => by
    rw [List.cons_append]
    unfold rstrip
    rw [rstrip_blank r]
theorem trimRight_flat (gs : List (List UInt8)) (h : ∀ g ∈ gs, Rune g) : Lib.trimRightB gs.flatten 32 = (rstrip gs).flatten := by
  have key : ∀ (n : Nat) (gs : List (List UInt8)), gs.length = n → (∀ g ∈ gs, Rune g) → Lib.trimRightB gs.flatten 32 = (rstrip gs).flatten := by
    intro n
    induction n with
    | zero =>
      intro gs hn _
      rw [List.eq_nil_of_length_eq_zero hn]; rfl
    | succ n ih =>
      intro gs hn h
      have hne : gs ≠ [] := fun e => by rw [e] at hn; simp at hn
      obtain ⟨r, g, rfl⟩ : ∃ r g, gs = r ++ [g] := ⟨gs.dropLast, gs.getLast hne, (List.dropLast_concat_getLast hne).symm⟩
      have hg := h g (by simp)
      cases hb : blank g with
      | true =>
        have e : g = [32] := of_decide_eq_true hb
        subst e
        rw [rstrip_blank, ← ih r (by simpa using hn) (fun x hx => h x (by simp [hx]))]
        unfold Lib.trimRightB
        rw [List.flatten_append, List.flatten_singleton, List.reverse_append, List.reverse_singleton, List.singleton_append, List.dropWhile_cons_of_pos (by decide)]
      | false =>
        rw [rstrip_none r g hb]
        have hf := hg.final hb
        obtain ⟨t, c, rfl⟩ : ∃ t c, g = t ++ [c] := ⟨g.dropLast, g.getLast hg.ne, (List.dropLast_concat_getLast hg.ne).symm⟩
        unfold Lib.trimRightB
        have e1 : (r ++ [t ++ [c]]).flatten.reverse = c :: (r.flatten ++ t).reverse := by
          rw [List.flatten_append, List.flatten_singleton, ← List.append_assoc, List.reverse_append, List.reverse_singleton, List.singleton_append]
        have e2 : List.reverse (c :: (r.flatten ++ t).reverse) = (r ++ [t ++ [c]]).flatten := by rw [← e1, List.reverse_reverse]
        rw [e1, List.dropWhile_cons_of_neg, e2]
        simp
        intro e
        apply hf
        rw [e]; simp
  exact key gs.length gs rfl h
/-! What fits. -/
theorem fit_at : ∀ (az : List (List UInt8)) (g : List UInt8) (bs : List (List UInt8)) (n : Nat), az.flatten.length ≤ n → n < az.flatten.length + g.length → fitL n (az ++ g :: bs) = az
  | [], g, bs, n, h1, h2 => by
    simp at h2
    rw [List.nil_append]; unfold fitL; rw [if_neg (by omega)]
  | a :: r, g, bs, n, h1, h2 => by
    rw [List.flatten_cons, List.length_append] at h1 h2
    rw [List.cons_append]
    unfold fitL
    rw [if_pos (by omega), fit_at r g bs _ (by omega) (by omega)]
/-- Where a place between pieces is, with the piece ahead of it. -/
def Edge (gs : List (List UInt8)) (i e : Nat) : Prop :=
  ∃ az bs, gs = az ++ bs ∧ i = az.flatten.length ∧ (az = [] ∧ e = 0 ∨ ∃ a g, az = a ++ [g] ∧ e = a.flatten.length)
theorem Edge.start (gs : List (List UInt8)) : Edge gs 0 0 := ⟨[], gs, rfl, rfl, .inl ⟨rfl, rfl⟩⟩
theorem Edge.next {gs : List (List UInt8)} (hr : ∀ g ∈ gs, Rune g) {i e : Nat} (h : Edge gs i e) (hi : i < gs.flatten.length) : Edge gs (i + widL (gs.flatten.drop i)) i := by
  obtain ⟨az, bs, rfl, rfl, _⟩ := h
  cases bs with
  | nil => simp at hi
  | cons g bs =>
    have hg := hr g (by simp)
    have e1 : (az ++ g :: bs).flatten.drop az.flatten.length = g ++ bs.flatten := by
      rw [List.flatten_append, List.drop_left, List.flatten_cons]
    rw [e1, hg.wid]
    exact ⟨az ++ [g], bs, by simp, by simp, .inr ⟨az, g, rfl, rfl⟩⟩
theorem Edge.fit {gs : List (List UInt8)} {i e n : Nat} (h : Edge gs i e) (he : e ≤ n) (hi : n < i) : (fitL n gs).flatten = gs.flatten.take e := by
  obtain ⟨az, bs, rfl, rfl, ⟨rfl, rfl⟩ | ⟨a, g, rfl, rfl⟩⟩ := h
  · simp at hi
  · have e1 : (a ++ [g] ++ bs) = a ++ g :: bs := by simp
    rw [List.flatten_append, List.flatten_singleton, List.length_append] at hi
    rw [e1, fit_at a g bs n he hi, List.flatten_append, List.take_left]
theorem Edge.le {gs : List (List UInt8)} {i e : Nat} (h : Edge gs i e) : i ≤ gs.flatten.length ∧ e ≤ i := by
  obtain ⟨az, bs, rfl, rfl, ⟨rfl, rfl⟩ | ⟨a, g, rfl, rfl⟩⟩ := h
  · simp
  · simp
/-! A text made clean, step by step. -/
def freeT (l : List UInt8) : List UInt8 := (pieces l).flatten
def cutT (l : List UInt8) : List UInt8 := (fitL 200 (lstrip (pieces l))).flatten
theorem clean_left (l : List UInt8) : Lib.trimLeftB (freeT l) 32 = (lstrip (pieces l)).flatten := trimLeft_flat _ (pieces_rune l.length l (Nat.le_refl _))
theorem clean_right (l : List UInt8) : Lib.trimRightB (cutT l) 32 = cleanT l :=
  trimRight_flat _ (fun g hg => pieces_rune l.length l (Nat.le_refl _) g (lstrip_sub _ g (fit_sub _ _ g hg)))
theorem lstrip_rune (l : List UInt8) : ∀ g ∈ lstrip (pieces l), Rune g := fun g hg => pieces_rune l.length l (Nat.le_refl _) g (lstrip_sub _ g hg)
theorem pieces_len (l : List UInt8) : (pieces l).flatten.length ≤ l.length := by
  refine val_ind (M := fun l => (pieces l).flatten.length ≤ l.length) (by simp [pieces_nil]) (fun l h ih => ?_) l
  rw [List.length_drop] at ih
  have hp := wid_pos l
  have hle := wid_le l h
  rw [pieces_step l h]
  split
  · rw [List.flatten_cons, List.length_append, List.length_take]; omega
  · omega
theorem lstrip_len : ∀ gs : List (List UInt8), (lstrip gs).flatten.length ≤ gs.flatten.length
  | [] => by simp [lstrip]
  | g :: r => by
    have ih := lstrip_len r
    unfold lstrip at ih ⊢
    rw [List.dropWhile_cons]
    split
    · rw [List.flatten_cons, List.length_append]; omega
    · exact Nat.le_refl _
theorem clean_len (l : List UInt8) : (cleanT l).length ≤ 200 := ((word_iff _).1 (clean_isword l)).2.1
/-- A text is clean if it may be a name, and if it may be a name it is clean. -/
theorem clean_iff (l : List UInt8) : cleanT l = l ↔ wordL l = true := ⟨fun h => by rw [← h]; exact clean_isword l, word_stays l⟩
end Go.Proofs.YtonkclkopmdahaaGreatDoor
