/-
  Texts that belong together, one behind the other.
-/
import Derived.Test.YtgbmbemmkadagaaFu19
import Derived.Test.YtgbmbemmkadagaaFu07
import Derived.Laws.OwnMore
import Derived.Laws.CopyOwn
import Derived.Test.YtgbmbemmkadagaaFu05
import Derived.Deep.MidRow
/-
  Rows of ids: stores into them; the helper Own of the statements over ids.
-/
namespace Go.Proofs.Ytgbmbemmkadagaa
set_option maxRecDepth 20000
open Go.RowKit
set_option linter.unusedVariables false
set_option linter.unusedSimpArgs false

theorem flatD_back : ∀ (l : List (List UInt8)) (hid : ∀ i ∈ l, i.length = 20) (j : Nat) (v : Value), (l.flatMap cellsD)[j]? = some v → ∃ (k : Nat) (h : k < l.length) (q : Nat), j = k * 20 + q ∧ (cellsD l[k])[q]? = some v
  | [], _, _, _, h => by simp at h
  | i :: l, hid, j, v, h => by
    have hl := cellsD_len i (hid i (by simp))
    rw [List.flatMap_cons] at h
    by_cases hj : j < 20
    · rw [List.getElem?_append_left (by omega)] at h
      exact ⟨0, by simp, j, by omega, h⟩
    · rw [List.getElem?_append_right (by omega), hl] at h
      obtain ⟨k, hk, q, e, hq⟩ := flatD_back l (fun x hx => hid x (by simp [hx])) (j - 20) v h
      exact ⟨k + 1, by simpa using hk, q, by omega, by simpa using hq⟩
theorem flatD_one (l : List (List UInt8)) : ∀ v ∈ l.flatMap cellsD, v.oneCell' = true := by
  intro v hv
  obtain ⟨i, _, hi⟩ := List.mem_flatMap.1 hv
  exact (Array.all_eq_true_iff_forall_mem.1 (cellsD_one i)) v (by simpa using hi)
theorem IdsAt.cells {w : World} {a : Option Addr} {l : List (List UInt8)} (h : IdsAt w a l) (hid : ∀ i ∈ l, i.length = 20) (ad : Addr) (had : a = some ad) (j : Nat) (u : Value) (hj : (l.flatMap cellsD)[j]? = some u) : w.cell? (ad.add j) = some u := by
  obtain ⟨k, hk, q, e, hq⟩ := flatD_back l hid j u hj
  obtain ⟨b, o, e2, _, hc⟩ := h (by omega)
  rw [had] at e2
  cases e2
  rw [show (⟨b, o, none⟩ : Addr).add j = ⟨b, o + j, none⟩ by unfold Addr.add; split <;> simp_all, e, ← Nat.add_assoc]
  exact hc k hk q u hq
theorem own_fullD {w : World} {base : Nat} {e : TypeId} {s g n cap : Nat} {xs : List Value} (h : w.ownsRow base e s (.slice (some ⟨g, 0, none⟩) n cap) n xs) :
    ∃ ys, w.ownsRow base e s (.slice (some ⟨g, 0, none⟩) cap cap) cap ys ∧ ys.take (n * s) = xs := by
  rcases h.2 with ⟨h', _⟩ | ⟨g', cap', cur, h', hb, hg, hnc, hcm, hcs, htake⟩
  · simp at h'
  · simp only [Value.slice.injEq, Option.some.injEq, Addr.mk.injEq, and_true, true_and] at h'
    obtain ⟨rfl, rfl⟩ := h'
    refine ⟨cur.toList, ⟨by simpa using hcs, .inr ⟨g, cap, cur, rfl, hb, hg, Nat.le_refl _, hcm, hcs, List.take_of_length_le (by rw [Array.length_toList, hcs]; exact Nat.le_refl _)⟩⟩, by simpa using htake⟩
theorem own_ltD {w : World} {base : Nat} {e : TypeId} {s g n cap : Nat} {xs : List Value} (h : w.ownsRow base e s (.slice (some ⟨g, 0, none⟩) n cap) n xs) : g < w.heap.size := by
  rcases h.2 with ⟨h', _⟩ | ⟨g', cap', cur, h', hb, hg, hnc, hcm, hcs, htake⟩
  · simp at h'
  · simp only [Value.slice.injEq, Option.some.injEq, Addr.mk.injEq, and_true, true_and] at h'
    obtain ⟨rfl, rfl⟩ := h'
    exact lt_of_heap hg
theorem own_sameD {w w' : World} {base : Nat} {e : TypeId} {s g n cap : Nat} {xs : List Value} (h : w.ownsRow base e s (.slice (some ⟨g, 0, none⟩) n cap) n xs) (hk : w'.heap[g]? = w.heap[g]?) :
    w'.ownsRow base e s (.slice (some ⟨g, 0, none⟩) n cap) n xs := by
  refine ⟨h.1, ?_⟩
  rcases h.2 with ⟨h', _⟩ | ⟨g', cap', cur, h', hb', hg, r⟩
  · simp at h'
  · refine .inr ⟨g', cap', cur, h', hb', ?_, r⟩
    simp only [Value.slice.injEq, Option.some.injEq, Addr.mk.injEq, and_true, true_and] at h'
    obtain ⟨rfl, rfl⟩ := h'
    exact hk.trans hg
theorem own_keepD {w w' : World} {base : Nat} {e : TypeId} {s g n cap : Nat} {xs : List Value} (h : w.ownsRow base e s (.slice (some ⟨g, 0, none⟩) n cap) n xs) (hb : Below w.heap.size w w') :
    w'.ownsRow base e s (.slice (some ⟨g, 0, none⟩) n cap) n xs := own_sameD h (hb.block g (own_ltD h))
theorem take_putD {α : Type} (l cs : List α) (p q m : Nat) (hq : q = p + cs.length) (hqm : q ≤ m) (hm : m ≤ l.length) : (l.take p ++ cs ++ l.drop q).take m = (l.take m).take p ++ cs ++ (l.take m).drop q := by
  rw [List.append_assoc, List.take_append, List.take_append, List.length_take, List.take_take, List.take_take, List.drop_take, show min p l.length = p by omega, show min m p = p by omega, show min p m = p by omega,
    List.take_of_length_le (l := cs) (by omega), show m - p - cs.length = m - q by omega, List.append_assoc]
theorem grown_setRowD (w : World) (g : Nat) (cs : Array Value) : w.grownBy (w.setRow g cs) (some g) := by
  have b := below_setRow (B := g) (Below.refl g w) (Nat.le_refl _) cs
  refine ⟨b.os, b.tape, b.output, b.size, fun k _ hk => ?_⟩
  have hkg : k ≠ g := fun e => hk (by rw [e])
  simp [World.setRow, Array.getElem?_modify, hkg.symm]
/-- What an item is stored into: the row's other cells stay. -/
def putD (ys : List Value) (k : Nat) (i : List UInt8) : List Value := ys.take (k * 20) ++ cellsD i ++ ys.drop (k * 20 + 20)
theorem wpList_store_cells20 {ops : Array Oper} {rest : List Oper} {o : Oper} {a : Act} {w : World} {Q : Exit → Act → World → Prop} (hgd : o.guard = none) (x y : Operand) (ho : o.op = .store 24 x y)
    (B g n c k off : Nat) (ys : List Value) (i : List UInt8) (A : Array Value) (hA : A = arrD i) (hoff : off = k * 20) (hx : a.eval x = .pointer (some ⟨g, off, none⟩)) (hy : a.eval y = .agg A) (hk : k < n) (hi : i.length = 20) (hown : w.ownsRow B 24 20 (.slice (some ⟨g, 0, none⟩) n c) n ys)
    (h : ∀ w', w'.ownsRow B 24 20 (.slice (some ⟨g, 0, none⟩) n c) n (putD ys k i) → w.grownBy w' (some g) → wpList Try.prog ops Q rest (a.put o.dst undef) w') : wpList Try.prog ops Q (o :: rest) a w := by
  subst hA; subst hoff
  refine wpList_plain hgd fun K hK => ?_
  have hcl := cellsD_len i hi
  have hmul : k * 20 + 20 ≤ n * 20 := by omega
  rcases hown.2 with ⟨h', _⟩ | ⟨g', cap', cur, h', hb', hg, hnc, hcm, hcs, htake⟩
  · simp at h'
  · simp only [Value.slice.injEq, Option.some.injEq, Addr.mk.injEq, and_true, true_and] at h'
    obtain ⟨rfl, rfl⟩ := h'
    have hc22 : n * 20 ≤ c * 20 := Nat.mul_le_mul_right 20 hnc
    have hst := run_storeCells_at Try.prog g (k * 20) 24 (cellsD i) 0 cur w hg (by rw [hcl, hcs]; omega) (fun v hv => (Array.all_eq_true_iff_forall_mem.1 (cellsD_one i)) v (by simpa using hv))
    have hi' : (Try.prog.info? 24).map (·.size) = some (arrD i).size := infoD_arr _ (arrD_size i hi)
    obtain ⟨ie, hie, _, hsz, _⟩ := infoD_all
    unfold Oper.wp execOp
    simp only [ho, hx, hy, Instr.storeAt, Instr.sureAddr, Sem.run_bind, Sem.run_pure, Result.andThen_ok]
    have hrun : (storeVar 24 ⟨g, k * 20, none⟩ (.agg (arrD i))).run Try.prog w = .ok () (w.setRow g (cur.toList.take (k * 20) ++ cellsD i ++ cur.toList.drop (k * 20 + 20)).toArray) := by
      simp only [Nat.add_zero] at hst
      rw [hcl] at hst
      simp [storeVar, sizeOf, typeInfo, hie, hsz, Value.cells, arrD, hcl, hst]
    rw [hrun]
    refine hK _ _ (h _ ⟨?_, .inr ⟨g, c, _, rfl, hb', setRow_heap w g cur _ 24 (0, 0) hg, hnc, hcm, ?_, ?_⟩⟩ (grown_setRowD w g _))
    · unfold putD
      have := hown.1
      simp only [List.length_append, List.length_take, List.length_drop, hcl]
      omega
    · simp only [List.size_toArray, List.length_append, List.length_take, List.length_drop, hcl, Array.length_toList, hcs]
      omega
    · unfold putD
      rw [← htake]
      exact take_putD cur.toList (cellsD i) (k * 20) (k * 20 + 20) (n * 20) (by rw [hcl]) hmul (by rw [Array.length_toList, hcs]; exact hc22)
theorem putD_take (ys : List Value) (k : Nat) (i : List UInt8) (hi : i.length = 20) (h : k * 20 + 20 ≤ ys.length) : (putD ys k i).take ((k + 1) * 20) = ys.take (k * 20) ++ cellsD i := by
  unfold putD
  have hl := cellsD_len i hi
  exact List.take_left' (by rw [List.length_append, List.length_take, hl]; omega)
theorem flatD_take (l : List (List UInt8)) (hid : ∀ i ∈ l, i.length = 20) (k : Nat) (hk : k ≤ l.length) : (l.flatMap cellsD).take (k * 20) = (l.take k).flatMap cellsD := by
  have h1 : l.flatMap cellsD = (l.take k).flatMap cellsD ++ (l.drop k).flatMap cellsD := by rw [← List.flatMap_append, List.take_append_drop]
  have h2 := flatD_len (l.take k) (fun i hi => hid i (List.mem_of_mem_take hi))
  rw [List.length_take, Nat.min_eq_left hk] at h2
  rw [h1, ← h2, List.take_left]
theorem flatD_drop (l : List (List UInt8)) (hid : ∀ i ∈ l, i.length = 20) (k : Nat) (hk : k ≤ l.length) : (l.flatMap cellsD).drop (k * 20) = (l.drop k).flatMap cellsD := by
  have h1 : l.flatMap cellsD = (l.take k).flatMap cellsD ++ (l.drop k).flatMap cellsD := by rw [← List.flatMap_append, List.take_append_drop]
  have h2 := flatD_len (l.take k) (fun i hi => hid i (List.mem_of_mem_take hi))
  rw [List.length_take, Nat.min_eq_left hk] at h2
  rw [h1, ← h2, List.drop_left]
theorem putD_flat (l : List (List UInt8)) (hid : ∀ i ∈ l, i.length = 20) (k : Nat) (hk : k < l.length) (i : List UInt8) : putD (l.flatMap cellsD) k i = (l.set k i).flatMap cellsD := by
  unfold putD
  rw [flatD_take l hid k (by omega), show k * 20 + 20 = (k + 1) * 20 by omega, flatD_drop l hid (k + 1) (by omega), List.set_eq_take_append_cons_drop, if_pos hk, List.flatMap_append, List.flatMap_cons, List.append_assoc]
/-- An id is stored into a row that a call owns. -/
theorem wpList_store_idD {ops : Array Oper} {rest : List Oper} {o : Oper} {a : Act} {w : World} {Q : Exit → Act → World → Prop} (hgd : o.guard = none) (x y : Operand) (ho : o.op = .store 24 x y)
    (B g c k off : Nat) (l : List (List UInt8)) (hid : ∀ i ∈ l, i.length = 20) (i : List UInt8) (A : Array Value) (hA : A = arrD i) (hoff : off = k * 20) (hx : a.eval x = .pointer (some ⟨g, off, none⟩)) (hy : a.eval y = .agg A) (hk : k < l.length) (hi : i.length = 20) (hown : OwnD B (.slice (some ⟨g, 0, none⟩) l.length c) l w)
    (h : ∀ w', OwnD B (.slice (some ⟨g, 0, none⟩) l.length c) (l.set k i) w' → w.grownBy w' (some g) → wpList Try.prog ops Q rest (a.put o.dst undef) w') : wpList Try.prog ops Q (o :: rest) a w := by
  refine wpList_store_cells20 hgd x y ho B g l.length c k off _ i A hA hoff hx hy hk hi hown (fun w' hw hg => h w' ?_ hg)
  unfold OwnD
  rw [List.length_set, ← putD_flat l hid k hk i]
  exact hw
theorem set_idsD {l : List (List UInt8)} (hid : ∀ i ∈ l, i.length = 20) (k : Nat) {x : List UInt8} (hx : x.length = 20) : ∀ i ∈ l.set k x, i.length = 20 := fun i hi => by
  rcases List.mem_or_eq_of_mem_set hi with h | rfl
  · exact hid i h
  · exact hx
end Go.Proofs.Ytgbmbemmkadagaa

/-
  Layer 9: whole blocks and parts of blocks, read; is an id among some.
-/
namespace Go.Proofs.Ytgbmbemmkadagaa
set_option maxRecDepth 20000
open Go.RowKit
set_option linter.unusedVariables false
set_option linter.unusedSimpArgs false

/-- Is it among them? -/
def amongD (l : List (List UInt8)) (x : List UInt8) : Bool := l.any (fun y => eqD y x)
theorem among_iff (l : List (List UInt8)) (x : List UInt8) : amongD l x = true ↔ x ∈ l := by
  unfold amongD
  rw [List.any_eq_true]
  constructor
  · rintro ⟨y, hy, e⟩
    rw [← (eqD_iff y x).1 e]; exact hy
  · exact fun h => ⟨x, h, eqD_same x⟩
theorem among_here {l : List (List UInt8)} {x : List UInt8} {k : Nat} (hk : k < l.length) (h : eqD l[k] x = true) : amongD l x = true := List.any_eq_true.2 ⟨l[k], List.getElem_mem hk, h⟩
theorem among_none {l : List (List UInt8)} {x : List UInt8} (h : ∀ j (hj : j < l.length), eqD l[j] x = false) : amongD l x = false := by
  unfold amongD
  rw [List.any_eq_false]
  intro y hy
  obtain ⟨i, hi, rfl⟩ := List.mem_iff_getElem.1 hy
  rw [h i hi]; decide
end Go.Proofs.Ytgbmbemmkadagaa
