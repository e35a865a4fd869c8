/-
  Texts that belong together, one behind the other.
-/
import Derived.Laws.AppendOwn
import Derived.Laws.OwnMore
import Derived.Laws.CopyRow
import Derived.Laws.Tables
import Derived.Deep.Upon
import Derived.Deep.AppendSrc
import Derived.Deep.MidRow
import Derived.Great.BuildSlice
import Derived.Great.FillDense
import Derived.Below
import Derived.Test.YtdgcjjledbnofaaDoorFu02
import Derived.Laws.Rows
import Derived.Maps.AppendAt
/-
  Rows of structs of whatever type, over any program: what a call owns, what lies somewhere, what is appended, what is stored.
-/
namespace Go.Proofs.YtdgcjjledbnofaaDoor
open Go.RowKit
set_option linter.unusedVariables false
set_option linter.unusedSimpArgs false

/-- Elements of a row: their cells, their type. -/
structure RowT (α : Type) where
  cl : α → List Value
  size : Nat
  bytes : Nat
  ty : TypeId
  sl : TypeId
  ok : α → Prop
/-- What the program says of that type. -/
structure RowT.Good {α : Type} (R : RowT α) (P : Program) : Prop where
  pos : 0 < R.size
  len : ∀ x, R.ok x → (R.cl x).length = R.size
  one : ∀ x, R.ok x → ∀ v ∈ R.cl x, v.oneCell' = true
  under : P.underlying R.sl = some (.slice R.ty)
  info : ∃ ie z, P.info? R.ty = some ie ∧ ie.zero = some z ∧ ie.size = R.size ∧ ie.bytes = R.bytes ∧ z.cells.size = R.size
  small : R.size ≤ 1000 ∧ R.bytes ≤ 1000
section
variable {α : Type} {R : RowT α} {P : Program}
def RowT.flat (R : RowT α) (l : List α) : List Value := l.flatMap R.cl
theorem rflat_nil : R.flat [] = [] := rfl
theorem rflat_cons (x : α) (l : List α) : R.flat (x :: l) = R.cl x ++ R.flat l := by unfold RowT.flat; rw [List.flatMap_cons]
theorem rflat_append (l m : List α) : R.flat (l ++ m) = R.flat l ++ R.flat m := by unfold RowT.flat; rw [List.flatMap_append]
theorem rflat_len (G : R.Good P) : ∀ (l : List α), (∀ x ∈ l, R.ok x) → (R.flat l).length = l.length * R.size
  | [], _ => by simp [RowT.flat]
  | x :: l, h => by
    rw [rflat_cons, List.length_append, G.len x (h x (by simp)), rflat_len G l (fun y hy => h y (by simp [hy])), List.length_cons, Nat.add_mul, Nat.one_mul, Nat.add_comm]
theorem rflat_at (G : R.Good P) : ∀ (l : List α) (h : ∀ x ∈ l, R.ok x) (k : Nat) (hk : k < l.length) (j : Nat) (v : Value), (R.cl l[k])[j]? = some v → (R.flat l)[k * R.size + j]? = some v
  | [], _, k, hk, _, _, _ => absurd hk (Nat.not_lt_zero _)
  | x :: l, h, 0, hk, j, v, hv => by
    have hj : j < (R.cl x).length := (List.getElem?_eq_some_iff.1 hv).1
    rw [rflat_cons, Nat.zero_mul, Nat.zero_add, List.getElem?_append_left hj]
    exact hv
  | x :: l, h, k + 1, hk, j, v, hv => by
    have hl := G.len x (h x (by simp))
    rw [rflat_cons, Nat.add_mul, Nat.one_mul, List.getElem?_append_right (by omega), hl, show k * R.size + R.size + j - R.size = k * R.size + j by omega]
    exact rflat_at G l (fun y hy => h y (by simp [hy])) k (by simpa using hk) j v hv
theorem rflat_one (G : R.Good P) (l : List α) (h : ∀ x ∈ l, R.ok x) : ∀ v ∈ R.flat l, v.oneCell' = true := by
  intro v hv
  unfold RowT.flat at hv
  obtain ⟨x, hm, hx⟩ := List.mem_flatMap.1 hv
  exact G.one x (h x hm) v hx
theorem rflat_back (G : R.Good P) : ∀ (l : List α) (h : ∀ x ∈ l, R.ok x) (j : Nat) (v : Value), (R.flat l)[j]? = some v → ∃ (k : Nat) (hk : k < l.length) (q : Nat), j = k * R.size + q ∧ (R.cl l[k])[q]? = some v
  | [], _, j, v, hv => by simp [RowT.flat] at hv
  | x :: l, h, j, v, hv => by
    have hl := G.len x (h x (by simp))
    rw [rflat_cons] at hv
    by_cases hj : j < R.size
    · rw [List.getElem?_append_left (by omega)] at hv
      exact ⟨0, by simp, j, by simp, hv⟩
    · rw [List.getElem?_append_right (by omega), hl] at hv
      obtain ⟨k, hk, q, e, hq⟩ := rflat_back G l (fun y hy => h y (by simp [hy])) (j - R.size) v hv
      exact ⟨k + 1, by simpa using hk, q, by rw [Nat.add_mul]; omega, by simpa using hq⟩
/-- Elements, one behind the other, somewhere. -/
def RowAt (R : RowT α) (w : World) (a : Option Addr) (l : List α) : Prop :=
  0 < l.length → ∃ b o, a = some ⟨b, o, none⟩ ∧ b < w.heap.size ∧ ∀ k (h : k < l.length) j v, (R.cl l[k])[j]? = some v → w.cell? ⟨b, o + k * R.size + j, none⟩ = some v
theorem RowAt.nil (w : World) (a : Option Addr) : RowAt R w a [] := fun h => absurd h (Nat.lt_irrefl 0)
theorem RowAt.keep {w u : World} {a : Option Addr} {l : List α} (h : RowAt R w a l) (b : Below w.heap.size w u) : RowAt R u a l := fun hp => by
  obtain ⟨g, o, h1, h2, h3⟩ := h hp
  exact ⟨g, o, h1, Nat.lt_of_lt_of_le h2 b.size, fun k hk j v hv => (b.cell (p := ⟨g, o + k * R.size + j, none⟩) h2).trans (h3 k hk j v hv)⟩
/-- The block it lies in is as it was. -/
theorem RowAt.same {w u : World} {a : Option Addr} {l : List α} (h : RowAt R w a l) (hs : w.heap.size ≤ u.heap.size) (hb : ∀ ad, a = Option.some ad → u.heap[ad.block]? = w.heap[ad.block]?) : RowAt R u a l := fun hp => by
  obtain ⟨g, o, h1, h2, h3⟩ := h hp
  refine ⟨g, o, h1, Nat.lt_of_lt_of_le h2 hs, fun k hk j v hv => ?_⟩
  rw [← h3 k hk j v hv]
  exact World.cell?_of_block (w := w) (hb ⟨g, o, none⟩ h1)
theorem RowAt.take {w : World} {a : Option Addr} {l : List α} (h : RowAt R w a l) (n : Nat) : RowAt R w a (l.take n) := fun hp => by
  have hp2 : 0 < l.length := by rw [List.length_take] at hp; omega
  obtain ⟨g, o, h1, h2, h3⟩ := h hp2
  refine ⟨g, o, h1, h2, fun k hk j v hv => ?_⟩
  rw [List.length_take] at hk
  exact h3 k (by omega) j v (by rw [List.getElem_take] at hv; exact hv)
theorem RowAt.drop {w : World} {b o : Nat} {l : List α} (h : RowAt R w (some ⟨b, o, none⟩) l) (n : Nat) : RowAt R w (some ⟨b, o + n * R.size, none⟩) (l.drop n) := fun hp => by
  have hp2 : 0 < l.length := by rw [List.length_drop] at hp; omega
  obtain ⟨g, o', h1, h2, h3⟩ := h hp2
  cases h1
  refine ⟨b, o + n * R.size, rfl, h2, fun k hk j v hv => ?_⟩
  rw [List.length_drop] at hk
  have := h3 (n + k) (by omega) j v (by rw [List.getElem_drop] at hv; exact hv)
  rw [Nat.add_mul] at this
  rw [show o + n * R.size + k * R.size + j = o + (n * R.size + k * R.size) + j by omega]
  exact this
/-- One of them. -/
theorem RowAt.elem {w : World} {b o : Nat} {l : List α} (h : RowAt R w (some ⟨b, o, none⟩) l) (k : Nat) (hk : k < l.length) : w.rangeAt b (o + k * R.size) (R.cl l[k]) := by
  obtain ⟨g, o', h1, h2, h3⟩ := h (by omega)
  cases h1
  exact fun j v hv => h3 k hk j v hv
theorem RowAt.lt {w : World} {b o : Nat} {l : List α} (h : RowAt R w (some ⟨b, o, none⟩) l) (hp : 0 < l.length) : b < w.heap.size := by
  obtain ⟨g, o', h1, h2, h3⟩ := h hp
  cases h1
  exact h2
theorem RowAt.some {w : World} {a : Option Addr} {l : List α} (h : RowAt R w a l) (hp : 0 < l.length) : ∃ b o, a = Option.some ⟨b, o, none⟩ ∧ b < w.heap.size := by
  obtain ⟨g, o', h1, h2, h3⟩ := h hp
  exact ⟨g, o', h1, h2⟩
theorem RowAt.cells (G : R.Good P) {w : World} {b o : Nat} {l : List α} (h : RowAt R w (Option.some ⟨b, o, none⟩) l) (hid : ∀ x ∈ l, R.ok x) (j : Nat) (u : Value) (hj : (R.flat l)[j]? = Option.some u) : w.cell? ((⟨b, o, none⟩ : Addr).add j) = Option.some u := by
  obtain ⟨k, hk, q, rfl, hq⟩ := rflat_back G l hid j u hj
  obtain ⟨g, o', h1, h2, h3⟩ := h (by omega)
  cases h1
  rw [show (⟨b, o, none⟩ : Addr).add (k * R.size + q) = ⟨b, o + (k * R.size + q), none⟩ by unfold Addr.add; split <;> simp_all, ← Nat.add_assoc]
  exact h3 k hk q u hq
/-- A row that a call owns. -/
def OwnR (R : RowT α) (B : Nat) (v : Value) (l : List α) (w : World) : Prop := w.ownsRow B R.ty R.size v l.length (R.flat l)
theorem ownR_nil (w : World) (B : Nat) : OwnR R B (.slice none 0 0) [] w := World.ownsRow_nil w B _ _
theorem ownR_below {B : Nat} {v : Value} {l : List α} {w u : World} (h : OwnR R B v l w) (hb : Below w.heap.size w u) : OwnR R B v l u :=
  World.ownsRow.kept (row := none) h ⟨hb.os, hb.tape, hb.output, hb.size, fun k hk _ => hb.block k hk⟩ (by cases v.ownBlock <;> simp)
theorem ownR_mono {B B' : Nat} {v : Value} {l : List α} {w : World} (h : OwnR R B v l w) (hB : B' ≤ B) : OwnR R B' v l w :=
  ⟨h.1, h.2.imp id (fun ⟨g', cap', cur, h', hb', r⟩ => ⟨g', cap', cur, h', Nat.le_trans hB hb', r⟩)⟩
/-- Its block is as it was. -/
theorem ownR_same {B : Nat} {v : Value} {l : List α} {w u : World} (h : OwnR R B v l w) (hb : ∀ g, v.ownBlock = Option.some g → u.heap[g]? = w.heap[g]?) : OwnR R B v l u :=
  ⟨h.1, h.2.imp id (fun ⟨g', cap', cur, h', hb', hh, r⟩ => ⟨g', cap', cur, h', hb', (hb g' (by rw [h']; rfl)).trans hh, r⟩)⟩
theorem ownR_shape (G : R.Good P) {B : Nat} {v : Value} {l : List α} {w : World} (h : OwnR R B v l w) (hid : ∀ x ∈ l, R.ok x) :
    ∃ a c, v = .slice a l.length c ∧ l.length ≤ c ∧ c ≤ maxLen ∧ RowAt R w a l ∧ (a = none → l.length = 0 ∧ c = 0) ∧ ∀ ad, a = Option.some ad → B ≤ ad.block ∧ ad.off = 0 ∧ ad.block < w.heap.size := by
  rcases h.2 with ⟨hv, h0⟩ | ⟨g, cap, cur, hv, hB, hg, hc, hm, _, _⟩
  · obtain rfl : l = [] := List.eq_nil_of_length_eq_zero h0
    exact ⟨none, 0, hv, Nat.le_refl _, Nat.zero_le _, RowAt.nil w _, fun _ => ⟨rfl, rfl⟩, fun ad e => (by cases e)⟩
  · have hcs := World.ownsRow.cells h (g := g) (by rw [hv]; rfl)
    have hlt : g < w.heap.size := (Array.getElem?_eq_some_iff.1 hg).1
    refine ⟨_, cap, hv, hc, hm, fun _ => ⟨g, 0, rfl, hlt, fun k hk j u hu => ?_⟩, fun e => (by cases e), fun ad e => (by cases e; exact ⟨hB, rfl, hlt⟩)⟩
    have := hcs (k * R.size + j) u (rflat_at G l hid k hk j u hu)
    rw [show (⟨g, 0, none⟩ : Addr).add (k * R.size + j) = ⟨g, 0 + k * R.size + j, none⟩ by unfold Addr.add; split <;> simp_all] at this
    exact this
/-- 'append(l, m...)', what is appended lying somewhere. -/
theorem wpList_append_rowR (G : R.Good P) {ops : Array Oper} {rest : List Oper} {o : Oper} {a : Act} {w : World} {Q : Exit → Act → World → Prop} (hgd : o.guard = none) (sl x : Operand)
    (ho : o.op = .call { callee := .builtin .append, args := #[sl, x], argTypes := #[R.sl, R.sl] }) (B : Nat) (v : Value) (l m : List α) (ad : Addr) (n c : Nat) (hs : a.eval sl = v) (hx : a.eval x = .slice (Option.some ad) n c)
    (hn : n = m.length) (hcell : ∀ j u, (R.flat m)[j]? = Option.some u → w.cell? (ad.add j) = Option.some u) (hok : ∀ x ∈ m, R.ok x) (hown : OwnR R B v l w) (hb : l.length + m.length ≤ 1000000000) (hB : B ≤ w.heap.size)
    (h : ∀ v' w', OwnR R B v' (l ++ m) w' → w.grownBy w' v.ownBlock → wpList P ops Q rest (a.put o.dst v') w') : wpList P ops Q (o :: rest) a w := by
  obtain ⟨ie, z, hie, hz, hsz, hby, hzs⟩ := G.info
  obtain ⟨s1, s2⟩ := G.small
  subst hn
  refine wpList_append_own w hgd sl x R.sl ho B R.ty ie z R.size R.bytes G.under hie hz hsz hby hzs G.pos v l.length (R.flat l) hs hown ad m.length c (R.flat m) hx (rflat_len G m hok) hcell (rflat_one G m hok) (by unfold maxLen; omega) ?_ hB ?_
  · have h1 : (l.length + m.length) * R.bytes ≤ 1000000000 * 1000 := Nat.mul_le_mul hb s2
    omega
  · intro v' w' ho' hgr _
    refine h v' w' ?_ hgr
    unfold OwnR
    rw [List.length_append, rflat_append]
    exact ho'
/-- 'append(l, m...)' where m is empty: the value stays. -/
theorem wpList_append_noneR (G : R.Good P) {ops : Array Oper} {rest : List Oper} {o : Oper} {a : Act} {w : World} {Q : Exit → Act → World → Prop} (hgd : o.guard = none) (sl x : Operand)
    (ho : o.op = .call { callee := .builtin .append, args := #[sl, x], argTypes := #[R.sl, R.sl] }) (ao : Option Addr) (n cp : Nat) (xo : Option Addr) (c : Nat) (hs : a.eval sl = .slice ao n cp) (hle : n ≤ cp) (hx : a.eval x = .slice xo 0 c)
    (h : wpList P ops Q rest (a.put o.dst (.slice ao n cp)) w) : wpList P ops Q (o :: rest) a w := by
  obtain ⟨ie, z, hie, hz, hsz, hby, hzs⟩ := G.info
  have hrun := run_append_nothing (P := P) w R.sl R.sl o.type R.ty ie G.under hie ao n cp hle (.slice xo 0 c) (by cases xo with | none => exact Src.ofNil w G.under c | some y => exact Src.ofSlice w G.under y 0 c [] (by simp) (fun j u hu => by simp at hu) (fun _ h => by cases h))
  refine wpList_plain hgd fun K hK => ?_
  unfold Oper.wp execOp
  simp only [ho, resolve, invoke, builtin, Sem.run_bind, Sem.run_pure, Result.andThen_ok, List.map_toArray, List.map_cons, List.map_nil, hs, hx, hrun]
  exact hK _ _ h
/-- 'append(l, m...)', whatever m is. -/
theorem wpList_append_anyR (G : R.Good P) {ops : Array Oper} {rest : List Oper} {o : Oper} {a : Act} {w : World} {Q : Exit → Act → World → Prop} (hgd : o.guard = none) (sl x : Operand)
    (ho : o.op = .call { callee := .builtin .append, args := #[sl, x], argTypes := #[R.sl, R.sl] }) (B : Nat) (v : Value) (l m : List α) (ao : Option Addr) (n c : Nat) (hs : a.eval sl = v) (hx : a.eval x = .slice ao n c)
    (hn : n = m.length) (hrow : RowAt R w ao m) (hok : ∀ x ∈ m, R.ok x) (hokl : ∀ x ∈ l, R.ok x) (hown : OwnR R B v l w) (hb : l.length + m.length ≤ 1000000000) (hB : B ≤ w.heap.size)
    (h : ∀ v' w', OwnR R B v' (l ++ m) w' → w.grownBy w' v.ownBlock → wpList P ops Q rest (a.put o.dst v') w') : wpList P ops Q (o :: rest) a w := by
  by_cases h0 : m = []
  · subst h0
    obtain ⟨av, cv, rfl, hle, -⟩ := ownR_shape G hown hokl
    refine wpList_append_noneR G hgd sl x ho av l.length cv ao c hs hle (by rw [hx, hn]; rfl) (h _ w (by rw [List.append_nil]; exact hown) ⟨rfl, rfl, rfl, Nat.le_refl _, fun _ _ _ => rfl⟩)
  · have hp : 0 < m.length := List.length_pos_iff.2 h0
    obtain ⟨b, o', rfl, -⟩ := hrow.some hp
    exact wpList_append_rowR G hgd sl x ho B v l m _ n c hs hx hn (fun j u hj => hrow.cells G hok j u hj) hok hown hb hB h
/-- The same, as one step. -/
theorem wp_append_anyR (G : R.Good P) {o : Oper} {a : Act} {w : World} {K : Act → World → Prop} {Q : Exit → Act → World → Prop} (sl x : Operand)
    (ho : o.op = .call { callee := .builtin .append, args := #[sl, x], argTypes := #[R.sl, R.sl] }) (B : Nat) (v : Value) (l m : List α) (ao : Option Addr) (n c : Nat) (hs : a.eval sl = v) (hx : a.eval x = .slice ao n c)
    (hn : n = m.length) (hrow : RowAt R w ao m) (hok : ∀ x ∈ m, R.ok x) (hokl : ∀ x ∈ l, R.ok x) (hown : OwnR R B v l w) (hb : l.length + m.length ≤ 1000000000) (hB : B ≤ w.heap.size)
    (h : ∀ v' w', OwnR R B v' (l ++ m) w' → w.grownBy w' v.ownBlock → K (a.put o.dst v') w') : o.wp P a w K Q := by
  by_cases h0 : m = []
  · subst h0
    obtain ⟨av, cv, rfl, hle, -⟩ := ownR_shape G hown hokl
    obtain ⟨ie, z, hie, hz, hsz, hby, hzs⟩ := G.info
    subst hn
    have hrun := run_append_nothing (P := P) w R.sl R.sl o.type R.ty ie G.under hie av l.length cv hle (.slice ao 0 c) (by cases ao with | none => exact Src.ofNil w G.under c | some y => exact Src.ofSlice w G.under y 0 c [] (by simp) (fun j u hu => by simp at hu) (fun _ h => by cases h))
    unfold Oper.wp execOp
    simp only [ho, resolve, invoke, builtin, Sem.run_bind, Sem.run_pure, Result.andThen_ok, List.map_toArray, List.map_cons, List.map_nil, hs, hx, hrun, List.length_nil]
    exact h _ w (by rw [List.append_nil]; exact hown) ⟨rfl, rfl, rfl, Nat.le_refl _, fun _ _ _ => rfl⟩
  · have hp : 0 < m.length := List.length_pos_iff.2 h0
    obtain ⟨b, o', rfl, -⟩ := hrow.some hp
    obtain ⟨ie, z, hie, hz, hsz, hby, hzs⟩ := G.info
    obtain ⟨s1, s2⟩ := G.small
    subst hn
    refine wp_append_own w sl x R.sl ho B R.ty ie z R.size R.bytes G.under hie hz hsz hby hzs G.pos v l.length (R.flat l) hs hown ⟨b, o', none⟩ m.length c (R.flat m) hx (rflat_len G m hok) (fun j u hj => hrow.cells G hok j u hj) (rflat_one G m hok) (by unfold maxLen; omega) ?_ hB ?_
    · have h1 : (l.length + m.length) * R.bytes ≤ 1000000000 * 1000 := Nat.mul_le_mul hb s2
      omega
    · intro v' w' ho' hgr _
      refine h v' w' ?_ hgr
      unfold OwnR
      rw [List.length_append, rflat_append]
      exact ho'
end
end Go.Proofs.YtdgcjjledbnofaaDoor

/-
  Which of the blocks that were there a call may have turned.
-/
namespace Go.Proofs.YtdgcjjledbnofaaDoor
open Go.RowKit
set_option linter.unusedVariables false

/-- What a call may turn: the blocks that S names, of those that were there. -/
structure Chg (S : Nat → Prop) (w w' : World) : Prop where
  os : w'.os = w.os
  tape : w'.tape = w.tape
  output : w'.output = w.output
  size : w.heap.size ≤ w'.heap.size
  block : ∀ k, k < w.heap.size → ¬ S k → w'.heap[k]? = w.heap[k]?
theorem Chg.refl (S : Nat → Prop) (w : World) : Chg S w w := ⟨rfl, rfl, rfl, Nat.le_refl _, fun _ _ _ => rfl⟩
theorem Chg.trans {S : Nat → Prop} {a b c : World} (h : Chg S a b) (k : Chg S b c) : Chg S a c :=
  ⟨k.os.trans h.os, k.tape.trans h.tape, k.output.trans h.output, Nat.le_trans h.size k.size, fun i hi hs => (k.block i (Nat.lt_of_lt_of_le hi h.size) hs).trans (h.block i hi hs)⟩
/-- What is turned behind may also be new. -/
theorem Chg.more {S T : Nat → Prop} {a b c : World} (h : Chg S a b) (k : Chg T b c) (hT : ∀ i, i < a.heap.size → T i → S i) : Chg S a c :=
  ⟨k.os.trans h.os, k.tape.trans h.tape, k.output.trans h.output, Nat.le_trans h.size k.size, fun i hi hs => (k.block i (Nat.lt_of_lt_of_le hi h.size) (fun ht => hs (hT i hi ht))).trans (h.block i hi hs)⟩
theorem Chg.weak {S T : Nat → Prop} {a b : World} (h : Chg S a b) (hT : ∀ i, i < a.heap.size → S i → T i) : Chg T a b := (Chg.refl T a).more h hT
theorem Chg.of_below {S : Nat → Prop} {w w' : World} (h : Below w.heap.size w w') : Chg S w w' := ⟨h.os, h.tape, h.output, h.size, fun k hk _ => h.block k hk⟩
theorem Chg.below {S : Nat → Prop} {B : Nat} {w w' : World} (h : Chg S w w') (hB : B ≤ w.heap.size) (hS : ∀ i, i < w.heap.size → S i → B ≤ i) : Below B w w' :=
  ⟨h.os, h.tape, h.output, h.size, fun k hk => h.block k (by omega) (fun hs => by have := hS k (by omega) hs; omega)⟩
theorem Chg.drew {S : Nat → Prop} {a w : World} (h : Chg S a w) : Chg S a w.drew := ⟨h.os, h.tape, h.output, h.size, h.block⟩
theorem Chg.drewN {S : Nat → Prop} {a w : World} (h : Chg S a w) : ∀ n, Chg S a (w.drewN n)
  | n => ⟨h.os, h.tape, h.output, h.size, h.block⟩
theorem Chg.alloc {S : Nat → Prop} {a w : World} (h : Chg S a w) (o : Obj) : Chg S a (w.alloc o) :=
  ⟨h.os, h.tape, h.output, by have := h.size; simp; omega, fun k hk hs => (Below.heap_alloc _ _ _ (Nat.lt_of_lt_of_le hk h.size)).trans (h.block k hk hs)⟩
theorem Chg.setCell {S : Nat → Prop} {a w : World} (h : Chg S a w) (p : Addr) (hp : p.block < a.heap.size → S p.block) (v : Value) : Chg S a (w.setCell p v) :=
  ⟨h.os, h.tape, h.output, by simpa using h.size, fun k hk hs => (Below.heap_setCell _ _ _ _ (fun (e : k = p.block) => hs (by rw [e] at hk ⊢; exact hp hk))).trans (h.block k hk hs)⟩
theorem Chg.setRow {S : Nat → Prop} {a w : World} (h : Chg S a w) (g : Nat) (hp : g < a.heap.size → S g) (cs : Array Value) : Chg S a (w.setRow g cs) :=
  ⟨h.os, h.tape, h.output, by simpa [World.setRow] using h.size, fun k hk hs => (setRow_other _ _ _ _ (fun (e : k = g) => hs (by rw [e] at hk ⊢; exact hp hk))).trans (h.block k hk hs)⟩
theorem Chg.grown {S : Nat → Prop} {a w w' : World} {row : Option Nat} (h : Chg S a w) (g : w.grownBy w' row) (hr : ∀ k, row = some k → k < a.heap.size → S k) : Chg S a w' :=
  ⟨g.os.trans h.os, g.tape.trans h.tape, g.output.trans h.output, Nat.le_trans h.size g.size, fun k hk hs => (g.block k (Nat.lt_of_lt_of_le hk h.size) (fun e => hs (hr k e.symm hk))).trans (h.block k hk hs)⟩
end Go.Proofs.YtdgcjjledbnofaaDoor

/-
  Rows of whatever type that are read alone, in named blocks; an append that tells where the new row lies (cut out of Uc).
-/
namespace Go.Proofs.YtdgcjjledbnofaaDoor
set_option maxRecDepth 20000
open Go.RowKit Go.Maps
set_option linter.unusedVariables false
set_option linter.unusedSimpArgs false

section
variable {α : Type} {R : RowT α} {P : Program}
/-- A row that is read alone, in blocks of S. -/
def RedR (R : RowT α) (S : Nat → Prop) (w : World) (v : Value) (l : List α) : Prop :=
  ∃ a c, v = .slice a l.length c ∧ RowAt R w a l ∧ (a = none → l.length = 0 ∧ c = 0) ∧ l.length ≤ c ∧ c ≤ maxLen ∧ ∀ ad, 0 < l.length → a = some ad → S ad.block
/-- The blocks of S stay. -/
def StayB (S : Nat → Prop) (w u : World) : Prop := w.heap.size ≤ u.heap.size ∧ ∀ k, S k → k < w.heap.size → u.heap[k]? = w.heap[k]?
theorem StayB.of {S : Nat → Prop} {w u : World} (h : Below w.heap.size w u) : StayB S w u := ⟨h.size, fun k _ hk => h.block k hk⟩
theorem StayB.mono {S S' : Nat → Prop} {w u : World} (h : StayB S w u) (hs : ∀ k, S' k → S k) : StayB S' w u := ⟨h.1, fun k hk hl => h.2 k (hs k hk) hl⟩
theorem RedR.keep {S : Nat → Prop} {w u : World} {v : Value} {l : List α} (h : RedR R S w v l) (hk : StayB S w u) : RedR R S u v l := by
  obtain ⟨a, c, e, hr, hn, hc, hm, hs⟩ := h
  refine ⟨a, c, e, fun hp => ?_, hn, hc, hm, hs⟩
  obtain ⟨b, o, h1, h2, h3⟩ := hr hp
  have hb := hs _ hp h1
  refine ⟨b, o, h1, Nat.lt_of_lt_of_le h2 hk.1, fun k hk2 j x hx => ?_⟩
  rw [← h3 k hk2 j x hx]
  exact World.cell?_of_block (w := w) (a := ⟨b, o + k * R.size + j, none⟩) (hk.2 b hb h2)
theorem RedR.mono {S S' : Nat → Prop} {w : World} {v : Value} {l : List α} (h : RedR R S w v l) (hs : ∀ k, k < w.heap.size → S k → S' k) : RedR R S' w v l := by
  obtain ⟨a, c, e, hr, hn, hc, hm, h2⟩ := h
  refine ⟨a, c, e, hr, hn, hc, hm, fun ad hp ha => ?_⟩
  obtain ⟨b, o, h1, h3, _⟩ := hr hp
  rw [h1] at ha
  cases ha
  exact hs b h3 (h2 _ hp h1)
theorem RedR.below {S : Nat → Prop} {w u : World} {v : Value} {l : List α} (h : RedR R S w v l) (hb : Below w.heap.size w u) : RedR R S u v l := h.keep (StayB.of hb)
theorem RedR.nil {S : Nat → Prop} (w : World) : RedR R S w (.slice none 0 0) [] := ⟨none, 0, rfl, RowAt.nil w _, fun _ => ⟨rfl, rfl⟩, Nat.le_refl _, Nat.zero_le _, fun ad h => absurd h (Nat.lt_irrefl _)⟩
/-- What a call owns may be read. -/
theorem ownR_red (G : R.Good P) {B : Nat} {v : Value} {l : List α} {w : World} (h : OwnR R B v l w) (hok : ∀ x ∈ l, R.ok x) : RedR R (fun k => v.ownBlock = some k) w v l := by
  obtain ⟨a, c, e, hc, hm, hr, hn, hb⟩ := ownR_shape G h hok
  refine ⟨a, c, e, hr, hn, hc, hm, fun ad hp ha => ?_⟩
  obtain ⟨h1, h2, h3⟩ := hb ad ha
  obtain ⟨b, o, e2, _⟩ := hr.some hp
  rw [e, ha]
  rw [ha] at e2
  cases e2
  rfl
theorem ownR_lt {B : Nat} {v : Value} {l : List α} {w : World} (h : OwnR R B v l w) (k : Nat) (hk : v.ownBlock = some k) : B ≤ k ∧ k < w.heap.size := World.ownsRow.lt h k hk
/-- 'append(l, m...)', and where the new row lies. -/
theorem run_append_atR (G : R.Good P) {w : World} {B : Nat} {v : Value} {l m : List α} {ao : Option Addr} {n c : Nat} (hn : n = m.length) (hrow : RowAt R w ao m) (hok : ∀ x ∈ m, R.ok x) (hokl : ∀ x ∈ l, R.ok x) (hown : OwnR R B v l w) (hb : l.length + m.length ≤ 1000000000) (hB : B ≤ w.heap.size) (ty : TypeId) :
    ∃ v' w', (Builtin.append_ #[R.sl, R.sl] ty #[v, .slice ao n c]).run P w = .ok v' w' ∧ OwnR R B v' (l ++ m) w' ∧ w.grownBy w' v.ownBlock ∧ (v'.ownBlock = v.ownBlock ∨ v'.ownBlock = some w.heap.size) := by
  obtain ⟨ie, z, hie, hz, hsz, hby, hzs⟩ := G.info
  subst hn
  by_cases h0 : m = []
  · subst h0
    obtain ⟨av, cv, rfl, hle, -⟩ := ownR_shape G hown hokl
    refine ⟨_, w, run_append_nothing (P := P) w R.sl R.sl ty R.ty ie G.under hie av l.length cv hle (.slice ao 0 c) (by cases ao with | none => exact Src.ofNil w G.under c | some y => exact Src.ofSlice w G.under y 0 c [] (by simp) (fun j u hu => by simp at hu) (fun _ h => by cases h)), by rw [List.append_nil]; exact hown, ⟨rfl, rfl, rfl, Nat.le_refl _, fun _ _ _ => rfl⟩, .inl rfl⟩
  · have hp : 0 < m.length := List.length_pos_iff.2 h0
    obtain ⟨b, o', rfl, -⟩ := hrow.some hp
    obtain ⟨s1, s2⟩ := G.small
    obtain ⟨v', w', hr, h2, h3, h4, h5⟩ := run_append_own_at (P := P) w B R.sl ty R.ty ie z R.size R.bytes G.under hie hz hsz hby hzs G.pos v l.length (R.flat l) hown ⟨b, o', none⟩ m.length c (R.flat m) (rflat_len G m hok) (fun j u hj => hrow.cells G hok j u hj) (rflat_one G m hok) (by unfold maxLen; omega) (by
      have h1 : (l.length + m.length) * R.bytes ≤ 1000000000 * 1000 := Nat.mul_le_mul hb s2
      omega) hB
    refine ⟨v', w', hr, ?_, h3, h5⟩
    unfold OwnR
    rw [List.length_append, rflat_append]
    exact h2
theorem wpList_append_atR (G : R.Good P) {ops : Array Oper} {rest : List Oper} {o : Oper} {a : Act} {w : World} {Q : Exit → Act → World → Prop} (hgd : o.guard = none) (sl x : Operand)
    (ho : o.op = .call { callee := .builtin .append, args := #[sl, x], argTypes := #[R.sl, R.sl] }) (B : Nat) (v : Value) (l m : List α) (ao : Option Addr) (n c : Nat) (hs : a.eval sl = v) (hx : a.eval x = .slice ao n c)
    (hn : n = m.length) (hrow : RowAt R w ao m) (hok : ∀ x ∈ m, R.ok x) (hokl : ∀ x ∈ l, R.ok x) (hown : OwnR R B v l w) (hb : l.length + m.length ≤ 1000000000) (hB : B ≤ w.heap.size)
    (h : ∀ v' w', OwnR R B v' (l ++ m) w' → w.grownBy w' v.ownBlock → (v'.ownBlock = v.ownBlock ∨ v'.ownBlock = some w.heap.size) → wpList P ops Q rest (a.put o.dst v') w') : wpList P ops Q (o :: rest) a w := by
  obtain ⟨v', w', hr, h2, h3, h4⟩ := run_append_atR G (c := c) hn hrow hok hokl hown hb hB o.type
  refine wpList_plain hgd fun K hK => ?_
  unfold Oper.wp execOp
  simp only [ho, resolve, invoke, builtin, Sem.run_bind, Sem.run_pure, Result.andThen_ok, List.map_toArray, List.map_cons, List.map_nil, hs, hx, hr]
  exact hK _ _ (h v' w' h2 h3 h4)
theorem wp_append_atR (G : R.Good P) {o : Oper} {a : Act} {w : World} {K : Act → World → Prop} {Q : Exit → Act → World → Prop} (sl x : Operand)
    (ho : o.op = .call { callee := .builtin .append, args := #[sl, x], argTypes := #[R.sl, R.sl] }) (B : Nat) (v : Value) (l m : List α) (ao : Option Addr) (n c : Nat) (hs : a.eval sl = v) (hx : a.eval x = .slice ao n c)
    (hn : n = m.length) (hrow : RowAt R w ao m) (hok : ∀ x ∈ m, R.ok x) (hokl : ∀ x ∈ l, R.ok x) (hown : OwnR R B v l w) (hb : l.length + m.length ≤ 1000000000) (hB : B ≤ w.heap.size)
    (h : ∀ v' w', OwnR R B v' (l ++ m) w' → w.grownBy w' v.ownBlock → (v'.ownBlock = v.ownBlock ∨ v'.ownBlock = some w.heap.size) → K (a.put o.dst v') w') : o.wp P a w K Q := by
  obtain ⟨v', w', hr, h2, h3, h4⟩ := run_append_atR G (c := c) hn hrow hok hokl hown hb hB o.type
  unfold Oper.wp execOp
  simp only [ho, resolve, invoke, builtin, Sem.run_bind, Sem.run_pure, Result.andThen_ok, List.map_toArray, List.map_cons, List.map_nil, hs, hx, hr]
  exact h v' w' h2 h3 h4
/-- What a type's facts say, made into what a row wants. -/
theorem rgood_of {R : RowT α} (pos : 0 < R.size) (len : ∀ x, R.ok x → (R.cl x).length = R.size) (one : ∀ x, R.ok x → ∀ v ∈ R.cl x, v.oneCell' = true) (under : P.underlying R.sl = some (.slice R.ty))
    (info : (P.info? R.ty).map (fun i => (i.size, i.bytes, i.zero.map (fun z => z.cells.size))) = some (R.size, R.bytes, some R.size)) (small : R.size ≤ 1000 ∧ R.bytes ≤ 1000) : RowT.Good R P where
  pos := pos
  len := len
  one := one
  under := under
  small := small
  info := by
    cases hq : P.info? R.ty with
    | none => rw [hq] at info; cases info
    | some ie =>
      rw [hq] at info
      simp only [Option.map_some, Option.some.injEq, Prod.mk.injEq] at info
      obtain ⟨h1, h2, h3⟩ := info
      cases hz : ie.zero with
      | none => rw [hz] at h3; cases h3
      | some z =>
        rw [hz] at h3
        simp only [Option.map_some, Option.some.injEq] at h3
        exact ⟨ie, z, rfl, hz, h1, h2, h3⟩
end
end Go.Proofs.YtdgcjjledbnofaaDoor
