/-
  Texts that belong together, one behind the other.
-/
import Derived.Test.YtnohonjjfjppoaaGreatDoorFu02
import Derived.IntWalk
import Derived.WalkSmall
import Derived.OwnWalk
import Derived.Laws.OwnMore
import Derived.Deep.AppendSrc
import Derived.Deep.Upon
import Derived.Laws.AppendOwn
import Derived.Laws.Rows
import Derived.Laws.Tables
import Derived.Below
import Derived.Maps.AppendAt
/-
  Rows of bytes that a call has made itself.
-/
namespace Go.Proofs.YtnohonjjfjppoaaGreatDoor
open Go.RowKit
set_option linter.unusedVariables false
theorem info5 : (Tryz.prog.info? 5).map (fun i => (i.zero, i.size, i.bytes)) = some (some (.int .u8 0), 1, 1) := by kernel_rfl
theorem own_len {w : World} {base : Nat} {e : TypeId} {g n cap : Nat} {xs : List Value} (h : w.ownsRow base e 1 (.slice (some ⟨g, 0, none⟩) n cap) n xs) : xs.length = n := by simpa using h.1
theorem own_cell {w : World} {base : Nat} {e : TypeId} {g n cap : Nat} {xs : List Value} (h : w.ownsRow base e 1 (.slice (some ⟨g, 0, none⟩) n cap) n xs) (j : Nat) (hj : j < n) : ∃ y, w.cell? ⟨g, j, none⟩ = some y := by
  have hl := own_len h
  exact ⟨xs[j], by rw [h.cellAt j (by omega), List.getElem?_eq_getElem]⟩
theorem own_lt {w : World} {base : Nat} {e : TypeId} {g n cap : Nat} {xs : List Value} (h : w.ownsRow base e 1 (.slice (some ⟨g, 0, none⟩) n cap) n xs) : g < w.heap.size := by
  rcases h.2 with ⟨h', _⟩ | ⟨g', cap', cur, h', hb, hg, hnc, hcm, hcs, htake⟩
  · simp at h'
  · simp only [Value.slice.injEq, Option.some.injEq, Addr.mk.injEq, and_true, true_and] at h'
    obtain ⟨rfl, rfl⟩ := h'
    rcases Nat.lt_or_ge g w.heap.size with h' | h'
    · exact h'
    · simp [Array.getElem?_eq_none h'] at hg
theorem own_keep {w w' : World} {base : Nat} {e : TypeId} {g n cap : Nat} {xs : List Value} (h : w.ownsRow base e 1 (.slice (some ⟨g, 0, none⟩) n cap) n xs) (hb : Below w.heap.size w w') :
    w'.ownsRow base e 1 (.slice (some ⟨g, 0, none⟩) n cap) n xs := by
  have hlt := own_lt h
  refine ⟨h.1, ?_⟩
  rcases h.2 with ⟨h', _⟩ | ⟨g', cap', cur, h', hb', hg, r⟩
  · simp at h'
  · refine .inr ⟨g', cap', cur, h', hb', ?_, r⟩
    simp only [Value.slice.injEq, Option.some.injEq, Addr.mk.injEq, and_true, true_and] at h'
    obtain ⟨rfl, rfl⟩ := h'
    exact (hb.block g hlt).trans hg
/-- The bytes as cells. -/
theorem byteCells_at (l : List UInt8) (i : Nat) : (Lib.byteCells l)[i]? = (l[i]?).map fun c => Value.int .u8 c.toNat := by simp [Lib.byteCells]
end Go.Proofs.YtnohonjjfjppoaaGreatDoor

/-
  Which of the blocks that were there a call may have turned.
-/
namespace Go.Proofs.YtnohonjjfjppoaaGreatDoor
open Go.RowKit
set_option linter.unusedVariables false
/-- What a call may turn: the blocks that S names, of those that were there. -/
structure Chg (S : Nat → Prop) (w w' : World) : Prop where
  os : w'.os = w.os
  tape : w'.tape = w.tape
  output : w'.output = w.output
  size : w.heap.size ≤ w'.heap.size
  block : ∀ k, k < w.heap.size → ¬ S k → w'.heap[k]? = w.heap[k]?
theorem Chg.refl (S : Nat → Prop) (w : World) : Chg S w w := ⟨rfl, rfl, rfl, Nat.le_refl _, fun _ _ _ => rfl⟩
theorem Chg.trans {S : Nat → Prop} {a b c : World} (h : Chg S a b) (k : Chg S b c) : Chg S a c :=
  ⟨k.os.trans h.os, k.tape.trans h.tape, k.output.trans h.output, Nat.le_trans h.size k.size, fun i hi hs => (k.block i (Nat.lt_of_lt_of_le hi h.size) hs).trans (h.block i hi hs)⟩
/-- What is turned behind may also be new. -/
theorem Chg.more {S T : Nat → Prop} {a b c : World} (h : Chg S a b) (k : Chg T b c) (hT : ∀ i, i < a.heap.size → T i → S i) : Chg S a c :=
  ⟨k.os.trans h.os, k.tape.trans h.tape, k.output.trans h.output, Nat.le_trans h.size k.size, fun i hi hs => (k.block i (Nat.lt_of_lt_of_le hi h.size) (fun ht => hs (hT i hi ht))).trans (h.block i hi hs)⟩
theorem Chg.weak {S T : Nat → Prop} {a b : World} (h : Chg S a b) (hT : ∀ i, i < a.heap.size → S i → T i) : Chg T a b := (Chg.refl T a).more h hT
theorem Chg.of_below {S : Nat → Prop} {w w' : World} (h : Below w.heap.size w w') : Chg S w w' := ⟨h.os, h.tape, h.output, h.size, fun k hk _ => h.block k hk⟩
theorem Chg.below {S : Nat → Prop} {B : Nat} {w w' : World} (h : Chg S w w') (hB : B ≤ w.heap.size) (hS : ∀ i, i < w.heap.size → S i → B ≤ i) : Below B w w' :=
  ⟨h.os, h.tape, h.output, h.size, fun k hk => h.block k (by omega) (fun hs => by have := hS k (by omega) hs; omega)⟩
theorem Chg.drew {S : Nat → Prop} {a w : World} (h : Chg S a w) : Chg S a w.drew := ⟨h.os, h.tape, h.output, h.size, h.block⟩
theorem Chg.drewN {S : Nat → Prop} {a w : World} (h : Chg S a w) : ∀ n, Chg S a (w.drewN n)
  | n => ⟨h.os, h.tape, h.output, h.size, h.block⟩
theorem Chg.alloc {S : Nat → Prop} {a w : World} (h : Chg S a w) (o : Obj) : Chg S a (w.alloc o) :=
  ⟨h.os, h.tape, h.output, by have := h.size; simp; omega, fun k hk hs => (Below.heap_alloc _ _ _ (Nat.lt_of_lt_of_le hk h.size)).trans (h.block k hk hs)⟩
theorem Chg.setCell {S : Nat → Prop} {a w : World} (h : Chg S a w) (p : Addr) (hp : p.block < a.heap.size → S p.block) (v : Value) : Chg S a (w.setCell p v) :=
  ⟨h.os, h.tape, h.output, by simpa using h.size, fun k hk hs => (Below.heap_setCell _ _ _ _ (fun (e : k = p.block) => hs (by rw [e] at hk ⊢; exact hp hk))).trans (h.block k hk hs)⟩
theorem Chg.setRow {S : Nat → Prop} {a w : World} (h : Chg S a w) (g : Nat) (hp : g < a.heap.size → S g) (cs : Array Value) : Chg S a (w.setRow g cs) :=
  ⟨h.os, h.tape, h.output, by simpa [World.setRow] using h.size, fun k hk hs => (setRow_other _ _ _ _ (fun (e : k = g) => hs (by rw [e] at hk ⊢; exact hp hk))).trans (h.block k hk hs)⟩
theorem Chg.grown {S : Nat → Prop} {a w w' : World} {row : Option Nat} (h : Chg S a w) (g : w.grownBy w' row) (hr : ∀ k, row = some k → k < a.heap.size → S k) : Chg S a w' :=
  ⟨g.os.trans h.os, g.tape.trans h.tape, g.output.trans h.output, Nat.le_trans h.size g.size, fun k hk hs => (g.block k (Nat.lt_of_lt_of_le hk h.size) (fun e => hs (hr k e.symm hk))).trans (h.block k hk hs)⟩
end Go.Proofs.YtnohonjjfjppoaaGreatDoor

/-
  Rows of whatever type that are read alone, in named blocks; an append that tells where the new row lies (cut out of Uc).
-/
namespace Go.Proofs.YtnohonjjfjppoaaGreatDoor
set_option maxRecDepth 20000
open Go.RowKit Go.Maps
set_option linter.unusedVariables false
set_option linter.unusedSimpArgs false
section
variable {α : Type} {R : RowT α} {P : Program}
/-- A row that is read alone, in blocks of S. -/
def RedR (R : RowT α) (S : Nat → Prop) (w : World) (v : Value) (l : List α) : Prop :=
  ∃ a c, v = .slice a l.length c ∧ RowAt R w a l ∧ (a = none → l.length = 0 ∧ c = 0) ∧ l.length ≤ c ∧ c ≤ maxLen ∧ ∀ ad, 0 < l.length → a = some ad → S ad.block
/-- The blocks of S stay. -/
def StayB (S : Nat → Prop) (w u : World) : Prop := w.heap.size ≤ u.heap.size ∧ ∀ k, S k → k < w.heap.size → u.heap[k]? = w.heap[k]?
theorem StayB.of {S : Nat → Prop} {w u : World} (h : Below w.heap.size w u) : StayB S w u := ⟨h.size, fun k _ hk => h.block k hk⟩
theorem StayB.mono {S S' : Nat → Prop} {w u : World} (h : StayB S w u) (hs : ∀ k, S' k → S k) : StayB S' w u := ⟨h.1, fun k hk hl => h.2 k (hs k hk) hl⟩
theorem RedR.keep {S : Nat → Prop} {w u : World} {v : Value} {l : List α} (h : RedR R S w v l) (hk : StayB S w u) : RedR R S u v l := by
  obtain ⟨a, c, e, hr, hn, hc, hm, hs⟩ := h
  refine ⟨a, c, e, fun hp => ?_, hn, hc, hm, hs⟩
  obtain ⟨b, o, h1, h2, h3⟩ := hr hp
  have hb := hs _ hp h1
  refine ⟨b, o, h1, Nat.lt_of_lt_of_le h2 hk.1, fun k hk2 j x hx => ?_⟩
  rw [← h3 k hk2 j x hx]
  exact World.cell?_of_block (w := w) (a := ⟨b, o + k * R.size + j, none⟩) (hk.2 b hb h2)
theorem RedR.mono {S S' : Nat → Prop} {w : World} {v : Value} {l : List α} (h : RedR R S w v l) (hs : ∀ k, k < w.heap.size → S k → S' k) : RedR R S' w v l := by
  obtain ⟨a, c, e, hr, hn, hc, hm, h2⟩ := h
  refine ⟨a, c, e, hr, hn, hc, hm, fun ad hp ha => ?_⟩
  obtain ⟨b, o, h1, h3, _⟩ := hr hp
  rw [h1] at ha
  cases ha
  exact hs b h3 (h2 _ hp h1)
theorem RedR.below {S : Nat → Prop} {w u : World} {v : Value} {l : List α} (h : RedR R S w v l) (hb : Below w.heap.size w u) : RedR R S u v l := h.keep (StayB.of hb)
theorem RedR.nil {S : Nat → Prop} (w : World) : RedR R S w (.slice none 0 0) [] := ⟨none, 0, rfl, RowAt.nil w _, fun _ => ⟨rfl, rfl⟩, Nat.le_refl _, Nat.zero_le _, fun ad h => absurd h (Nat.lt_irrefl _)⟩
theorem ownR_lt {B : Nat} {v : Value} {l : List α} {w : World} (h : OwnR R B v l w) (k : Nat) (hk : v.ownBlock = some k) : B ≤ k ∧ k < w.heap.size := World.ownsRow.lt h k hk
/-- 'append(l, m...)', and where the new row lies. -/
theorem run_append_atR (G : R.Good P) {w : World} {B : Nat} {v : Value} {l m : List α} {ao : Option Addr} {n c : Nat} (hn : n = m.length) (hrow : RowAt R w ao m) (hok : ∀ x ∈ m, R.ok x) (hokl : ∀ x ∈ l, R.ok x) (hown : OwnR R B v l w) (hb : l.length + m.length ≤ 1000000000) (hB : B ≤ w.heap.size) (ty : TypeId) :
    ∃ v' w', (Builtin.append_ #[R.sl, R.sl] ty #[v, .slice ao n c]).run P w = .ok v' w' ∧ OwnR R B v' (l ++ m) w' ∧ w.grownBy w' v.ownBlock ∧ (v'.ownBlock = v.ownBlock ∨ v'.ownBlock = some w.heap.size) := by
  obtain ⟨ie, z, hie, hz, hsz, hby, hzs⟩ := G.info
  subst hn
  by_cases h0 : m = []
  · subst h0
    obtain ⟨av, cv, rfl, hle, -⟩ := ownR_shape G hown hokl
    refine ⟨_, w, run_append_nothing (P := P) w R.sl R.sl ty R.ty ie G.under hie av l.length cv hle (.slice ao 0 c) (by cases ao with | none => exact Src.ofNil w G.under c | some y => exact Src.ofSlice w G.under y 0 c [] (by simp) (fun j u hu => by simp at hu) (fun _ h => by cases h)), by rw [List.append_nil]; exact hown, ⟨rfl, rfl, rfl, Nat.le_refl _, fun _ _ _ => rfl⟩, .inl rfl⟩
  · have hp : 0 < m.length := List.length_pos_iff.2 h0
    obtain ⟨b, o', rfl, -⟩ := hrow.some hp
    obtain ⟨s1, s2⟩ := G.small
    obtain ⟨v', w', hr, h2, h3, h4, h5⟩ := run_append_own_at (P := P) w B R.sl ty R.ty ie z R.size R.bytes G.under hie hz hsz hby hzs G.pos v l.length (R.flat l) hown ⟨b, o', none⟩ m.length c (R.flat m) (rflat_len G m hok) (fun j u hj => hrow.cells G hok j u hj) (rflat_one G m hok) (by unfold maxLen; omega) (by
      have h1 : (l.length + m.length) * R.bytes ≤ 1000000000 * 1000 := Nat.mul_le_mul hb s2
      omega) hB
    refine ⟨v', w', hr, ?_, h3, h5⟩
    unfold OwnR
    rw [List.length_append, rflat_append]
    exact h2
theorem wpList_append_atR (G : R.Good P) {ops : Array Oper} {rest : List Oper} {o : Oper} {a : Act} {w : World} {Q : Exit → Act → World → Prop} (hgd : o.guard = none) (sl x : Operand)
    (ho : o.op = .call { callee := .builtin .append, args := #[sl, x], argTypes := #[R.sl, R.sl] }) (B : Nat) (v : Value) (l m : List α) (ao : Option Addr) (n c : Nat) (hs : a.eval sl = v) (hx : a.eval x = .slice ao n c)
    (hn : n = m.length) (hrow : RowAt R w ao m) (hok : ∀ x ∈ m, R.ok x) (hokl : ∀ x ∈ l, R.ok x) (hown : OwnR R B v l w) (hb : l.length + m.length ≤ 1000000000) (hB : B ≤ w.heap.size)
    (h : ∀ v' w', OwnR R B v' (l ++ m) w' → w.grownBy w' v.ownBlock → (v'.ownBlock = v.ownBlock ∨ v'.ownBlock = some w.heap.size) → wpList P ops Q rest (a.put o.dst v') w') : wpList P ops Q (o :: rest) a w := by
  obtain ⟨v', w', hr, h2, h3, h4⟩ := run_append_atR G (c := c) hn hrow hok hokl hown hb hB o.type
  refine wpList_plain hgd fun K hK => ?_
  unfold Oper.wp execOp
  simp only [ho, resolve, invoke, builtin, Sem.run_bind, Sem.run_pure, Result.andThen_ok, List.map_toArray, List.map_cons, List.map_nil, hs, hx, hr]
  exact hK _ _ (h v' w' h2 h3 h4)
theorem wp_append_atR (G : R.Good P) {o : Oper} {a : Act} {w : World} {K : Act → World → Prop} {Q : Exit → Act → World → Prop} (sl x : Operand)
    (ho : o.op = .call { callee := .builtin .append, args := #[sl, x], argTypes := #[R.sl, R.sl] }) (B : Nat) (v : Value) (l m : List α) (ao : Option Addr) (n c : Nat) (hs : a.eval sl = v) (hx : a.eval x = .slice ao n c)
    (hn : n = m.length) (hrow : RowAt R w ao m) (hok : ∀ x ∈ m, R.ok x) (hokl : ∀ x ∈ l, R.ok x) (hown : OwnR R B v l w) (hb : l.length + m.length ≤ 1000000000) (hB : B ≤ w.heap.size)
    (h : ∀ v' w', OwnR R B v' (l ++ m) w' → w.grownBy w' v.ownBlock → (v'.ownBlock = v.ownBlock ∨ v'.ownBlock = some w.heap.size) → K (a.put o.dst v') w') : o.wp P a w K Q := by
  obtain ⟨v', w', hr, h2, h3, h4⟩ := run_append_atR G (c := c) hn hrow hok hokl hown hb hB o.type
  unfold Oper.wp execOp
  simp only [ho, resolve, invoke, builtin, Sem.run_bind, Sem.run_pure, Result.andThen_ok, List.map_toArray, List.map_cons, List.map_nil, hs, hx, hr]
  exact h v' w' h2 h3 h4
/-- What a type's facts say, made into what a row wants. -/
theorem rgood_of {R : RowT α} (pos : 0 < R.size) (len : ∀ x, R.ok x → (R.cl x).length = R.size) (one : ∀ x, R.ok x → ∀ v ∈ R.cl x, v.oneCell' = true) (under : P.underlying R.sl = some (.slice R.ty))
    (info : (P.info? R.ty).map (fun i => (i.size, i.bytes, i.zero.map (fun z => z.cells.size))) = some (R.size, R.bytes, some R.size)) (small : R.size ≤ 1000 ∧ R.bytes ≤ 1000) : RowT.Good R P where
  pos := pos
  len := len
  one := one
  under := under
  small := small
  info := by
    cases hq : P.info? R.ty with
    | none => rw [hq] at info; cases info
    | some ie =>
      rw [hq] at info
      simp only [Option.map_some, Option.some.injEq, Prod.mk.injEq] at info
      obtain ⟨h1, h2, h3⟩ := info
      cases hz : ie.zero with
      | none => rw [hz] at h3; cases h3
      | some z =>
        rw [hz] at h3
        simp only [Option.map_some, Option.some.injEq] at h3
        exact ⟨ie, z, rfl, hz, h1, h2, h3⟩
end
end Go.Proofs.YtnohonjjfjppoaaGreatDoor

/-
  The id of twenty zeros.
-/
namespace Go.Proofs.YtnohonjjfjppoaaGreatDoor
def idZ : List UInt8 := List.replicate 20 0
end Go.Proofs.YtnohonjjfjppoaaGreatDoor
