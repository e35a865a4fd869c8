/-
  Texts that belong together, one behind the other.
-/
import Derived.Test.YtgbmbemmkadagaaFu06
import Derived.Test.YtgbmbemmkadagaaFu07
import Derived.Maps.AppendAt
import Derived.Test.YtgbmbemmkadagaaFu04
import Derived.Great.BuildSlice
import Derived.Great.FillDense
/-
  Rows of whatever type that are read alone, in named blocks; an append that tells where the new row lies (cut out of Uc).
-/
namespace Go.Proofs.Ytgbmbemmkadagaa
set_option maxRecDepth 20000
open Go.RowKit Go.Maps
set_option linter.unusedVariables false
set_option linter.unusedSimpArgs false

section
variable {α : Type} {R : RowT α} {P : Program}
/-- A row that is read alone, in blocks of S. -/
def RedR (R : RowT α) (S : Nat → Prop) (w : World) (v : Value) (l : List α) : Prop :=
  ∃ a c, v = .slice a l.length c ∧ RowAt R w a l ∧ (a = none → l.length = 0 ∧ c = 0) ∧ l.length ≤ c ∧ c ≤ maxLen ∧ ∀ ad, 0 < l.length → a = some ad → S ad.block
/-- The blocks of S stay. -/
def StayB (S : Nat → Prop) (w u : World) : Prop := w.heap.size ≤ u.heap.size ∧ ∀ k, S k → k < w.heap.size → u.heap[k]? = w.heap[k]?
theorem StayB.of {S : Nat → Prop} {w u : World} (h : Below w.heap.size w u) : StayB S w u := ⟨h.size, fun k _ hk => h.block k hk⟩
theorem StayB.mono {S S' : Nat → Prop} {w u : World} (h : StayB S w u) (hs : ∀ k, S' k → S k) : StayB S' w u := ⟨h.1, fun k hk hl => h.2 k (hs k hk) hl⟩
theorem RedR.keep {S : Nat → Prop} {w u : World} {v : Value} {l : List α} (h : RedR R S w v l) (hk : StayB S w u) : RedR R S u v l := by
  obtain ⟨a, c, e, hr, hn, hc, hm, hs⟩ := h
  refine ⟨a, c, e, fun hp => ?_, hn, hc, hm, hs⟩
  obtain ⟨b, o, h1, h2, h3⟩ := hr hp
  have hb := hs _ hp h1
  refine ⟨b, o, h1, Nat.lt_of_lt_of_le h2 hk.1, fun k hk2 j x hx => ?_⟩
  rw [← h3 k hk2 j x hx]
  exact World.cell?_of_block (w := w) (a := ⟨b, o + k * R.size + j, none⟩) (hk.2 b hb h2)
theorem RedR.mono {S S' : Nat → Prop} {w : World} {v : Value} {l : List α} (h : RedR R S w v l) (hs : ∀ k, k < w.heap.size → S k → S' k) : RedR R S' w v l := by
  obtain ⟨a, c, e, hr, hn, hc, hm, h2⟩ := h
  refine ⟨a, c, e, hr, hn, hc, hm, fun ad hp ha => ?_⟩
  obtain ⟨b, o, h1, h3, _⟩ := hr hp
  rw [h1] at ha
  cases ha
  exact hs b h3 (h2 _ hp h1)
theorem RedR.below {S : Nat → Prop} {w u : World} {v : Value} {l : List α} (h : RedR R S w v l) (hb : Below w.heap.size w u) : RedR R S u v l := h.keep (StayB.of hb)
theorem RedR.nil {S : Nat → Prop} (w : World) : RedR R S w (.slice none 0 0) [] := ⟨none, 0, rfl, RowAt.nil w _, fun _ => ⟨rfl, rfl⟩, Nat.le_refl _, Nat.zero_le _, fun ad h => absurd h (Nat.lt_irrefl _)⟩
/-- What a call owns may be read. -/
theorem ownR_red (G : R.Good P) {B : Nat} {v : Value} {l : List α} {w : World} (h : OwnR R B v l w) (hok : ∀ x ∈ l, R.ok x) : RedR R (fun k => v.ownBlock = some k) w v l := by
  obtain ⟨a, c, e, hc, hm, hr, hn, hb⟩ := ownR_shape G h hok
  refine ⟨a, c, e, hr, hn, hc, hm, fun ad hp ha => ?_⟩
  obtain ⟨h1, h2, h3⟩ := hb ad ha
  obtain ⟨b, o, e2, _⟩ := hr.some hp
  rw [e, ha]
  rw [ha] at e2
  cases e2
  rfl
theorem ownR_lt {B : Nat} {v : Value} {l : List α} {w : World} (h : OwnR R B v l w) (k : Nat) (hk : v.ownBlock = some k) : B ≤ k ∧ k < w.heap.size := World.ownsRow.lt h k hk
/-- 'append(l, m...)', and where the new row lies. -/
theorem run_append_atR (G : R.Good P) {w : World} {B : Nat} {v : Value} {l m : List α} {ao : Option Addr} {n c : Nat} (hn : n = m.length) (hrow : RowAt R w ao m) (hok : ∀ x ∈ m, R.ok x) (hokl : ∀ x ∈ l, R.ok x) (hown : OwnR R B v l w) (hb : l.length + m.length ≤ 1000000000) (hB : B ≤ w.heap.size) (ty : TypeId) :
    ∃ v' w', (Builtin.append_ #[R.sl, R.sl] ty #[v, .slice ao n c]).run P w = .ok v' w' ∧ OwnR R B v' (l ++ m) w' ∧ w.grownBy w' v.ownBlock ∧ (v'.ownBlock = v.ownBlock ∨ v'.ownBlock = some w.heap.size) := by
  obtain ⟨ie, z, hie, hz, hsz, hby, hzs⟩ := G.info
  subst hn
  by_cases h0 : m = []
  · subst h0
    obtain ⟨av, cv, rfl, hle, -⟩ := ownR_shape G hown hokl
    refine ⟨_, w, run_append_nothing (P := P) w R.sl R.sl ty R.ty ie G.under hie av l.length cv hle (.slice ao 0 c) (by cases ao with | none => exact Src.ofNil w G.under c | some y => exact Src.ofSlice w G.under y 0 c [] (by simp) (fun j u hu => by simp at hu) (fun _ h => by cases h)), by rw [List.append_nil]; exact hown, ⟨rfl, rfl, rfl, Nat.le_refl _, fun _ _ _ => rfl⟩, .inl rfl⟩
  · have hp : 0 < m.length := List.length_pos_iff.2 h0
    obtain ⟨b, o', rfl, -⟩ := hrow.some hp
    obtain ⟨s1, s2⟩ := G.small
    obtain ⟨v', w', hr, h2, h3, h4, h5⟩ := run_append_own_at (P := P) w B R.sl ty R.ty ie z R.size R.bytes G.under hie hz hsz hby hzs G.pos v l.length (R.flat l) hown ⟨b, o', none⟩ m.length c (R.flat m) (rflat_len G m hok) (fun j u hj => hrow.cells G hok j u hj) (rflat_one G m hok) (by unfold maxLen; omega) (by
      have h1 : (l.length + m.length) * R.bytes ≤ 1000000000 * 1000 := Nat.mul_le_mul hb s2
      omega) hB
    refine ⟨v', w', hr, ?_, h3, h5⟩
    unfold OwnR
    rw [List.length_append, rflat_append]
    exact h2
theorem wpList_append_atR (G : R.Good P) {ops : Array Oper} {rest : List Oper} {o : Oper} {a : Act} {w : World} {Q : Exit → Act → World → Prop} (hgd : o.guard = none) (sl x : Operand)
    (ho : o.op = .call { callee := .builtin .append, args := #[sl, x], argTypes := #[R.sl, R.sl] }) (B : Nat) (v : Value) (l m : List α) (ao : Option Addr) (n c : Nat) (hs : a.eval sl = v) (hx : a.eval x = .slice ao n c)
    (hn : n = m.length) (hrow : RowAt R w ao m) (hok : ∀ x ∈ m, R.ok x) (hokl : ∀ x ∈ l, R.ok x) (hown : OwnR R B v l w) (hb : l.length + m.length ≤ 1000000000) (hB : B ≤ w.heap.size)
    (h : ∀ v' w', OwnR R B v' (l ++ m) w' → w.grownBy w' v.ownBlock → (v'.ownBlock = v.ownBlock ∨ v'.ownBlock = some w.heap.size) → wpList P ops Q rest (a.put o.dst v') w') : wpList P ops Q (o :: rest) a w := by
  obtain ⟨v', w', hr, h2, h3, h4⟩ := run_append_atR G (c := c) hn hrow hok hokl hown hb hB o.type
  refine wpList_plain hgd fun K hK => ?_
  unfold Oper.wp execOp
  simp only [ho, resolve, invoke, builtin, Sem.run_bind, Sem.run_pure, Result.andThen_ok, List.map_toArray, List.map_cons, List.map_nil, hs, hx, hr]
  exact hK _ _ (h v' w' h2 h3 h4)
theorem wp_append_atR (G : R.Good P) {o : Oper} {a : Act} {w : World} {K : Act → World → Prop} {Q : Exit → Act → World → Prop} (sl x : Operand)
    (ho : o.op = .call { callee := .builtin .append, args := #[sl, x], argTypes := #[R.sl, R.sl] }) (B : Nat) (v : Value) (l m : List α) (ao : Option Addr) (n c : Nat) (hs : a.eval sl = v) (hx : a.eval x = .slice ao n c)
    (hn : n = m.length) (hrow : RowAt R w ao m) (hok : ∀ x ∈ m, R.ok x) (hokl : ∀ x ∈ l, R.ok x) (hown : OwnR R B v l w) (hb : l.length + m.length ≤ 1000000000) (hB : B ≤ w.heap.size)
    (h : ∀ v' w', OwnR R B v' (l ++ m) w' → w.grownBy w' v.ownBlock → (v'.ownBlock = v.ownBlock ∨ v'.ownBlock = some w.heap.size) → K (a.put o.dst v') w') : o.wp P a w K Q := by
  obtain ⟨v', w', hr, h2, h3, h4⟩ := run_append_atR G (c := c) hn hrow hok hokl hown hb hB o.type
  unfold Oper.wp execOp
  simp only [ho, resolve, invoke, builtin, Sem.run_bind, Sem.run_pure, Result.andThen_ok, List.map_toArray, List.map_cons, List.map_nil, hs, hx, hr]
  exact h v' w' h2 h3 h4
/-- What a type's facts say, made into what a row wants. -/
theorem rgood_of {R : RowT α} (pos : 0 < R.size) (len : ∀ x, R.ok x → (R.cl x).length = R.size) (one : ∀ x, R.ok x → ∀ v ∈ R.cl x, v.oneCell' = true) (under : P.underlying R.sl = some (.slice R.ty))
    (info : (P.info? R.ty).map (fun i => (i.size, i.bytes, i.zero.map (fun z => z.cells.size))) = some (R.size, R.bytes, some R.size)) (small : R.size ≤ 1000 ∧ R.bytes ≤ 1000) : RowT.Good R P where
  pos := pos
  len := len
  one := one
  under := under
  small := small
  info := by
    cases hq : P.info? R.ty with
    | none => rw [hq] at info; cases info
    | some ie =>
      rw [hq] at info
      simp only [Option.map_some, Option.some.injEq, Prod.mk.injEq] at info
      obtain ⟨h1, h2, h3⟩ := info
      cases hz : ie.zero with
      | none => rw [hz] at h3; cases h3
      | some z =>
        rw [hz] at h3
        simp only [Option.map_some, Option.some.injEq] at h3
        exact ⟨ie, z, rfl, hz, h1, h2, h3⟩
end
end Go.Proofs.Ytgbmbemmkadagaa

/-
  A literal of one element of a row (cut out of Uh).
-/
namespace Go.Proofs.Ytgbmbemmkadagaa
set_option maxRecDepth 20000
open Go.RowKit
set_option linter.unusedVariables false
set_option linter.unusedSimpArgs false

section
variable {α : Type} {R : RowT α} {P : Program}
theorem build_fill {n : Nat} (hn : 0 < n) (A : Array Value) (hA : A.size = n) (z : Array Value) : Instr.fill (fun i => some (i * n, n)) ((Array.range (1 * n)).map (z[· % z.size]!)) [(0, .agg A)] = some A := by
  have h := Great.fill_whole (s := n) hn [.agg A] ((Array.range (1 * n)).map (z[· % z.size]!)) (fun v hv => by simp at hv; subst hv; exact hA) (by simp)
  simpa [Value.cells] using h
theorem wp_build_oneR (G : R.Good P) {o : Oper} {a : Act} {w : World} {K : Act → World → Prop} {Q : Exit → Act → World → Prop} (x : Operand) (ho : o.op = .buildSlice R.sl 1 #[(0, x)])
    (A : Array Value) (hA : A.size = R.size) (hx : a.eval x = .agg A)
    (h : K (a.put o.dst (.slice (some ⟨w.heap.size, 0, none⟩) 1 1)) (w.alloc (.cells A R.ty))) : o.wp P a w K Q := by
  obtain ⟨ie, z, hie, hz, hs, _, hzs⟩ := G.info
  have h1 := G.small.1
  have h2 := G.pos
  refine wp_buildSlice R.sl R.ty 1 _ ho A ie z G.under hie hz (by rw [hs]; omega) (by rw [hs]; omega) ?_ h
  rw [hs]
  have e : (Array.map (fun (p : Nat × Operand) => (p.1, a.eval p.2)) #[(0, x)]).toList = [(0, .agg A)] := by simp [hx]
  rw [show (fun (p : Nat × Operand) => match p with | (i, x) => (i, a.eval x)) = (fun (p : Nat × Operand) => (p.1, a.eval p.2)) from rfl, e]
  exact build_fill h2 A hA _
theorem wpList_build_oneR (G : R.Good P) {ops : Array Oper} {rest : List Oper} {o : Oper} {a : Act} {w : World} {Q : Exit → Act → World → Prop} (hgd : o.guard = none) (x : Operand) (ho : o.op = .buildSlice R.sl 1 #[(0, x)])
    (A : Array Value) (hA : A.size = R.size) (hx : a.eval x = .agg A)
    (h : wpList P ops Q rest (a.put o.dst (.slice (some ⟨w.heap.size, 0, none⟩) 1 1)) (w.alloc (.cells A R.ty))) : wpList P ops Q (o :: rest) a w :=
  wpList_plain hgd fun K hK => wp_build_oneR G x ho A hA hx (hK _ _ h)
theorem rowR_one (G : R.Good P) {w : World} {q : Nat} {x : α} {t : TypeId} {fr : Nat × Nat} (h : w.heap[q]? = some (.cells (R.cl x).toArray t fr)) : RowAt R w (some ⟨q, 0, none⟩) [x] := fun _ =>
  ⟨q, 0, rfl, lt_of_heap h, fun k hk j v hv => by
    obtain rfl : k = 0 := by simpa using hk
    simp only [Nat.zero_mul, Nat.zero_add]
    rw [Lib.cell_of_heap h, ← hv]
    show (R.cl x).toArray[j]? = (R.cl x)[j]?
    simp⟩
/-- An operation that has no guard is carried out. -/
theorem stepW {o : Oper} {ops : Array Oper} {a : Act} {w : World} {K : Act → World → Prop} {Q : Exit → Act → World → Prop} (hg : o.guard = none) (h : o.wp P a w K Q) : if Region.wanted o (yielded ops a.tmps) = true then o.wp P a w K Q else K (a.put o.dst undef) w := by
  rw [if_pos]
  · exact h
  · unfold Region.wanted; rw [hg]
end
end Go.Proofs.Ytgbmbemmkadagaa
