/-
  Layer 12: rows that are read alone, in named blocks; an append that tells where the new row lies; a graph of the program, and one of the document, in their blocks.
-/
import Derived.Test.YtajmgjhknmkfpaaUb
import Derived.Test.YtajmgjhknmkfpaaEa
import Derived.Test.YtajmgjhknmkfpaaXb
import Derived.Test.YtajmgjhknmkfpaaGr
import Derived.Test.YtajmgjhknmkfpaaCh
import Derived.Maps.AppendAt
namespace Go.Proofs.Ytajmgjhknmkfpaa
set_option maxRecDepth 20000
open Go.RowKit Go.Maps
set_option linter.unusedVariables false
set_option linter.unusedSimpArgs false

section
variable {α : Type} {R : RowT α} {P : Program}
/-- A row that is read alone, in blocks of S. -/
def RedR (R : RowT α) (S : Nat → Prop) (w : World) (v : Value) (l : List α) : Prop :=
  ∃ a c, v = .slice a l.length c ∧ RowAt R w a l ∧ (a = none → l.length = 0 ∧ c = 0) ∧ l.length ≤ c ∧ c ≤ maxLen ∧ ∀ ad, 0 < l.length → a = some ad → S ad.block
/-- The blocks of S stay. -/
def StayB (S : Nat → Prop) (w u : World) : Prop := w.heap.size ≤ u.heap.size ∧ ∀ k, S k → k < w.heap.size → u.heap[k]? = w.heap[k]?
theorem StayB.of {S : Nat → Prop} {w u : World} (h : Below w.heap.size w u) : StayB S w u := ⟨h.size, fun k _ hk => h.block k hk⟩
theorem StayB.mono {S S' : Nat → Prop} {w u : World} (h : StayB S w u) (hs : ∀ k, S' k → S k) : StayB S' w u := ⟨h.1, fun k hk hl => h.2 k (hs k hk) hl⟩
theorem RedR.keep {S : Nat → Prop} {w u : World} {v : Value} {l : List α} (h : RedR R S w v l) (hk : StayB S w u) : RedR R S u v l := by
  obtain ⟨a, c, e, hr, hn, hc, hm, hs⟩ := h
  refine ⟨a, c, e, fun hp => ?_, hn, hc, hm, hs⟩
  obtain ⟨b, o, h1, h2, h3⟩ := hr hp
  have hb := hs _ hp h1
  refine ⟨b, o, h1, Nat.lt_of_lt_of_le h2 hk.1, fun k hk2 j x hx => ?_⟩
  rw [← h3 k hk2 j x hx]
  exact World.cell?_of_block (w := w) (a := ⟨b, o + k * R.size + j, none⟩) (hk.2 b hb h2)
theorem RedR.mono {S S' : Nat → Prop} {w : World} {v : Value} {l : List α} (h : RedR R S w v l) (hs : ∀ k, k < w.heap.size → S k → S' k) : RedR R S' w v l := by
  obtain ⟨a, c, e, hr, hn, hc, hm, h2⟩ := h
  refine ⟨a, c, e, hr, hn, hc, hm, fun ad hp ha => ?_⟩
  obtain ⟨b, o, h1, h3, _⟩ := hr hp
  rw [h1] at ha
  cases ha
  exact hs b h3 (h2 _ hp h1)
theorem RedR.below {S : Nat → Prop} {w u : World} {v : Value} {l : List α} (h : RedR R S w v l) (hb : Below w.heap.size w u) : RedR R S u v l := h.keep (StayB.of hb)
theorem RedR.nil {S : Nat → Prop} (w : World) : RedR R S w (.slice none 0 0) [] := ⟨none, 0, rfl, RowAt.nil w _, fun _ => ⟨rfl, rfl⟩, Nat.le_refl _, Nat.zero_le _, fun ad h => absurd h (Nat.lt_irrefl _)⟩
/-- What a call owns may be read. -/
theorem ownR_red (G : R.Good P) {B : Nat} {v : Value} {l : List α} {w : World} (h : OwnR R B v l w) (hok : ∀ x ∈ l, R.ok x) : RedR R (fun k => v.ownBlock = some k) w v l := by
  obtain ⟨a, c, e, hc, hm, hr, hn, hb⟩ := ownR_shape G h hok
  refine ⟨a, c, e, hr, hn, hc, hm, fun ad hp ha => ?_⟩
  obtain ⟨h1, h2, h3⟩ := hb ad ha
  obtain ⟨b, o, e2, _⟩ := hr.some hp
  rw [e, ha]
  rw [ha] at e2
  cases e2
  rfl
theorem ownR_lt {B : Nat} {v : Value} {l : List α} {w : World} (h : OwnR R B v l w) (k : Nat) (hk : v.ownBlock = some k) : B ≤ k ∧ k < w.heap.size := World.ownsRow.lt h k hk
/-- 'append(l, m...)', and where the new row lies. -/
theorem run_append_atR (G : R.Good P) {w : World} {B : Nat} {v : Value} {l m : List α} {ao : Option Addr} {n c : Nat} (hn : n = m.length) (hrow : RowAt R w ao m) (hok : ∀ x ∈ m, R.ok x) (hokl : ∀ x ∈ l, R.ok x) (hown : OwnR R B v l w) (hb : l.length + m.length ≤ 1000000000) (hB : B ≤ w.heap.size) (ty : TypeId) :
    ∃ v' w', (Builtin.append_ #[R.sl, R.sl] ty #[v, .slice ao n c]).run P w = .ok v' w' ∧ OwnR R B v' (l ++ m) w' ∧ w.grownBy w' v.ownBlock ∧ (v'.ownBlock = v.ownBlock ∨ v'.ownBlock = some w.heap.size) := by
  obtain ⟨ie, z, hie, hz, hsz, hby, hzs⟩ := G.info
  subst hn
  by_cases h0 : m = []
  · subst h0
    obtain ⟨av, cv, rfl, hle, -⟩ := ownR_shape G hown hokl
    refine ⟨_, w, run_append_nothing (P := P) w R.sl R.sl ty R.ty ie G.under hie av l.length cv hle (.slice ao 0 c) (by cases ao with | none => exact Src.ofNil w G.under c | some y => exact Src.ofSlice w G.under y 0 c [] (by simp) (fun j u hu => by simp at hu) (fun _ h => by cases h)), by rw [List.append_nil]; exact hown, ⟨rfl, rfl, rfl, Nat.le_refl _, fun _ _ _ => rfl⟩, .inl rfl⟩
  · have hp : 0 < m.length := List.length_pos_iff.2 h0
    obtain ⟨b, o', rfl, -⟩ := hrow.some hp
    obtain ⟨s1, s2⟩ := G.small
    obtain ⟨v', w', hr, h2, h3, h4, h5⟩ := run_append_own_at (P := P) w B R.sl ty R.ty ie z R.size R.bytes G.under hie hz hsz hby hzs G.pos v l.length (R.flat l) hown ⟨b, o', none⟩ m.length c (R.flat m) (rflat_len G m hok) (fun j u hj => hrow.cells G hok j u hj) (rflat_one G m hok) (by unfold maxLen; omega) (by
      have h1 : (l.length + m.length) * R.bytes ≤ 1000000000 * 1000 := Nat.mul_le_mul hb s2
      omega) hB
    refine ⟨v', w', hr, ?_, h3, h5⟩
    unfold OwnR
    rw [List.length_append, rflat_append]
    exact h2
theorem wpList_append_atR (G : R.Good P) {ops : Array Oper} {rest : List Oper} {o : Oper} {a : Act} {w : World} {Q : Exit → Act → World → Prop} (hgd : o.guard = none) (sl x : Operand)
    (ho : o.op = .call { callee := .builtin .append, args := #[sl, x], argTypes := #[R.sl, R.sl] }) (B : Nat) (v : Value) (l m : List α) (ao : Option Addr) (n c : Nat) (hs : a.eval sl = v) (hx : a.eval x = .slice ao n c)
    (hn : n = m.length) (hrow : RowAt R w ao m) (hok : ∀ x ∈ m, R.ok x) (hokl : ∀ x ∈ l, R.ok x) (hown : OwnR R B v l w) (hb : l.length + m.length ≤ 1000000000) (hB : B ≤ w.heap.size)
    (h : ∀ v' w', OwnR R B v' (l ++ m) w' → w.grownBy w' v.ownBlock → (v'.ownBlock = v.ownBlock ∨ v'.ownBlock = some w.heap.size) → wpList P ops Q rest (a.put o.dst v') w') : wpList P ops Q (o :: rest) a w := by
  obtain ⟨v', w', hr, h2, h3, h4⟩ := run_append_atR G (c := c) hn hrow hok hokl hown hb hB o.type
  refine wpList_plain hgd fun K hK => ?_
  unfold Oper.wp execOp
  simp only [ho, resolve, invoke, builtin, Sem.run_bind, Sem.run_pure, Result.andThen_ok, List.map_toArray, List.map_cons, List.map_nil, hs, hx, hr]
  exact hK _ _ (h v' w' h2 h3 h4)
theorem wp_append_atR (G : R.Good P) {o : Oper} {a : Act} {w : World} {K : Act → World → Prop} {Q : Exit → Act → World → Prop} (sl x : Operand)
    (ho : o.op = .call { callee := .builtin .append, args := #[sl, x], argTypes := #[R.sl, R.sl] }) (B : Nat) (v : Value) (l m : List α) (ao : Option Addr) (n c : Nat) (hs : a.eval sl = v) (hx : a.eval x = .slice ao n c)
    (hn : n = m.length) (hrow : RowAt R w ao m) (hok : ∀ x ∈ m, R.ok x) (hokl : ∀ x ∈ l, R.ok x) (hown : OwnR R B v l w) (hb : l.length + m.length ≤ 1000000000) (hB : B ≤ w.heap.size)
    (h : ∀ v' w', OwnR R B v' (l ++ m) w' → w.grownBy w' v.ownBlock → (v'.ownBlock = v.ownBlock ∨ v'.ownBlock = some w.heap.size) → K (a.put o.dst v') w') : o.wp P a w K Q := by
  obtain ⟨v', w', hr, h2, h3, h4⟩ := run_append_atR G (c := c) hn hrow hok hokl hown hb hB o.type
  unfold Oper.wp execOp
  simp only [ho, resolve, invoke, builtin, Sem.run_bind, Sem.run_pure, Result.andThen_ok, List.map_toArray, List.map_cons, List.map_nil, hs, hx, hr]
  exact h v' w' h2 h3 h4
/-- What a type's facts say, made into what a row wants. -/
theorem good_of {R : RowT α} (pos : 0 < R.size) (len : ∀ x, R.ok x → (R.cl x).length = R.size) (one : ∀ x, R.ok x → ∀ v ∈ R.cl x, v.oneCell' = true) (under : P.underlying R.sl = some (.slice R.ty))
    (info : (P.info? R.ty).map (fun i => (i.size, i.bytes, i.zero.map (fun z => z.cells.size))) = some (R.size, R.bytes, some R.size)) (small : R.size ≤ 1000 ∧ R.bytes ≤ 1000) : RowT.Good R P where
  pos := pos
  len := len
  one := one
  under := under
  small := small
  info := by
    cases hq : P.info? R.ty with
    | none => rw [hq] at info; cases info
    | some ie =>
      rw [hq] at info
      simp only [Option.map_some, Option.some.injEq, Prod.mk.injEq] at info
      obtain ⟨h1, h2, h3⟩ := info
      cases hz : ie.zero with
      | none => rw [hz] at h3; cases h3
      | some z =>
        rw [hz] at h3
        simp only [Option.map_some, Option.some.injEq] at h3
        exact ⟨ie, z, rfl, hz, h1, h2, h3⟩
end
/-- Rows of numbers, of Booleans, of ids. -/
def rowN : RowT Nat := ⟨fun p => [.int .i64 p], 1, 8, 3, 58, fun _ => True⟩
theorem goodN : RowT.Good rowN Try.prog := good_of (by decide) (fun _ _ => rfl) (fun x _ v hv => by simp [rowN] at hv; subst hv; rfl) Try.underlying58 (by kernel_rfl) (by decide)
def rowB : RowT Bool := ⟨fun p => [.bool p], 1, 1, 4, 73, fun _ => True⟩
theorem goodB : RowT.Good rowB Try.prog := good_of (by decide) (fun _ _ => rfl) (fun x _ v hv => by simp [rowB] at hv; subst hv; rfl) Try.underlying73 (by kernel_rfl) (by decide)
def rowI : RowT (List UInt8) := ⟨cellsD, 20, 20, 32, 23, fun i => i.length = 20⟩
theorem goodI : RowT.Good rowI Try.prog := good_of (by decide) (fun x h => cellsD_len x h) (fun x _ v hv => Array.all_eq_true_iff_forall_mem.1 (cellsD_one x) v (by have h : v ∈ cellsD x := hv; simpa using h)) Try.underlying23 (by kernel_rfl) (by decide)
theorem rowI_ids {w : World} {a : Option Addr} {l : List (List UInt8)} : RowAt rowI w a l ↔ IdsAt w a l := Iff.rfl
theorem rowI_own {B : Nat} {v : Value} {l : List (List UInt8)} {w : World} : OwnR rowI B v l w ↔ OwnD B v l w := Iff.rfl
/-- A node with the value of its parents. -/
structure Enn where
  n : Gn
  v : Value
def cellsN (e : Enn) : List Value := cellsD e.n.id ++ [e.v]
def okN (e : Enn) : Prop := e.n.id.length = 20 ∧ ∃ a n c, e.v = .slice a n c
theorem cellsN_len (e : Enn) (h : okN e) : (cellsN e).length = 21 := by
  unfold cellsN
  rw [List.length_append, cellsD_len _ h.1]; rfl
theorem cellsN_one (e : Enn) (h : okN e) : ∀ v ∈ cellsN e, v.oneCell' = true := by
  intro v hv
  obtain ⟨_, a, n, c, hs⟩ := h
  unfold cellsN at hv
  rcases List.mem_append.1 hv with hv | hv
  · exact Array.all_eq_true_iff_forall_mem.1 (cellsD_one e.n.id) v (by simpa using hv)
  · rw [hs] at hv
    simp only [List.mem_cons, List.not_mem_nil, or_false] at hv
    subst hv; rfl
def rowTN (ty sl : TypeId) : RowT Enn := ⟨cellsN, 21, 48, ty, sl, okN⟩
abbrev rowP : RowT Enn := rowTN 65 54
abbrev rowQ : RowT Enn := rowTN 68 27
theorem goodP : RowT.Good rowP Try.prog := good_of (by decide) cellsN_len cellsN_one Try.underlying54 (by kernel_rfl) (by decide)
theorem goodQ : RowT.Good rowQ Try.prog := good_of (by decide) cellsN_len cellsN_one Try.underlying27 (by kernel_rfl) (by decide)
/-- What the program's map holds. -/
def celG (L : List Gn) : List (Value × Value) := L.zipIdx.map (fun p => (.agg (arrD p.1.id), .int .i64 p.2))
/-- A graph of the program, in its block; its rows and its map in blocks of S. -/
structure GraphIn (S : Nat → Prop) (w : World) (g : Nat) (L : List Gn) (E : List Enn) (v : Value) (mb : Option Nat) : Prop where
  good : GoodG L
  ens : E.map Enn.n = L
  blk : w.heap[g]? = some (.cells #[v, .map mb] 57 (0, 0))
  own : OwnR rowP 0 v E w
  ownS : ∀ b, v.ownBlock = some b → S b ∧ b ≠ g
  red : ∀ e ∈ E, okN e ∧ RedR rowN (fun k => S k ∧ k ≠ g ∧ v.ownBlock ≠ some k ∧ mb ≠ some k) w e.v e.n.pl
  none_ : mb = none → L = []
  map : ∀ b, mb = some b → S b ∧ b ≠ g ∧ v.ownBlock ≠ some b ∧ MapAt w b (celG L)
def GraphP (S : Nat → Prop) (w : World) (g : Nat) (L : List Gn) : Prop := S g ∧ ∃ E v mb, GraphIn S w g L E v mb
theorem GraphIn.keep {S : Nat → Prop} {w u : World} {g : Nat} {L : List Gn} {E : List Enn} {v : Value} {mb : Option Nat} (h : GraphIn S w g L E v mb) (hg : S g) (hk : StayB S w u) : GraphIn S u g L E v mb where
  good := h.good
  ens := h.ens
  blk := (hk.2 g hg (lt_of_heap h.blk)).trans h.blk
  own := ownR_same h.own (fun b hb => hk.2 b (h.ownS b hb).1 (ownR_lt h.own b hb).2)
  ownS := h.ownS
  red := fun e he => ⟨(h.red e he).1, (h.red e he).2.keep (hk.mono fun k h => h.1)⟩
  none_ := h.none_
  map := fun b hb => by
    obtain ⟨k1, k2, k3, k4⟩ := h.map b hb
    exact ⟨k1, k2, k3, k4.keep (hk.2 b k1 k4.lt)⟩
theorem GraphIn.mono {S S' : Nat → Prop} {w : World} {g : Nat} {L : List Gn} {E : List Enn} {v : Value} {mb : Option Nat} (h : GraphIn S w g L E v mb) (hs : ∀ k, k < w.heap.size → S k → S' k) : GraphIn S' w g L E v mb where
  good := h.good
  ens := h.ens
  blk := h.blk
  own := h.own
  ownS := fun b hb => ⟨hs b (ownR_lt h.own b hb).2 (h.ownS b hb).1, (h.ownS b hb).2⟩
  red := fun e he => ⟨(h.red e he).1, (h.red e he).2.mono (fun k hk h2 => ⟨hs k hk h2.1, h2.2⟩)⟩
  none_ := h.none_
  map := fun b hb => by
    obtain ⟨k1, k2, k3, k4⟩ := h.map b hb
    exact ⟨hs b k4.lt k1, k2, k3, k4⟩
theorem GraphP.keep {S : Nat → Prop} {w u : World} {g : Nat} {L : List Gn} (h : GraphP S w g L) (hk : StayB S w u) : GraphP S u g L := by
  obtain ⟨hg, E, v, mb, h2⟩ := h
  exact ⟨hg, E, v, mb, h2.keep hg hk⟩
theorem GraphP.mono {S S' : Nat → Prop} {w : World} {g : Nat} {L : List Gn} (h : GraphP S w g L) (hs : ∀ k, k < w.heap.size → S k → S' k) : GraphP S' w g L := by
  obtain ⟨hg, E, v, mb, h2⟩ := h
  exact ⟨hs g (lt_of_heap h2.blk) hg, E, v, mb, h2.mono hs⟩
theorem GraphP.below {S : Nat → Prop} {w u : World} {g : Nat} {L : List Gn} (h : GraphP S w g L) (hb : Below w.heap.size w u) : GraphP S u g L := h.keep (StayB.of hb)
theorem GraphP.lt {S : Nat → Prop} {w : World} {g : Nat} {L : List Gn} (h : GraphP S w g L) : g < w.heap.size := by
  obtain ⟨hg, E, v, mb, h2⟩ := h
  exact lt_of_heap h2.blk
theorem GraphP.good {S : Nat → Prop} {w : World} {g : Nat} {L : List Gn} (h : GraphP S w g L) : GoodG L := by
  obtain ⟨hg, E, v, mb, h2⟩ := h
  exact h2.good
/-- A graph of the document's, in its block. -/
structure RefIn (S : Nat → Prop) (w : World) (q : Nat) (L : List Gn) (E : List Enn) (v : Value) : Prop where
  ens : E.map Enn.n = L
  blk : w.heap[q]? = some (.cells #[v] 29 (0, 0))
  own : OwnR rowQ 0 v E w
  ownS : ∀ b, v.ownBlock = some b → S b ∧ b ≠ q
  red : ∀ e ∈ E, okN e ∧ RedR rowI (fun k => S k ∧ k ≠ q ∧ v.ownBlock ≠ some k) w e.v (psOf L e.n.pl)
def GraphR (S : Nat → Prop) (w : World) (q : Nat) (L : List Gn) : Prop := S q ∧ GoodG L ∧ ∃ E v, RefIn S w q L E v
theorem RefIn.keep {S : Nat → Prop} {w u : World} {q : Nat} {L : List Gn} {E : List Enn} {v : Value} (h : RefIn S w q L E v) (hg : S q) (hk : StayB S w u) : RefIn S u q L E v where
  ens := h.ens
  blk := (hk.2 q hg (lt_of_heap h.blk)).trans h.blk
  own := ownR_same h.own (fun b hb => hk.2 b (h.ownS b hb).1 (ownR_lt h.own b hb).2)
  ownS := h.ownS
  red := fun e he => ⟨(h.red e he).1, (h.red e he).2.keep (hk.mono fun k h => h.1)⟩
theorem RefIn.mono {S S' : Nat → Prop} {w : World} {q : Nat} {L : List Gn} {E : List Enn} {v : Value} (h : RefIn S w q L E v) (hs : ∀ k, k < w.heap.size → S k → S' k) : RefIn S' w q L E v where
  ens := h.ens
  blk := h.blk
  own := h.own
  ownS := fun b hb => ⟨hs b (ownR_lt h.own b hb).2 (h.ownS b hb).1, (h.ownS b hb).2⟩
  red := fun e he => ⟨(h.red e he).1, (h.red e he).2.mono (fun k hk h2 => ⟨hs k hk h2.1, h2.2⟩)⟩
theorem GraphR.keep {S : Nat → Prop} {w u : World} {q : Nat} {L : List Gn} (h : GraphR S w q L) (hk : StayB S w u) : GraphR S u q L := by
  obtain ⟨hg, hG, E, v, h2⟩ := h
  exact ⟨hg, hG, E, v, h2.keep hg hk⟩
theorem GraphR.mono {S S' : Nat → Prop} {w : World} {q : Nat} {L : List Gn} (h : GraphR S w q L) (hs : ∀ k, k < w.heap.size → S k → S' k) : GraphR S' w q L := by
  obtain ⟨hg, hG, E, v, h2⟩ := h
  exact ⟨hs q (lt_of_heap h2.blk) hg, hG, E, v, h2.mono hs⟩
theorem GraphR.below {S : Nat → Prop} {w u : World} {q : Nat} {L : List Gn} (h : GraphR S w q L) (hb : Below w.heap.size w u) : GraphR S u q L := h.keep (StayB.of hb)
theorem GraphR.lt {S : Nat → Prop} {w : World} {q : Nat} {L : List Gn} (h : GraphR S w q L) : q < w.heap.size := by
  obtain ⟨hg, hG, E, v, h2⟩ := h
  exact lt_of_heap h2.blk
/-- What the map says of an id. -/
def placeV (L : List Gn) (i : List UInt8) : Value := .tuple #[.int .i64 (((atG L i).getD 0 : Nat) : Int), .bool (atG L i).isSome]
theorem celG_keys {L : List Gn} (h : GoodG L) : ∀ m ∈ celG L, ∃ l, keyOf Try.prog 32 m.1 = some l := by
  intro m hm
  obtain ⟨p, hp, rfl⟩ := List.mem_map.1 hm
  exact key_id _ (h.len p.1 (List.fst_mem_of_mem_zipIdx hp))
theorem celG_len (L : List Gn) : (celG L).length = L.length := by simp [celG]
theorem celG_snoc (L : List Gn) (n : Gn) : celG (L ++ [n]) = celG L ++ [(.agg (arrD n.id), .int .i64 L.length)] := by simp [celG, List.zipIdx_append]
theorem zInt (u : World) : (zeroValue 3).run Try.prog u = .ok (.int .i64 0) u := Try.zeroValue3 u
theorem GraphIn.look {S : Nat → Prop} {w : World} {g : Nat} {L : List Gn} {E : List Enn} {v : Value} {mb : Option Nat} (h : GraphIn S w g L E v mb) {i : List UInt8} (hi : i.length = 20) :
    ∀ u, Below w.heap.size w u → u.cell? ⟨g, 1, none⟩ = some (.map mb) ∧ (Instr.lookup 55 (.map mb) (.agg (arrD i)) true).run Try.prog u = .ok (placeV L i) u := by
  intro u hu
  refine ⟨?_, ?_⟩
  · rw [Lib.cell_of_heap ((hu.block g (lt_of_heap h.blk)).trans h.blk)]
    rfl
  · obtain ⟨lt, hl⟩ := key_id i hi
    cases mb with
    | none =>
      rw [h.none_ rfl]
      exact look_nilMap idKeyed Try.underlying55 (zInt u) hl
    | some b =>
      obtain ⟨_, _, _, hM⟩ := h.map b rfl
      have hM2 := hM.keep (hu.block b hM.lt)
      unfold placeV
      cases e : atG L i with
      | none =>
        refine hM2.look_none idKeyed Try.underlying55 (zInt u) (celG_keys h.good) hl (fun m hm he => ?_)
        obtain ⟨p, hp, rfl⟩ := List.mem_map.1 hm
        exact atG_none.1 e p.1 (List.fst_mem_of_mem_zipIdx hp) (arrD_inj (Value.agg.inj he))
      | some k =>
        obtain ⟨hk, hi2⟩ := atG_some e
        refine hM2.look_some idKeyed Try.underlying55 (celG_keys h.good) (List.mem_map.2 ⟨(L[k], k), ?_, by rw [hi2]; rfl⟩)
        rw [List.mk_mem_zipIdx_iff_getElem?]
        exact List.getElem?_eq_getElem hk
end Go.Proofs.Ytajmgjhknmkfpaa
