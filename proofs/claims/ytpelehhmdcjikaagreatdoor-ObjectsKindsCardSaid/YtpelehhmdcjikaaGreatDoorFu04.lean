/-
  Texts that belong together, one behind the other.
-/
import Derived.Test.YtpelehhmdcjikaaGreatDoorFu03
import Derived.Laws.AppendOwn
import Derived.Below
import Derived.Great.BuildSlice
import Derived.Great.FillDense
import Derived.OwnWalk
import Derived.Test.YtpelehhmdcjikaaGreatDoorFu02
import Derived.IntWalk
import Derived.WalkSmall
import Derived.Laws.OwnMore
import Derived.Laws.CopyOwn
import Derived.Deep.MidRow
/-
  Layer 10: bytes that lie in named blocks; which blocks stay.
-/
namespace Go.Proofs.YtpelehhmdcjikaaGreatDoor
open Go.RowKit
set_option linter.unusedVariables false
set_option linter.unusedSimpArgs false
/-- The blocks of S stay. -/
def Stays (S : Nat → Prop) (w u : World) : Prop := w.heap.size ≤ u.heap.size ∧ ∀ k, S k → k < w.heap.size → u.heap[k]? = w.heap[k]?
theorem Stays.of {S : Nat → Prop} {w u : World} (h : Below w.heap.size w u) : Stays S w u := ⟨h.size, fun k _ hk => h.block k hk⟩
theorem Stays.refl (S : Nat → Prop) (w : World) : Stays S w w := ⟨Nat.le_refl _, fun _ _ _ => rfl⟩
theorem Stays.trans {S : Nat → Prop} {a b c : World} (h : Stays S a b) (k : Stays S b c) : Stays S a c :=
  ⟨Nat.le_trans h.1 k.1, fun i hs hi => (k.2 i hs (Nat.lt_of_lt_of_le hi h.1)).trans (h.2 i hs hi)⟩
theorem Stays.mono {S S' : Nat → Prop} {w u : World} (h : Stays S w u) (hs : ∀ k, S' k → S k) : Stays S' w u := ⟨h.1, fun k hk hl => h.2 k (hs k hk) hl⟩
/-- Bytes that are read alone, in blocks of S. -/
def RedS (S : Nat → Prop) (w : World) (v : Value) (l : List UInt8) : Prop :=
  ∃ a c, v = .slice a l.length c ∧ BAt w a l ∧ (a = none → l.length = 0 ∧ c = 0) ∧ l.length ≤ c ∧ c ≤ maxLen ∧ ∀ ad, 0 < l.length → a = some ad → S ad.block
theorem RedS.red {S : Nat → Prop} {w : World} {v : Value} {l : List UInt8} (h : RedS S w v l) : Red w v l := by
  obtain ⟨a, c, e, hb, hn, hc, hm, _⟩ := h
  exact ⟨a, c, e, hb, hn, hc, hm⟩
theorem RedS.mono {S S' : Nat → Prop} {w : World} {v : Value} {l : List UInt8} (h : RedS S w v l) (hs : ∀ k, k < w.heap.size → S k → S' k) : RedS S' w v l := by
  obtain ⟨a, c, e, hb, hn, hc, hm, hr⟩ := h
  refine ⟨a, c, e, hb, hn, hc, hm, fun ad hp ha => ?_⟩
  obtain ⟨g, o, h1, h2, _⟩ := hb hp
  refine hs _ ?_ (hr ad hp ha)
  rw [h1] at ha
  cases ha
  exact h2
theorem BAt.same {w u : World} {a : Option Addr} {l : List UInt8} (h : BAt w a l) (hs : w.heap.size ≤ u.heap.size) (hb : ∀ ad, 0 < l.length → a = some ad → u.heap[ad.block]? = w.heap[ad.block]?) : BAt u a l := fun hp => by
  obtain ⟨g, o, h1, h2, h3⟩ := h hp
  refine ⟨g, o, h1, Nat.lt_of_lt_of_le h2 hs, fun i hi => ?_⟩
  rw [← h3 i hi]
  exact World.cell?_of_block (w := w) (hb ⟨g, o, none⟩ hp h1)
theorem RedS.keep {S : Nat → Prop} {w u : World} {v : Value} {l : List UInt8} (h : RedS S w v l) (hk : Stays S w u) : RedS S u v l := by
  obtain ⟨a, c, e, hb, hn, hc, hm, hr⟩ := h
  refine ⟨a, c, e, hb.same hk.1 (fun ad hp ha => hk.2 _ (hr ad hp ha) ?_), hn, hc, hm, hr⟩
  obtain ⟨g, o, h1, h2, _⟩ := hb hp
  rw [h1] at ha
  cases ha
  exact h2
/-- What is read is in some blocks. -/
theorem Red.inS {w : World} {v : Value} {l : List UInt8} (h : Red w v l) : RedS (fun k => k < w.heap.size) w v l := by
  obtain ⟨a, c, e, hb, hn, hc, hm⟩ := h
  refine ⟨a, c, e, hb, hn, hc, hm, fun ad hp ha => ?_⟩
  obtain ⟨g, o, h1, h2, _⟩ := hb hp
  rw [h1] at ha
  cases ha
  exact h2
end Go.Proofs.YtpelehhmdcjikaaGreatDoor

/-
  Layer 9: rows of ids that a call owns.
-/
namespace Go.Proofs.YtpelehhmdcjikaaGreatDoor
set_option maxRecDepth 20000
open Go.RowKit
set_option linter.unusedVariables false
set_option linter.unusedSimpArgs false
/-- A row of ids that a call owns. -/
abbrev OwnD (B : Nat) (v : Value) (l : List (List UInt8)) (w : World) : Prop := w.ownsRow B 24 20 v l.length (l.flatMap cellsD)
theorem ownD_nil (w : World) (B : Nat) : OwnD B (.slice none 0 0) [] w := World.ownsRow_nil w B _ _
theorem ownD_below {B : Nat} {v : Value} {l : List (List UInt8)} {w w' : World} (h : OwnD B v l w) (hb : Below w.heap.size w w') : OwnD B v l w' :=
  World.ownsRow.kept (row := none) h ⟨hb.os, hb.tape, hb.output, hb.size, fun k hk _ => hb.block k hk⟩ (by cases v.ownBlock <;> simp)
theorem flatD_at : ∀ (l : List (List UInt8)) (hid : ∀ i ∈ l, i.length = 20) (k : Nat) (h : k < l.length) (j : Nat) (v : Value), (cellsD l[k])[j]? = some v → (l.flatMap cellsD)[k * 20 + j]? = some v
  | [], _, k, h, _, _, _ => absurd h (Nat.not_lt_zero _)
  | i :: l, hid, 0, h, j, v, hv => by
    have hj : j < (cellsD i).length := (List.getElem?_eq_some_iff.1 hv).1
    rw [List.flatMap_cons, Nat.zero_mul, Nat.zero_add, List.getElem?_append_left hj]
    exact hv
  | i :: l, hid, k + 1, h, j, v, hv => by
    have hl := cellsD_len i (hid i (by simp))
    rw [List.flatMap_cons, List.getElem?_append_right (by omega), hl, show (k + 1) * 20 + j - 20 = k * 20 + j by omega]
    exact flatD_at l (fun x hx => hid x (by simp [hx])) k (by simpa using h) j v hv
theorem flatD_len (l : List (List UInt8)) (hid : ∀ i ∈ l, i.length = 20) : (l.flatMap cellsD).length = l.length * 20 := by
  induction l with
  | nil => rfl
  | cons i l ih =>
    rw [List.flatMap_cons, List.length_append, cellsD_len i (hid i (by simp)), ih (fun x hx => hid x (by simp [hx])), List.length_cons]
    omega
theorem ownD_ids {B : Nat} {v : Value} {l : List (List UInt8)} {w : World} (h : OwnD B v l w) (hid : ∀ i ∈ l, i.length = 20) : ∃ a c, v = .slice a l.length c ∧ l.length ≤ c ∧ c ≤ maxLen ∧ IdsAt w a l ∧ (a = none → l.length = 0 ∧ c = 0) := by
  rcases h.2 with ⟨hv, h0⟩ | ⟨g, cap, cur, hv, hB, hg, hc, hm, _, _⟩
  · obtain rfl : l = [] := List.eq_nil_of_length_eq_zero h0
    exact ⟨none, 0, hv, Nat.le_refl _, Nat.zero_le _, IdsAt.nil w _, fun _ => ⟨rfl, rfl⟩⟩
  · have hcs := World.ownsRow.cells h (g := g) (by rw [hv]; rfl)
    refine ⟨_, cap, hv, hc, hm, fun _ => ⟨g, 0, rfl, (Array.getElem?_eq_some_iff.1 hg).1, fun k hk j u hu => ?_⟩, fun e => by cases e⟩
    have := hcs (k * 20 + j) u (flatD_at l hid k hk j u hu)
    rw [show (⟨g, 0, none⟩ : Addr).add (k * 20 + j) = ⟨g, 0 + k * 20 + j, none⟩ by unfold Addr.add; split <;> simp_all] at this
    exact this
theorem infoD : (Tryz.prog.info? 24).map (fun i => (i.zero, i.size)) = some (some (.agg (arrD idZ)), 20) := zIdD
theorem infoD_b : (Tryz.prog.info? 24).map (fun i => i.bytes) = some 20 := by kernel_rfl
theorem infoD_all : ∃ ie, Tryz.prog.info? 24 = some ie ∧ ie.zero = some (.agg (arrD idZ)) ∧ ie.size = 20 ∧ ie.bytes = 20 := by
  have h1 := infoD
  have h2 := infoD_b
  cases hq : Tryz.prog.info? 24 with
  | none => rw [hq] at h1; cases h1
  | some ie =>
    rw [hq] at h1 h2
    simp only [Option.map_some, Option.some.injEq, Prod.mk.injEq] at h1 h2
    exact ⟨ie, rfl, h1.1, h1.2, h2⟩
theorem fillD_one (A z : Array Value) (hA : A.size = 20) (hz : z.size = 20) : Instr.fill (fun i => some (i * 20, 20)) z [(0, .agg A)] = some A := by
  have h := Great.fill_whole (s := 20) (by decide) [.agg A] z (fun v hv => by simp at hv; subst hv; exact hA) (by simp [hz])
  simpa [Value.cells] using h
/-- A literal of one id: a block of its own. -/
theorem wpList_build_idD {ops : Array Oper} {rest : List Oper} {o : Oper} {a : Act} {w : World} {Q : Exit → Act → World → Prop} (hgd : o.guard = none) (x : Operand) (ho : o.op = .buildSlice 43 1 #[(0, x)])
    (A : Array Value) (hA : A.size = 20) (hx : a.eval x = .agg A)
    (h : wpList Tryz.prog ops Q rest (a.put o.dst (.slice (some ⟨w.heap.size, 0, none⟩) 1 1)) (w.alloc (.cells A 24))) : wpList Tryz.prog ops Q (o :: rest) a w := by
  obtain ⟨ie, hie, hz, hs, _⟩ := infoD_all
  have hzs : (arrD idZ).size = 20 := arrD_size _ (by simp [idZ])
  refine wpList_buildSlice hgd 43 24 1 _ ho A ie (.agg (arrD idZ)) Tryz.underlying43 hie hz (by rw [hs]; decide) (by rw [hs]; decide) ?_ h
  rw [hs]
  have e : (Array.map (fun (p : Nat × Operand) => (p.1, a.eval p.2)) #[(0, x)]).toList = [(0, .agg A)] := by simp [hx]
  rw [show (fun (p : Nat × Operand) => match p with | (i, x) => (i, a.eval x)) = (fun (p : Nat × Operand) => (p.1, a.eval p.2)) from rfl, e]
  exact fillD_one A _ hA (by simp)
/-- 'append(l, x)'. -/
theorem wpList_append_idD {ops : Array Oper} {rest : List Oper} {o : Oper} {a : Act} {w : World} {Q : Exit → Act → World → Prop} (hgd : o.guard = none) (sl x : Operand)
    (ho : o.op = .call { callee := .builtin .append, args := #[sl, x], argTypes := #[43, 43] }) (B : Nat) (v : Value) (l : List (List UInt8)) (i : List UInt8) (g : Nat) (A : Array Value) (hA : A = arrD i) (hs : a.eval sl = v) (hx : a.eval x = .slice (some ⟨g, 0, none⟩) 1 1)
    (hg : w.heap[g]? = some (.cells A 24 (0, 0))) (hid : i.length = 20) (hown : OwnD B v l w) (hb : l.length ≤ 1000000000) (hB : B ≤ w.heap.size)
    (h : ∀ v' w', OwnD B v' (l ++ [i]) w' → w.grownBy w' v.ownBlock → wpList Tryz.prog ops Q rest (a.put o.dst v') w') : wpList Tryz.prog ops Q (o :: rest) a w := by
  obtain ⟨ie, hie, hz, hsz, hby⟩ := infoD_all
  refine wpList_append_own w hgd sl x 43 ho B 24 ie (.agg (arrD idZ)) 20 20 Tryz.underlying43 hie hz hsz hby (arrD_size _ (by simp [idZ])) (by decide) v l.length (l.flatMap cellsD) hs hown ⟨g, 0, none⟩ 1 1 (cellsD i) hx (by rw [cellsD_len i hid]) (fun j u hu => ?_) (fun u hu => (Array.all_eq_true_iff_forall_mem.1 (cellsD_one i)) u (by simpa using hu)) (by unfold maxLen; omega) (by omega) hB ?_
  · have := row_cellsD (i := i) (by rw [hA] at hg; exact hg) j u hu
    rw [show (⟨g, 0, none⟩ : Addr).add j = ⟨g, 0 + j, none⟩ by unfold Addr.add; split <;> simp_all]
    exact this
  · intro v' w' ho hgr _
    refine h v' w' ?_ hgr
    unfold OwnD
    rw [List.length_append, List.flatMap_append]
    simpa using ho
end Go.Proofs.YtpelehhmdcjikaaGreatDoor

/-
  Rows of bytes that a call has made itself.
-/
namespace Go.Proofs.YtpelehhmdcjikaaGreatDoor
open Go.RowKit
set_option linter.unusedVariables false
theorem info5 : (Tryz.prog.info? 5).map (fun i => (i.zero, i.size, i.bytes)) = some (some (.int .u8 0), 1, 1) := by kernel_rfl
theorem own_len {w : World} {base : Nat} {e : TypeId} {g n cap : Nat} {xs : List Value} (h : w.ownsRow base e 1 (.slice (some ⟨g, 0, none⟩) n cap) n xs) : xs.length = n := by simpa using h.1
theorem own_cell {w : World} {base : Nat} {e : TypeId} {g n cap : Nat} {xs : List Value} (h : w.ownsRow base e 1 (.slice (some ⟨g, 0, none⟩) n cap) n xs) (j : Nat) (hj : j < n) : ∃ y, w.cell? ⟨g, j, none⟩ = some y := by
  have hl := own_len h
  exact ⟨xs[j], by rw [h.cellAt j (by omega), List.getElem?_eq_getElem]⟩
theorem own_lt {w : World} {base : Nat} {e : TypeId} {g n cap : Nat} {xs : List Value} (h : w.ownsRow base e 1 (.slice (some ⟨g, 0, none⟩) n cap) n xs) : g < w.heap.size := by
  rcases h.2 with ⟨h', _⟩ | ⟨g', cap', cur, h', hb, hg, hnc, hcm, hcs, htake⟩
  · simp at h'
  · simp only [Value.slice.injEq, Option.some.injEq, Addr.mk.injEq, and_true, true_and] at h'
    obtain ⟨rfl, rfl⟩ := h'
    rcases Nat.lt_or_ge g w.heap.size with h' | h'
    · exact h'
    · simp [Array.getElem?_eq_none h'] at hg
theorem own_keep {w w' : World} {base : Nat} {e : TypeId} {g n cap : Nat} {xs : List Value} (h : w.ownsRow base e 1 (.slice (some ⟨g, 0, none⟩) n cap) n xs) (hb : Below w.heap.size w w') :
    w'.ownsRow base e 1 (.slice (some ⟨g, 0, none⟩) n cap) n xs := by
  have hlt := own_lt h
  refine ⟨h.1, ?_⟩
  rcases h.2 with ⟨h', _⟩ | ⟨g', cap', cur, h', hb', hg, r⟩
  · simp at h'
  · refine .inr ⟨g', cap', cur, h', hb', ?_, r⟩
    simp only [Value.slice.injEq, Option.some.injEq, Addr.mk.injEq, and_true, true_and] at h'
    obtain ⟨rfl, rfl⟩ := h'
    exact (hb.block g hlt).trans hg
/-- The bytes as cells. -/
theorem byteCells_at (l : List UInt8) (i : Nat) : (Lib.byteCells l)[i]? = (l[i]?).map fun c => Value.int .u8 c.toNat := by simp [Lib.byteCells]
end Go.Proofs.YtpelehhmdcjikaaGreatDoor

/-
  Rows of ids: stores into them; the helper Own of the statements over ids.
-/
namespace Go.Proofs.YtpelehhmdcjikaaGreatDoor
set_option maxRecDepth 20000
open Go.RowKit
set_option linter.unusedVariables false
set_option linter.unusedSimpArgs false
theorem flatD_back : ∀ (l : List (List UInt8)) (hid : ∀ i ∈ l, i.length = 20) (j : Nat) (v : Value), (l.flatMap cellsD)[j]? = some v → ∃ (k : Nat) (h : k < l.length) (q : Nat), j = k * 20 + q ∧ (cellsD l[k])[q]? = some v
  | [], _, _, _, h => by simp at h
  | i :: l, hid, j, v, h => by
    have hl := cellsD_len i (hid i (by simp))
    rw [List.flatMap_cons] at h
    by_cases hj : j < 20
    · rw [List.getElem?_append_left (by omega)] at h
      exact ⟨0, by simp, j, by omega, h⟩
    · rw [List.getElem?_append_right (by omega), hl] at h
      obtain ⟨k, hk, q, e, hq⟩ := flatD_back l (fun x hx => hid x (by simp [hx])) (j - 20) v h
      exact ⟨k + 1, by simpa using hk, q, by omega, by simpa using hq⟩
theorem IdsAt.cells {w : World} {a : Option Addr} {l : List (List UInt8)} (h : IdsAt w a l) (hid : ∀ i ∈ l, i.length = 20) (ad : Addr) (had : a = some ad) (j : Nat) (u : Value) (hj : (l.flatMap cellsD)[j]? = some u) : w.cell? (ad.add j) = some u := by
  obtain ⟨k, hk, q, e, hq⟩ := flatD_back l hid j u hj
  obtain ⟨b, o, e2, _, hc⟩ := h (by omega)
  rw [had] at e2
  cases e2
  rw [show (⟨b, o, none⟩ : Addr).add j = ⟨b, o + j, none⟩ by unfold Addr.add; split <;> simp_all, e, ← Nat.add_assoc]
  exact hc k hk q u hq
theorem own_ltD {w : World} {base : Nat} {e : TypeId} {s g n cap : Nat} {xs : List Value} (h : w.ownsRow base e s (.slice (some ⟨g, 0, none⟩) n cap) n xs) : g < w.heap.size := by
  rcases h.2 with ⟨h', _⟩ | ⟨g', cap', cur, h', hb, hg, hnc, hcm, hcs, htake⟩
  · simp at h'
  · simp only [Value.slice.injEq, Option.some.injEq, Addr.mk.injEq, and_true, true_and] at h'
    obtain ⟨rfl, rfl⟩ := h'
    exact lt_of_heap hg
theorem own_sameD {w w' : World} {base : Nat} {e : TypeId} {s g n cap : Nat} {xs : List Value} (h : w.ownsRow base e s (.slice (some ⟨g, 0, none⟩) n cap) n xs) (hk : w'.heap[g]? = w.heap[g]?) :
    w'.ownsRow base e s (.slice (some ⟨g, 0, none⟩) n cap) n xs := by
  refine ⟨h.1, ?_⟩
  rcases h.2 with ⟨h', _⟩ | ⟨g', cap', cur, h', hb', hg, r⟩
  · simp at h'
  · refine .inr ⟨g', cap', cur, h', hb', ?_, r⟩
    simp only [Value.slice.injEq, Option.some.injEq, Addr.mk.injEq, and_true, true_and] at h'
    obtain ⟨rfl, rfl⟩ := h'
    exact hk.trans hg
theorem own_keepD {w w' : World} {base : Nat} {e : TypeId} {s g n cap : Nat} {xs : List Value} (h : w.ownsRow base e s (.slice (some ⟨g, 0, none⟩) n cap) n xs) (hb : Below w.heap.size w w') :
    w'.ownsRow base e s (.slice (some ⟨g, 0, none⟩) n cap) n xs := own_sameD h (hb.block g (own_ltD h))
end Go.Proofs.YtpelehhmdcjikaaGreatDoor

/-
  Layer 9: whole blocks and parts of blocks, read; is an id among some.
-/
namespace Go.Proofs.YtpelehhmdcjikaaGreatDoor
set_option maxRecDepth 20000
open Go.RowKit
set_option linter.unusedVariables false
set_option linter.unusedSimpArgs false
theorem row_arrD {w : World} {g : Nat} {A : Array Value} {t : TypeId} {fr : Nat × Nat} (h : w.heap[g]? = some (.cells A t fr)) : w.rangeAt g 0 A.toList := fun j v hv => by
  rw [Nat.zero_add, Lib.cell_of_heap h, ← hv]
  simp
theorem row_keepD {w u : World} {g : Nat} {cs : List Value} (h : w.rangeAt g 0 cs) (hg : g < w.heap.size) (hb : Below w.heap.size w u) : u.rangeAt g 0 cs := fun j v hv => (hb.cell (p := ⟨g, 0 + j, none⟩) hg).trans (h j v hv)
/-- Is it among them? -/
def amongD (l : List (List UInt8)) (x : List UInt8) : Bool := l.any (fun y => eqD y x)
theorem among_iff (l : List (List UInt8)) (x : List UInt8) : amongD l x = true ↔ x ∈ l := by
  unfold amongD
  rw [List.any_eq_true]
  constructor
  · rintro ⟨y, hy, e⟩
    rw [← (eqD_iff y x).1 e]; exact hy
  · exact fun h => ⟨x, h, eqD_same x⟩
theorem among_here {l : List (List UInt8)} {x : List UInt8} {k : Nat} (hk : k < l.length) (h : eqD l[k] x = true) : amongD l x = true := List.any_eq_true.2 ⟨l[k], List.getElem_mem hk, h⟩
theorem among_none {l : List (List UInt8)} {x : List UInt8} (h : ∀ j (hj : j < l.length), eqD l[j] x = false) : amongD l x = false := by
  unfold amongD
  rw [List.any_eq_false]
  intro y hy
  obtain ⟨i, hi, rfl⟩ := List.mem_iff_getElem.1 hy
  rw [h i hi]; decide
/-- A load of many cells out of the middle of a block, under a guard that holds. -/
theorem wpList_load_midD {ops : Array Oper} {rest : List Oper} {op : Oper} {a : Act} {w : World} {Q : Exit → Act → World → Prop} (ty : TypeId) (x : Operand) (ho : op.op = .load ty x) (hw : Region.wanted op (yielded ops a.tmps) = true)
    (b o : Nat) (hx : a.eval x = .pointer (some ⟨b, o, none⟩)) (cs : List Value) (d : TypeDesc) (hc : w.rangeAt b o cs)
    (hu : Tryz.prog.underlying ty = some d) (hd : d.isRow = true) (hi : (Tryz.prog.info? ty).map (·.size) = some cs.length)
    (h : wpList Tryz.prog ops Q rest (a.put op.dst (.agg cs.toArray)) w) : wpList Tryz.prog ops Q (op :: rest) a w :=
  Go.BigFrame.wpList_want hw fun _ hK => wp_load_mid ty x ho b o hx cs d hc hu hd hi (hK _ _ h)
end Go.Proofs.YtpelehhmdcjikaaGreatDoor

/-
  Layer 10, the document's answers: a store's cells; a store in its block.
-/
namespace Go.Proofs.YtpelehhmdcjikaaGreatDoor
set_option maxRecDepth 20000
open Go.RowKit
set_option linter.unusedVariables false
set_option linter.unusedSimpArgs false
/-- An object with its id, and where its bytes lie. -/
structure Ent where
  c : Cel
  v : Value
def cellsE (e : Ent) : List Value := cellsD e.c.id ++ [.int .i64 e.c.kind, e.v]
def okE (e : Ent) : Prop := e.c.id.length = 20 ∧ ∃ a n c, e.v = .slice a n c
def rowE : RowT Ent := ⟨cellsE, 22, 56, 73, 28, okE⟩
/-- A store's cells: where they lie, in blocks of S; each one's bytes in blocks of S that are not g. -/
structure CelsAt (S : Nat → Prop) (w : World) (g : Nat) (a : Option Addr) (E : List Ent) : Prop where
  row : RowAt rowE w a E
  ok : ∀ e ∈ E, okE e
  inS : ∀ ad, 0 < E.length → a = some ad → S ad.block ∧ ad.block ≠ g
  body : ∀ e ∈ E, RedS (fun k => S k ∧ k ≠ g) w e.v e.c.body
/-- A store in its block. -/
def StoreAt (S : Nat → Prop) (w : World) (g : Nat) (L : List Cel) : Prop :=
  S g ∧ ∃ (E : List Ent) (a : Option Addr) (c : Nat), E.map Ent.c = L ∧ w.heap[g]? = some (.cells #[.slice a L.length c] 30 (0, 0)) ∧ CelsAt S w g a E ∧ (a = none → L.length = 0 ∧ c = 0) ∧ L.length ≤ c ∧ c ≤ maxLen
theorem CelsAt.keep {S : Nat → Prop} {w u : World} {g : Nat} {a : Option Addr} {E : List Ent} (h : CelsAt S w g a E) (hk : Stays (fun k => S k ∧ k ≠ g) w u) : CelsAt S u g a E where
  row := fun hp => by
    obtain ⟨b, o, h1, h2, h3⟩ := h.row hp
    have hb := h.inS _ hp h1
    refine ⟨b, o, h1, Nat.lt_of_lt_of_le h2 hk.1, fun k hk2 j v hv => ?_⟩
    rw [← h3 k hk2 j v hv]
    exact World.cell?_of_block (w := w) (a := ⟨b, o + k * rowE.size + j, none⟩) (hk.2 b hb h2)
  ok := h.ok
  inS := h.inS
  body := fun e he => (h.body e he).keep hk
theorem CelsAt.mono {S S' : Nat → Prop} {w : World} {g : Nat} {a : Option Addr} {E : List Ent} (h : CelsAt S w g a E) (hs : ∀ k, k < w.heap.size → S k → S' k) : CelsAt S' w g a E where
  row := h.row
  ok := h.ok
  inS := fun ad hp ha => by
    obtain ⟨b, o, h1, h2, h3⟩ := h.row hp
    obtain ⟨k1, k2⟩ := h.inS ad hp ha
    refine ⟨hs _ ?_ k1, k2⟩
    rw [h1] at ha
    cases ha
    exact h2
  body := fun e he => (h.body e he).mono (fun k hk h2 => ⟨hs k hk h2.1, h2.2⟩)
theorem StoreAt.keep {S : Nat → Prop} {w u : World} {g : Nat} {L : List Cel} (h : StoreAt S w g L) (hk : Stays S w u) : StoreAt S u g L := by
  obtain ⟨hg, E, a, c, h1, h2, h3, h4⟩ := h
  exact ⟨hg, E, a, c, h1, (hk.2 g hg (lt_of_heap h2)).trans h2, h3.keep (hk.mono fun k h => h.1), h4⟩
theorem StoreAt.mono {S S' : Nat → Prop} {w : World} {g : Nat} {L : List Cel} (h : StoreAt S w g L) (hs : ∀ k, k < w.heap.size → S k → S' k) : StoreAt S' w g L := by
  obtain ⟨hg, E, a, c, h1, h2, h3, h4⟩ := h
  exact ⟨hs g (lt_of_heap h2) hg, E, a, c, h1, h2, h3.mono hs, h4⟩
theorem StoreAt.below {S : Nat → Prop} {w u : World} {g : Nat} {L : List Cel} (h : StoreAt S w g L) (hb : Below w.heap.size w u) : StoreAt S u g L := h.keep (Stays.of hb)
theorem StoreAt.lt {S : Nat → Prop} {w : World} {g : Nat} {L : List Cel} (h : StoreAt S w g L) : g < w.heap.size := by
  obtain ⟨hg, E, a, c, h1, h2, h3, h4⟩ := h
  exact lt_of_heap h2
end Go.Proofs.YtpelehhmdcjikaaGreatDoor
