/-
  Layer 14, the program: Parse, what its loop keeps.
-/
import Derived.Test.YtbilempgnpnacaaE4r
namespace Go.Proofs.Ytbilempgnpnacaa
set_option maxRecDepth 20000
open Go.RowKit
set_option linter.unusedVariables false
set_option linter.unusedSimpArgs false

/-- An edit whose bytes lie apart. -/
structure EdK (lo : Nat) (u : World) (g p : Nat) (own : Option Nat) (x : Edc) : Prop where
  ok : okDl x
  row : Row u x.v x.b
  apart : ∀ k, foot x.v = some k → k ≠ g ∧ own ≠ some k ∧ k ≠ p
  new : ∀ k, foot x.v = some k → lo ≤ k
theorem EdK.keep {lo : Nat} {u u' : World} {g p : Nat} {own : Option Nat} {x : Edc} (h : EdK lo u g p own x) (hb : ∀ k, k < u.heap.size → k ≠ g → own ≠ some k → k ≠ p → u'.heap[k]? = u.heap[k]?) : EdK lo u' g p own x :=
  ⟨h.ok, h.row.keep fun k hk => by obtain ⟨h1, h2, h3⟩ := h.apart k hk; exact hb k (h.row.lt k hk) h1 h2 h3, h.apart, h.new⟩
/-- While bytes are parsed: the edits so far, the reader, the edit at hand. -/
structure PaT (w u : World) (g p : Nat) (v4 : Value) (l : List Edc) (v : Value) (r : List UInt8) (e : Nat) (C : Array Value) : Prop where
  own : OwnR rowDl w.heap.size v4 l u
  rows : ∀ x ∈ l, EdK w.heap.size u g p v4.ownBlock x
  rd : RdP w u g v r e
  cell : u.heap[p]? = some (.cells C 34 (0, 0))
  new : w.heap.size ≤ p
  pg : p ≠ g
  po : v4.ownBlock ≠ some p
  og : v4.ownBlock ≠ some g
theorem own_lt_size {B : Nat} {v : Value} {l : List Edc} {u : World} (h : OwnR rowDl B v l u) (k : Nat) (hk : v.ownBlock = some k) : k < u.heap.size := (ownR_lt h k hk).2
/-- The edit at hand, appended. -/
theorem PaT.append {w u u2 : World} {g p : Nat} {v4 v4' : Value} {l : List Edc} {v : Value} {r : List UInt8} {e : Nat} {C : Array Value} (h : PaT w u g p v4 l v r e C) {x : Edc} (hx : EdK w.heap.size u g p v4.ownBlock x) (o : Obj)
    (ho : OwnR rowDl w.heap.size v4' (l ++ [x]) u2) (hg : (u.alloc o).grownBy u2 v4.ownBlock) (hn : v4'.ownBlock = v4.ownBlock ∨ v4'.ownBlock = some (u.alloc o).heap.size) : PaT w u2 g p v4' (l ++ [x]) v r e C := by
  have b1 : Below u.heap.size u (u.alloc o) := (Below.refl _ u).alloc (Nat.le_refl _) o
  have hbl : ∀ k, k < u.heap.size → v4.ownBlock ≠ some k → u2.heap[k]? = u.heap[k]? := fun k hk hne => (hg.block k (Nat.lt_of_lt_of_le hk b1.size) (fun e => hne e.symm)).trans (b1.block k hk)
  have hsz := Nat.le_trans b1.size hg.size
  have q : ∀ k, k < u.heap.size → v4.ownBlock ≠ some k → v4'.ownBlock ≠ some k := fun k hk hne => by
    rcases hn with e | e
    · rw [e]; exact hne
    · rw [e]; intro e2; have := b1.size; simp only [Option.some.injEq] at e2; omega
  have qx : ∀ y, EdK w.heap.size u g p v4.ownBlock y → EdK w.heap.size u2 g p v4'.ownBlock y := fun y hy => ⟨hy.ok, hy.row.keep fun k hk => hbl k (hy.row.lt k hk) (hy.apart k hk).2.1, fun k hk => ⟨(hy.apart k hk).1, q k (hy.row.lt k hk) (hy.apart k hk).2.1, (hy.apart k hk).2.2⟩, hy.new⟩
  refine ⟨ho, fun y hy => ?_, ?_, (hbl p (lt_of_heap h.cell) h.po).trans h.cell, h.new, h.pg, q p (lt_of_heap h.cell) h.po, q g (lt_of_heap h.rd.cell) h.og⟩
  · rcases List.mem_append.1 hy with hy | hy
    · exact qx y (h.rows y hy)
    · rw [List.mem_singleton.1 hy]; exact qx x hx
  · exact ⟨(hbl g (lt_of_heap h.rd.cell) h.og).trans h.rd.cell, h.rd.red, (h.rd.below.trans (b1.mono h.rd.below.size)).grown hg (Nat.le_trans h.rd.below.size b1.size) (fun k hk => (ownR_lt h.own k hk).1), h.rd.new⟩
/-- The edit at hand, in a new block. -/
theorem PaT.move {w u u2 : World} {g p p2 : Nat} {v4 : Value} {l : List Edc} {v : Value} {r : List UInt8} {e : Nat} {C C2 : Array Value} (h : PaT w u g p v4 l v r e C) (hb : Below u.heap.size u u2) (hp : p2 = u.heap.size) (hc : u2.heap[p2]? = some (.cells C2 34 (0, 0))) : PaT w u2 g p2 v4 l v r e C2 := by
  subst hp
  refine ⟨ownR_below h.own hb, fun y hy => ?_, h.rd.keep hb, hc, h.rd.below.size, ?_, ?_, h.og⟩
  · have k := h.rows y hy
    exact ⟨k.ok, k.row.keep fun j hj => hb.block j (k.row.lt j hj), fun j hj => ⟨(k.apart j hj).1, (k.apart j hj).2.1, Nat.ne_of_lt (k.row.lt j hj)⟩, k.new⟩
  · have := lt_of_heap h.rd.cell; omega
  · intro e; have := own_lt_size h.own _ e; omega
/-- The reader has read on. -/
theorem PaT.read {w u u2 : World} {g p : Nat} {v4 : Value} {l : List Edc} {v v2 : Value} {r r2 : List UInt8} {e e2 : Nat} {C : Array Value} (h : PaT w u g p v4 l v r e C) (hr : RdP w u2 g v2 r2 e2) (ho : Off g u u2) : PaT w u2 g p v4 l v2 r2 e2 C := by
  refine ⟨ownR_same h.own (fun k hk => ho.block k (own_lt_size h.own k hk) (fun e => h.og (by rw [hk, e]))), fun y hy => (h.rows y hy).keep fun k hk h1 _ _ => ho.block k hk h1, hr, (ho.block p (lt_of_heap h.cell) h.pg).trans h.cell, h.new, h.pg, h.po, h.og⟩
/-- Another edit at hand. -/
theorem PaT.put {w u u2 : World} {g p : Nat} {v4 : Value} {l : List Edc} {v : Value} {r : List UInt8} {e : Nat} {C C2 : Array Value} (h : PaT w u g p v4 l v r e C) (hc : u2.heap[p]? = some (.cells C2 34 (0, 0))) (ho : Off p u u2) : PaT w u2 g p v4 l v r e C2 := by
  refine ⟨ownR_same h.own (fun k hk => ho.block k (own_lt_size h.own k hk) (fun e => h.po (by rw [hk, e]))), fun y hy => (h.rows y hy).keep fun k hk _ _ h3 => ho.block k hk h3, ?_, hc, h.new, h.pg, h.po, h.og⟩
  exact ⟨(ho.block g (lt_of_heap h.rd.cell) (fun e => h.pg e.symm)).trans h.rd.cell, h.rd.red, h.rd.below.trans (ho.below (B := w.heap.size) h.new h.rd.below.size), h.rd.new⟩
/-- What is known of the edit at hand. -/
def PaK (w : World) (raw : List UInt8) (u : World) (g p : Nat) (own : Option Nat) (l : List Edc) (r : List UInt8) (e : Nat) (C : Array Value) (gh : Nat) (ok : Bool) : Prop :=
  l.length ≤ raw.length ∧
  if ok = true then e = 0 ∧ r.length < gh ∧ l.length + 1 + r.length ≤ raw.length ∧ ∃ x : Edc, C = arrDl x.f x.t x.v ∧ EdK w.heap.size u g p own x ∧ parseQ raw = (l.map Edc.x ++ x.x :: (parseQ r).1, (parseQ r).2)
  else parseQ raw = (l.map Edc.x, e)
theorem PaK.keep {w u u' : World} {raw r : List UInt8} {g p e gh : Nat} {own : Option Nat} {l : List Edc} {C : Array Value} {ok : Bool} (h : PaK w raw u g p own l r e C gh ok)
    (hb : ∀ k, k < u.heap.size → k ≠ g → own ≠ some k → k ≠ p → u'.heap[k]? = u.heap[k]?) : PaK w raw u' g p own l r e C gh ok := by
  refine ⟨h.1, ?_⟩
  have h2 := h.2
  cases ok with
  | true =>
    rw [if_pos rfl] at h2 ⊢
    obtain ⟨h3, h4, h5, x, h6, h7, h8⟩ := h2
    exact ⟨h3, h4, h5, x, h6, h7.keep hb, h8⟩
  | false =>
    rw [if_neg (by decide)] at h2 ⊢
    exact h2
end Go.Proofs.Ytbilempgnpnacaa
