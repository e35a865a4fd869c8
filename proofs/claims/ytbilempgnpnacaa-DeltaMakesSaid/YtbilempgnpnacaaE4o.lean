/-
  Layer 14, the program: a reader; take, number.
-/
import Derived.Test.YtbilempgnpnacaaE4n
import Derived.Test.YtbilempgnpnacaaCl
namespace Go.Proofs.Ytbilempgnpnacaa
set_option maxRecDepth 20000
open Go.RowKit
set_option linter.unusedVariables false
set_option linter.unusedSimpArgs false

/-- A reader in a block of its own, and what is left: bytes that were there before. -/
structure RdP (w0 w : World) (g : Nat) (v : Value) (r : List UInt8) (e : Nat) : Prop where
  cell : w.heap[g]? = some (.cells #[v, .int .i64 (e : Int)] 50 (0, 0))
  red : Red w0 v r
  below : Below w0.heap.size w0 w
  new : w0.heap.size ≤ g
theorem RdP.cells {w0 w : World} {g : Nat} {v : Value} {r : List UInt8} {e : Nat} (h : RdP w0 w g v r e) : w.cell? ⟨g, 0, none⟩ = some v ∧ w.cell? ⟨g, 1, none⟩ = some (.int .i64 (e : Int)) ∧ w.frozen? ⟨g, 0, none⟩ = false ∧ w.frozen? ⟨g, 1, none⟩ = false :=
  ⟨(cell_of_row w g 0 _ _ _ h.cell).trans rfl, (cell_of_row w g 1 _ _ _ h.cell).trans rfl, not_frozen h.cell 0, not_frozen h.cell 1⟩
theorem RdP.keep {w0 w w' : World} {g : Nat} {v : Value} {r : List UInt8} {e : Nat} (h : RdP w0 w g v r e) (hb : Below w.heap.size w w') : RdP w0 w' g v r e :=
  ⟨(hb.block g (lt_of_heap h.cell)).trans h.cell, h.red, h.below.trans (hb.mono h.below.size), h.new⟩
theorem RdP.drew {w0 w : World} {g : Nat} {v : Value} {r : List UInt8} {e : Nat} (h : RdP w0 w g v r e) : RdP w0 w.drew g v r e := ⟨h.cell, h.red, h.below.drew, h.new⟩
theorem RdP.err {w0 w : World} {g : Nat} {v : Value} {r : List UInt8} {e : Nat} (h : RdP w0 w g v r e) (k : Nat) : RdP w0 (w.setCell ⟨g, 1, none⟩ (.int .i64 (k : Int))) g v r k :=
  ⟨by rw [heap_put h.cell]; rfl, h.red, h.below.setCell (p := ⟨g, 1, none⟩) h.new _, h.new⟩
theorem RdP.rest {w0 w : World} {g : Nat} {v v' : Value} {r r' : List UInt8} {e : Nat} (h : RdP w0 w g v r e) (hr : Red w0 v' r') : RdP w0 (w.setCell ⟨g, 0, none⟩ v') g v' r' e :=
  ⟨by rw [heap_put h.cell]; rfl, hr, h.below.setCell (p := ⟨g, 0, none⟩) h.new _, h.new⟩
theorem off_setCell (w : World) (g k : Nat) (v : Value) : Off g w (w.setCell ⟨g, k, none⟩ v) := by
  have b := (Below.refl g w).setCell (p := ⟨g, k, none⟩) (Nat.le_refl _) v
  exact ⟨b.os, b.tape, b.output, b.size, fun j _ hj => Below.heap_setCell _ _ _ _ hj⟩
/-- The first bytes; what is behind them. -/
theorem red_first {w : World} {a : Option Addr} {n c k : Nat} {l : List UInt8} (h : Red w (.slice a n c) l) (hk : k ≤ n) : Red w (.slice a k c) (l.take k) := by
  obtain ⟨rfl, h1, h2, h3, h4⟩ := redP h
  have hl : (l.take k).length = k := by rw [List.length_take]; omega
  refine ⟨a, c, by rw [hl], fun hp => ?_, fun e => ?_, by rw [hl]; omega, h4⟩
  · obtain ⟨b, o, e, hb, hc⟩ := h1 (by omega)
    exact ⟨b, o, e, hb, fun i hi => by rw [hc i (by omega)]; simp⟩
  · have := h2 e
    omega
theorem red_rest {w : World} {a : Option Addr} {n c k : Nat} {l : List UInt8} (h : Red w (.slice a n c) l) (hk : k ≤ n) : Red w (.slice (if c = k then a else a.map (·.add k)) (n - k) (c - k)) (l.drop k) := by
  obtain ⟨rfl, h1, h2, h3, h4⟩ := redP h
  refine ⟨_, c - k, by rw [List.length_drop], bat_drop h1 c k hk h3, fun e => ?_, by rw [List.length_drop]; omega, by omega⟩
  have := no_mid (k := k) (m := l.length) h2 hk (Nat.le_refl _) e
  rw [List.length_drop]
  exact this
set_option maxHeartbeats 4000000 in
theorem take_down {w0 w : World} {g : Nat} {v : Value} {r : List UInt8} {e : Nat} (h : RdP w0 w g v r e) (he : e ≠ 0) (n : Int) :
    Calls Try.prog 34 #[.pointer (some ⟨g, 0, none⟩), .int .i64 n] w fun x w' => x = .returned (.slice none 0 0) ∧ w' = w := by
  obtain ⟨c0, c1, -, -⟩ := h.cells
  obtain ⟨E, hE⟩ : ∃ E : Int, (e : Int) = E := ⟨_, rfl⟩
  rw [hE] at c1
  have f1 : (E == 0) = false := by rw [beq_eq_false_iff_ne]; omega
  have f2 : (E != 0) = true := by simp [bne, f1]
  clear h he hE c0
  go_enter Try.func34, Try.ntmps34
  go_wp2
  go_ret
  exact ⟨rfl, rfl⟩
set_option maxHeartbeats 4000000 in
theorem take_short {w0 w : World} {g : Nat} {a : Option Addr} {m c : Nat} {r : List UInt8} (h : RdP w0 w g (.slice a m c) r 0) (n : Nat) (hn : m < n) :
    Calls Try.prog 34 #[.pointer (some ⟨g, 0, none⟩), .int .i64 (n : Int)] w fun x w' => x = .returned (.slice none 0 0) ∧ RdP w0 w' g (.slice a m c) r 3 ∧ Off g w w' := by
  have H := Lib.hid h
  obtain ⟨c0, c1, z0, z1⟩ := h.cells
  have f0 : (m : Int) < (n : Int) := by omega
  have f1 : (w.setCell ⟨g, 1, none⟩ (.int .i64 3)).cell? ⟨g, 1, none⟩ = some (.int .i64 3) := (h.err 3).cells.2.1
  clear h
  go_enter Try.func34, Try.ntmps34
  go_wp2
  go_ret
  exact ⟨rfl, H.out.err 3, off_setCell w g 1 _⟩
set_option maxHeartbeats 4000000 in
theorem take_ok {w0 w : World} {g : Nat} {a : Option Addr} {m c : Nat} {r : List UInt8} (h : RdP w0 w g (.slice a m c) r 0) (n : Nat) (hn : n ≤ m) :
    Calls Try.prog 34 #[.pointer (some ⟨g, 0, none⟩), .int .i64 (n : Int)] w fun x w' => x = .returned (.slice a n c) ∧ RdP w0 w' g (.slice (if c = n then a else a.map (·.add n)) (m - n) (c - n)) (r.drop n) 0 ∧ Off g w w' := by
  have H := Lib.hid h
  obtain ⟨c0, c1, z0, z1⟩ := h.cells
  have hm := redP h.red
  have f0 : ¬ ((m : Int) < (n : Int)) := by omega
  have s1 := fun u => slice_head a m c n n rfl (by omega) u
  have s2 := fun u => slice_u8_l u a m c n hn n rfl
  have HR := Lib.hid (red_rest h.red hn)
  generalize (if c = n then a else a.map (·.add n)) = A at *
  clear h hm
  go_enter Try.func34, Try.ntmps34
  go_wp2
  go_ret
  exact ⟨rfl, H.out.rest HR.out, off_setCell w g 0 _⟩
end Go.Proofs.Ytbilempgnpnacaa
