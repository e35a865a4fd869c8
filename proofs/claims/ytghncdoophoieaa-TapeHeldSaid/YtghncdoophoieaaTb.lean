/-
  Layer 4: a tape's block; New, Room, Fuse, Held, Down.
-/
import Derived.Test.YtghncdoophoieaaTa
import Derived.Deep.QuietTactic
import Derived.BigQuiet
namespace Go.Proofs.Ytghncdoophoieaa
open Go.RowKit
set_option linter.unusedVariables false

/-- A tape in its block: how much room, the bytes, how many are held, the fuse, is it down? -/
structure Tat (w : World) (b : Nat) (v : Value) (r : Nat) (l : List UInt8) (hd : Nat) (fu : Int) (dn : Bool) : Prop where
  heap : w.heap[b]? = some (.cells #[.int .i64 r, v, .int .i64 hd, .int .i64 fu, .bool dn] 53 (0, 0))
  row : Row w v l
  apart : foot v ≠ some b
  room : r ≤ 16777216
  len : l.length ≤ 16777216
  held : hd ≤ l.length
  fuse0 : 0 ≤ fu
  fuse1 : fu ≤ 9223372036854775807
section
variable {w : World} {b : Nat} {v : Value} {r : Nat} {l : List UInt8} {hd : Nat} {fu : Int} {dn : Bool}
theorem Tat.lt (h : Tat w b v r l hd fu dn) : b < w.heap.size := (Array.getElem?_eq_some_iff.1 h.heap).1
theorem Tat.c0 (h : Tat w b v r l hd fu dn) : w.cell? ⟨b, 0, none⟩ = some (.int .i64 r) := (cell_of_row w b 0 _ _ _ h.heap).trans rfl
theorem Tat.c1 (h : Tat w b v r l hd fu dn) : w.cell? ⟨b, 1, none⟩ = some v := (cell_of_row w b 1 _ _ _ h.heap).trans rfl
theorem Tat.c2 (h : Tat w b v r l hd fu dn) : w.cell? ⟨b, 2, none⟩ = some (.int .i64 hd) := (cell_of_row w b 2 _ _ _ h.heap).trans rfl
theorem Tat.c3 (h : Tat w b v r l hd fu dn) : w.cell? ⟨b, 3, none⟩ = some (.int .i64 fu) := (cell_of_row w b 3 _ _ _ h.heap).trans rfl
theorem Tat.c4 (h : Tat w b v r l hd fu dn) : w.cell? ⟨b, 4, none⟩ = some (.bool dn) := (cell_of_row w b 4 _ _ _ h.heap).trans rfl
theorem Tat.fz (h : Tat w b v r l hd fu dn) (i : Nat) : w.frozen? ⟨b, i, none⟩ = false := by simp [World.frozen?, h.heap]
/-- The blocks that are the tape's. -/
def Mine (b : Nat) (v : Value) : Nat → Prop := fun k => k = b ∨ foot v = some k
theorem Tat.chg (h : Tat w b v r l hd fu dn) {S : Nat → Prop} {w' : World} (hc : Chg S w w') (hn : ∀ k, Mine b v k → ¬ S k) : Tat w' b v r l hd fu dn :=
  ⟨(hc.block b h.lt (hn b (.inl rfl))).trans h.heap, h.row.chg hc fun g hg => hn g (.inr hg), h.apart, h.room, h.len, h.held, h.fuse0, h.fuse1⟩
theorem Tat.keep (h : Tat w b v r l hd fu dn) {w' : World} (hb : Below w.heap.size w w') : Tat w' b v r l hd fu dn :=
  h.chg (S := fun _ => False) (Chg.of_below hb) fun _ _ h => h
theorem Tat.drew (h : Tat w b v r l hd fu dn) : Tat w.drew b v r l hd fu dn := h.chg (S := fun _ => False) (Chg.refl _ w).drew fun _ _ h => h
theorem Tat.drewN (h : Tat w b v r l hd fu dn) (n : Nat) : Tat (w.drewN n) b v r l hd fu dn := h.chg (S := fun _ => False) ((Chg.refl _ w).drewN n) fun _ _ h => h
theorem Tat.mine (h : Tat w b v r l hd fu dn) (k : Nat) (hk : Mine b v k) : k < w.heap.size := by
  rcases hk with rfl | hk
  · exact h.lt
  · exact h.row.lt k hk
theorem heap_set {w : World} {b k : Nat} {cs : Array Value} {t : TypeId} {fr : Nat × Nat} (h : w.heap[b]? = some (.cells cs t fr)) (x : Value) : (w.setCell ⟨b, k, none⟩ x).heap[b]? = some (.cells (cs.setIfInBounds k x) t fr) := by
  rw [setCell_eq_setRow w b k cs _ _ x h]; exact setRow_heap w b cs _ _ _ h
theorem Row.set {w : World} {v : Value} {l : List UInt8} (h : Row w v l) (p : Addr) (hp : foot v ≠ some p.block) (x : Value) : Row (w.setCell p x) v l :=
  h.keep fun g hg => Below.heap_setCell _ _ _ _ (fun e => hp (e ▸ hg))
theorem Tat.set0 (h : Tat w b v r l hd fu dn) (x : Nat) (hx : x ≤ 16777216) : Tat (w.setCell ⟨b, 0, none⟩ (.int .i64 x)) b v x l hd fu dn :=
  ⟨(heap_set h.heap _).trans (by simp), h.row.set _ h.apart _, h.apart, hx, h.len, h.held, h.fuse0, h.fuse1⟩
theorem Tat.set2 (h : Tat w b v r l hd fu dn) (x : Nat) (hx : x ≤ l.length) : Tat (w.setCell ⟨b, 2, none⟩ (.int .i64 x)) b v r l x fu dn :=
  ⟨(heap_set h.heap _).trans (by simp), h.row.set _ h.apart _, h.apart, h.room, h.len, hx, h.fuse0, h.fuse1⟩
theorem Tat.set3 (h : Tat w b v r l hd fu dn) (x : Int) (h0 : 0 ≤ x) (h1 : x ≤ 9223372036854775807) : Tat (w.setCell ⟨b, 3, none⟩ (.int .i64 x)) b v r l hd x dn :=
  ⟨(heap_set h.heap _).trans (by simp), h.row.set _ h.apart _, h.apart, h.room, h.len, h.held, h0, h1⟩
theorem Tat.set4 (h : Tat w b v r l hd fu dn) (x : Bool) : Tat (w.setCell ⟨b, 4, none⟩ (.bool x)) b v r l hd fu x :=
  ⟨(heap_set h.heap _).trans (by simp), h.row.set _ h.apart _, h.apart, h.room, h.len, h.held, h.fuse0, h.fuse1⟩
/-- Other bytes: they lie in this world already. -/
theorem Tat.set1 (h : Tat w b v r l hd fu dn) {v' : Value} {l' : List UInt8} (hr : Row w v' l') (ha : foot v' ≠ some b) (hl : l'.length ≤ 16777216) (hh : hd ≤ l'.length) : Tat (w.setCell ⟨b, 1, none⟩ v') b v' r l' hd fu dn :=
  ⟨(heap_set h.heap _).trans (by simp), hr.set _ ha _, ha, h.room, hl, hh, h.fuse0, h.fuse1⟩
end

/-- How much room a number gives. -/
def clamp (n : Int) : Nat := (min (max n 0) 16777216).toNat
theorem clamp_le (n : Int) : clamp n ≤ 16777216 := by unfold clamp; omega
set_option maxHeartbeats 1000000 in
theorem Room_at (b : Nat) (v : Value) (r : Nat) (l : List UInt8) (hd : Nat) (fu : Int) (dn : Bool) (n : Int) (w : World) (h : Tat w b v r l hd fu dn) :
    Calls Try.prog 27 #[.pointer (some ⟨b, 0, none⟩), .int .i64 n] w fun e w' => e = .returned (.tuple #[]) ∧ Tat w' b v (clamp n) l hd fu dn ∧ Chg (Mine b v) w w' := by
  have c0 := h.c0; have f0 := h.fz 0
  have hs := h.set0 (clamp n) (clamp_le n)
  have hc : Chg (Mine b v) w (w.setCell ⟨b, 0, none⟩ (.int .i64 (clamp n))) := (Chg.refl _ w).setCell _ (fun _ => .inl rfl) _
  have H := Lib.hid (And.intro hs hc)
  have hcase : n < 0 ∨ (0 ≤ n ∧ n ≤ 16777216) ∨ 16777216 < n := by omega
  clear h hs hc
  rcases hcase with h1 | ⟨h1, h2⟩ | h1
  · have e : (clamp n : Int) = 0 := by unfold clamp; omega
    rw [e] at H
    clear e
    go_enter Try.func27, Try.ntmps27
    go_wp2
    go_end0
    exact ⟨rfl, H.out⟩
  · have e : (clamp n : Int) = n := by unfold clamp; omega
    rw [e] at H
    clear e
    go_enter Try.func27, Try.ntmps27
    go_wp2
    go_end0
    exact ⟨rfl, H.out⟩
  · have e : (clamp n : Int) = 16777216 := by unfold clamp; omega
    rw [e] at H
    clear e
    go_enter Try.func27, Try.ntmps27
    go_wp2
    go_end0
    exact ⟨rfl, H.out⟩
set_option maxHeartbeats 1000000 in
theorem Room_nil (n : Int) (w : World) : Calls Try.prog 27 #[.pointer none, .int .i64 n] w fun e w' => e = .returned (.tuple #[]) ∧ w = w' := by
  go_enter Try.func27, Try.ntmps27
  go_wp2
  go_end0
  exact ⟨rfl, rfl⟩
set_option maxHeartbeats 1000000 in
theorem Fuse_at (b : Nat) (v : Value) (r : Nat) (l : List UInt8) (hd : Nat) (fu : Int) (dn : Bool) (n : Int) (hn : n ≤ 9223372036854775807) (w : World) (h : Tat w b v r l hd fu dn) :
    Calls Try.prog 22 #[.pointer (some ⟨b, 0, none⟩), .int .i64 n] w fun e w' => e = .returned (.tuple #[]) ∧ Tat w' b v r l hd (max n 0) dn ∧ Chg (Mine b v) w w' := by
  have c0 := h.c3; have f0 := h.fz 3
  have hs := h.set3 (max n 0) (by omega) (by omega)
  have hc : Chg (Mine b v) w (w.setCell ⟨b, 3, none⟩ (.int .i64 (max n 0))) := (Chg.refl _ w).setCell _ (fun _ => .inl rfl) _
  have H := Lib.hid (And.intro hs hc)
  clear h hs hc
  by_cases h1 : n < 0
  · rw [show max n 0 = 0 by omega] at H ⊢
    go_enter Try.func22, Try.ntmps22
    go_wp2
    go_end0
    exact ⟨rfl, H.out⟩
  · rw [show max n 0 = n by omega] at H ⊢
    go_enter Try.func22, Try.ntmps22
    go_wp2
    go_end0
    exact ⟨rfl, H.out⟩
set_option maxHeartbeats 1000000 in
theorem Fuse_nil (n : Int) (w : World) : Calls Try.prog 22 #[.pointer none, .int .i64 n] w fun e w' => e = .returned (.tuple #[]) ∧ w = w' := by
  go_enter Try.func22, Try.ntmps22
  go_wp2
  go_end0
  exact ⟨rfl, rfl⟩
set_option maxHeartbeats 1000000 in
theorem Held_at (b : Nat) (x : Int) (w : World) (h : w.cell? ⟨b, 2, none⟩ = some (.int .i64 x)) :
    Calls Try.prog 14 #[.pointer (some ⟨b, 0, none⟩)] w fun e w' => e = .returned (.int .i64 x) ∧ w = w' := by
  go_enter Try.func14, Try.ntmps14
  go_wp2
  go_ret
  exact ⟨rfl, rfl⟩
set_option maxHeartbeats 1000000 in
theorem Held_nil (w : World) : Calls Try.prog 14 #[.pointer none] w fun e w' => e = .returned (.int .i64 0) ∧ w = w' := by
  go_enter Try.func14, Try.ntmps14
  go_wp2
  go_ret
  exact ⟨rfl, rfl⟩
set_option maxHeartbeats 1000000 in
theorem Down_at (b : Nat) (x : Bool) (w : World) (h : w.cell? ⟨b, 4, none⟩ = some (.bool x)) :
    Calls Try.prog 15 #[.pointer (some ⟨b, 0, none⟩)] w fun e w' => e = .returned (.bool x) ∧ w = w' := by
  go_enter Try.func15, Try.ntmps15
  go_wp2
  go_ret
  exact ⟨rfl, rfl⟩
set_option maxHeartbeats 1000000 in
theorem Down_nil (w : World) : Calls Try.prog 15 #[.pointer none] w fun e w' => e = .returned (.bool true) ∧ w = w' := by
  go_enter Try.func15, Try.ntmps15
  go_wp2
  go_ret
  exact ⟨rfl, rfl⟩
set_option maxHeartbeats 1000000 in
theorem New_any (n : Int) (w : World) :
    Calls Try.prog 8 #[.int .i64 n] w fun e w' => e = .returned (.pointer (some ⟨w.heap.size, 0, none⟩)) ∧ Tat w' w.heap.size (.slice none 0 0) (clamp n) [] 0 0 false ∧ Below w.heap.size w w' := by
  go_enter Try.func8, Try.ntmps8
  go_wp2_with fail
  have ht : Tat (w.alloc (.cells #[.int .i64 0, .slice none 0 0, .int .i64 0, .int .i64 0, .bool false] 53)) w.heap.size (.slice none 0 0) 0 [] 0 0 false :=
    ⟨heap_alloc_new _ _, Row.nil _ _, by simp [foot], by omega, by simp, by simp, by omega, by omega⟩
  refine (Room_at _ _ _ _ _ _ _ n _ ht).mono ?_
  rintro e w1 ⟨rfl, h1, h2⟩
  have hb : Below w.heap.size w w1 := ((Below.refl _ w).alloc (Nat.le_refl _) _).trans (h2.below (by simp) fun i _ hi => by
    rcases hi with rfl | hi
    · exact Nat.le_refl _
    · simp [foot] at hi)
  have H := Lib.hid h1
  clear h1 h2 ht
  go_wp2
  go_ret
  exact ⟨rfl, H.out, hb⟩
end Go.Proofs.Ytghncdoophoieaa
