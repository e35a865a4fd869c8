/-
  Layer 4: a tape that a law has made: the calls in the form that the laws' walks take.
-/
import Derived.Test.YtghncdoophoieaaTk
namespace Go.Proofs.Ytghncdoophoieaa
open Go.RowKit
set_option linter.unusedVariables false

/-- A tape at block b, made behind w0: what was there in w0 is as it was. -/
def Lx (w0 w : World) (b r : Nat) (l : List UInt8) (hd : Nat) (fu : Int) (dn : Bool) : Prop :=
  ∃ v, Tat w b v r l hd fu dn ∧ Below w0.heap.size w0 w ∧ w0.heap.size ≤ b ∧ ∀ g, foot v = some g → w0.heap.size ≤ g
section
variable {w0 w w' : World} {b r : Nat} {l : List UInt8} {hd : Nat} {fu : Int} {dn : Bool}
theorem Lx.bel (h : Lx w0 w b r l hd fu dn) : Below w0.heap.size w0 w := by obtain ⟨v, _, h, _⟩ := h; exact h
theorem Lx.lt (h : Lx w0 w b r l hd fu dn) : b < w.heap.size := by obtain ⟨v, h, _⟩ := h; exact h.lt
theorem Lx.size (h : Lx w0 w b r l hd fu dn) : w0.heap.size ≤ b := by obtain ⟨v, _, _, h, _⟩ := h; exact h
theorem Lx.len (h : Lx w0 w b r l hd fu dn) : l.length ≤ 16777216 := by obtain ⟨v, h, _⟩ := h; exact h.len
theorem Lx.held (h : Lx w0 w b r l hd fu dn) : hd ≤ l.length := by obtain ⟨v, h, _⟩ := h; exact h.held
theorem Lx.room (h : Lx w0 w b r l hd fu dn) : r ≤ 16777216 := by obtain ⟨v, h, _⟩ := h; exact h.room
theorem Lx.c2 (h : Lx w0 w b r l hd fu dn) : w.cell? ⟨b, 2, none⟩ = some (.int .i64 hd) := by obtain ⟨v, h, _⟩ := h; exact h.c2
theorem Lx.c4 (h : Lx w0 w b r l hd fu dn) : w.cell? ⟨b, 4, none⟩ = some (.bool dn) := by obtain ⟨v, h, _⟩ := h; exact h.c4
theorem Lx.keep (h : Lx w0 w b r l hd fu dn) (hb : Below w.heap.size w w') : Lx w0 w' b r l hd fu dn := by
  obtain ⟨v, h1, h2, h3, h4⟩ := h
  exact ⟨v, h1.keep hb, h2.trans (hb.mono h2.size), h3, h4⟩
/-- A world in which other new blocks than the tape's may have turned. -/
theorem Lx.other (h : Lx w0 w b r l hd fu dn) {S : Nat → Prop} (hc : Chg S w w') (hS : ∀ k, S k → w0.heap.size ≤ k) (hn : ∀ v, Tat w b v r l hd fu dn → ∀ k, Mine b v k → ¬ S k) : Lx w0 w' b r l hd fu dn := by
  obtain ⟨v, h1, h2, h3, h4⟩ := h
  exact ⟨v, h1.chg hc (hn v h1), h2.trans (hc.below h2.size fun i _ hi => hS i hi), h3, h4⟩
theorem Lx.step {v : Value} {r' : Nat} {l' : List UInt8} {hd' : Nat} {fu' : Int} {dn' : Bool} (h2 : Below w0.heap.size w0 w) (h3 : w0.heap.size ≤ b) (h4 : ∀ g, foot v = some g → w0.heap.size ≤ g)
    (k : ∃ v', Tat w' b v' r' l' hd' fu' dn' ∧ Fresh w v v' ∧ Chg (Mine b v) w w') : Lx w0 w' b r' l' hd' fu' dn' := by
  obtain ⟨v', k1, k2, k3⟩ := k
  refine ⟨v', k1, h2.trans (k3.below h2.size fun i _ hi => ?_), h3, fun g hg => ?_⟩
  · rcases hi with rfl | hi
    · exact h3
    · exact h4 i hi
  · rcases k2 g hg with h | h
    · exact h4 g h
    · exact Nat.le_trans h2.size h
end
theorem L_new (n : Int) (w : World) : Calls Try.prog 8 #[.int .i64 n] w fun e w' => e = .returned (.pointer (some ⟨w.heap.size, 0, none⟩)) ∧ Lx w w' w.heap.size (clamp n) [] 0 0 false :=
  (New_any n w).mono fun e w' ⟨h1, h2, h3⟩ => ⟨h1, _, h2, h3, Nat.le_refl _, fun g hg => by cases hg⟩
section
variable {w0 w : World} {b r : Nat} {l : List UInt8} {hd : Nat} {fu : Int} {dn : Bool} (h : Lx w0 w b r l hd fu dn)
include h
theorem L_room (n : Int) : Calls Try.prog 27 #[.pointer (some ⟨b, 0, none⟩), .int .i64 n] w fun e w' => e = .returned (.tuple #[]) ∧ Lx w0 w' b (clamp n) l hd fu dn := by
  obtain ⟨v, h1, h2, h3, h4⟩ := h
  exact (Room_at b v r l hd fu dn n w h1).mono fun e w' ⟨e1, e2, e3⟩ => ⟨e1, Lx.step h2 h3 h4 ⟨v, e2, Fresh.refl _ _, e3⟩⟩
theorem L_fuse (n : Int) (hn : n ≤ 9223372036854775807) : Calls Try.prog 22 #[.pointer (some ⟨b, 0, none⟩), .int .i64 n] w fun e w' => e = .returned (.tuple #[]) ∧ Lx w0 w' b r l hd (max n 0) dn := by
  obtain ⟨v, h1, h2, h3, h4⟩ := h
  exact (Fuse_at b v r l hd fu dn n hn w h1).mono fun e w' ⟨e1, e2, e3⟩ => ⟨e1, Lx.step h2 h3 h4 ⟨v, e2, Fresh.refl _ _, e3⟩⟩
theorem L_fall (k : Int) : Calls Try.prog 23 #[.pointer (some ⟨b, 0, none⟩), .int .i64 k] w fun e w' => e = .returned (.tuple #[]) ∧ Lx w0 w' b r (l.take (fell l.length hd k)) (fell l.length hd k) fu true := by
  obtain ⟨v, h1, h2, h3, h4⟩ := h
  exact (Fall_at b v r l hd fu dn k w h1).mono fun e w' ⟨e1, v', e2, e3, e4⟩ => ⟨e1, Lx.step h2 h3 h4 ⟨v', e2, fun g hg => .inl (by rw [← e4]; exact hg), e3⟩⟩
/-- What lies behind Rise. -/
theorem L_rise : Calls Try.prog 24 #[.pointer (some ⟨b, 0, none⟩)] w fun e w' => e = .returned (.tuple #[]) ∧ Lx w0 w' b r (if dn then l.take hd else l) hd fu false := by
  cases dn with
  | false =>
    refine (Rise_up b w h.c4).mono ?_
    rintro e w' ⟨rfl, rfl⟩
    exact ⟨rfl, h⟩
  | true =>
    obtain ⟨v, h1, h2, h3, h4⟩ := h
    exact (Rise_down b v r l hd fu w h1).mono fun e w' ⟨e1, v', e2, e3, e4⟩ => ⟨e1, Lx.step h2 h3 h4 ⟨v', e2, fun g hg => .inl (by rw [← e4]; exact hg), e3⟩⟩
theorem L_held : Calls Try.prog 14 #[.pointer (some ⟨b, 0, none⟩)] w fun e w' => e = .returned (.int .i64 hd) ∧ w = w' := Held_at b hd w h.c2
theorem L_down : Calls Try.prog 15 #[.pointer (some ⟨b, 0, none⟩)] w fun e w' => e = .returned (.bool dn) ∧ w = w' := Down_at b dn w h.c4
/-- Bytes: a row of its own. -/
theorem L_bytes : Calls Try.prog 12 #[.pointer (some ⟨b, 0, none⟩)] w fun e w' => ∃ a c, e = .returned (.slice a l.length c) ∧ Row w' (.slice a l.length c) l ∧ (∀ g, foot (.slice a l.length c) = some g → w.heap.size ≤ g) ∧ Lx w0 w' b r l hd fu dn ∧ Below w.heap.size w w' := by
  obtain ⟨v, h1, h2, h3, h4⟩ := h
  refine (Bytes_at b v l w h1.c1 h1.row h1.len).mono fun e w' ⟨v', e1, e2, e3, e4⟩ => ?_
  obtain ⟨a, c, rfl, _⟩ := e2.shape
  exact ⟨a, c, e1, e2, e3, Lx.keep ⟨v, h1, h2, h3, h4⟩ e4, e4⟩
end
section
variable {w0 w : World} {b r : Nat} {l : List UInt8} {hd : Nat} {fu : Int} (h : Lx w0 w b r l hd fu false)
include h
theorem L_hold : Calls Try.prog 18 #[.pointer (some ⟨b, 0, none⟩)] w fun e w' => e = .returned (.int .i64 (if burns fu then 16 else 0)) ∧ Lx w0 w' b r l (if burns fu then hd else l.length) (burnt fu) (burns fu) := by
  obtain ⟨v, h1, h2, h3, h4⟩ := h
  exact (Hold_done b v r l hd fu w h1).mono fun e w' ⟨e1, e2⟩ => ⟨e1, Lx.step h2 h3 h4 e2⟩
theorem L_cut (k : Int) (hk : 0 ≤ k ∧ k ≤ l.length) : Calls Try.prog 28 #[.pointer (some ⟨b, 0, none⟩), .int .i64 k] w fun e w' => e = .returned (.int .i64 (if burns fu then 16 else 0)) ∧
    Lx w0 w' b r (if burns fu then l else l.take k.toNat) (if burns fu then hd else k.toNat) (burnt fu) (burns fu) := by
  obtain ⟨v, h1, h2, h3, h4⟩ := h
  exact (Cut_done b v r l hd fu w h1 k hk).mono fun e w' ⟨e1, e2⟩ => ⟨e1, Lx.step h2 h3 h4 e2⟩
theorem L_cut_bad (k : Int) (hk : k < 0 ∨ (l.length : Int) < k) : Calls Try.prog 28 #[.pointer (some ⟨b, 0, none⟩), .int .i64 k] w fun e w' => e = .returned (.int .i64 1) ∧ Lx w0 w' b r l hd fu false := by
  have hx := h
  obtain ⟨v, h1, h2, h3, h4⟩ := h
  exact (Cut_bad b v r l hd fu w h1 k hk).mono fun e w' ⟨e1, e2⟩ => ⟨e1, hx.keep e2⟩
/-- D: the blocks in which the parts lie: none of them is the tape's. -/
theorem L_write (pa : Option Addr) (np pc : Nat) (ls : List (List UInt8)) (hp : ∀ v, Tat w b v r l hd fu false → ∃ D : Nat → Prop, PartsIn D w pa ls ∧ ∀ k, D k → ¬ Mine b v k ∧ k < w.heap.size) (hn : np = ls.length) (hm : np ≤ maxLen) (hf : fits r l.length (total ls)) :
    Calls Try.prog 17 #[.pointer (some ⟨b, 0, none⟩), .slice pa np pc] w fun e w' => e = .returned (.int .i64 (if burns fu then 16 else 0)) ∧ Lx w0 w' b r (l ++ ls.flatten) hd (burnt fu) (burns fu) := by
  obtain ⟨v, h1, h2, h3, h4⟩ := h
  obtain ⟨D, d1, d2⟩ := hp v h1
  exact (Write_done b v r l hd fu w h1 D pa np pc ls d1 hn hm d2 hf).mono fun e w' ⟨e1, e2⟩ => ⟨e1, Lx.step h2 h3 h4 e2⟩
theorem L_write_full (D : Nat → Prop) (pa : Option Addr) (np pc : Nat) (ls : List (List UInt8)) (hp : PartsIn D w pa ls) (hn : np = ls.length) (hm : np ≤ maxLen) (hf : ¬ fits r l.length (total ls)) :
    Calls Try.prog 17 #[.pointer (some ⟨b, 0, none⟩), .slice pa np pc] w fun e w' => e = .returned (.int .i64 14) ∧ Lx w0 w' b r l hd fu false := by
  have hx := h
  obtain ⟨v, h1, h2, h3, h4⟩ := h
  exact (Write_full b v r l hd fu w h1 D pa np pc ls hp hn hm hf).mono fun e w' ⟨e1, e2⟩ => ⟨e1, hx.keep e2⟩
theorem L_swap (pa : Option Addr) (np pc : Nat) (m : List UInt8) (hm : BAt w pa m) (hn : np = m.length) (hno : pa = none → np = 0 ∧ pc = 0) (hD : 0 < m.length → ∀ v, Tat w b v r l hd fu false → ∀ a, pa = some a → ¬ Mine b v a.block) (hr : m.length ≤ r) :
    Calls Try.prog 26 #[.pointer (some ⟨b, 0, none⟩), .slice pa np pc] w fun e w' => e = .returned (.int .i64 (if burns fu then 16 else 0)) ∧
      Lx w0 w' b r (if burns fu then l else m) (if burns fu then hd else m.length) (burnt fu) (burns fu) := by
  obtain ⟨v, h1, h2, h3, h4⟩ := h
  exact (Swap_done b v r l hd fu w h1 pa np pc m hm hn hno (fun hp => hD hp v h1) hr).mono fun e w' ⟨e1, e2⟩ => ⟨e1, Lx.step h2 h3 h4 e2⟩
theorem L_swap_full (pa : Option Addr) (np pc : Nat) (hnp : np ≤ maxLen) (hr : r < np) :
    Calls Try.prog 26 #[.pointer (some ⟨b, 0, none⟩), .slice pa np pc] w fun e w' => e = .returned (.int .i64 14) ∧ Lx w0 w' b r l hd fu false := by
  have hx := h
  obtain ⟨v, h1, h2, h3, h4⟩ := h
  exact (Swap_full b v r l hd fu w h1 pa np pc hnp hr).mono fun e w' ⟨e1, e2⟩ => ⟨e1, hx.keep e2⟩
end
section
variable {w0 wa w : World} {b r : Nat} {l : List UInt8} {hd : Nat} {fu : Int} (h : Lx w0 wa b r l hd fu false) (hb : Below wa.heap.size wa w)
include h hb
/-- The parts lie in blocks that were made since. -/
theorem L_write_new (pa : Option Addr) (np pc : Nat) (ls : List (List UInt8)) (hp : PartsIn (fun k => wa.heap.size ≤ k ∧ k < w.heap.size) w pa ls) (hn : np = ls.length) (hm : np ≤ maxLen) (hf : fits r l.length (total ls)) :
    Calls Try.prog 17 #[.pointer (some ⟨b, 0, none⟩), .slice pa np pc] w fun e w' => e = .returned (.int .i64 (if burns fu then 16 else 0)) ∧ Lx w0 w' b r (l ++ ls.flatten) hd (burnt fu) (burns fu) := by
  obtain ⟨v, h1, h2, h3, h4⟩ := h
  exact (Write_done b v r l hd fu w (h1.keep hb) _ pa np pc ls hp hn hm (fun k hk => ⟨fun hm => by have := h1.mine k hm; omega, hk.2⟩) hf).mono fun e w' ⟨e1, e2⟩ => ⟨e1, Lx.step (h2.trans (hb.mono h2.size)) h3 h4 e2⟩
theorem L_swap_new (pa : Option Addr) (np pc : Nat) (m : List UInt8) (hm : BAt w pa m) (hn : np = m.length) (hno : pa = none → np = 0 ∧ pc = 0) (hD : ∀ a, pa = some a → wa.heap.size ≤ a.block) (hr : m.length ≤ r) :
    Calls Try.prog 26 #[.pointer (some ⟨b, 0, none⟩), .slice pa np pc] w fun e w' => e = .returned (.int .i64 (if burns fu then 16 else 0)) ∧
      Lx w0 w' b r (if burns fu then l else m) (if burns fu then hd else m.length) (burnt fu) (burns fu) := by
  obtain ⟨v, h1, h2, h3, h4⟩ := h
  exact (Swap_done b v r l hd fu w (h1.keep hb) pa np pc m hm hn hno (fun _ a ha hk => by have := h1.mine _ hk; have := hD a ha; omega) hr).mono fun e w' ⟨e1, e2⟩ => ⟨e1, Lx.step (h2.trans (hb.mono h2.size)) h3 h4 e2⟩
end
/-- One part in new blocks. -/
theorem parts_one {w : World} {g : Nat} {D : Nat → Prop} {e1 e3 : TypeId} {f1 f3 : Nat × Nat} {c : UInt8} {x : Int} (hx : x = c.toNat)
    (h1 : w.heap[g]? = some (.cells #[.int .u8 x] e1 f1)) (h3 : w.heap[g + 1]? = some (.cells #[.slice (some ⟨g, 0, none⟩) 1 1] e3 f3)) (d1 : D g) (d3 : D (g + 1)) : PartsIn D w (some ⟨g + 1, 0, none⟩) [[c]] := fun _ => by
  subst hx
  have lt := fun {k : Nat} {o : Obj} (h : w.heap[k]? = some o) => (Array.getElem?_eq_some_iff.1 h).1
  refine ⟨g + 1, 0, rfl, d3, lt h3, fun i hi => ?_⟩
  match i, hi with
  | 0, _ =>
    refine ⟨some ⟨g, 0, none⟩, 1, (cell_of_row w _ 0 _ _ _ h3).trans rfl, ?_, (fun h => by cases h), (by unfold maxLen; simp)⟩
    intro _
    refine ⟨g, 0, rfl, d1, lt h1, fun j hj => ?_⟩
    match j, hj with
    | 0, _ => exact (cell_of_row w _ 0 _ _ _ h1).trans rfl
section
variable {w0 w : World} {b r : Nat} {l : List UInt8} {hd : Nat} {fu : Int} (h : Lx w0 w b r l hd fu true)
include h
theorem L_down_w (pa : Option Addr) (np pc : Nat) : Calls Try.prog 17 #[.pointer (some ⟨b, 0, none⟩), .slice pa np pc] w fun e w' => e = .returned (.int .i64 16) ∧ w = w' := Write_down b w h.c4 pa np pc
theorem L_down_h : Calls Try.prog 18 #[.pointer (some ⟨b, 0, none⟩)] w fun e w' => e = .returned (.int .i64 16) ∧ w = w' := Hold_down b w h.c4
theorem L_down_c (k : Int) : Calls Try.prog 28 #[.pointer (some ⟨b, 0, none⟩), .int .i64 k] w fun e w' => e = .returned (.int .i64 16) ∧ w = w' := Cut_down b w h.c4 k
theorem L_down_s (pa : Option Addr) (np pc : Nat) : Calls Try.prog 26 #[.pointer (some ⟨b, 0, none⟩), .slice pa np pc] w fun e w' => e = .returned (.int .i64 16) ∧ w = w' := Swap_down b w h.c4 pa np pc
end
/-- A byte in a slice of its own, in a slice of its own. -/
theorem one_byte (wr : World) (x : Int) (x0 : 0 ≤ x) (x1 : x ≤ 255) :
    Below wr.heap.size wr ((wr.alloc (.cells #[.int .u8 x] 5)).alloc (.cells #[.slice (some ⟨wr.heap.size, 0, none⟩) 1 1] 32)) ∧
      PartsIn (fun k => wr.heap.size ≤ k ∧ k < ((wr.alloc (.cells #[.int .u8 x] 5)).alloc (.cells #[.slice (some ⟨wr.heap.size, 0, none⟩) 1 1] 32)).heap.size)
        ((wr.alloc (.cells #[.int .u8 x] 5)).alloc (.cells #[.slice (some ⟨wr.heap.size, 0, none⟩) 1 1] 32)) (some ⟨wr.heap.size + 1, 0, none⟩) [[UInt8.ofNat x.toNat]] := by
  refine ⟨((Below.refl _ wr).alloc (Nat.le_refl _) _).alloc (by simp) _, parts_one (x := x) (e1 := 5) (e3 := 32) (f1 := (0, 0)) (f3 := (0, 0)) (by rw [UInt8.toNat_ofNat']; omega) ?_ ?_ (by simp; omega) (by simp)⟩
  · rw [Below.heap_alloc _ _ _ (by simp)]; exact heap_alloc_new _ _
  · rw [show wr.heap.size + 1 = (wr.alloc (.cells #[.int .u8 x] 5)).heap.size by simp]; exact heap_alloc_new _ _
end Go.Proofs.Ytghncdoophoieaa
