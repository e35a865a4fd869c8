/-
  Layer 4: Write, Hold, Cut, Swap: each of their ways.
-/
import Derived.Test.YtghncdoophoieaaTg
import Derived.Test.YtghncdoophoieaaTh
import Derived.Test.YtghncdoophoieaaTi
namespace Go.Proofs.Ytghncdoophoieaa
open Go.RowKit
set_option linter.unusedVariables false

set_option maxHeartbeats 4000000 in
theorem write_refused (b : Nat) (s : Value) (w : World) (c4 : w.cell? ⟨b, 4, none⟩ = some (.bool false)) (err : Int) (he : err ≠ 0)
    (R : Calls Try.prog 62 #[.agg #[s], .pointer (some ⟨b, 0, none⟩)] w fun e w' => e = .returned (.int .i64 err) ∧ Below w.heap.size w w') :
    Calls Try.prog 39 #[.pointer (some ⟨b, 0, none⟩), .iface 61 (.agg #[s])] w fun e w' => e = .returned (.int .i64 err) ∧ Below w.heap.size w w' := by
  have hn : (err != 0) = true := by simpa using he
  have m1 := m_write1 s
  have RR := Lib.hid R
  clear R he
  go_enter Try.func39, Try.ntmps39
  go_wp2_with fail
  refine RR.out.mono ?_
  rintro e w1 ⟨rfl, b1⟩
  go_wp2
  go_ret
  exact ⟨rfl, b1⟩
set_option maxHeartbeats 4000000 in
theorem cut_refused (b : Nat) (k : Int) (w : World) (c4 : w.cell? ⟨b, 4, none⟩ = some (.bool false)) (err : Int) (he : err ≠ 0)
    (R : Calls Try.prog 68 #[.agg #[.int .i64 k], .pointer (some ⟨b, 0, none⟩)] w fun e w' => e = .returned (.int .i64 err) ∧ Below w.heap.size w w') :
    Calls Try.prog 39 #[.pointer (some ⟨b, 0, none⟩), .iface 67 (.agg #[.int .i64 k])] w fun e w' => e = .returned (.int .i64 err) ∧ Below w.heap.size w w' := by
  have hn : (err != 0) = true := by simpa using he
  have m1 := m_cut1 k
  have RR := Lib.hid R
  clear R he
  go_enter Try.func39, Try.ntmps39
  go_wp2_with fail
  refine RR.out.mono ?_
  rintro e w1 ⟨rfl, b1⟩
  go_wp2
  go_ret
  exact ⟨rfl, b1⟩
set_option maxHeartbeats 4000000 in
theorem swap_refused (b : Nat) (pa : Option Addr) (np pc : Nat) (w : World) (c4 : w.cell? ⟨b, 4, none⟩ = some (.bool false)) (err : Int) (he : err ≠ 0)
    (R : Calls Try.prog 66 #[.agg #[.slice pa np pc], .pointer (some ⟨b, 0, none⟩)] w fun e w' => e = .returned (.int .i64 err) ∧ Below w.heap.size w w') :
    Calls Try.prog 39 #[.pointer (some ⟨b, 0, none⟩), .iface 65 (.agg #[.slice pa np pc])] w fun e w' => e = .returned (.int .i64 err) ∧ Below w.heap.size w w' := by
  have hn : (err != 0) = true := by simpa using he
  have m1 := m_swap1 (.slice pa np pc)
  have RR := Lib.hid R
  clear R he
  go_enter Try.func39, Try.ntmps39
  go_wp2_with fail
  refine RR.out.mono ?_
  rintro e w1 ⟨rfl, b1⟩
  go_wp2
  go_ret
  exact ⟨rfl, b1⟩
set_option maxHeartbeats 4000000 in
theorem op_down (b : Nat) (T : TypeId) (x : Value) (w : World) (c4 : w.cell? ⟨b, 4, none⟩ = some (.bool true)) :
    Calls Try.prog 39 #[.pointer (some ⟨b, 0, none⟩), .iface T x] w fun e w' => e = .returned (.int .i64 16) ∧ w = w' := by
  go_enter Try.func39, Try.ntmps39
  go_wp2
  go_ret
  exact ⟨rfl, rfl⟩
set_option maxHeartbeats 4000000 in
theorem op_nil (T : TypeId) (x : Value) (w : World) :
    Calls Try.prog 39 #[.pointer none, .iface T x] w fun e w' => e = .returned (.int .i64 2) ∧ w = w' := by
  go_enter Try.func39, Try.ntmps39
  go_wp2
  go_ret
  exact ⟨rfl, rfl⟩

theorem hold_res (v : Value) (l : List UInt8) (w : World) (h : Row w v l) :
    Calls Try.prog 65 #[.agg #[], v] w fun e w' => ∃ v', e = .returned v' ∧ Row w' v' l ∧ Fresh w v v' ∧ Chg (fun k => foot v = some k) w w' :=
  (hold_result v w).mono fun e w' ⟨h1, h2⟩ => ⟨v, h1, h.keep fun g hg => h2.block g (h.lt g hg), Fresh.refl _ _, Chg.of_below h2⟩
theorem cut_res (v : Value) (l : List UInt8) (k : Int) (hk : 0 ≤ k ∧ k ≤ l.length) (w : World) (h : Row w v l) :
    Calls Try.prog 69 #[.agg #[.int .i64 k], v] w fun e w' => ∃ v', e = .returned v' ∧ Row w' v' (l.take k.toNat) ∧ Fresh w v v' ∧ Chg (fun k => foot v = some k) w w' := by
  obtain ⟨a, c, rfl, h1, h2, _, _⟩ := h.shape
  refine (cut_result a l.length c k.toNat k (by omega) (by omega) w).mono fun e w' ⟨e1, e2⟩ => ?_
  obtain ⟨r1, r2⟩ := h.cut k.toNat (by omega)
  refine ⟨_, e1, r1.keep fun g hg => e2.block g ?_, fun g hg => .inl (by rw [← r2]; exact hg), Chg.of_below e2⟩
  rw [r2] at hg
  exact h.lt g hg
theorem swap_res (v : Value) (pa : Option Addr) (np pc : Nat) (m : List UInt8) (w : World) (hm : BAt w pa m) (hn : np = m.length) (hno : pa = none → np = 0 ∧ pc = 0) (hl : m.length ≤ 1099511627776) :
    Calls Try.prog 67 #[.agg #[.slice pa np pc], v] w fun e w' => ∃ v', e = .returned v' ∧ Row w' v' m ∧ Fresh w v v' ∧ Chg (fun k => foot v = some k) w w' :=
  (swap_result pa np pc m v w hm hn hno hl).mono fun e w' ⟨v', h1, h2, h3, h4⟩ => ⟨v', h1, h2, fun g hg => .inr (h3 g hg), Chg.of_below h4⟩

set_option maxHeartbeats 4000000 in
theorem Write_by (p : Option Addr) (pa : Option Addr) (np pc : Nat) (w : World) (R : Ending → World → Prop) (C : Calls Try.prog 39 #[.pointer p, .iface 61 (.agg #[.slice pa np pc])] w fun e w' => (∃ x, e = .returned (.int .i64 x)) ∧ R e w') :
    Calls Try.prog 17 #[.pointer p, .slice pa np pc] w R := by
  have H := Lib.hid C
  clear C
  go_enter Try.func17, Try.ntmps17
  go_wp2_with fail
  refine H.out.mono ?_
  rintro e w1 ⟨⟨x, rfl⟩, h⟩
  have HH := Lib.hid h
  clear h
  go_wp2
  exact HH.out
set_option maxHeartbeats 4000000 in
theorem Hold_by (p : Option Addr) (w : World) (R : Ending → World → Prop) (C : Calls Try.prog 39 #[.pointer p, .iface 63 (.agg #[])] w fun e w' => (∃ x, e = .returned (.int .i64 x)) ∧ R e w') :
    Calls Try.prog 18 #[.pointer p] w R := by
  have H := Lib.hid C
  clear C
  go_enter Try.func18, Try.ntmps18
  go_wp2_with fail
  refine H.out.mono ?_
  rintro e w1 ⟨⟨x, rfl⟩, h⟩
  have HH := Lib.hid h
  clear h
  go_wp2
  exact HH.out
set_option maxHeartbeats 4000000 in
theorem Cut_by (p : Option Addr) (k : Int) (w : World) (R : Ending → World → Prop) (C : Calls Try.prog 39 #[.pointer p, .iface 67 (.agg #[.int .i64 k])] w fun e w' => (∃ x, e = .returned (.int .i64 x)) ∧ R e w') :
    Calls Try.prog 28 #[.pointer p, .int .i64 k] w R := by
  have H := Lib.hid C
  clear C
  go_enter Try.func28, Try.ntmps28
  go_wp2_with fail
  refine H.out.mono ?_
  rintro e w1 ⟨⟨x, rfl⟩, h⟩
  have HH := Lib.hid h
  clear h
  go_wp2
  exact HH.out
set_option maxHeartbeats 4000000 in
theorem Swap_by (p : Option Addr) (pa : Option Addr) (np pc : Nat) (w : World) (R : Ending → World → Prop) (C : Calls Try.prog 39 #[.pointer p, .iface 65 (.agg #[.slice pa np pc])] w fun e w' => (∃ x, e = .returned (.int .i64 x)) ∧ R e w') :
    Calls Try.prog 26 #[.pointer p, .slice pa np pc] w R := by
  have H := Lib.hid C
  clear C
  go_enter Try.func26, Try.ntmps26
  go_wp2_with fail
  refine H.out.mono ?_
  rintro e w1 ⟨⟨x, rfl⟩, h⟩
  have HH := Lib.hid h
  clear h
  go_wp2
  exact HH.out

section
variable (b : Nat) (v : Value) (r : Nat) (l : List UInt8) (hd : Nat) (fu : Int) (w : World) (h : Tat w b v r l hd fu false)
include h
theorem Write_done (D : Nat → Prop) (pa : Option Addr) (np pc : Nat) (ls : List (List UInt8)) (hp : PartsIn D w pa ls) (hn : np = ls.length) (hm : np ≤ maxLen) (hD : ∀ k, D k → ¬ Mine b v k ∧ k < w.heap.size) (hf : fits r l.length (total ls)) :
    Calls Try.prog 17 #[.pointer (some ⟨b, 0, none⟩), .slice pa np pc] w fun e w' => e = .returned (.int .i64 (if burns fu then 16 else 0)) ∧
      ∃ v', Tat w' b v' r (l ++ ls.flatten) hd (burnt fu) (burns fu) ∧ Fresh w v v' ∧ Chg (Mine b v) w w' :=
  Write_by _ _ _ _ _ _ ((write_done D b v r l hd fu pa np pc ls w h hp hn hm hD hf).mono fun e w' hh => ⟨⟨_, hh.1⟩, hh⟩)
theorem Write_full (D : Nat → Prop) (pa : Option Addr) (np pc : Nat) (ls : List (List UInt8)) (hp : PartsIn D w pa ls) (hn : np = ls.length) (hm : np ≤ maxLen) (hf : ¬ fits r l.length (total ls)) :
    Calls Try.prog 17 #[.pointer (some ⟨b, 0, none⟩), .slice pa np pc] w fun e w' => e = .returned (.int .i64 14) ∧ Below w.heap.size w w' :=
  Write_by _ _ _ _ _ _ ((write_refused b _ w h.c4 14 (by decide) (by
    have e := write_refusal D b v r l hd fu false pa np pc ls w h hp hn hm
    unfold writeErr at e; rw [if_neg hf] at e; exact e)).mono fun e w' hh => ⟨⟨_, hh.1⟩, hh⟩)
theorem Hold_done :
    Calls Try.prog 18 #[.pointer (some ⟨b, 0, none⟩)] w fun e w' => e = .returned (.int .i64 (if burns fu then 16 else 0)) ∧
      ∃ v', Tat w' b v' r l (if burns fu then hd else l.length) (burnt fu) (burns fu) ∧ Fresh w v v' ∧ Chg (Mine b v) w w' :=
  Hold_by _ _ _ ((hold_core b v r l hd fu l w h h.len (hold_refusal b w) (fun u _ hr => hold_res v l u hr)).mono fun e w' ⟨h1, v', h2, h3⟩ => ⟨⟨_, h1⟩, h1, v', by rwa [ite_self] at h2, h3⟩)
theorem Cut_done (k : Int) (hk : 0 ≤ k ∧ k ≤ l.length) :
    Calls Try.prog 28 #[.pointer (some ⟨b, 0, none⟩), .int .i64 k] w fun e w' => e = .returned (.int .i64 (if burns fu then 16 else 0)) ∧
      ∃ v', Tat w' b v' r (if burns fu then l else l.take k.toNat) (if burns fu then hd else k.toNat) (burnt fu) (burns fu) ∧ Fresh w v v' ∧ Chg (Mine b v) w w' := by
  have hlen : (l.take k.toNat).length = k.toNat := by rw [List.length_take]; omega
  obtain ⟨a0, c0, hv, _, _, _, _⟩ := h.row.shape
  have h1 := h.c1
  rw [hv] at h1
  have R := cut_refusal b a0 c0 l.length k w h.len h.lt h1
  have e : cutErr l.length k = 0 := by unfold cutErr; rw [if_neg (by omega)]
  rw [e] at R
  refine Cut_by _ _ _ _ ((cut_core b v r l hd fu k (l.take k.toNat) w h (by have := h.len; omega) R (fun u _ hr => cut_res v l k hk u hr)).mono fun e w' hh => ⟨⟨_, hh.1⟩, ?_⟩)
  rwa [hlen] at hh
theorem Cut_bad (k : Int) (hk : k < 0 ∨ (l.length : Int) < k) :
    Calls Try.prog 28 #[.pointer (some ⟨b, 0, none⟩), .int .i64 k] w fun e w' => e = .returned (.int .i64 1) ∧ Below w.heap.size w w' := by
  obtain ⟨a0, c0, hv, _, _, _, _⟩ := h.row.shape
  have h1 := h.c1
  rw [hv] at h1
  have R := cut_refusal b a0 c0 l.length k w h.len h.lt h1
  have e : cutErr l.length k = 1 := by unfold cutErr; rw [if_pos hk]
  rw [e] at R
  exact Cut_by _ _ _ _ ((cut_refused b k w h.c4 1 (by decide) R).mono fun e w' hh => ⟨⟨_, hh.1⟩, hh⟩)
theorem Swap_done (pa : Option Addr) (np pc : Nat) (m : List UInt8) (hm : BAt w pa m) (hn : np = m.length) (hno : pa = none → np = 0 ∧ pc = 0) (hD : 0 < m.length → ∀ a, pa = some a → ¬ Mine b v a.block) (hr : m.length ≤ r) :
    Calls Try.prog 26 #[.pointer (some ⟨b, 0, none⟩), .slice pa np pc] w fun e w' => e = .returned (.int .i64 (if burns fu then 16 else 0)) ∧
      ∃ v', Tat w' b v' r (if burns fu then l else m) (if burns fu then hd else m.length) (burnt fu) (burns fu) ∧ Fresh w v v' ∧ Chg (Mine b v) w w' := by
  have hr2 := h.room
  have R := swap_refusal b pa pc np r w (by rw [hn]; unfold maxLen; omega) h.lt h.c0
  have e : swapErr r np = 0 := by unfold swapErr; rw [if_neg (by omega)]
  rw [e] at R
  refine Swap_by _ _ _ _ _ _ ((swap_core b v r l hd fu pa np pc m w h (by omega) R (fun u hu _ => swap_res v pa np pc m u (fun hp => ?_) hn hno (by omega))).mono fun e w' hh => ⟨⟨_, hh.1⟩, hh⟩)
  obtain ⟨sb, so, e1, e2, e3⟩ := hm hp
  exact ⟨sb, so, e1, Nat.lt_of_lt_of_le e2 hu.size, fun i hi => (World.cell?_of_block (a := ⟨sb, so + i, none⟩) (hu.block sb e2 (hD hp _ e1))).trans (e3 i hi)⟩
theorem Swap_full (pa : Option Addr) (np pc : Nat) (hnp : np ≤ maxLen) (hr : r < np) :
    Calls Try.prog 26 #[.pointer (some ⟨b, 0, none⟩), .slice pa np pc] w fun e w' => e = .returned (.int .i64 14) ∧ Below w.heap.size w w' := by
  have R := swap_refusal b pa pc np r w hnp h.lt h.c0
  have e : swapErr r np = 14 := by unfold swapErr; rw [if_pos hr]
  rw [e] at R
  exact Swap_by _ _ _ _ _ _ ((swap_refused b pa np pc w h.c4 14 (by decide) R).mono fun e w' hh => ⟨⟨_, hh.1⟩, hh⟩)
end
section
variable (b : Nat) (w : World) (c4 : w.cell? ⟨b, 4, none⟩ = some (.bool true))
include c4
theorem Write_down (pa : Option Addr) (np pc : Nat) : Calls Try.prog 17 #[.pointer (some ⟨b, 0, none⟩), .slice pa np pc] w fun e w' => e = .returned (.int .i64 16) ∧ w = w' :=
  Write_by _ _ _ _ _ _ ((op_down b _ _ w c4).mono fun e w' hh => ⟨⟨_, hh.1⟩, hh⟩)
theorem Hold_down : Calls Try.prog 18 #[.pointer (some ⟨b, 0, none⟩)] w fun e w' => e = .returned (.int .i64 16) ∧ w = w' :=
  Hold_by _ _ _ ((op_down b _ _ w c4).mono fun e w' hh => ⟨⟨_, hh.1⟩, hh⟩)
theorem Cut_down (k : Int) : Calls Try.prog 28 #[.pointer (some ⟨b, 0, none⟩), .int .i64 k] w fun e w' => e = .returned (.int .i64 16) ∧ w = w' :=
  Cut_by _ _ _ _ ((op_down b _ _ w c4).mono fun e w' hh => ⟨⟨_, hh.1⟩, hh⟩)
theorem Swap_down (pa : Option Addr) (np pc : Nat) : Calls Try.prog 26 #[.pointer (some ⟨b, 0, none⟩), .slice pa np pc] w fun e w' => e = .returned (.int .i64 16) ∧ w = w' :=
  Swap_by _ _ _ _ _ _ ((op_down b _ _ w c4).mono fun e w' hh => ⟨⟨_, hh.1⟩, hh⟩)
end
theorem Write_nil (pa : Option Addr) (np pc : Nat) (w : World) : Calls Try.prog 17 #[.pointer none, .slice pa np pc] w fun e w' => e = .returned (.int .i64 2) ∧ w = w' :=
  Write_by _ _ _ _ _ _ ((op_nil _ _ w).mono fun e w' hh => ⟨⟨_, hh.1⟩, hh⟩)
theorem Hold_nil (w : World) : Calls Try.prog 18 #[.pointer none] w fun e w' => e = .returned (.int .i64 2) ∧ w = w' :=
  Hold_by _ _ _ ((op_nil _ _ w).mono fun e w' hh => ⟨⟨_, hh.1⟩, hh⟩)
theorem Cut_nil (k : Int) (w : World) : Calls Try.prog 28 #[.pointer none, .int .i64 k] w fun e w' => e = .returned (.int .i64 2) ∧ w = w' :=
  Cut_by _ _ _ _ ((op_nil _ _ w).mono fun e w' hh => ⟨⟨_, hh.1⟩, hh⟩)
theorem Swap_nil (pa : Option Addr) (np pc : Nat) (w : World) : Calls Try.prog 26 #[.pointer none, .slice pa np pc] w fun e w' => e = .returned (.int .i64 2) ∧ w = w' :=
  Swap_by _ _ _ _ _ _ ((op_nil _ _ w).mono fun e w' hh => ⟨⟨_, hh.1⟩, hh⟩)
end Go.Proofs.Ytghncdoophoieaa
