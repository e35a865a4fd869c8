/-
  Layer 14, the program: a reader's next edit.
-/
import Derived.Test.YtbilempgnpnacaaE4p
import Derived.Test.YtbilempgnpnacaaFbc
namespace Go.Proofs.Ytbilempgnpnacaa
set_option maxRecDepth 20000
open Go.RowKit
set_option linter.unusedVariables false
set_option linter.unusedSimpArgs false

theorem red_form {w : World} {v : Value} {l : List UInt8} (h : Red w v l) : ∃ a c, v = .slice a l.length c := by
  obtain ⟨a, c, e, -⟩ := h
  exact ⟨a, c, e⟩
/-- number, whatever the reader's state. -/
theorem number_any {w0 w : World} {g : Nat} {v : Value} {r : List UInt8} {e : Nat} (h : RdP w0 w g v r e) :
    Calls Try.prog 32 #[.pointer (some ⟨g, 0, none⟩)] w fun x w' => ∃ (n : Nat) (v' : Value) (r' : List UInt8) (e' : Nat), x = .returned (.int .i64 (n : Int)) ∧ RdP w0 w' g v' r' e' ∧ Off g w w' ∧
      r'.length ≤ r.length ∧ n ≤ 2147483647 ∧ (e ≠ 0 → e' = e) ∧ (e = 0 → e' = numQ r) ∧ (e = 0 → numQ r = 0 → n = wordX r ∧ r' = r.drop 4) := by
  by_cases he : e = 0
  · subst he
    obtain ⟨a, c, rfl⟩ := red_form h.red
    by_cases h4 : r.length < 4
    · have hq : numQ r = 3 := by unfold numQ; rw [if_pos h4]
      refine (number_short h h4).mono ?_
      rintro x w' ⟨rfl, h1, h2⟩
      exact ⟨0, _, r, 3, rfl, h1, h2, Nat.le_refl _, Nat.zero_le _, fun q => absurd rfl q, fun _ => hq.symm, fun _ q => by rw [hq] at q; cases q⟩
    · refine (number_word h (by omega)).mono ?_
      rintro x w' ⟨rfl, h1, h2⟩
      have hq : numQ r = if 2147483647 < wordX r then 4 else 0 := by unfold numQ; rw [if_neg h4]
      refine ⟨_, _, _, _, rfl, h1, h2, by rw [List.length_drop]; omega, ?_, fun q => absurd rfl q, fun _ => hq.symm, fun _ q => ?_⟩
      · split
        · exact Nat.zero_le _
        · omega
      · rw [hq] at q
        by_cases hb : 2147483647 < wordX r
        · rw [if_pos hb] at q; cases q
        · rw [if_neg hb]; exact ⟨rfl, rfl⟩
  · refine (number_down h he).mono ?_
    rintro x w' ⟨rfl, rfl⟩
    exact ⟨0, v, r, e, rfl, h, Off.refl _ _, Nat.le_refl _, Nat.zero_le _, fun _ => rfl, fun q => absurd q he, fun q => absurd q he⟩
/-- take, whatever the reader's state. -/
theorem take_any {w0 w : World} {g : Nat} {v : Value} {r : List UInt8} {e : Nat} (h : RdP w0 w g v r e) (n : Nat) :
    Calls Try.prog 34 #[.pointer (some ⟨g, 0, none⟩), .int .i64 (n : Int)] w fun x w' => ∃ (vb : Value) (bl : List UInt8) (v' : Value) (r' : List UInt8) (e' : Nat), x = .returned vb ∧ Red w0 vb bl ∧ RdP w0 w' g v' r' e' ∧ Off g w w' ∧
      bl.length ≤ r.length ∧ (e ≠ 0 → e' = e) ∧ (e = 0 → e' = if r.length < n then 3 else 0) ∧ (e = 0 → n ≤ r.length → bl = r.take n ∧ r' = r.drop n) := by
  by_cases he : e = 0
  · subst he
    obtain ⟨a, c, rfl⟩ := red_form h.red
    by_cases hn : r.length < n
    · refine (take_short h n hn).mono ?_
      rintro x w' ⟨rfl, h1, h2⟩
      exact ⟨_, [], _, r, 3, rfl, Red.none w0, h1, h2, Nat.zero_le _, fun q => absurd rfl q, fun _ => by rw [if_pos hn], fun _ q => by omega⟩
    · refine (take_ok h n (by omega)).mono ?_
      rintro x w' ⟨rfl, h1, h2⟩
      exact ⟨_, r.take n, _, _, 0, rfl, red_first h.red (by omega), h1, h2, by rw [List.length_take]; omega, fun q => absurd rfl q, fun _ => by rw [if_neg hn], fun _ _ => ⟨rfl, rfl⟩⟩
  · refine (take_down h he (n : Int)).mono ?_
    rintro x w' ⟨rfl, rfl⟩
    exact ⟨_, [], v, r, e, rfl, Red.none w0, h, Off.refl _ _, Nat.zero_le _, fun _ => rfl, fun q => absurd q he, fun q => absurd q he⟩
def zED : Array Value := arrDl 0 0 (.slice none 0 0)
/-- While the next edit is read: the reader, the result's block, the edit's own block. -/
structure NxS (w0 w u : World) (g : Nat) (v : Value) (r : List UInt8) (e : Nat) (C : Array Value) : Prop where
  rd : RdP w0 u g v r e
  res : u.heap[w.heap.size]? = some (.cells zED 34 (0, 0))
  ed : u.heap[w.heap.size + 1]? = some (.cells C 34 (0, 0))
  off : Off g w u
  lt : g < w.heap.size
theorem NxS.call {w0 w u u' : World} {g : Nat} {v v' : Value} {r r' : List UInt8} {e e' : Nat} {C : Array Value} (h : NxS w0 w u g v r e C) (hr : RdP w0 u' g v' r' e') (ho : Off g u u') : NxS w0 w u' g v' r' e' C where
  rd := hr
  res := (ho.block _ (lt_of_heap h.res) (by have := h.lt; omega)).trans h.res
  ed := (ho.block _ (lt_of_heap h.ed) (by have := h.lt; omega)).trans h.ed
  off := h.off.trans ho
  lt := h.lt
theorem NxS.put {w0 w u : World} {g : Nat} {v : Value} {r : List UInt8} {e : Nat} {C : Array Value} (h : NxS w0 w u g v r e C) (k : Nat) (x : Value) : NxS w0 w (u.setCell ⟨w.heap.size + 1, k, none⟩ x) g v r e (C.setIfInBounds k x) where
  rd := ⟨(Below.heap_setCell _ _ _ _ (by have := h.lt; show g ≠ w.heap.size + 1; omega)).trans h.rd.cell, h.rd.red, h.rd.below.setCell (p := ⟨w.heap.size + 1, k, none⟩) (by have := h.lt; have := h.rd.new; show w0.heap.size ≤ w.heap.size + 1; omega) x, h.rd.new⟩
  res := (Below.heap_setCell _ _ _ _ (by show w.heap.size ≠ w.heap.size + 1; omega)).trans h.res
  ed := heap_put h.ed x
  off := ⟨h.off.os, h.off.tape, h.off.output, by simpa using h.off.size, fun j hj hg => (Below.heap_setCell _ _ _ _ (by show j ≠ w.heap.size + 1; omega)).trans (h.off.block j hj hg)⟩
  lt := h.lt
set_option maxHeartbeats 8000000 in
theorem next_nil {w0 w : World} {g : Nat} {v : Value} (h : RdP w0 w g v [] 0) :
    Calls Try.prog 25 #[.pointer (some ⟨g, 0, none⟩)] w fun x w' => x = .returned (.tuple #[.agg zED, .bool false]) ∧ RdP w0 w' g v [] 0 ∧ Off g w w' := by
  obtain ⟨z, hz, hzs, hzv, hzb, hz1⟩ := zEdit_any
  rw [show zED = z from hz.symm]
  obtain ⟨a, c, rfl⟩ := red_form h.red
  have b1 := (Below.refl w.heap.size w).alloc (Nat.le_refl _) (.cells z 34)
  have H := Lib.hid (h.keep b1)
  obtain ⟨c0, c1, -, -⟩ := (h.keep b1).cells
  have ZB := Lib.hid hzb; have ZS := Lib.hid hzs; have Z1 := Lib.hid hz1; have IZ := Lib.hid (info_edit z hzs)
  have N0 := Lib.hid (heap_alloc_new w (.cells z 34))
  have B1 := Lib.hid b1
  have LT := Lib.hid (lt_of_heap h.cell)
  clear h b1 hz hzs hzb hz1 c1
  go_enter Try.func25, Try.ntmps25
  go_wp2_with (first
    | (refine wpList_build_none rfl 34 rfl z ZB.out ?_)
    | (with_reducible refine wpList_store_all rfl 34 (.tmp 2) (.tmp 11) rfl w.heap.size z rfl rfl 34 z N0.out IZ.out rfl Z1.out ?_; intro w2 hg2 ho2 hs2)
    | fail)
  have hb2 := ho2.below (B := w.heap.size) (Nat.le_refl _) (by simp)
  have FIN := Lib.hid (B1.out.trans hb2)
  have HR := Lib.hid (show RdP w0 w2 g (.slice a 0 c) [] 0 from ⟨(ho2.block g (by simp; have := LT.out; omega) (by have := LT.out; omega)).trans H.out.cell, H.out.red, H.out.below.trans (ho2.below (B := w0.heap.size) (by have := LT.out; have := H.out.new; omega) H.out.below.size), H.out.new⟩)
  refine bodyPost_ret (results_edit Try.results25 _ _ w.heap.size z (0, 0) _ rfl rfl hg2 ZS.out) rfl ⟨rfl, HR.out, off_of FIN.out⟩
end Go.Proofs.Ytbilempgnpnacaa
