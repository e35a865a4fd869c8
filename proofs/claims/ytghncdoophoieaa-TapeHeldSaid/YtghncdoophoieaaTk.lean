/-
  Layer 4: awake.
-/
import Derived.Test.YtghncdoophoieaaTj
import Derived.Lib.SlBytesConst
namespace Go.Proofs.Ytghncdoophoieaa
open Go.RowKit
set_option linter.unusedVariables false
set_option linter.unusedSimpArgs false

/-- Two parts in new blocks. -/
theorem parts_two {w : World} {g : Nat} {D : Nat → Prop} {e1 e2 e3 : TypeId} {f1 f2 f3 : Nat × Nat}
    (h1 : w.heap[g]? = some (.cells #[.int .u8 97, .int .u8 98] e1 f1)) (h2 : w.heap[g + 1]? = some (.cells #[.int .u8 99] e2 f2)) (h3 : w.heap[g + 2]? = some (.cells #[.slice (some ⟨g, 0, none⟩) 2 2, .slice (some ⟨g + 1, 0, none⟩) 1 1] e3 f3))
    (d1 : D g) (d2 : D (g + 1)) (d3 : D (g + 2)) : PartsIn D w (some ⟨g + 2, 0, none⟩) [[97, 98], [99]] := fun _ => by
  have lt := fun {k : Nat} {o : Obj} (h : w.heap[k]? = some o) => (Array.getElem?_eq_some_iff.1 h).1
  refine ⟨g + 2, 0, rfl, d3, lt h3, fun i hi => ?_⟩
  match i, hi with
  | 0, _ =>
    refine ⟨some ⟨g, 0, none⟩, 2, (cell_of_row w _ 0 _ _ _ h3).trans rfl, ?_, (fun h => by cases h), (by unfold maxLen; simp)⟩
    intro _
    refine ⟨g, 0, rfl, d1, lt h1, fun j hj => ?_⟩
    match j, hj with
    | 0, _ => exact (cell_of_row w _ 0 _ _ _ h1).trans rfl
    | 1, _ => exact (cell_of_row w _ 1 _ _ _ h1).trans rfl
  | 1, _ =>
    refine ⟨some ⟨g + 1, 0, none⟩, 1, (cell_of_row w _ 1 _ _ _ h3).trans rfl, ?_, (fun h => by cases h), (by unfold maxLen; simp)⟩
    intro _
    refine ⟨g + 1, 0, rfl, d2, lt h2, fun j hj => ?_⟩
    match j, hj with
    | 0, _ => exact (cell_of_row w _ 0 _ _ _ h2).trans rfl
set_option maxHeartbeats 4000000 in
theorem tape_awake (w : World) : Calls Try.prog 10 #[] w fun e w' => e = .returned (.bool true) ∧ Below w.heap.size w w' := by
  go_enter Try.func10, Try.ntmps10
  go_wp2_with fail
  refine (New_any 9 w).mono ?_
  rintro e w1 ⟨rfl, t1, b1⟩
  have T1 := Lib.hid t1
  have hb1 := t1.lt
  clear t1
  have k1 := Lib.run_convert_bytes_const (P := Try.prog) w1 32 5 #[Value.int .u8 97, Value.int .u8 98] 2 2 Try.underlying32 Try.underlying5
  have k2 := Lib.run_convert_bytes_const (P := Try.prog) (w1.alloc (.cells #[Value.int .u8 97, Value.int .u8 98] 5 (2, 3))) 32 5 #[Value.int .u8 99] 1 1 Try.underlying32 Try.underlying5
  simp at k2
  go_wp2_with fail
  clear k1 k2
  generalize hwq : ((w1.alloc (.cells #[Value.int .u8 97, Value.int .u8 98] 5 (2, 3))).alloc (.cells #[Value.int .u8 99] 5 (1, 2))).alloc (.cells #[Value.slice (some ⟨w1.heap.size, 0, none⟩) 2 2, Value.slice (some ⟨w1.heap.size + 1, 0, none⟩) 1 1] 32) = wq
  have hq2 : wq.heap.size = w1.heap.size + 3 := by subst hwq; simp
  have bq : Below w1.heap.size w1 wq := by subst hwq; exact (((Below.refl _ w1).alloc (Nat.le_refl _) _).alloc (by simp) _).alloc (by simp; omega) _
  have q1 : wq.heap[w1.heap.size]? = some (.cells #[Value.int .u8 97, Value.int .u8 98] 5 (2, 3)) := by
    subst hwq; rw [Below.heap_alloc _ _ _ (by simp; omega), Below.heap_alloc _ _ _ (by simp)]; exact heap_alloc_new _ _
  have q2 : wq.heap[w1.heap.size + 1]? = some (.cells #[Value.int .u8 99] 5 (1, 2)) := by
    subst hwq; rw [Below.heap_alloc _ _ _ (by simp)]
    rw [show w1.heap.size + 1 = (w1.alloc (.cells #[Value.int .u8 97, Value.int .u8 98] 5 (2, 3))).heap.size by simp]; exact heap_alloc_new _ _
  have q3 : wq.heap[w1.heap.size + 2]? = some (.cells #[Value.slice (some ⟨w1.heap.size, 0, none⟩) 2 2, Value.slice (some ⟨w1.heap.size + 1, 0, none⟩) 1 1] 32 (0, 0)) := by
    subst hwq
    rw [show w1.heap.size + 2 = ((w1.alloc (.cells #[Value.int .u8 97, Value.int .u8 98] 5 (2, 3))).alloc (.cells #[Value.int .u8 99] 5 (1, 2))).heap.size by simp]; exact heap_alloc_new _ _
  clear hwq
  have tq := T1.out.keep bq
  have hp := parts_two (D := fun k => w1.heap.size ≤ k ∧ k < wq.heap.size) q1 q2 q3 (by omega) (by omega) (by omega)
  have hm1 : ∀ k, (w1.heap.size ≤ k ∧ k < wq.heap.size) → ¬ Mine w.heap.size (.slice none 0 0) k ∧ k < wq.heap.size := fun k hk => ⟨(fun h => by
    rcases h with h | h
    · omega
    · cases h), hk.2⟩
  have C := Write_done w.heap.size (.slice none 0 0) _ [] 0 0 wq tq _ _ 2 2 [[97, 98], [99]] hp rfl (by decide) hm1 (.inr (by decide))
  have bw := b1.trans (bq.mono b1.size)
  clear tq hp hm1 q1 q2 q3 T1 bq hq2 b1
  have HC := Lib.hid C
  clear C
  refine HC.out.mono ?_
  rintro e w2 ⟨he, v2, t2, f2, c2⟩
  have he2 : e = .returned (.int .i64 0) := he
  subst he2
  have b2 := bw.trans (c2.below bw.size (fun i _ hi => by
    rcases hi with h | h
    · omega
    · cases h))
  have hz2 := t2.lt
  have F2 : ∀ i, foot v2 = some i → w.heap.size ≤ i := fun i hi => by
    rcases f2 i hi with h | h
    · cases h
    · have := bw.size; omega
  have FF := Lib.hid F2
  clear f2 F2
  clear c2 he HC
  have T2 := Lib.hid t2
  clear t2
  go_wp2_with fail
  refine (Bytes_at w.heap.size v2 [97, 98, 99] w2 T2.out.c1 T2.out.row (by decide)).mono ?_
  rintro e w3 ⟨v3, rfl, r3, _, b3⟩
  obtain ⟨va, vc, rfl, _, _, hv3, _⟩ := r3.shape
  have T3 := Lib.hid (T2.out.keep b3)
  have b13 := b2.trans (b3.mono b2.size)
  have cv : (convert 32 9 (.slice va 3 vc)).run Try.prog w3 = .ok (.string ⟨#[97, 98, 99]⟩) w3 := hv3.conv (P := Try.prog) vc 32 5 Try.underlying32 Try.underlying5 9 Try.underlying9
  clear r3 hv3 b3
  have c2 := T3.out.c2
  have H := Lib.hid (Hold_done w.heap.size v2 _ [97, 98, 99] 0 0 w3 T3.out)
  go_wp2_with (first
    | (refine (Held_at _ _ _ c2).mono ?_; rintro e w' ⟨rfl, rfl⟩)
    | fail)
  refine H.out.mono ?_
  rintro e w4 ⟨he, v4, t4, _, c4⟩
  have he2 : e = .returned (.int .i64 0) := he
  subst he2
  have b4 := b13.trans (c4.below b13.size (fun i hi hm => by
    rcases hm with h | h
    · omega
    · exact FF.out i h))
  have d2 := t4.c2
  have e2 : (if burns 0 then (0 : Nat) else [(97 : UInt8), 98, 99].length) = 3 := rfl
  rw [e2] at d2
  clear t4 c4 he H T3 T2 c2
  go_wp2_with (first
    | (refine (Held_at _ _ _ d2).mono ?_; rintro e w' ⟨rfl, rfl⟩)
    | fail)
  go_ret
  exact ⟨rfl, b4⟩
end Go.Proofs.Ytghncdoophoieaa
