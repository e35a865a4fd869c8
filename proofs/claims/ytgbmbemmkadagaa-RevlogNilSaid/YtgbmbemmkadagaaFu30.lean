/-
  Texts that belong together, one behind the other.
-/
import Derived.Test.YtgbmbemmkadagaaFu29
import Derived.OwnWalk
import Derived.WalkSmall
import Derived.IntWalk
import Derived.Test.YtgbmbemmkadagaaFu28
/-
  Layer 15, the program: New, Len, Node of a number; a store of a whole struct in a region that draws its order.
-/
namespace Go.Proofs.Ytgbmbemmkadagaa
set_option maxRecDepth 20000
open Go.RowKit Go.Maps
set_option linter.unusedVariables false
set_option linter.unusedSimpArgs false

/-- A store into all of a block, as one step. -/
theorem wp_store_all {o : Oper} {a : Act} {w : World} {K : Act → World → Prop} {Q : Exit → Act → World → Prop} (ty : TypeId) (x y : Operand) (ho : o.op = .store ty x y) (g : Nat) (cells : Array Value)
    (hx : a.eval x = .pointer (some ⟨g, 0, none⟩)) (hy : a.eval y = .agg cells) (T : TypeId) (cur : Array Value) (hg : w.heap[g]? = some (.cells cur T (0, 0))) (hi : (Try.prog.info? ty).map (·.size) = some cells.size) (hfit : cells.size = cur.size)
    (h1 : cells.all (·.oneCell') = true)
    (h : ∀ w', w'.heap[g]? = some (.cells cells T (0, 0)) → Off g w w' → w'.heap.size = w.heap.size → K (a.put o.dst undef) w') : o.wp Try.prog a w K Q := by
  obtain ⟨ie, hie, hsz⟩ : ∃ ie, Try.prog.info? ty = some ie ∧ ie.size = cells.size := by
    cases e : Try.prog.info? ty with
    | none => rw [e] at hi; cases hi
    | some ie => rw [e] at hi; exact ⟨ie, rfl, Option.some.inj hi⟩
  have hst := run_storeCells_at Try.prog g 0 T cells.toList 0 cur w hg (by rw [Array.length_toList]; omega) (fun v hv => (Array.all_eq_true_iff_forall_mem.1 h1) v (by simpa using hv))
  have hrow : (cur.toList.take 0 ++ cells.toList ++ cur.toList.drop (0 + cells.size)).toArray = cells := by
    rw [List.take_zero, List.nil_append, Nat.zero_add, hfit, List.drop_of_length_le (by simp), List.append_nil]
  unfold Oper.wp execOp
  simp only [ho, hx, hy, Instr.storeAt, Instr.sureAddr, Sem.run_bind, Sem.run_pure, Result.andThen_ok]
  have hrun : (storeVar ty ⟨g, 0, none⟩ (.agg cells)).run Try.prog w = .ok () (w.setRow g cells) := by
    simp only [Nat.add_zero, Array.length_toList] at hst
    rw [hrow] at hst
    simp [storeVar, sizeOf, typeInfo, hie, hsz, Value.cells, hst]
  rw [hrun]
  have b := below_setRow (B := g) (Below.refl g w) (Nat.le_refl _) cells
  refine h _ (setRow_heap w g cur _ T (0, 0) hg) ⟨b.os, b.tape, b.output, b.size, fun k _ hk => ?_⟩ (by simp [World.setRow])
  have hkg : ¬ g = k := fun e => hk e.symm
  simp [World.setRow, Array.getElem?_modify, hkg]
theorem newL_is (w : World) : Calls Try.prog 7 #[] w fun e w' => e = .returned (.pointer (some ⟨w.heap.size, 0, none⟩)) ∧ w' = w.alloc (.cells #[.slice none 0 0, .map none] 66) := by
  go_enter Try.func7, Try.ntmps7
  go_wp2
  go_ret
  exact ⟨rfl, rfl⟩
theorem LogP.new (S : Nat → Prop) (w : World) (hS : S w.heap.size) : LogP S (w.alloc (.cells #[.slice none 0 0, .map none] 66)) w.heap.size [] := by
  refine ⟨hS, [], .slice none 0 0, none, ⟨GoodV.nil, rfl, heap_alloc_new w _, ownR_nil _ _, ?_, ?_, fun _ => rfl, ?_⟩⟩
  · intro b hb
    cases hb
  · intro e he
    cases he
  · intro b hb
    cases hb
theorem LogIn.shape {S : Nat → Prop} {w : World} {g : Nat} {L : LogV} {E : List Enl} {v : Value} {mb : Option Nat} (h : LogIn S w g L E v mb) : ∃ a c, v = .slice a L.length c ∧ L.length ≤ c ∧ c ≤ maxLen ∧ RowAt rowI w a (L.map Rvl.n) ∧ (a = none → L.length = 0 ∧ c = 0) := by
  obtain ⟨a, c, e, hc, hm, hr, hn, hb⟩ := ownR_shape goodI h.own (fun x hx => by
    obtain ⟨r, hr, rfl⟩ := List.mem_map.1 hx
    exact h.good.nlen r hr)
  rw [List.length_map] at e hc hn
  exact ⟨a, c, e, hc, hm, hr, hn⟩
theorem LogIn.cells {S : Nat → Prop} {w : World} {g : Nat} {L : LogV} {E : List Enl} {v : Value} {mb : Option Nat} (h : LogIn S w g L E v mb) {u : World} (hu : u.heap[g]? = w.heap[g]?) : u.cell? ⟨g, 0, none⟩ = some v ∧ u.cell? ⟨g, 1, none⟩ = some (.map mb) ∧ (∀ j, u.frozen? ⟨g, j, none⟩ = false) := by
  have hb := hu.trans h.blk
  refine ⟨?_, ?_, fun j => not_frozen hb j⟩
  · rw [Lib.cell_of_heap hb]; rfl
  · rw [Lib.cell_of_heap hb]; rfl
theorem lenL_nil (w : World) : Calls Try.prog 14 #[.pointer none] w fun e w' => e = .returned (.int .i64 0) ∧ w' = w := by
  go_enter Try.func14, Try.ntmps14
  go_wp2
  go_ret
  exact ⟨rfl, rfl⟩
theorem lenL_is {S : Nat → Prop} {w : World} {g : Nat} {L : LogV} (h : LogP S w g L) : Calls Try.prog 14 #[.pointer (some ⟨g, 0, none⟩)] w fun e w' => e = .returned (.int .i64 L.length) ∧ w' = w := by
  obtain ⟨hg, E, v, mb, h2⟩ := h
  obtain ⟨a, c, rfl, -⟩ := h2.shape
  have hc := (h2.cells rfl).1
  clear h2
  go_enter Try.func14, Try.ntmps14
  go_wp2
  go_ret
  exact ⟨rfl, rfl⟩
/-- The node of a number. -/
def nodeAt (L : LogV) (n : Int) : List UInt8 := if 0 ≤ n ∧ n < L.length then (L.getD n.toNat ⟨idZ, [], [], [], 0⟩).n else idZ
def isAt (L : LogV) (n : Int) : Bool := decide (0 ≤ n) && decide (n < L.length)
set_option maxHeartbeats 4000000 in
theorem nodeN_nil (n : Int) (w : World) : Calls Try.prog 20 #[.pointer none, .int .i64 n] w fun e w' => e = .returned (.tuple #[.agg (arrD idZ), .bool false]) ∧ Below w.heap.size w w' := by
  obtain ⟨z, hz0, hzs, hzv, hzb, hz1⟩ := zId_any
  have N1 := Lib.hid (heap_alloc_new w (.cells z 24))
  have B1 := Lib.hid ((Below.refl w.heap.size w).alloc (Nat.le_refl _) (.cells z 24))
  have ZB := Lib.hid hzb; have Z1 := Lib.hid hz1; have ZS := Lib.hid hzs
  have IZ := Lib.hid (infoD_arr z hzs)
  rw [← hz0]
  clear hz0 hzs hzb hz1
  by_cases h0 : n < 0
  · have d0 : decide (n < 0) = true := decide_eq_true h0
    have hf := Lib.hid h0
    clear h0
    go_enter Try.func20, Try.ntmps20
    go_wp2_with (first
      | (refine wpList_build_none rfl 24 rfl z ZB.out ?_)
      | (with_reducible refine wpList_store_all rfl 24 (.tmp 4) (.tmp 14) rfl w.heap.size z rfl rfl 24 z N1.out IZ.out rfl Z1.out ?_; intro w5 r5 o5 s5)
      | fail)
    have HB := Lib.hid (B1.out.trans (o5.below (B := w.heap.size) (Nat.le_refl _) B1.out.size))
    exact bodyPost_ret (results_id9 Try.results20 _ _ w.heap.size z (0, 0) _ rfl rfl r5 ZS.out) rfl ⟨rfl, HB.out⟩
  · have d0 : decide (n < 0) = false := decide_eq_false h0
    have d1 : decide (n ≥ 0) = true := decide_eq_true (by omega)
    have CL := fun u => lenL_nil u
    have hf := Lib.hid h0
    clear h0
    go_enter Try.func20, Try.ntmps20
    go_wp2_with fail
    refine (CL _).mono ?_
    rintro e w2 ⟨rfl, rfl⟩
    go_wp2_with (first
      | (refine wpList_build_none rfl 24 rfl z ZB.out ?_)
      | (with_reducible refine wpList_store_all rfl 24 (.tmp 4) (.tmp 14) rfl w.heap.size z rfl rfl 24 z N1.out IZ.out rfl Z1.out ?_; intro w5 r5 o5 s5)
      | fail)
    have HB := Lib.hid (B1.out.trans (o5.below (B := w.heap.size) (Nat.le_refl _) B1.out.size))
    exact bodyPost_ret (results_id9 Try.results20 _ _ w.heap.size z (0, 0) _ rfl rfl r5 ZS.out) rfl ⟨rfl, HB.out⟩
set_option maxHeartbeats 4000000 in
theorem nodeN_is {S : Nat → Prop} {w : World} {g : Nat} {L : LogV} (h : LogP S w g L) (n : Int) : Calls Try.prog 20 #[.pointer (some ⟨g, 0, none⟩), .int .i64 n] w fun e w' => e = .returned (.tuple #[.agg (arrD (nodeAt L n)), .bool (isAt L n)]) ∧ Below w.heap.size w w' := by
  obtain ⟨z, hz0, hzs, hzv, hzb, hz1⟩ := zId_any
  have N1 := Lib.hid (heap_alloc_new w (.cells z 24))
  have b1 := (Below.refl w.heap.size w).alloc (Nat.le_refl _) (.cells z 24)
  have B1 := Lib.hid b1
  have ZB := Lib.hid hzb; have Z1 := Lib.hid hz1; have ZS := Lib.hid hzs
  have IZ := Lib.hid (infoD_arr z hzs)
  have CL := Lib.hid (fun u (hu : Below w.heap.size w u) => lenL_is (h.below hu))
  have Z0 := Lib.hid hz0
  by_cases hin : 0 ≤ n ∧ n < L.length
  · obtain ⟨k, rfl⟩ : ∃ k : Nat, n = k := ⟨n.toNat, by omega⟩
    have hk : k < L.length := by omega
    have d0 : decide ((k : Int) < 0) = false := decide_eq_false (by omega)
    have d1 : decide ((k : Int) ≥ (L.length : Int)) = false := decide_eq_false (by omega)
    have HA := Lib.hid (show nodeAt L k = (L[k]).n ∧ isAt L k = true by
      unfold nodeAt isAt
      rw [if_pos hin, Int.toNat_natCast, List.getD_eq_getElem?_getD, List.getElem?_eq_getElem hk]
      exact ⟨rfl, by simp [hk]⟩)
    have hmax : L.length ≤ 2000 := h.good.len
    have hn20 := h.good.nlen _ (List.getElem_mem hk)
    have h1 := h.below b1
    obtain ⟨hg, E, v, mb, h2⟩ := h1
    obtain ⟨a, c, rfl, hcn, hcm, hrow, -⟩ := h2.shape
    have hc := (h2.cells rfl).1
    obtain ⟨b, o, rfl, hbl⟩ := hrow.some (by rw [List.length_map]; omega)
    have hr0 := hrow.elem k (by rw [List.length_map]; exact hk)
    rw [List.getElem_map] at hr0
    have hr2 : (w.alloc (.cells z 24)).rangeAt b (o + k * 20) (cellsD (L[k]).n) := hr0
    rw [HA.out.1, HA.out.2]
    obtain ⟨y, hy⟩ : ∃ y, (L[k]).n = y := ⟨_, rfl⟩
    rw [hy] at hn20 hr2 ⊢
    obtain ⟨Y, hY⟩ : ∃ Y, arrD y = Y := ⟨_, rfl⟩
    have EY := Lib.hid (show (cellsD y).toArray = Y from hY)
    have SY := Lib.hid (show Y.size = 20 by rw [← hY]; exact arrD_size y hn20)
    have OY := Lib.hid (show Y.all (·.oneCell') = true by rw [← hY]; exact arrD_one y)
    have IY := Lib.hid (infoD_arr Y SY.out)
    have SYZ := Lib.hid (show Y.size = z.size by rw [SY.out, ZS.out])
    have LY := Lib.hid (show (Try.prog.info? 24).map (·.size) = some (cellsD y).length by rw [cellsD_len y hn20]; exact infoD_n)
    have RY := Lib.hid hr2
    obtain ⟨N, hN⟩ : ∃ N, L.length = N := ⟨_, rfl⟩
    have kN : k < N := by rw [← hN]; exact hk
    rw [hN] at d1 hc hcn hmax
    have CL := Lib.hid (show Calls Try.prog 14 #[.pointer (some ⟨g, 0, none⟩)] (w.alloc (.cells z 24)) fun e w' => e = .returned (.int .i64 N) ∧ w' = (w.alloc (.cells z 24)) by rw [← hN]; exact CL.out _ B1.out)
    rw [hY]
    obtain ⟨w1, hw1⟩ : ∃ w1, w.alloc (.cells z 24) = w1 := ⟨_, rfl⟩
    rw [hw1] at CL RY hc N1 B1
    have W1 := Lib.hid hw1
    clear h h2 hin HA hz0 hzs hzb hz1 hY hy hn20 hr2 hr0 hrow hbl b1 hN
    clear hk
    generalize cellsD y = cy at *
    go_enter Try.func20, Try.ntmps20
    go_wp2_with fail
    refine CL.out.mono ?_
    rintro e w2 ⟨rfl, rfl⟩
    go_wp2_with (first
      | (with_reducible refine wpList_load_midD 24 (.tmp 20) rfl (by kernel_rfl) b (o + k * 20) rfl cy _ RY.out Try.underlying24 rfl LY.out ?_; rw [EY.out])
      | (with_reducible refine wpList_store_all rfl 24 (.tmp 4) (.tmp 21) rfl w.heap.size Y rfl rfl 24 z N1.out IY.out SYZ.out OY.out ?_; intro w5 r5 o5 s5)
      | fail)
    have HB := Lib.hid (B1.out.trans (o5.below (B := w.heap.size) (Nat.le_refl _) B1.out.size))
    exact bodyPost_ret (results_id9 Try.results20 _ _ w.heap.size Y (0, 0) _ rfl rfl r5 SY.out) rfl ⟨rfl, HB.out⟩
  · have HA := Lib.hid (show nodeAt L n = idZ ∧ isAt L n = false by
      unfold nodeAt isAt
      rw [if_neg hin]
      refine ⟨rfl, ?_⟩
      by_cases h1 : 0 ≤ n
      · rw [decide_eq_true h1, decide_eq_false (fun h2 => hin ⟨h1, h2⟩)]; rfl
      · rw [decide_eq_false h1]; rfl)
    rw [HA.out.1, HA.out.2, ← Z0.out]
    have HIN := Lib.hid hin
    obtain ⟨N, hN⟩ : ∃ N, L.length = N := ⟨_, rfl⟩
    rw [hN] at HIN
    have CL := Lib.hid (show Calls Try.prog 14 #[.pointer (some ⟨g, 0, none⟩)] (w.alloc (.cells z 24)) fun e w' => e = .returned (.int .i64 N) ∧ w' = (w.alloc (.cells z 24)) by rw [← hN]; exact CL.out _ B1.out)
    obtain ⟨w1, hw1⟩ : ∃ w1, w.alloc (.cells z 24) = w1 := ⟨_, rfl⟩
    rw [hw1] at CL N1 B1
    have W1 := Lib.hid hw1
    clear h hz0 hzs hzb hz1 hin HA b1 hN
    by_cases h0 : n < 0
    · have d0 : decide (n < 0) = true := decide_eq_true h0
      have hf := Lib.hid h0
      clear h0
      go_enter Try.func20, Try.ntmps20
      go_wp2_with (first
        | (refine wpList_build_none rfl 24 rfl z ZB.out ?_)
        | (with_reducible refine wpList_store_all rfl 24 (.tmp 4) (.tmp 14) rfl w.heap.size z rfl rfl 24 z N1.out IZ.out rfl Z1.out ?_; intro w5 r5 o5 s5)
        | fail)
      have HB := Lib.hid (B1.out.trans (o5.below (B := w.heap.size) (Nat.le_refl _) B1.out.size))
      exact bodyPost_ret (results_id9 Try.results20 _ _ w.heap.size z (0, 0) _ rfl rfl r5 ZS.out) rfl ⟨rfl, HB.out⟩
    · have d0 : decide (n < 0) = false := decide_eq_false h0
      have d1 : decide (n ≥ (N : Int)) = true := decide_eq_true (by have := HIN.out; omega)
      have hf := Lib.hid h0
      clear h0
      go_enter Try.func20, Try.ntmps20
      go_wp2_with fail
      refine CL.out.mono ?_
      rintro e w2 ⟨rfl, rfl⟩
      go_wp2_with (first
        | (refine wpList_build_none rfl 24 rfl z ZB.out ?_)
        | (with_reducible refine wpList_store_all rfl 24 (.tmp 4) (.tmp 14) rfl w.heap.size z rfl rfl 24 z N1.out IZ.out rfl Z1.out ?_; intro w5 r5 o5 s5)
        | fail)
      have HB := Lib.hid (B1.out.trans (o5.below (B := w.heap.size) (Nat.le_refl _) B1.out.size))
      exact bodyPost_ret (results_id9 Try.results20 _ _ w.heap.size z (0, 0) _ rfl rfl r5 ZS.out) rfl ⟨rfl, HB.out⟩
end Go.Proofs.Ytgbmbemmkadagaa

/-
  Layer 15, the program: a look at the map: may a node be a parent; what is found; what was added last.
-/
namespace Go.Proofs.Ytgbmbemmkadagaa
set_option maxRecDepth 20000
open Go.RowKit Go.Maps
set_option linter.unusedVariables false
set_option linter.unusedSimpArgs false

theorem field_ent40 (b0 b1 b2 b3 b4 b5 b6 b7 b8 b9 b10 b11 b12 b13 b14 b15 b16 b17 b18 b19 c0 c1 c2 c3 c4 c5 c6 c7 c8 c9 c10 c11 c12 c13 c14 c15 c16 c17 c18 c19 : UInt8) (n t : List UInt8) (k : Nat) (v : Value) (w : World) :
    (Instr.field 76 (.agg (arrL ⟨⟨n, [b0, b1, b2, b3, b4, b5, b6, b7, b8, b9, b10, b11, b12, b13, b14, b15, b16, b17, b18, b19], [c0, c1, c2, c3, c4, c5, c6, c7, c8, c9, c10, c11, c12, c13, c14, c15, c16, c17, c18, c19], t, k⟩, v⟩)) 2).run Try.prog w = .ok v w := by kernel_rfl
theorem field_ent (e : Enl) (hp : e.r.p.length = 20) (hq : e.r.q.length = 20) (w : World) : (Instr.field 76 (.agg (arrL e)) 2).run Try.prog w = .ok e.v w := by
  obtain ⟨⟨n, p, q, t, k⟩, v⟩ := e
  match p, hp, q, hq with
  | [b0, b1, b2, b3, b4, b5, b6, b7, b8, b9, b10, b11, b12, b13, b14, b15, b16, b17, b18, b19], _, [c0, c1, c2, c3, c4, c5, c6, c7, c8, c9, c10, c11, c12, c13, c14, c15, c16, c17, c18, c19], _ => exact field_ent40 b0 b1 b2 b3 b4 b5 b6 b7 b8 b9 b10 b11 b12 b13 b14 b15 b16 b17 b18 b19 c0 c1 c2 c3 c4 c5 c6 c7 c8 c9 c10 c11 c12 c13 c14 c15 c16 c17 c18 c19 n t k v w
set_option maxHeartbeats 16000000 in
theorem mayP_is {S : Nat → Prop} {w : World} {g : Nat} {L : LogV} (h : LogP S w g L) (p : List UInt8) (hp : p.length = 20) :
    Calls Try.prog 26 #[.pointer (some ⟨g, 0, none⟩), .agg (arrD p)] w fun e w' => e = .returned (.bool (mayV L p)) ∧ Below w.heap.size w w' := by
  obtain ⟨hg, E, v, mb, h2⟩ := h
  have hl := h2.look hp
  have es := entE_size h2 p
  have eo := entE_one h2 p
  obtain ⟨z, hz0, hzs, hzv, hzb, hz1⟩ := zId_any
  have EQ := Lib.hid (fun u => eql_arrD p idZ hp rfl u)
  obtain ⟨A1, hA1⟩ : ∃ A, arrD p = A := ⟨_, rfl⟩
  have sA : A1.size = 20 := by rw [← hA1]; exact arrD_size p hp
  have b1 : Below w.heap.size w (w.alloc (.cells A1 24)) := (Below.refl w.heap.size w).alloc (Nat.le_refl _) (.cells A1 24)
  have h0 := heap_alloc_new w (.cells A1 24)
  have B1 := Lib.hid b1
  obtain ⟨w1, hw1⟩ : ∃ w1, w.alloc (.cells A1 24) = w1 := ⟨_, rfl⟩
  rw [hw1] at B1 h0
  have HL := Lib.hid (fun u (hu : Below w1.heap.size w1 u) => hl u (B1.out.trans (hu.mono B1.out.size)))
  have RA := Lib.hid (fun u (hu : Below w1.heap.size w1 u) => (row_arrD ((hu.block w.heap.size (lt_of_heap h0)).trans h0)))
  have RB := Lib.hid (fun u (hu : Below w1.heap.size w1 u) => ((hu.block w.heap.size (lt_of_heap h0)).trans h0))
  have LA := Lib.hid (show (Try.prog.info? 24).map (·.size) = some A1.toList.length from by rw [Array.length_toList, sA]; exact infoD_n)
  have IA := Lib.hid (infoD_arr A1 sA)
  have MV := Lib.hid (show mayV L p = (eqD p idZ || (atLv L p).isSome) from rfl)
  obtain ⟨EA, hEA⟩ : ∃ EA, arrL (entE L E p) = EA := ⟨_, rfl⟩
  obtain ⟨b, hb⟩ : ∃ b : Bool, (atLv L p).isSome = b := ⟨_, rfl⟩
  obtain ⟨q, hq⟩ : ∃ q : Bool, eqD p idZ = q := ⟨_, rfl⟩
  obtain ⟨r, hr⟩ : ∃ r, mayV L p = r := ⟨_, rfl⟩
  rw [hEA, hb] at HL
  rw [hEA] at es eo
  rw [hq, hb, hr] at MV
  rw [hq, hA1, ← hz0] at EQ
  rw [hA1] at HL ⊢
  rw [hr]
  obtain ⟨ZE, hZE⟩ : ∃ ZE, arrL zEnl = ZE := ⟨_, rfl⟩
  have sZ : ZE.size = 41 := by rw [← hZE]; rfl
  have zr : ∀ u, (zeroValue 76).run Try.prog u = .ok (.agg ZE) u := fun u => by rw [← hZE]; exact zEnt u
  have ES := Lib.hid es; have EO := Lib.hid eo
  have SZ := Lib.hid (show EA.size = ZE.size by rw [es, sZ])
  have IE := Lib.hid (infoEnt_arr EA es)
  have ZB := Lib.hid hzb
  have W1 := Lib.hid hw1
  clear hl b1 sA h2 hA1 hb hq hr es eo hEA hZE sZ hz0 hzs hzb hz1
  go_enter Try.func26, Try.ntmps26
  go_wp2_with fail
  refine rgB _ (fun hHeld => ?_)
  refine tkW 0 rfl hHeld ?_
  refine tkW 1 rfl hHeld ?_
  refine tkW 2 rfl hHeld ?_
  refine tkV 3 rfl (.map mb) (fun u hu => by have q := (HL.out u hu).1; go_simp) hHeld ?_
  refine tkH 4 rfl (yieldsIf_load_mid (by kernel_rfl) 24 (.tmp 3) (by kernel_rfl) w.heap.size 0 (by kernel_rfl) A1.toList _ (fun u hu => RA.out u hu) Try.underlying24 rfl LA.out) hHeld ?_
  refine tkV 5 rfl (.tuple #[.agg EA, .bool b]) (fun u hu => by have q := (HL.out u hu).2; go_simp) hHeld ?_
  refine tkW 6 rfl hHeld ?_
  refine tkW 7 rfl hHeld ?_
  refine tkW 8 rfl hHeld ?_
  refine rdH 9 rfl (fun K hK => ?_)
  go_simp
  have hH := ((Below.refl w1.heap.size w1).alloc (Nat.le_refl _) (.cells ZE 76)).drew
  have x9 := (show ((w1.alloc (.cells ZE 76)).drew).heap[w1.heap.size]? = some (.cells ZE 76 (0, 0)) from heap_alloc_new w1 _)
  obtain ⟨u9, hu9⟩ : ∃ u9, (w1.alloc (.cells ZE 76)).drew = u9 := ⟨_, rfl⟩
  rw [hu9] at hH x9 ⊢
  have X9 := Lib.hid x9
  clear hHeld x9 hu9
  refine hK.out _ _ hH (fun hHeld => ?_)
  clear hK K
  try simp only [Act.put, List.setIfInBounds_toArray, List.set_cons_zero, List.set_cons_succ]
  refine rdH 10 rfl (fun K hK => ?_)
  refine stepW rfl (wp_store_all 76 (.tmp 5) (.tmp 14) rfl w1.heap.size EA (by kernel_rfl) (by kernel_rfl) 76 ZE X9.out IE.out SZ.out EO.out (fun u10 r10 o10 s10 => ?_))
  have hH := hHeld.trans (o10.below (Nat.le_refl _) hHeld.size)
  clear hHeld r10 o10 s10 X9
  refine hK.out _ _ hH (fun hHeld => ?_)
  clear hK K
  refine tkW 11 rfl hHeld ?_
  try simp only [Act.put, List.getElem_toArray, List.getElem_cons_succ, List.getElem_cons_zero, lsA, lsZ, lsS]
  refine wpAnyH_done (by kernel_rfl) ?_ _
  have HB := Lib.hid (B1.out.trans (hHeld.mono B1.out.size))
  have XA := Lib.hid (RB.out _ hHeld)
  clear hHeld
  cases b with
  | true =>
    have HR : r = true := by rw [MV.out]; simp
    subst HR
    go_wp2
    go_ret
    exact ⟨rfl, HB.out⟩
  | false =>
    have HR : r = q := by rw [MV.out]; simp
    subst HR
    have eq := fun u => EQ.out u
    go_wp2_with (first
      | (with_reducible refine wpList_load_all 24 (.tmp 3) rfl (by kernel_rfl) w.heap.size A1 24 (0, 0) rfl XA.out _ Try.underlying24 rfl IA.out ?_)
      | (refine wpList_build_none rfl 24 rfl z ZB.out ?_)
      | fail)
    go_ret
    exact ⟨rfl, HB.out⟩
theorem results_ent {fn : Func} {p u : Tmp} (h : fn.results = #[.cell p 76, .tmp u]) (tmps : Array Value) (w : World) (g : Nat) (cs : Array Value) (fr : Nat × Nat) (x : Value)
    (hp : tmps.getD p undef = .pointer (some ⟨g, 0, none⟩)) (hx : tmps.getD u undef = x) (hg : w.heap[g]? = some (.cells cs 76 fr)) (hn : cs.size = 41) :
    (results fn tmps).run Try.prog w = .ok (.tuple #[.agg cs, x]) w := by
  rw [results_cell_tmp h, hp, hx]
  have e : (asAddr (.pointer (some ⟨g, 0, none⟩))).run Try.prog w = .ok ⟨g, 0, none⟩ w := rfl
  rw [e]
  simp only [Result.andThen_ok]
  rw [run_loadVar_row w g 76 76 cs fr _ hg Try.underlying76 rfl (by rw [infoEnt, hn])]
  rfl
/-- The entry without anything, as a letter. -/
theorem zEnt_any : ∃ Z : Array Value, Z = arrL zEnl ∧ Z.size = 41 ∧ (∀ u, (zeroValue 76).run Try.prog u = .ok (.agg Z) u) ∧ Try.prog.built 76 [] = some Z ∧ Z.all (·.oneCell') = true := ⟨arrL zEnl, rfl, rfl, zEnt, builtEnt0, arrL_one _ rfl⟩
set_option maxHeartbeats 8000000 in
theorem findL_nil (i : List UInt8) (w : World) : Calls Try.prog 32 #[.pointer none, .agg (arrD i)] w fun e w' => e = .returned (.tuple #[.agg (arrL zEnl), .int .i64 2]) ∧ Below w.heap.size w w' := by
  obtain ⟨Z, hZ, sZ, zr, bZ, oZ⟩ := zEnt_any
  obtain ⟨A, hA⟩ : ∃ A, arrD i = A := ⟨_, rfl⟩
  rw [hA, ← hZ]
  have b1 := (Below.refl w.heap.size w).alloc (Nat.le_refl _) (.cells A 24)
  have b2 := b1.alloc b1.size (.cells Z 76)
  have x2 := heap_alloc_new (w.alloc (.cells A 24)) (.cells Z 76)
  rw [show (w.alloc (.cells A 24)).heap.size = w.heap.size + 1 by simp] at x2
  have X2 := Lib.hid x2; have B2 := Lib.hid b2; have SZ := Lib.hid sZ; have BZ := Lib.hid bZ; have OZ := Lib.hid oZ; have IZ := Lib.hid (infoEnt_arr Z sZ)
  clear hA hZ sZ bZ oZ b1 b2 x2
  go_enter Try.func32, Try.ntmps32
  go_wp2_with (first
    | (refine wpList_build_none rfl 76 rfl Z BZ.out ?_)
    | (with_reducible refine wpList_store_all rfl 76 (.tmp 4) (.tmp 10) rfl (w.heap.size + 1) Z rfl rfl 76 Z X2.out IZ.out rfl OZ.out ?_; intro w5 r5 o5 s5)
    | fail)
  have HB := Lib.hid (B2.out.trans (o5.below (B := w.heap.size) (Nat.le_succ _) B2.out.size))
  exact bodyPost_ret (results_ent Try.results32 _ _ (w.heap.size + 1) Z (0, 0) _ rfl rfl r5 SZ.out) rfl ⟨rfl, HB.out⟩
set_option maxHeartbeats 16000000 in
theorem findL_is {S : Nat → Prop} {w : World} {g : Nat} {L : LogV} {E : List Enl} {v : Value} {mb : Option Nat} (h2 : LogIn S w g L E v mb) (p : List UInt8) (hp : p.length = 20) :
    Calls Try.prog 32 #[.pointer (some ⟨g, 0, none⟩), .agg (arrD p)] w fun e w' => e = .returned (.tuple #[.agg (arrL (entE L E p)), .int .i64 (bif (atLv L p).isSome then 0 else 6)]) ∧ Below w.heap.size w w' := by
  have hl := h2.look hp
  have es := entE_size h2 p
  have eo := entE_one h2 p
  obtain ⟨Z, hZ, sZ, zr, bZ, oZ⟩ := zEnt_any
  obtain ⟨A1, hA1⟩ : ∃ A, arrD p = A := ⟨_, rfl⟩
  have sA : A1.size = 20 := by rw [← hA1]; exact arrD_size p hp
  have b1 := (Below.refl w.heap.size w).alloc (Nat.le_refl _) (.cells A1 24)
  have b2 := b1.alloc b1.size (.cells Z 76)
  have e1 : (w.alloc (.cells A1 24)).heap.size = w.heap.size + 1 := by simp
  have x1 := (((Below.refl (w.alloc (.cells A1 24)).heap.size (w.alloc (.cells A1 24))).alloc (Nat.le_refl _) (.cells Z 76)).block w.heap.size (by simp)).trans (heap_alloc_new w _)
  have x2 := heap_alloc_new (w.alloc (.cells A1 24)) (.cells Z 76)
  rw [e1] at x2
  obtain ⟨w1, hw1⟩ : ∃ w1, (w.alloc (.cells A1 24)).alloc (.cells Z 76) = w1 := ⟨_, rfl⟩
  rw [hw1] at b2 x1 x2
  have B1 := Lib.hid b2; have X2 := Lib.hid x2
  have HL := Lib.hid (fun u (hu : Below w1.heap.size w1 u) => hl u (B1.out.trans (hu.mono B1.out.size)))
  have RA := Lib.hid (fun u (hu : Below w1.heap.size w1 u) => (row_arrD ((hu.block w.heap.size (lt_of_heap x1)).trans x1)))
  have LA := Lib.hid (show (Try.prog.info? 24).map (·.size) = some A1.toList.length from by rw [Array.length_toList, sA]; exact infoD_n)
  have NONE := Lib.hid (show (atLv L p).isSome = false → arrL (entE L E p) = Z from fun h => by rw [entE_none (by simpa using h), hZ])
  obtain ⟨EA, hEA⟩ : ∃ EA, arrL (entE L E p) = EA := ⟨_, rfl⟩
  obtain ⟨b, hb⟩ : ∃ b : Bool, (atLv L p).isSome = b := ⟨_, rfl⟩
  rw [hEA, hb] at HL NONE ⊢
  rw [hEA] at es eo
  rw [hA1] at HL ⊢
  have ES := Lib.hid es; have EO := Lib.hid eo; have SZ := Lib.hid sZ; have BZ := Lib.hid bZ; have OZ := Lib.hid oZ
  have SEZ := Lib.hid (show EA.size = Z.size by rw [es, sZ])
  have IE := Lib.hid (infoEnt_arr EA es)
  have IZ := Lib.hid (infoEnt_arr Z sZ)
  have W1 := Lib.hid hw1
  have Z1 := Lib.hid (show w1.heap.size = w.heap.size + 2 by rw [← hw1]; simp)
  clear hl b1 b2 x1 x2 e1 sA h2 hA1 hb es eo hEA hZ sZ bZ oZ hw1
  go_enter Try.func32, Try.ntmps32
  go_wp2_with fail
  rw [W1.out]
  refine rgB _ (fun hHeld => ?_)
  refine tkW 0 rfl hHeld ?_
  refine tkW 1 rfl hHeld ?_
  refine tkW 2 rfl hHeld ?_
  refine tkV 3 rfl (.map mb) (fun u hu => by have q := (HL.out u hu).1; go_simp) hHeld ?_
  refine tkH 4 rfl (yieldsIf_load_mid (by kernel_rfl) 24 (.tmp 3) (by kernel_rfl) w.heap.size 0 (by kernel_rfl) A1.toList _ (fun u hu => RA.out u hu) Try.underlying24 rfl LA.out) hHeld ?_
  refine tkV 5 rfl (.tuple #[.agg EA, .bool b]) (fun u hu => by have q := (HL.out u hu).2; go_simp) hHeld ?_
  refine tkW 6 rfl hHeld ?_
  refine tkW 7 rfl hHeld ?_
  refine tkW 8 rfl hHeld ?_
  refine rdH 9 rfl (fun K hK => ?_)
  go_simp
  have hH := ((Below.refl w1.heap.size w1).alloc (Nat.le_refl _) (.cells Z 76)).drew
  have x9 := (show ((w1.alloc (.cells Z 76)).drew).heap[w1.heap.size]? = some (.cells Z 76 (0, 0)) from heap_alloc_new w1 _)
  obtain ⟨u9, hu9⟩ : ∃ u9, (w1.alloc (.cells Z 76)).drew = u9 := ⟨_, rfl⟩
  rw [hu9] at hH x9 ⊢
  have X9 := Lib.hid x9
  clear hHeld x9 hu9
  refine hK.out _ _ hH (fun hHeld => ?_)
  clear hK K
  try simp only [Act.put, List.setIfInBounds_toArray, List.set_cons_zero, List.set_cons_succ]
  refine rdH 10 rfl (fun K hK => ?_)
  refine stepW rfl (wp_store_all 76 (.tmp 6) (.tmp 18) rfl w1.heap.size EA (by kernel_rfl) (by kernel_rfl) 76 Z X9.out IE.out SEZ.out EO.out (fun u10 r10 o10 s10 => ?_))
  have hH := hHeld.trans (o10.below (Nat.le_refl _) hHeld.size)
  have R10 := Lib.hid r10
  clear hHeld r10 o10 s10 X9
  refine hK.out _ _ hH (fun hHeld => ?_)
  clear hK K
  refine tkW 11 rfl hHeld ?_
  try simp only [Act.put, List.getElem_toArray, List.getElem_cons_succ, List.getElem_cons_zero, lsA, lsZ, lsS]
  refine wpAnyH_done (by kernel_rfl) ?_ _
  have HB := Lib.hid (B1.out.trans (hHeld.mono B1.out.size))
  have XR := Lib.hid ((hHeld.block (w.heap.size + 1) (by have := Z1.out; omega)).trans X2.out)
  clear hHeld
  cases b with
  | true =>
    clear NONE
    go_wp2_with (first
      | (with_reducible refine wpList_load_all 76 (.tmp 6) rfl (by kernel_rfl) w1.heap.size EA 76 (0, 0) rfl R10.out _ Try.underlying76 rfl IE.out ?_)
      | (with_reducible refine wpList_store_all rfl 76 (.tmp 4) (.tmp 23) rfl (w.heap.size + 1) EA rfl rfl 76 Z XR.out IE.out SEZ.out EO.out ?_; intro w5 r5 o5 s5)
      | fail)
    have HB5 := Lib.hid (HB.out.trans (o5.below (B := w.heap.size) (Nat.le_succ _) HB.out.size))
    exact bodyPost_ret (results_ent Try.results32 _ _ (w.heap.size + 1) EA (0, 0) _ rfl rfl r5 ES.out) rfl ⟨rfl, HB5.out⟩
  | false =>
    have e := NONE.out rfl
    subst e
    go_wp2_with (first
      | (refine wpList_build_none rfl 76 rfl EA BZ.out ?_)
      | (with_reducible refine wpList_store_all rfl 76 (.tmp 4) (.tmp 22) rfl (w.heap.size + 1) EA rfl rfl 76 EA XR.out IE.out rfl EO.out ?_; intro w5 r5 o5 s5)
      | fail)
    have HB5 := Lib.hid (HB.out.trans (o5.below (B := w.heap.size) (Nat.le_succ _) HB.out.size))
    exact bodyPost_ret (results_ent Try.results32 _ _ (w.heap.size + 1) EA (0, 0) _ rfl rfl r5 ES.out) rfl ⟨rfl, HB5.out⟩
end Go.Proofs.Ytgbmbemmkadagaa
