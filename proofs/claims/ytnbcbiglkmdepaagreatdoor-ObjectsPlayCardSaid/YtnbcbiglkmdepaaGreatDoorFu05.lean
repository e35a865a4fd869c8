/-
  Texts that belong together, one behind the other.
-/
import Derived.Test.YtnbcbiglkmdepaaGreatDoorFu04
import Derived.Lib.Hide
import Derived.StillTailTactics
import Derived.RegionTactic
import Derived.Test.YtnbcbiglkmdepaaGreatDoorFu03
import Derived.Deep.MidRow
import Derived.Laws.ResultCell
import Derived.Laws.CopyRow
import Derived.Deep.RegionHeld3
import Derived.Test.YtnbcbiglkmdepaaGreatDoorFu02
import Derived.Test.YtnbcbiglkmdepaaGreatDoorFu01
import Derived.Lib.Strings
import Derived.Lib.Bytes
import Derived.IntWalk
import Derived.WalkSmall
import Derived.OwnWalk
import Derived.OrdersHeld
import Derived.Deep.RegionHeld
set_option maxHeartbeats 64000000
set_option linter.unusedVariables false
set_option linter.unusedSimpArgs false
open Go.Lib renaming hid → hyd
open List renaming getElem_toArray → lgA, getElem_cons_succ → lgS, getElem_cons_zero → lgZ
namespace Go.Proofs.YtnbcbiglkmdepaaGreatDoor
open Go.RowKit
theorem elem_bytes : Tryz.prog.underlying 32 = some (.slice (Tryz.prog.elem 32)) := by kernel_rfl
theorem slice_head (a : Option Addr) (n c k : Nat) (x : Int) (hx : x = k) (hk : k ≤ c) (u : World) :
  (Instr.sliceAt 32 (.slice a n c) none (some (.int .i64 x)) none).run Tryz.prog u = .ok (.slice a k c) u := by
 subst hx; obtain ⟨i, hi, hz, hs, hby⟩ := info_parts info_u8
 have e : Tryz.prog.elem 32 = 5 := by kernel_rfl
 rw [run_sliceAt_slice (h := elem_bytes), run_slice_h (ht := elem_bytes) (h0 := by omega) (h2 := by omega)]; rw [e]
 simp [sizeOf, typeInfo, hi, hs, Result.andThen, sliced]
 cases a with
 | none => simp
 | some a => simp [Addr.add]
theorem CopyBytes_any (l : List UInt8) (w : World) (a : Option Addr) (n c : Nat) (hb : BAt w a l) (hn : n = l.length) (hno : a = none → n = 0 ∧ c = 0) (hl : l.length ≤ 1099511627776) :
  Calls Tryz.prog 24 #[.slice a n c] w fun e w' => ∃ v', e = .returned v' ∧ Row w' v' l ∧ (∀ g, foot v' = some g → w.heap.size ≤ g) ∧ Below w.heap.size w w' := by
 subst hn; have HB := hyd hb; have HNO := hyd hno; clear hb hno
 go_enter Tryz.func24, Tryz.ntmps24
 go_wp2_with (first
  | (at_builtin; refine wpList_append_row rfl (.const (.slice none 0 0)) (.tmp 3) rfl (.slice none 0 0) rfl [] l (Row.nil _ _) a l.length c rfl HB.out rfl HNO.out (by simpa using hl) ?_; intro v' w' hap)
  | fail)
 obtain ⟨h1, h2, h3⟩ := hap; have H1 := hyd h1; have hb2 : Below w.heap.size w w' := (Below.refl _ w).grown h2 (Nat.le_refl _) (fun k hk => by cases hk)
 have hf : ∀ g, foot v' = some g → w.heap.size ≤ g := fun g hg => by
  rcases h3 with h3 | h3 | h3
  ·rw [h3] at hg; cases hg
  ·rw [h3] at hg; cases hg
  ·rw [h3] at hg; cases hg; exact Nat.le_refl _
 have HF := hyd hf; clear h1 h2 h3 hf; go_wp2; go_ret; exact ⟨_, rfl, by simpa using H1.out, HF.out, hb2⟩
theorem OwnAt.row {w : World} {g : Nat} {l : List UInt8} {f : Int} (h : OwnAt w g l f) : Row w (.slice (some ⟨g, 0, none⟩) l.length (l.length + 3)) l := by
 rcases h.2 with ⟨h', _⟩ | ⟨g', cap', cur, h', hb, hg, hnc, hcm, hcs, htake⟩
 ·simp at h'
 ·simp only [Value.slice.injEq, Option.some.injEq, Addr.mk.injEq, and_true, true_and] at h'
  obtain ⟨rfl, rfl⟩ := h'; refine .inr ⟨g, l.length + 2, cur, rfl, hg, by omega, hcm, by omega, ?_⟩; have e := congrArg (List.take l.length) htake; rw [List.take_take, Nat.min_eq_left (by omega)] at e; rw [e, List.take_left' (byteCells_len l)]
theorem bClone_any (l : List UInt8) (w : World) (a : Option Addr) (n c : Nat) (hb : BAt w a l) (hn : n = l.length) (hno : a = none → n = 0 ∧ c = 0) (hl : l.length ≤ 1099511627776) :
  Calls Tryz.prog 44 #[.slice a n c] w fun e w' => ∃ v', e = .returned v' ∧ Row w' v' l ∧ (∀ g, foot v' = some g → w.heap.size ≤ g) ∧ Below w.heap.size w w' := by
 subst hn; have HB := hyd hb; have HNO := hyd hno; clear hb hno
 cases a with
 | none =>
  have e1 := (HNO.out rfl).1; obtain rfl : l = [] := List.eq_nil_of_length_eq_zero e1; obtain rfl := (HNO.out rfl).2; clear e1 HB HNO
  have qT : ∀ (w : World) (a : Option Addr) (n c n' c' : Nat), (binOp .eql 32 (.slice a n c) (.slice none n' c')).run Tryz.prog w = .ok (.bool a.isNone) w := fun w a n c n' c' => Lib.run_eql_slice_nil w _ _ a n c n' c' Tryz.underlying32
  go_enter Tryz.func44, Tryz.ntmps44
  go_wp2; go_ret; exact ⟨_, rfl, Row.nil _ _, fun g hg => by simp [foot] at hg, Below.refl _ _⟩
 | some ad =>
  have qT : ∀ (w : World) (a : Option Addr) (n c n' c' : Nat), (binOp .eql 32 (.slice a n c) (.slice none n' c')).run Tryz.prog w = .ok (.bool a.isNone) w := fun w a n c n' c' => Lib.run_eql_slice_nil w _ _ a n c n' c' Tryz.underlying32
  go_enter Tryz.func44, Tryz.ntmps44
  go_wp2_with (first
   | (at_builtin; refine wpList_append_row rfl (.tmp 5) (.tmp 6) rfl (.slice (some ⟨w.heap.size, 0, none⟩) 0 0) rfl [] l (Row.nil _ _) (some ad) l.length c rfl ((HB.out.below ((Below.refl _ w).alloc (Nat.le_refl _) _) (Nat.le_refl _))) rfl HNO.out (by simpa using hl) ?_; intro v' w' hap)
   | fail)
  obtain ⟨h1, h2, h3⟩ := hap; have H1 := hyd h1; have hb2 : Below w.heap.size w w' := ((Below.refl _ w).alloc (Nat.le_refl _) _).grown h2 (by simp) (fun k hk => by rw [foot_zero] at hk; cases hk)
  have hf : ∀ g, foot v' = some g → w.heap.size ≤ g := fun g hg => by
   rcases h3 with h3 | h3 | h3
   ·rw [h3, foot_zero] at hg; cases hg
   ·rw [h3] at hg; cases hg
   ·rw [h3] at hg; simp at hg; omega
  have HF := hyd hf; clear h1 h2 h3 hf; go_wp2; go_ret; exact ⟨_, rfl, by simpa using H1.out, HF.out, hb2⟩
theorem bEqual_any (a1 a2 : Option Addr) (n1 n2 c1 c2 : Nat) (l1 l2 : List UInt8) (w : World) (h1 : BAt w a1 l1) (h2 : BAt w a2 l2) (e1 : n1 = l1.length) (e2 : n2 = l2.length) :
  Calls Tryz.prog 76 #[.slice a1 n1 c1, .slice a2 n2 c2] w fun e w' => e = .returned (.bool (l1 == l2)) ∧ w = w' := by
 subst e1; subst e2; have g1 := h1.conv (P := Tryz.prog) c1 32 5 Tryz.underlying32 Tryz.underlying5 9 Tryz.underlying9; have g2 := h2.conv (P := Tryz.prog) c2 32 5 Tryz.underlying32 Tryz.underlying5 9 Tryz.underlying9; clear h1 h2
 go_enter Tryz.func76, Tryz.ntmps76
 go_wp2; go_ret; exact ⟨rfl, rfl⟩
set_option maxRecDepth 20000
theorem new_is (w : World) : Calls Tryz.prog 4 #[] w fun e w' => e = .returned (.pointer (some ⟨w.heap.size, 0, none⟩)) ∧ w' = w.alloc (.cells #[.map none] 48) := by
 go_enter Tryz.func4, Tryz.ntmps4
 go_wp2; go_ret; exact ⟨rfl, rfl⟩
theorem StoreP.new (S : Nat → Prop) (w : World) (hS : S w.heap.size) : StoreP S (w.alloc (.cells #[.map none] 48)) w.heap.size [] := by
 refine ⟨hS, [], none, rfl, heap_alloc_new w _, ?_, fun _ => rfl, ?_⟩
 ·intro e he
  cases he
 ·intro b hb
  cases hb
theorem tp_same (T : TypeId) (hT : T = 132 ∨ T = 133 ∨ T = 134) (x : Value) (w : World) : (Instr.typeAssert (.iface T x) 63 T true).run Tryz.prog w = .ok (.tuple #[x, .bool true]) w := by
 rcases hT with rfl | rfl | rfl <;> kernel_rfl
theorem tp_21 (x : Value) (w : World) : (Instr.typeAssert (.iface 133 x) 63 132 true).run Tryz.prog w = .ok (.tuple #[.agg #[.slice none 0 0], .bool false]) w := by kernel_rfl
theorem tp_31 (x : Value) (w : World) : (Instr.typeAssert (.iface 134 x) 63 132 true).run Tryz.prog w = .ok (.tuple #[.agg #[.slice none 0 0], .bool false]) w := by kernel_rfl
theorem tp_32 (x : Value) (w : World) : (Instr.typeAssert (.iface 134 x) 63 133 true).run Tryz.prog w = .ok (.tuple #[.agg #[.slice none 0 0], .bool false]) w := by kernel_rfl
theorem kind_is (k : Int) (hk : kindO k) (a : Option Addr) (n c : Nat) (w : World) :
  Calls Tryz.prog 58 #[thingP k (.slice a n c)] w fun e w' => e = .returned (.int .i64 k) ∧ Below w.heap.size w w' := by
 rcases hk with rfl | rfl | rfl
 ·rw [thingP1]
  have t1 := tp_same 132 (by simp) (.agg #[.slice a n c]); have B0 := (Below.refl w.heap.size w).alloc (Nat.le_refl _) (.cells #[.slice a n c] 132); have B := hyd B0; clear B0
  go_enter Tryz.func58, Tryz.ntmps58
  go_wp2; go_ret; exact ⟨rfl, B.out⟩
 ·rw [thingP2]
  have t1 := tp_21 (.agg #[.slice a n c]); have t2 := tp_same 133 (by simp) (.agg #[.slice a n c]); have B0 := (Below.refl w.heap.size w).alloc (Nat.le_refl _) (.cells #[.slice none 0 0] 132); have B1 := B0.alloc B0.size (.cells #[.slice a n c] 133); have B := hyd B1; clear B0 B1
  go_enter Tryz.func58, Tryz.ntmps58
  go_wp2; go_ret; exact ⟨rfl, B.out⟩
 ·rw [thingP3]
  have t1 := tp_31 (.agg #[.slice a n c]); have t2 := tp_32 (.agg #[.slice a n c]); have t3 := tp_same 134 (by simp) (.agg #[.slice a n c]); have B0 := (Below.refl w.heap.size w).alloc (Nat.le_refl _) (.cells #[.slice none 0 0] 132); have B1 := B0.alloc B0.size (.cells #[.slice none 0 0] 133); have B2 := B1.alloc B1.size (.cells #[.slice a n c] 134); have B := hyd B2; clear B0 B1 B2
  go_enter Tryz.func58, Tryz.ntmps58
  go_wp2; go_ret; exact ⟨rfl, B.out⟩
theorem m_bytes (T : TypeId) (hT : T = 132 ∨ T = 133 ∨ T = 134) (x : Value) (w : World) : (method 404 T (.agg #[x]) "trestle/objects.bytes").run Tryz.prog w = .ok (257, x) w := by
 rcases hT with rfl | rfl | rfl <;> kernel_rfl
theorem obytes_is (a : Option Addr) (n c : Nat) (w : World) :
  Calls Tryz.prog 257 #[.slice a n c] w fun e w' => e = .returned (.slice a n c) ∧ w = w' := by
 go_enter Tryz.func257, Tryz.ntmps257
 go_wp2; go_ret; exact ⟨rfl, rfl⟩
theorem kind_ty {k : Int} (hk : kindO k) : ∃ T, (T = 132 ∨ T = 133 ∨ T = 134) ∧ ∀ v, thingP k v = .iface T (.agg #[v]) := by
 rcases hk with rfl | rfl | rfl
 ·exact ⟨_, .inl rfl, thingP1⟩
 ·exact ⟨_, .inr (.inl rfl), thingP2⟩
 ·exact ⟨_, .inr (.inr rfl), thingP3⟩
theorem row_shape {w : World} {v : Value} {l : List UInt8} (h : Row w v l) : ∃ a n c, v = .slice a n c := by
 rcases h with ⟨a, e, _⟩ | ⟨g, cap, cur, e, _⟩
 ·exact ⟨_, _, _, e⟩
 ·exact ⟨_, _, _, e⟩
theorem typedP_is (k : Int) (hk : kindO k) (a : Option Addr) (n c : Nat) (l : List UInt8) (w : World) (hn : n = l.length) (hb : BAt w a l) (hno : a = none → n = 0 ∧ c = 0) (hl : l.length ≤ 1099511627776) :
  Calls Tryz.prog 50 #[.agg #[.int .i64 k, .slice a n c]] w fun e w' => ∃ v', e = .returned (thingP k v') ∧ Row w' v' l ∧ (∀ g, foot v' = some g → w.heap.size ≤ g) ∧ Below w.heap.size w w' := by
 have B0 := (Below.refl w.heap.size w).alloc (Nat.le_refl _) (.cells #[.int .i64 k, .slice a n c] 34); have C := hyd (bClone_any l _ a n c (hb.keep B0) hn hno hl); have B := hyd B0; clear B0 hb hno hl hn
 rcases hk with rfl | rfl | rfl
 ·go_enter Tryz.func50, Tryz.ntmps50
  go_wp2_with fail
  refine C.out.mono ?_; rintro e w1 ⟨v', rfl, hr, hf, hb1⟩; obtain ⟨a', n', c', rfl⟩ := row_shape hr; have F := hyd (And.intro hr (And.intro (fun g hg => Nat.le_trans B.out.size (hf g hg)) (B.out.trans (hb1.mono B.out.size))))
  have K : w1.cell? ⟨w.heap.size, 0, none⟩ = some (.int .i64 1) := by
   rw [Lib.cell_of_heap ((hb1.block w.heap.size (by simp)).trans (heap_alloc_new w _))]
   rfl
  clear hr hf hb1; go_wp2; go_ret; exact ⟨_, rfl, F.out⟩
 ·go_enter Tryz.func50, Tryz.ntmps50
  go_wp2_with fail
  refine C.out.mono ?_; rintro e w1 ⟨v', rfl, hr, hf, hb1⟩; obtain ⟨a', n', c', rfl⟩ := row_shape hr; have F := hyd (And.intro hr (And.intro (fun g hg => Nat.le_trans B.out.size (hf g hg)) (B.out.trans (hb1.mono B.out.size))))
  have K : w1.cell? ⟨w.heap.size, 0, none⟩ = some (.int .i64 2) := by
   rw [Lib.cell_of_heap ((hb1.block w.heap.size (by simp)).trans (heap_alloc_new w _))]
   rfl
  clear hr hf hb1; go_wp2; go_ret; exact ⟨_, rfl, F.out⟩
 ·go_enter Tryz.func50, Tryz.ntmps50
  go_wp2_with fail
  refine C.out.mono ?_; rintro e w1 ⟨v', rfl, hr, hf, hb1⟩; obtain ⟨a', n', c', rfl⟩ := row_shape hr; have F := hyd (And.intro hr (And.intro (fun g hg => Nat.le_trans B.out.size (hf g hg)) (B.out.trans (hb1.mono B.out.size))))
  have K : w1.cell? ⟨w.heap.size, 0, none⟩ = some (.int .i64 3) := by
   rw [Lib.cell_of_heap ((hb1.block w.heap.size (by simp)).trans (heap_alloc_new w _))]
   rfl
  clear hr hf hb1; go_wp2; go_ret; exact ⟨_, rfl, F.out⟩
def cellsT (i : Idt) : List Value := [.string ⟨i.name.toArray⟩, .string ⟨i.email.toArray⟩, .int .i64 i.whn, .int .i64 i.zone]
theorem cellsT_len (i : Idt) : (cellsT i).length = 4 := rfl
theorem cellsT_one (i : Idt) : (cellsT i).toArray.all (·.oneCell') = true := by simp [cellsT, Value.oneCell']
theorem infoT : (Tryz.prog.info? 70).map (·.size) = some 4 := by kernel_rfl
def cellsC (t : List UInt8) (v : Value) (a c : Idt) (x : List UInt8) : List Value := cellsD t ++ v :: (cellsT a ++ (cellsT c ++ [.string ⟨x.toArray⟩]))
theorem cellsC_len (t : List UInt8) (v : Value) (a c : Idt) (x : List UInt8) (ht : t.length = 20) : (cellsC t v a c x).length = 30 := by simp [cellsC, cellsD_len t ht, cellsT_len]
def arrC (t : List UInt8) (v : Value) (a c : Idt) (x : List UInt8) : Array Value := (cellsC t v a c x).toArray
theorem arrC_size (t : List UInt8) (v : Value) (a c : Idt) (x : List UInt8) (ht : t.length = 20) : (arrC t v a c x).size = 30 := by unfold arrC; rw [List.size_toArray, cellsC_len t v a c x ht]
theorem infoC : (Tryz.prog.info? 72).map (·.size) = some 30 := by kernel_rfl
theorem infoC_arr (a : Array Value) (h : a.size = 30) : (Tryz.prog.info? 72).map (·.size) = some a.size := by rw [h]; exact infoC
theorem arrC_one (t : List UInt8) (a1 : Option Addr) (n m : Nat) (a c : Idt) (x : List UInt8) : (arrC t (.slice a1 n m) a c x).all (·.oneCell') = true := by
 rw [Array.all_eq_true']; intro v hv; simp only [arrC, List.mem_toArray, cellsC, List.mem_append, List.mem_cons, cellsT, List.not_mem_nil, or_false] at hv; have h20 := (Array.all_eq_true_iff_forall_mem.1 (cellsD_one t)) v
 rcases hv with hv | rfl | (rfl | rfl | rfl | rfl) | (rfl | rfl | rfl | rfl) | rfl
 ·exact h20 (by simpa using hv)
 all_goals rfl
structure RecAt (w : World) (g : Nat) (t : List UInt8) (v : Value) (a c : Idt) (x : List UInt8) : Prop where
 lt : g < w.heap.size
 tree : w.rangeAt g 0 (cellsD t)
 parents : w.cell? ⟨g, 20, none⟩ = some v
 author : w.rangeAt g 21 (cellsT a)
 committer : w.rangeAt g 25 (cellsT c)
 text : w.cell? ⟨g, 29, none⟩ = some (.string ⟨x.toArray⟩)
theorem cellsC_at (t : List UInt8) (v : Value) (a c : Idt) (x : List UInt8) (ht : t.length = 20) :
  (∀ j u, (cellsD t)[j]? = some u → (cellsC t v a c x)[0 + j]? = some u) ∧ (cellsC t v a c x)[20]? = some v ∧ (∀ j u, (cellsT a)[j]? = some u → (cellsC t v a c x)[21 + j]? = some u) ∧
  (∀ j u, (cellsT c)[j]? = some u → (cellsC t v a c x)[25 + j]? = some u) ∧ (cellsC t v a c x)[29]? = some (.string ⟨x.toArray⟩) := by
 have hd := cellsD_len t ht; have ha := cellsT_len a; have hc := cellsT_len c; unfold cellsC
 generalize cellsD t = d at *
 generalize cellsT a = p at *
 generalize cellsT c = q at *
 refine ⟨fun j u h => ?_, ?_, fun j u h => ?_, fun j u h => ?_, ?_⟩
 ·have hj := (List.getElem?_eq_some_iff.1 h).1
  rw [Nat.zero_add, List.getElem?_append_left hj]; exact h
 ·rw [List.getElem?_append_right (by omega), hd]; rfl
 ·have hj := (List.getElem?_eq_some_iff.1 h).1
  rw [List.getElem?_append_right (by omega), hd, show 21 + j - 20 = j + 1 by omega, List.getElem?_cons_succ, List.getElem?_append_left hj]; exact h
 ·have hj := (List.getElem?_eq_some_iff.1 h).1
  rw [List.getElem?_append_right (by omega), hd, show 25 + j - 20 = (4 + j) + 1 by omega, List.getElem?_cons_succ, List.getElem?_append_right (by omega), ha, show 4 + j - 4 = j by omega, List.getElem?_append_left hj]; exact h
 ·rw [List.getElem?_append_right (by omega), hd, show 29 - 20 = 8 + 1 by omega, List.getElem?_cons_succ, List.getElem?_append_right (by omega), ha, List.getElem?_append_right (by omega), hc]; rfl
theorem recAt_of {w : World} {g : Nat} {t : List UInt8} {v : Value} {a c : Idt} {x : List UInt8} {ty : TypeId} {fr : Nat × Nat} (ht : t.length = 20) (h : w.heap[g]? = some (.cells (arrC t v a c x) ty fr)) : RecAt w g t v a c x := by
 have hcell : ∀ j, w.cell? ⟨g, j, none⟩ = (cellsC t v a c x)[j]? := fun j => by
  rw [Lib.cell_of_heap h]; unfold arrC; rw [List.getElem?_toArray]
 obtain ⟨h1, h2, h3, h4, h5⟩ := cellsC_at t v a c x ht; exact ⟨lt_of_heap h, fun j u hu => (hcell _).trans (h1 j u hu), (hcell _).trans h2, fun j u hu => (hcell _).trans (h3 j u hu), fun j u hu => (hcell _).trans (h4 j u hu), (hcell _).trans h5⟩
theorem RecAt.keep {w u : World} {g : Nat} {t : List UInt8} {v : Value} {a c : Idt} {x : List UInt8} (h : RecAt w g t v a c x) (hb : Below w.heap.size w u) : RecAt u g t v a c x :=
 ⟨Nat.lt_of_lt_of_le h.lt hb.size, fun j v hv => (hb.cell (p := ⟨g, 0 + j, none⟩) h.lt).trans (h.tree j v hv), (hb.cell (p := ⟨g, 20, none⟩) h.lt).trans h.parents,
  fun j v hv => (hb.cell (p := ⟨g, 21 + j, none⟩) h.lt).trans (h.author j v hv), fun j v hv => (hb.cell (p := ⟨g, 25 + j, none⟩) h.lt).trans (h.committer j v hv), (hb.cell (p := ⟨g, 29, none⟩) h.lt).trans h.text⟩
theorem part_plain {ty : TypeId} {d : TypeDesc} (hu : Tryz.prog.underlying ty = some d) (hd : d.isRow = false) (xs : Array Value) (k : Nat) (v : Value) (u : World) (h : xs[k]? = some v) : (part ty xs k).run Tryz.prog u = .ok v u := by
 cases d <;> first | (simp [part, isAgg, run_underlying hu, h]; done) | (simp [TypeDesc.isRow] at hd)
theorem idt_fields : ∃ f0 f1 f2 f3 : Field, (Tryz.prog.fieldsOf 70).toList = [f0, f1, f2, f3] ∧ (f0.type = 9 ∧ f0.offset = 0 ∧ (f0.name == "_") = false) ∧ (f1.type = 9 ∧ f1.offset = 1 ∧ (f1.name == "_") = false) ∧ (f2.type = 2 ∧ f2.offset = 2 ∧ (f2.name == "_") = false) ∧ (f3.type = 3 ∧ f3.offset = 3 ∧ (f3.name == "_") = false) := by
 have h : (Tryz.prog.fieldsOf 70).toList.map (fun f => (f.type, f.offset, f.name == "_")) = [(9, 0, false), (9, 1, false), (2, 2, false), (3, 3, false)] := by kernel_rfl
 generalize (Tryz.prog.fieldsOf 70).toList = fs at h ⊢
 rcases fs with _ | ⟨f0, _ | ⟨f1, _ | ⟨f2, _ | ⟨f3, _ | ⟨f4, fs⟩⟩⟩⟩⟩
 ·cases h
 ·exact absurd (congrArg List.length h) (by simp)
 ·exact absurd (congrArg List.length h) (by simp)
 ·exact absurd (congrArg List.length h) (by simp)
 ·simp only [List.map_cons, List.map_nil, List.cons.injEq, Prod.mk.injEq, and_true] at h
  exact ⟨f0, f1, f2, f3, rfl, h.1, h.2.1, h.2.2.1, h.2.2.2⟩
 ·exact absurd (congrArg List.length h) (by simp)
theorem idt_under : Tryz.prog.underlying 70 = some (.struct (Tryz.prog.fieldsOf 70)) := by kernel_rfl
theorem equalIn_idt (d : Nat) (i : Idt) (w : World) : (Op.equalIn (d + 3) 70 (.agg (cellsT i).toArray) (.agg (cellsT i).toArray)).run Tryz.prog w = .ok true w := by
 obtain ⟨f0, f1, f2, f3, hf, ⟨a0, b0, c0⟩, ⟨a1, b1, c1⟩, ⟨a2, b2, c2⟩, ⟨a3, b3, c3⟩⟩ := idt_fields
 have n0 : f0.name ≠ "_" := by intro e; rw [e] at c0; simp at c0
 have n1 : f1.name ≠ "_" := by intro e; rw [e] at c1; simp at c1
 have n2 : f2.name ≠ "_" := by intro e; rw [e] at c2; simp at c2
 have n3 : f3.name ≠ "_" := by intro e; rw [e] at c3; simp at c3
 have p0 := fun u => part_plain Tryz.underlying9 rfl (cellsT i).toArray 0 (.string ⟨i.name.toArray⟩) u rfl
 have p1 := fun u => part_plain Tryz.underlying9 rfl (cellsT i).toArray 1 (.string ⟨i.email.toArray⟩) u rfl
 have p2 := fun u => part_plain Tryz.underlying2 rfl (cellsT i).toArray 2 (.int .i64 i.whn) u rfl
 have p3 := fun u => part_plain Tryz.underlying3 rfl (cellsT i).toArray 3 (.int .i64 i.zone) u rfl
 have e0 := fun u => run_equalIn_string (P := Tryz.prog) u (d + 1) 9 ⟨i.name.toArray⟩ ⟨i.name.toArray⟩ Tryz.underlying9
 have e1 := fun u => run_equalIn_string (P := Tryz.prog) u (d + 1) 9 ⟨i.email.toArray⟩ ⟨i.email.toArray⟩ Tryz.underlying9
 have e2 := fun u => run_equalIn_int (P := Tryz.prog) u (d + 1) 2 .i64 .i64 i.whn i.whn Tryz.underlying2
 have e3 := fun u => run_equalIn_int (P := Tryz.prog) u (d + 1) 3 .i64 .i64 i.zone i.zone Tryz.underlying3
 rw [run_equalIn_struct w (d + 2) 70 _ _ idt_under (by kernel_rfl), hf]; simp only [beq_self_eq_true] at e0 e1 e2 e3
 generalize (cellsT i).toArray = X at *
 simp only [Op.eqFields, n0, n1, n2, n3, ne_eq, not_false_eq_true, if_true, Sem.run_bind, a0, b0, a1, b1, a2, b2, a3, b3, p0, p1, p2, p3, Result.andThen_ok, e0, e1, e2, e3]
 simp [e1, e2, e3, p1, p2, p3]
theorem eql_idt_same (i : Idt) (w : World) : (binOp .eql 70 (.agg (cellsT i).toArray) (.agg (cellsT i).toArray)).run Tryz.prog w = .ok (.bool true) w := by
 have h := equalIn_idt 9997 i w; rw [run_eql_struct]; rw [show Op.equalIn 10000 = Op.equalIn (9997 + 3) from rfl, h]
 rfl
structure Off (g : Nat) (w w' : World) : Prop where
 os : w'.os = w.os
 tape : w'.tape = w.tape
 output : w'.output = w.output
 size : w.heap.size ≤ w'.heap.size
 block : ∀ k, k < w.heap.size → k ≠ g → w'.heap[k]? = w.heap[k]?
theorem Off.refl (g : Nat) (w : World) : Off g w w := ⟨rfl, rfl, rfl, Nat.le_refl _, fun _ _ _ => rfl⟩
theorem Off.trans {g : Nat} {a b c : World} (h : Off g a b) (k : Off g b c) : Off g a c :=
 ⟨k.os.trans h.os, k.tape.trans h.tape, k.output.trans h.output, Nat.le_trans h.size k.size, fun i hi hn => (k.block i (Nat.lt_of_lt_of_le hi h.size) hn).trans (h.block i hi hn)⟩
theorem Off.below {g B : Nat} {w w' : World} (h : Off g w w') (hB : B ≤ g) (hs : B ≤ w.heap.size) : Below B w w' := ⟨h.os, h.tape, h.output, h.size, fun k hk => h.block k (by omega) (by omega)⟩
theorem off_of {g : Nat} {w w' : World} (h : Below w.heap.size w w') : Off g w w' := ⟨h.os, h.tape, h.output, h.size, fun k hk _ => h.block k hk⟩
theorem Off.cell {g : Nat} {w w' : World} (h : Off g w w') {p : Addr} {v : Value} (hv : w.cell? p = some v) (hn : p.block ≠ g) : w'.cell? p = some v := by
 have hb := h.block p.block (World.block_lt_of_cell? w p hv) hn; rw [← hv]; exact World.cell?_of_block (w := w) hb
theorem wpList_store_any {ops : Array Oper} {rest : List Oper} {o : Oper} {a : Act} {w : World} {Q : Exit → Act → World → Prop} (hgd : o.guard = none) (ty : TypeId) (x y : Operand) (ho : o.op = .store ty x y) (g off : Nat) (cells : Array Value)
  (hx : a.eval x = .pointer (some ⟨g, off, none⟩)) (hy : a.eval y = .agg cells) (T : TypeId) (cur : Array Value) (hg : w.heap[g]? = some (.cells cur T (0, 0))) (hi : (Tryz.prog.info? ty).map (·.size) = some cells.size) (hfit : off + cells.size ≤ cur.size)
  (h1 : cells.all (·.oneCell') = true)
  (h : ∀ w', w'.heap[g]? = some (.cells (cur.toList.take off ++ cells.toList ++ cur.toList.drop (off + cells.size)).toArray T (0, 0)) → Off g w w' → w'.heap.size = w.heap.size → wpList Tryz.prog ops Q rest (a.put o.dst undef) w') :
  wpList Tryz.prog ops Q (o :: rest) a w := by
 refine wpList_plain hgd fun K hK => ?_
 obtain ⟨ie, hie, hsz⟩ : ∃ ie, Tryz.prog.info? ty = some ie ∧ ie.size = cells.size := by
  cases e : Tryz.prog.info? ty with
  | none => rw [e] at hi; cases hi
  | some ie => rw [e] at hi; exact ⟨ie, rfl, Option.some.inj hi⟩
 have hst := run_storeCells_at Tryz.prog g off T cells.toList 0 cur w hg (by rw [Array.length_toList]; omega) (fun v hv => (Array.all_eq_true_iff_forall_mem.1 h1) v (by simpa using hv)); unfold Oper.wp execOp; simp only [ho, hx, hy, Instr.storeAt, Instr.sureAddr, Sem.run_bind, Sem.run_pure, Result.andThen_ok]
 have hrun : (storeVar ty ⟨g, off, none⟩ (.agg cells)).run Tryz.prog w = .ok () (w.setRow g (cur.toList.take off ++ cells.toList ++ cur.toList.drop (off + cells.size)).toArray) := by
  simp only [Nat.add_zero, Array.length_toList] at hst
  simp [storeVar, sizeOf, typeInfo, hie, hsz, Value.cells, hst]
 rw [hrun]; have b := below_setRow (B := g) (Below.refl g w) (Nat.le_refl _) (cur.toList.take off ++ cells.toList ++ cur.toList.drop (off + cells.size)).toArray; refine hK _ _ (h _ (setRow_heap w g cur _ T (0, 0) hg) ⟨b.os, b.tape, b.output, b.size, fun k _ hk => ?_⟩ (by simp [World.setRow]))
 have hkg : ¬ g = k := fun e => hk e.symm
 simp [World.setRow, Array.getElem?_modify, hkg]
theorem wpList_store_all {ops : Array Oper} {rest : List Oper} {o : Oper} {a : Act} {w : World} {Q : Exit → Act → World → Prop} (hgd : o.guard = none) (ty : TypeId) (x y : Operand) (ho : o.op = .store ty x y) (g : Nat) (cells : Array Value)
  (hx : a.eval x = .pointer (some ⟨g, 0, none⟩)) (hy : a.eval y = .agg cells) (T : TypeId) (cur : Array Value) (hg : w.heap[g]? = some (.cells cur T (0, 0))) (hi : (Tryz.prog.info? ty).map (·.size) = some cells.size) (hfit : cells.size = cur.size)
  (h1 : cells.all (·.oneCell') = true)
  (h : ∀ w', w'.heap[g]? = some (.cells cells T (0, 0)) → Off g w w' → w'.heap.size = w.heap.size → wpList Tryz.prog ops Q rest (a.put o.dst undef) w') :
  wpList Tryz.prog ops Q (o :: rest) a w := by
 refine wpList_store_any hgd ty x y ho g 0 cells hx hy T cur hg hi (by omega) h1 (fun w' hw => h w' ?_); rw [hw, List.take_zero, List.nil_append, Nat.zero_add, hfit, List.drop_of_length_le (by simp), List.append_nil]
theorem wpList_load_all {ops : Array Oper} {rest : List Oper} {op : Oper} {a : Act} {w : World} {Q : Exit → Act → World → Prop} (ty : TypeId) (x : Operand) (ho : op.op = .load ty x) (hw : Region.wanted op (yielded ops a.tmps) = true)
  (g : Nat) (A : Array Value) (T : TypeId) (fr : Nat × Nat) (hx : a.eval x = .pointer (some ⟨g, 0, none⟩)) (hg : w.heap[g]? = some (.cells A T fr)) (d : TypeDesc)
  (hu : Tryz.prog.underlying ty = some d) (hd : d.isRow = true) (hi : (Tryz.prog.info? ty).map (·.size) = some A.size)
  (h : wpList Tryz.prog ops Q rest (a.put op.dst (.agg A)) w) : wpList Tryz.prog ops Q (op :: rest) a w :=
 wpList_load_midD ty x ho hw g 0 hx A.toList d (row_arrD hg) hu hd (by rw [Array.length_toList]; exact hi) (by rw [Array.toArray_toList]; exact h)
theorem wpList_build_none {ops : Array Oper} {rest : List Oper} {o : Oper} {a : Act} {w : World} {Q : Exit → Act → World → Prop} (hgd : o.guard = none) (t : TypeId) (ho : o.op = .build t #[])
  (cells : Array Value) (hb : Tryz.prog.built t [] = some cells) (h : wpList Tryz.prog ops Q rest (a.put o.dst (.agg cells)) w) : wpList Tryz.prog ops Q (o :: rest) a w :=
 wpList_plain hgd fun K hK => wp_build t #[] ho (by simp [hb]) (by simp [hb]; exact hK _ _ h)
theorem yields_build0 {ops : Array Oper} {S : World → Prop} {o : Oper} {a : Act} (hw : Region.wanted o (yielded ops a.tmps) = true) (t : TypeId) (ho : o.op = .build t #[]) (cells : Array Value) (hb : Tryz.prog.built t [] = some cells) : YieldsIf Tryz.prog ops S o (.agg cells) a :=
 .inl ⟨hw, fun u _ => by
  have hp : Tryz.prog.built t ((#[] : Array (Nat × Operand)).map fun (i, x) => (i, a.eval x)).toList = some cells := by simp [hb]
  unfold execOp
  simp only [ho, Sem.run_bind, run_build u t _ cells hp, Result.andThen_ok, Sem.run_pure]⟩
def zT : Idt := ⟨[], [], 0, 0⟩
def recZ : Array Value := arrC idZ (.slice none 0 0) zT zT []
theorem zRec : (Tryz.prog.info? 72).map (fun i => (i.zero, i.size)) = some (some (.agg recZ), 30) := by kernel_rfl
theorem recZ_size : recZ.size = 30 := arrC_size _ _ _ _ _ rfl
theorem recZ_one : recZ.all (·.oneCell') = true := arrC_one _ _ _ _ _ _ _
theorem zRec_any : ∃ z : Array Value, z = recZ ∧ z.size = 30 ∧ (∀ w, (zeroValue 72).run Tryz.prog w = .ok (.agg z) w) ∧ Tryz.prog.built 72 [] = some z ∧ z.all (·.oneCell') = true :=
 ⟨recZ, rfl, recZ_size, zero_arr zRec, by kernel_rfl, recZ_one⟩
theorem zId_any : ∃ z : Array Value, z = arrD idZ ∧ z.size = 20 ∧ (∀ w, (zeroValue 24).run Tryz.prog w = .ok (.agg z) w) ∧ Tryz.prog.built 24 [] = some z ∧ z.all (·.oneCell') = true :=
 ⟨arrD idZ, rfl, arrD_size _ rfl, zero_arr zIdD, by kernel_rfl, arrD_one _⟩
theorem zIdt : (Tryz.prog.info? 70).map (fun i => (i.zero, i.size)) = some (some (.agg (cellsT zT).toArray), 4) := by kernel_rfl
theorem zIdt_any : ∃ z : Array Value, z = (cellsT zT).toArray ∧ z.size = 4 ∧ (∀ w, (zeroValue 70).run Tryz.prog w = .ok (.agg z) w) ∧ Tryz.prog.built 70 [] = some z ∧ z.all (·.oneCell') = true :=
 ⟨(cellsT zT).toArray, rfl, rfl, zero_arr zIdt, by kernel_rfl, cellsT_one _⟩
theorem results_rec {fn : Func} {p u : Tmp} (h : fn.results = #[.cell p 72, .tmp u]) (tmps : Array Value) (w : World) (g : Nat) (cs : Array Value) (fr : Nat × Nat) (x : Value)
  (hp : tmps.getD p undef = .pointer (some ⟨g, 0, none⟩)) (hx : tmps.getD u undef = x) (hg : w.heap[g]? = some (.cells cs 72 fr)) (hn : cs.size = 30) :
  (results fn tmps).run Tryz.prog w = .ok (.tuple #[.agg cs, x]) w := by
 rw [results_cell_tmp h, hp, hx]; have e : (asAddr (.pointer (some ⟨g, 0, none⟩))).run Tryz.prog w = .ok ⟨g, 0, none⟩ w := rfl; rw [e]; simp only [Result.andThen_ok]; rw [run_loadVar_row w g 72 72 cs fr _ hg Tryz.underlying72 rfl (by rw [infoC, hn])]
 rfl
theorem results_id9 {fn : Func} {p u : Tmp} (h : fn.results = #[.cell p 24, .tmp u]) (tmps : Array Value) (w : World) (g : Nat) (cs : Array Value) (fr : Nat × Nat) (x : Value)
  (hp : tmps.getD p undef = .pointer (some ⟨g, 0, none⟩)) (hx : tmps.getD u undef = x) (hg : w.heap[g]? = some (.cells cs 24 fr)) (hn : cs.size = 20) :
  (results fn tmps).run Tryz.prog w = .ok (.tuple #[.agg cs, x]) w := by
 rw [results_cell_tmp h, hp, hx]; have e : (asAddr (.pointer (some ⟨g, 0, none⟩))).run Tryz.prog w = .ok ⟨g, 0, none⟩ w := rfl; rw [e]; simp only [Result.andThen_ok]; rw [run_loadVar_row w g 24 24 cs fr _ hg Tryz.underlying24 rfl (by rw [infoD_n, hn])]
 rfl
theorem results_idt9 {fn : Func} {p u : Tmp} (h : fn.results = #[.cell p 70, .tmp u]) (tmps : Array Value) (w : World) (g : Nat) (cs : Array Value) (fr : Nat × Nat) (x : Value)
  (hp : tmps.getD p undef = .pointer (some ⟨g, 0, none⟩)) (hx : tmps.getD u undef = x) (hg : w.heap[g]? = some (.cells cs 70 fr)) (hn : cs.size = 4) :
  (results fn tmps).run Tryz.prog w = .ok (.tuple #[.agg cs, x]) w := by
 rw [results_cell_tmp h, hp, hx]; have e : (asAddr (.pointer (some ⟨g, 0, none⟩))).run Tryz.prog w = .ok ⟨g, 0, none⟩ w := rfl; rw [e]; simp only [Result.andThen_ok]; rw [run_loadVar_row w g 70 70 cs fr _ hg Tryz.underlying70 rfl (by rw [infoT, hn])]
 rfl
theorem put_tree (t t' : List UInt8) (v : Value) (a c : Idt) (x : List UInt8) (ht : t.length = 20) (ht' : t'.length = 20) :
  ((arrC t v a c x).toList.take 0 ++ (arrD t').toList ++ (arrC t v a c x).toList.drop (0 + (arrD t').size)).toArray = arrC t' v a c x := by
 rw [arrD_size t' ht', List.take_zero, List.nil_append, Nat.zero_add]; unfold arrC arrD cellsC; rw [List.toList_toArray, List.toList_toArray, List.drop_left' (cellsD_len t ht)]
theorem put_author (t : List UInt8) (v : Value) (a a' c : Idt) (x : List UInt8) (ht : t.length = 20) :
  ((arrC t v a c x).toList.take 21 ++ (cellsT a').toArray.toList ++ (arrC t v a c x).toList.drop (21 + (cellsT a').toArray.size)).toArray = arrC t v a' c x := by
 have hd := cellsD_len t ht; unfold arrC cellsC; rw [List.toList_toArray, List.toList_toArray, List.size_toArray]
 generalize cellsD t = d at *
 have e1 : d ++ v :: (cellsT a ++ (cellsT c ++ [.string ⟨x.toArray⟩])) = (d ++ [v]) ++ (cellsT a ++ (cellsT c ++ [.string ⟨x.toArray⟩])) := by simp
 have e2 : d ++ v :: (cellsT a ++ (cellsT c ++ [.string ⟨x.toArray⟩])) = (d ++ v :: cellsT a) ++ (cellsT c ++ [.string ⟨x.toArray⟩]) := by simp
 have e3 : (d ++ v :: (cellsT a ++ (cellsT c ++ [.string ⟨x.toArray⟩]))).take 21 = d ++ [v] := by rw [e1]; exact List.take_left' (by simp [hd])
 have e4 : (d ++ v :: (cellsT a ++ (cellsT c ++ [.string ⟨x.toArray⟩]))).drop (21 + (cellsT a').length) = cellsT c ++ [.string ⟨x.toArray⟩] := by rw [e2]; exact List.drop_left' (by simp [hd, cellsT_len])
 rw [e3, e4]
 simp
theorem put_committer (t : List UInt8) (v : Value) (a c c' : Idt) (x : List UInt8) (ht : t.length = 20) :
  ((arrC t v a c x).toList.take 25 ++ (cellsT c').toArray.toList ++ (arrC t v a c x).toList.drop (25 + (cellsT c').toArray.size)).toArray = arrC t v a c' x := by
 have hd := cellsD_len t ht; unfold arrC cellsC; rw [List.toList_toArray, List.toList_toArray, List.size_toArray]
 generalize cellsD t = d at *
 have e1 : d ++ v :: (cellsT a ++ (cellsT c ++ [.string ⟨x.toArray⟩])) = (d ++ v :: cellsT a) ++ (cellsT c ++ [.string ⟨x.toArray⟩]) := by simp
 have e2 : d ++ v :: (cellsT a ++ (cellsT c ++ [.string ⟨x.toArray⟩])) = (d ++ v :: (cellsT a ++ cellsT c)) ++ [.string ⟨x.toArray⟩] := by simp
 have e3 : (d ++ v :: (cellsT a ++ (cellsT c ++ [.string ⟨x.toArray⟩]))).take 25 = d ++ v :: cellsT a := by rw [e1]; exact List.take_left' (by simp [hd, cellsT_len])
 have e4 : (d ++ v :: (cellsT a ++ (cellsT c ++ [.string ⟨x.toArray⟩]))).drop (25 + (cellsT c').length) = [.string ⟨x.toArray⟩] := by rw [e2]; exact List.drop_left' (by simp [hd, cellsT_len])
 rw [e3, e4]
 simp
theorem put_parents (t : List UInt8) (v v' : Value) (a c : Idt) (x : List UInt8) (ht : t.length = 20) : (arrC t v a c x).setIfInBounds 20 v' = arrC t v' a c x := by
 have hd := cellsD_len t ht; unfold arrC cellsC; rw [List.setIfInBounds_toArray, List.set_append, if_neg (by omega), hd]
 rfl
theorem put_text (t : List UInt8) (v : Value) (a c : Idt) (x x' : List UInt8) (ht : t.length = 20) : (arrC t v a c x).setIfInBounds 29 (.string ⟨x'.toArray⟩) = arrC t v a c x' := by
 have hd := cellsD_len t ht; unfold arrC cellsC; rw [List.setIfInBounds_toArray, List.set_append, if_neg (by omega), hd]
 rfl
theorem built_rec20 (b0 b1 b2 b3 b4 b5 b6 b7 b8 b9 b10 b11 b12 b13 b14 b15 b16 b17 b18 b19 : UInt8) (a1 : Option Addr) (n c1 : Nat) (a c : Idt) (x : List UInt8) :
  Tryz.prog.built 72 [(0, .agg (arrD [b0, b1, b2, b3, b4, b5, b6, b7, b8, b9, b10, b11, b12, b13, b14, b15, b16, b17, b18, b19])), (1, .slice a1 n c1), (2, .agg (cellsT a).toArray), (3, .agg (cellsT c).toArray), (4, .string ⟨x.toArray⟩)] = some (arrC [b0, b1, b2, b3, b4, b5, b6, b7, b8, b9, b10, b11, b12, b13, b14, b15, b16, b17, b18, b19] (.slice a1 n c1) a c x) := by kernel_rfl
theorem built_rec (t : List UInt8) (ht : t.length = 20) (a1 : Option Addr) (n c1 : Nat) (a c : Idt) (x : List UInt8) :
  Tryz.prog.built 72 [(0, .agg (arrD t)), (1, .slice a1 n c1), (2, .agg (cellsT a).toArray), (3, .agg (cellsT c).toArray), (4, .string ⟨x.toArray⟩)] = some (arrC t (.slice a1 n c1) a c x) := by
 match t, ht with
 | [b0, b1, b2, b3, b4, b5, b6, b7, b8, b9, b10, b11, b12, b13, b14, b15, b16, b17, b18, b19], _ => exact built_rec20 b0 b1 b2 b3 b4 b5 b6 b7 b8 b9 b10 b11 b12 b13 b14 b15 b16 b17 b18 b19 a1 n c1 a c x
theorem slice20_D (u : World) (g k : Nat) : (Instr.sliceAt 24 (.pointer (some ⟨g, k, none⟩)) none none none).run Tryz.prog u = .ok (.slice (some ⟨g, k, none⟩) 20 20) u := by
 have ea : Tryz.prog.arrayLen 24 = 20 := by kernel_rfl
 have ee : Tryz.prog.elem 24 = 5 := by kernel_rfl
 rw [run_sliceAt_array_all u 24 ⟨g, k, none⟩ (by rw [ea, ee]; exact Tryz.underlying24), ea, ee, Tryz.sizeOf5]
 simp [Result.andThen, slicedAt, Addr.add]
theorem bat_of_range {w : World} {b o : Nat} {i : List UInt8} (hb : b < w.heap.size) (h : w.rangeAt b o (cellsD i)) : BAt w (some ⟨b, o, none⟩) i := fun _ =>
 ⟨b, o, rfl, hb, fun j hj => h j _ (by simp [cellsD, Lib.byteCells, List.getElem?_map, hj])⟩
structure Itm where
 mode : Int
 name : List UInt8
 id : List UInt8
def fullI (i : Itm) : List UInt8 := if i.mode = 4 then i.name ++ [47] else i.name
def befI (a b : Itm) : Bool := decide (fullI a < fullI b)
def nameI (s : List UInt8) : Bool := pathL s && !s.any (fun c => c == 47)
def zeroId : List UInt8 := List.replicate 20 0
def oneI (i : Itm) : Bool := nameI i.name && !(i.id == zeroId) && decide (1 ≤ i.mode) && decide (i.mode ≤ 4)
def noI : Itm := ⟨0, [], []⟩
def aheadI (l : List Itm) (i : Nat) : Bool := oneI (l.getD i noI) && (i == 0 || befI (l.getD (i - 1) noI) (l.getD i noI))
def otherI (l : List Itm) (i : Nat) : Bool := (List.range i).all (fun k => !((l.getD k noI).name == (l.getD i noI).name))
def stepI (l : List Itm) (i : Nat) : Bool := aheadI l i && otherI l i
def rightIt (l : List Itm) : Bool := decide (1 ≤ l.length) && decide (l.length ≤ 500) && (List.range l.length).all (stepI l)
theorem rightIt_iff (l : List Itm) : rightIt l = true ↔ 1 ≤ l.length ∧ l.length ≤ 500 ∧ ∀ i, i < l.length → stepI l i = true := by
 unfold rightIt; simp only [Bool.and_eq_true, decide_eq_true_eq, List.all_eq_true, List.mem_range, and_assoc]
theorem right_no_len (l : List Itm) (h : l.length < 1 ∨ 500 < l.length) : rightIt l = false := by
 cases e : rightIt l with
 | false => rfl
 | true => have := (rightIt_iff l).1 e; omega
theorem right_no_step (l : List Itm) (i : Nat) (hi : i < l.length) (h : stepI l i = false) : rightIt l = false := by
 cases e : rightIt l with
 | false => rfl
 | true => rw [((rightIt_iff l).1 e).2.2 i hi] at h; cases h
theorem right_yes (l : List Itm) (h1 : 1 ≤ l.length) (h2 : l.length ≤ 500) (h : ∀ i, i < l.length → stepI l i = true) : rightIt l = true := (rightIt_iff l).2 ⟨h1, h2, h⟩
theorem other_iff (l : List Itm) (i : Nat) : otherI l i = true ↔ ∀ k, k < i → (l.getD k noI).name ≠ (l.getD i noI).name := by
 unfold otherI; simp only [List.all_eq_true, List.mem_range, Bool.not_eq_true', beq_eq_false_iff_ne, ne_eq]
theorem other_no (l : List Itm) (i k : Nat) (hk : k < i) (h : (l.getD k noI).name = (l.getD i noI).name) : otherI l i = false := by
 cases e : otherI l i with
 | false => rfl
 | true => exact absurd h ((other_iff l i).1 e k hk)
def modeL (m : Int) : List UInt8 := if m = 1 then [49, 48, 48, 54, 52, 52] else if m = 2 then [49, 48, 48, 55, 53, 53] else if m = 3 then [49, 50, 48, 48, 48, 48] else [52, 48, 48, 48, 48]
def printIt (i : Itm) : List UInt8 := modeL i.mode ++ 32 :: (i.name ++ 0 :: i.id)
def flatI (l : List Itm) : List UInt8 := (l.map printIt).flatten
theorem flat_nil : flatI [] = [] := rfl
theorem flat_cons (i : Itm) (l : List Itm) : flatI (i :: l) = printIt i ++ flatI l := by simp [flatI]
theorem flat_append (l m : List Itm) : flatI (l ++ m) = flatI l ++ flatI m := by simp [flatI]
theorem modeL_len (m : Int) : 5 ≤ (modeL m).length ∧ (modeL m).length ≤ 6 := by
 unfold modeL
 split
 ·simp
 ·split
  ·simp
  ·split <;> simp
theorem print_length (i : Itm) : (printIt i).length = (modeL i.mode).length + i.name.length + i.id.length + 2 := by
 unfold printIt; simp only [List.length_append, List.length_cons]; omega
theorem print_pos (i : Itm) : 0 < (printIt i).length := by rw [print_length]; omega
def fine (i : Itm) : Prop := (1 ≤ i.mode ∧ i.mode ≤ 4) ∧ (∀ c ∈ i.name, c ≠ 0) ∧ i.id.length = 20
theorem mode_cases {m : Int} (h : 1 ≤ m ∧ m ≤ 4) : m = 1 ∨ m = 2 ∨ m = 3 ∨ m = 4 := by omega
theorem mode_apart {m m' : Int} (h : 1 ≤ m ∧ m ≤ 4) (h' : 1 ≤ m' ∧ m' ≤ 4) {x y : List UInt8} (e : modeL m ++ 32 :: x = modeL m' ++ 32 :: y) : m = m' ∧ x = y := by
 rcases mode_cases h with rfl | rfl | rfl | rfl <;> rcases mode_cases h' with rfl | rfl | rfl | rfl <;> simp [modeL] at e <;> first | exact ⟨rfl, e⟩ | skip
theorem zero_at_first (x y : List UInt8) (h : ∀ c ∈ x, c ≠ 0) : (x ++ 0 :: y).findIdx (· == 0) = x.length := by
 induction x with
 | nil => rfl
 | cons c x ih =>
  rw [List.cons_append, List.findIdx_cons, ih (fun c hc => h c (List.mem_cons_of_mem _ hc))]; have : (c == 0) = false := beq_false_of_ne (h c (List.mem_cons_self ..)); rw [this]; rfl
theorem zero_apart {x x' y y' : List UInt8} (h : ∀ c ∈ x, c ≠ 0) (h' : ∀ c ∈ x', c ≠ 0) (e : x ++ 0 :: y = x' ++ 0 :: y') : x = x' ∧ y = y' := by
 have hl : x.length = x'.length := by rw [← zero_at_first x y h, ← zero_at_first x' y' h', e]
 obtain ⟨h1, h2⟩ := List.append_inj e hl; exact ⟨h1, (List.cons.inj h2).2⟩
theorem print_apart {i j : Itm} (hi : fine i) (hj : fine j) {r s : List UInt8} (e : printIt i ++ r = printIt j ++ s) : i = j ∧ r = s := by
 unfold printIt at e; simp only [List.append_assoc, List.cons_append] at e; obtain ⟨h1, h2⟩ := mode_apart hi.1 hj.1 e; obtain ⟨h3, h4⟩ := zero_apart hi.2.1 hj.2.1 h2; obtain ⟨h5, h6⟩ := List.append_inj h4 (by rw [hi.2.2, hj.2.2]); refine ⟨?_, h6⟩
 cases i; cases j
 simp only at h1 h3 h5; subst h1; subst h3; subst h5; rfl
def takeI (b : List UInt8) : Option (Itm × List UInt8) :=
 match ([1, 2, 3, 4] : List Int).find? (fun m => (modeL m ++ [32]).isPrefixOf b) with
 | none => none
 | some m =>
  if (b.drop ((modeL m).length + 1)).length < (b.drop ((modeL m).length + 1)).findIdx (· == 0) + 21 then none
  else some (⟨m, (b.drop ((modeL m).length + 1)).take ((b.drop ((modeL m).length + 1)).findIdx (· == 0)), ((b.drop ((modeL m).length + 1)).drop ((b.drop ((modeL m).length + 1)).findIdx (· == 0) + 1)).take 20⟩,
   (b.drop ((modeL m).length + 1)).drop ((b.drop ((modeL m).length + 1)).findIdx (· == 0) + 21))
theorem find_mode {m : Int} (h : 1 ≤ m ∧ m ≤ 4) (x : List UInt8) : ([1, 2, 3, 4] : List Int).find? (fun k => (modeL k ++ [32]).isPrefixOf (modeL m ++ 32 :: x)) = some m := by
 rcases mode_cases h with rfl | rfl | rfl | rfl <;> simp [modeL, List.find?, List.isPrefixOf]
theorem find_none {b : List UInt8} (h : ∀ m : Int, 1 ≤ m → m ≤ 4 → (modeL m ++ [32]).isPrefixOf b = false) : ([1, 2, 3, 4] : List Int).find? (fun k => (modeL k ++ [32]).isPrefixOf b) = none := by
 rw [List.find?_eq_none]; intro m hm
 simp at hm
 rw [h m (by omega) (by omega)]
 simp
theorem find_some {b : List UInt8} {m : Int} (h : ([1, 2, 3, 4] : List Int).find? (fun k => (modeL k ++ [32]).isPrefixOf b) = some m) : (1 ≤ m ∧ m ≤ 4) ∧ b = modeL m ++ 32 :: b.drop ((modeL m).length + 1) := by
 have h1 := List.mem_of_find?_eq_some h; have h2 := List.find?_some h; refine ⟨by simp at h1; omega, ?_⟩; obtain ⟨t, ht⟩ := List.isPrefixOf_iff_prefix.1 h2
 have e : b = modeL m ++ 32 :: t := by rw [← ht]; simp
 have : b.drop ((modeL m).length + 1) = t := by
  rw [e, ← List.drop_drop, List.drop_left]; rfl
 rw [this]; exact e
theorem drop_mode (m : Int) (x : List UInt8) : (modeL m ++ 32 :: x).drop ((modeL m).length + 1) = x := by
 rw [← List.drop_drop, List.drop_left]; rfl
theorem take_print (i : Itm) (hi : fine i) (r : List UInt8) : takeI (printIt i ++ r) = some (i, r) := by
 have e : printIt i ++ r = modeL i.mode ++ 32 :: (i.name ++ 0 :: (i.id ++ r)) := by unfold printIt; simp
 unfold takeI; rw [e, find_mode hi.1]; simp only; rw [drop_mode, zero_at_first _ _ hi.2.1]
 have hl : ¬ (i.name ++ 0 :: (i.id ++ r)).length < i.name.length + 21 := by
  rw [List.length_append, List.length_cons, List.length_append, hi.2.2]; omega
 rw [if_neg hl, List.take_left]
 have d1 : (i.name ++ 0 :: (i.id ++ r)).drop (i.name.length + 1) = i.id ++ r := by rw [← List.drop_drop, List.drop_left]; rfl
 have d2 : (i.name ++ 0 :: (i.id ++ r)).drop (i.name.length + 21) = r := by
  rw [show i.name.length + 21 = (i.name.length + 1) + i.id.length by rw [hi.2.2], ← List.drop_drop, d1, List.drop_left]
 rw [d1, d2, show (20 : Nat) = i.id.length by rw [hi.2.2], List.take_left]
theorem findIdx_nz (r : List UInt8) : ∀ c ∈ r.take (r.findIdx (· == 0)), c ≠ 0 := by
 induction r with
 | nil => simp
 | cons c r ih =>
  rw [List.findIdx_cons]
  cases hc : (c == 0) with
  | true => simp
  | false =>
   simp only [cond_false, List.take_succ_cons]; intro d hd
   rcases List.mem_cons.1 hd with rfl | hd
   ·exact ne_of_beq_false hc
   ·exact ih d hd
theorem split_zero (r : List UInt8) (h : r.findIdx (· == 0) < r.length) : r = r.take (r.findIdx (· == 0)) ++ 0 :: r.drop (r.findIdx (· == 0) + 1) := by
 conv => lhs; rw [← List.take_append_drop (r.findIdx (· == 0)) r, List.drop_eq_getElem_cons h]
 have := List.findIdx_getElem (p := (· == (0 : UInt8))) (w := h); rw [eq_of_beq this]
theorem take_back {b r : List UInt8} {i : Itm} (h : takeI b = some (i, r)) : fine i ∧ b = printIt i ++ r := by
 unfold takeI at h
 cases hf : ([1, 2, 3, 4] : List Int).find? (fun m => (modeL m ++ [32]).isPrefixOf b) with
 | none => rw [hf] at h; cases h
 | some m =>
  rw [hf] at h; simp only at h; obtain ⟨hm, hb⟩ := find_some hf; generalize b.drop ((modeL m).length + 1) = x at h hb
  by_cases hl : x.length < x.findIdx (· == 0) + 21
  ·rw [if_pos hl] at h; cases h
  ·rw [if_neg hl] at h
   cases h
   have hz : x.findIdx (· == 0) < x.length := by omega
   refine ⟨⟨hm, findIdx_nz x, by simp; omega⟩, ?_⟩; rw [hb]; unfold printIt; simp only [List.append_assoc, List.cons_append]
   congr 2
   have hx := split_zero x hz
   have hd : x.drop (x.findIdx (· == 0) + 21) = (x.drop (x.findIdx (· == 0) + 1)).drop 20 := by rw [List.drop_drop]
   rw [hd, List.take_append_drop]; exact hx
theorem flat_prefix : ∀ (p : List Itm) (l : List Itm) (r : List UInt8), (∀ i ∈ p, fine i) → (∀ i ∈ l, fine i) → flatI p ++ r = flatI l → r ≠ [] ∨ p.length ≤ l.length → ∃ l2, l = p ++ l2 ∧ r = flatI l2
 | [], l, r, _, _, h, _ => ⟨l, rfl, by simpa [flat_nil] using h⟩
 | i :: p, [], r, _, _, h, _ => by
  have := congrArg List.length h; rw [flat_cons, flat_nil] at this; have hp := print_pos i; simp only [List.length_append, List.length_nil] at this
  omega
 | i :: p, j :: l, r, hp, hl, h, hr => by
  rw [flat_cons, flat_cons, List.append_assoc] at h; obtain ⟨rfl, h2⟩ := print_apart (hp i (by simp)) (hl j (by simp)) h; obtain ⟨l2, rfl, e⟩ := flat_prefix p l r (fun x hx => hp x (by simp [hx])) (fun x hx => hl x (by simp [hx])) h2 (hr.imp id (fun h => by simpa using h)); exact ⟨l2, rfl, e⟩
theorem flat_inj (l m : List Itm) (hl : ∀ i ∈ l, fine i) (hm : ∀ i ∈ m, fine i) (h : flatI l = flatI m) : l = m := by
 by_cases hle : l.length ≤ m.length
 ·obtain ⟨l2, rfl, e⟩ := flat_prefix l m [] hl hm (by simpa using h) (.inr hle)
  cases l2 with
  | nil => simp
  | cons j l2 =>
   have := congrArg List.length e; rw [flat_cons] at this; have hp := print_pos j; simp only [List.length_append, List.length_nil] at this
   omega
 ·obtain ⟨l2, rfl, e⟩ := flat_prefix m l [] hm hl (by simpa using h.symm) (.inr (by omega))
  cases l2 with
  | nil => simp
  | cons j l2 =>
   have := congrArg List.length e; rw [flat_cons] at this; have hp := print_pos j; simp only [List.length_append, List.length_nil] at this
   omega
theorem take_stop {p : List Itm} {r : List UInt8} (hp : ∀ i ∈ p, fine i) (hr : r ≠ []) (ht : takeI r = none) (l : List Itm) (hl : ∀ i ∈ l, fine i) : flatI l ≠ flatI p ++ r := by
 intro e; obtain ⟨l2, rfl, h2⟩ := flat_prefix p l r hp hl e.symm (.inl hr)
 cases l2 with
 | nil => exact hr (by rw [h2]; rfl)
 | cons j l2 =>
  rw [flat_cons] at h2; rw [h2, take_print j (hl j (by simp))] at ht
  cases ht
def ParsedT (b : List UInt8) (l : List Itm) (e : Int) : Prop :=
 (65536 < b.length ∧ l = [] ∧ e = 5) ∨ (b.length ≤ 65536 ∧ e = 0 ∧ flatI l = b ∧ (∀ i ∈ l, fine i) ∧ (l = [] ∨ rightIt l = true)) ∨
  (b.length ≤ 65536 ∧ e = 4 ∧ l = [] ∧ ∀ m : List Itm, (∀ i ∈ m, fine i) → (m = [] ∨ rightIt m = true) → flatI m ≠ b)
theorem parsedT_same {b : List UInt8} {l m : List Itm} {e f : Int} (h : ParsedT b l e) (k : ParsedT b m f) : m = l ∧ f = e := by
 rcases h with ⟨h1, h2, h3⟩ | ⟨h1, h2, h3, h4, h5⟩ | ⟨h1, h2, h3, h4⟩ <;> rcases k with ⟨k1, k2, k3⟩ | ⟨k1, k2, k3, k4, k5⟩ | ⟨k1, k2, k3, k4⟩
 ·exact ⟨by rw [h2, k2], by rw [h3, k3]⟩
 ·omega
 ·omega
 ·omega
 ·exact ⟨flat_inj m l k4 h4 (by rw [k3, h3]), by rw [h2, k2]⟩
 ·exact absurd h3 (k4 l h4 h5)
 ·omega
 ·exact absurd k3 (h4 m k4 k5)
 ·exact ⟨by rw [h3, k3], by rw [h2, k2]⟩
theorem getD_str (l : List UInt8) (i : Nat) (h : i < l.length) (h2 : i < (⟨l.toArray⟩ : ByteArray).size) : (⟨l.toArray⟩ : ByteArray)[i]'h2 = l.getD i 0 := by
 simp [List.getD_eq_getElem?_getD, h, ByteArray.getElem_eq_getElem_data]
theorem ext_list (l : List UInt8) (a b : Nat) : (⟨l.toArray⟩ : ByteArray).extract a b = ⟨((l.drop a).take (b - a)).toArray⟩ := by
 apply ByteArray.ext
 simp [List.drop_take]
theorem ext_take (l : List UInt8) (b : Nat) : (⟨l.toArray⟩ : ByteArray).extract 0 b = ⟨(l.take b).toArray⟩ := by rw [ext_list]; simp
theorem ext_drop (l : List UInt8) (a : Nat) : (⟨l.toArray⟩ : ByteArray).extract a l.length = ⟨(l.drop a).toArray⟩ := by
 rw [ext_list, List.take_of_length_le (by simp)]
theorem empty_list (l : List UInt8) : (⟨l.toArray⟩ : ByteArray).toList.isEmpty = decide (l.length = 0) := by
 rw [Lib.toList_data]
 cases l <;> rfl
theorem list_text (l : List UInt8) : (⟨l.toArray⟩ : ByteArray).toList = l := by rw [Lib.toList_data]
theorem less_is : ∀ (x y : List UInt8), Op.bytesLess x y = decide (x < y)
 | [], [] => by simp [Op.bytesLess]
 | [], d :: y => by simp [Op.bytesLess]
 | c :: x, [] => by simp [Op.bytesLess]
 | c :: x, d :: y => by
  rw [Op.bytesLess, less_is x y]; simp only [List.cons_lt_cons_iff]
  by_cases h1 : c < d <;> by_cases h2 : c = d <;> by_cases h3 : x < y <;> simp [h1, h2, h3]
theorem toList_mk (l : List UInt8) : (⟨l.toArray⟩ : ByteArray).toList = l := by
 rw [← strOfNums_toNat, Lib.strOfNums_toList]; unfold Lib.bytesOf; rw [List.map_map]
 conv => rhs; rw [← List.map_id l]
 apply List.map_congr_left
 intro c _
 simp
theorem less_mk (x y : List UInt8) : Op.bytesLess (⟨x.toArray⟩ : ByteArray).toList (⟨y.toArray⟩ : ByteArray).toList = decide (x < y) := by rw [toList_mk, toList_mk, less_is]
def cellsI (i : Itm) : List Value := .int .i64 i.mode :: .string ⟨i.name.toArray⟩ :: Lib.byteCells i.id
theorem cellsI_len (i : Itm) (h : i.id.length = 20) : (cellsI i).length = 22 := by simp [cellsI, Lib.byteCells, h]
theorem cellsI_one (i : Itm) : (cellsI i).toArray.all (·.oneCell') = true := by
 rw [Array.all_eq_true']; intro x hx; simp only [List.mem_toArray, cellsI, List.mem_cons, Lib.byteCells, List.mem_map] at hx
 rcases hx with rfl | rfl | ⟨c, _, rfl⟩ <;> rfl
def ItemsAt (w : World) (a : Option Addr) (l : List Itm) : Prop :=
 0 < l.length → ∃ b o, a = some ⟨b, o, none⟩ ∧ b < w.heap.size ∧ ∀ k (h : k < l.length) j v, (cellsI l[k])[j]? = some v → w.cell? ⟨b, o + k * 22 + j, none⟩ = some v
theorem ItemsAt.keep {w w' : World} {a : Option Addr} {l : List Itm} (h : ItemsAt w a l) (b : Below w.heap.size w w') : ItemsAt w' a l := fun hp => by
 obtain ⟨g, o, h1, h2, h3⟩ := h hp; exact ⟨g, o, h1, Nat.lt_of_lt_of_le h2 b.size, fun k hk j v hv => (b.cell (p := ⟨g, o + k * 22 + j, none⟩) h2).trans (h3 k hk j v hv)⟩
theorem ItemsAt.nil (w : World) (a : Option Addr) : ItemsAt w a [] := fun h => absurd h (Nat.lt_irrefl 0)
theorem row_cells {w : World} {g : Nat} {i : Itm} {t : TypeId} {fr : Nat × Nat} (h : w.heap[g]? = some (.cells (cellsI i).toArray t fr)) : ∀ j v, (cellsI i)[j]? = some v → w.cell? ⟨g, 0 + j, none⟩ = some v := fun j v hv => by
 rw [Nat.zero_add, Lib.cell_of_heap h, ← hv]
 simp
theorem full_is (i : Itm) (hn : i.name.length ≤ 1000000) (w : World) :
  Calls Tryz.prog 135 #[.agg (cellsI i).toArray] w fun e w' => e = .returned (.string ⟨(fullI i).toArray⟩) ∧ Below w.heap.size w w' := by
 have h0 := heap_alloc_new w (.cells (cellsI i).toArray 77); have q0 : (w.alloc (.cells (cellsI i).toArray 77)).cell? ⟨w.heap.size, 0, none⟩ = some (.int .i64 i.mode) := (Lib.cell_of_heap h0 0).trans rfl; have q1 : (w.alloc (.cells (cellsI i).toArray 77)).cell? ⟨w.heap.size, 1, none⟩ = some (.string ⟨i.name.toArray⟩) := (Lib.cell_of_heap h0 1).trans rfl; have B0 := hyd ((Below.refl w.heap.size w).alloc (Nat.le_refl _) (.cells (cellsI i).toArray 77))
 have ad := fun w => add_lists (P := Tryz.prog) w i.name [47] (by simp; omega)
 unfold fullI; clear h0; obtain ⟨m, hm⟩ : ∃ m, i.mode = m := ⟨_, rfl⟩; rw [hm] at q0 ⊢
 by_cases h4 : m = 4
 ·rw [if_pos h4]
  subst h4; clear hm; generalize (⟨(i.name ++ [47]).toArray⟩ : ByteArray) = s1 at ad ⊢; generalize (⟨i.name.toArray⟩ : ByteArray) = s0 at ad q1
  generalize (cellsI i).toArray = arr at *
  go_enter Tryz.func135, Tryz.ntmps135
  go_wp2; go_ret; exact ⟨rfl, B0.out⟩
 ·rw [if_neg h4]
  have hf : (m == 4) = false := beq_false_of_ne h4; clear hm ad h4
  generalize (⟨i.name.toArray⟩ : ByteArray) = s0 at *
  generalize (cellsI i).toArray = arr at *
  go_enter Tryz.func135, Tryz.ntmps135
  go_wp2; go_ret; exact ⟨rfl, B0.out⟩
theorem CelsAt.id {S : Nat → Prop} {w : World} {g b o : Nat} {E : List Ent} (h : CelsAt S w g (some ⟨b, o, none⟩) E) (k : Nat) (hk : k < E.length) : w.rangeAt b (o + k * 22) (cellsD E[k].c.id) := by
 have hr := h.row.elem k hk; intro j v hv; have hl : j < (cellsD E[k].c.id).length := (List.getElem?_eq_some_iff.1 hv).1; refine hr j v ?_
 show (cellsE E[k])[j]? = some v
 unfold cellsE; rw [List.getElem?_append_left hl]; exact hv
theorem CelsAt.obj {S : Nat → Prop} {w : World} {g b o : Nat} {E : List Ent} (h : CelsAt S w g (some ⟨b, o, none⟩) E) (k : Nat) (hk : k < E.length) : w.rangeAt b (o + k * 22 + 20) [.int .i64 E[k].c.kind, E[k].v] := by
 have hr := h.row.elem k hk; have hl : (cellsD E[k].c.id).length = 20 := cellsD_len _ (h.ok _ (List.getElem_mem hk)).1; intro j v hv
 have := hr (20 + j) v (by
  show (cellsE E[k])[20 + j]? = some v
  unfold cellsE; rw [List.getElem?_append_right (by omega), hl, Nat.add_sub_cancel_left]
  exact hv)
 rw [show o + k * 22 + 20 + j = o + k * 22 + (20 + j) by omega]; exact this
theorem conv_id {w : World} {b o : Nat} {i : List UInt8} (hi : i.length = 20) (h : BAt w (some ⟨b, o, none⟩) i) : (convert 32 9 (.slice (some ⟨b, o, none⟩) 20 20)).run Tryz.prog w = .ok (.string ⟨i.toArray⟩) w := by
 have := h.conv (P := Tryz.prog) 20 32 5 Tryz.underlying32 Tryz.underlying5 9 Tryz.underlying9
 rwa [hi] at this
theorem rAt_is {S : Nat → Prop} {w : World} {g : Nat} {L : List Cel} (h : StoreAt S w g L) (i : List UInt8) (hi : i.length = 20) (hm : L.length ≤ 1000000) :
  Calls Tryz.prog 22 #[.pointer (some ⟨g, 0, none⟩), .agg (arrD i)] w fun e w' => e = .returned (.tuple #[.int .i64 (atS L i), .bool (getS L i).isSome]) ∧ Below w.heap.size w w' := by
 obtain ⟨A1, hA1⟩ : ∃ A, arrD i = A := ⟨_, rfl⟩
 have sA : A1.size = 20 := by rw [← hA1]; exact arrD_size i hi
 have b1 : Below w.heap.size w (w.alloc (.cells A1 24)) := (Below.refl w.heap.size w).alloc (Nat.le_refl _) (.cells A1 24); have h1 := h.below b1; obtain ⟨hg, E, a, c, hE, hblk, hcels, hnone, hle, hmax⟩ := h1
 have hEn : E.length = L.length := by rw [← hE, List.length_map]
 have h0 := heap_alloc_new w (.cells A1 24); obtain ⟨w1, hw1⟩ : ∃ w1, w.alloc (.cells A1 24) = w1 := ⟨_, rfl⟩; rw [hw1] at b1 hblk hcels h0
 have hsz : w1.heap.size = w.heap.size + 1 := by rw [← hw1]; simp
 have HB1 := hyd b1; have KG := hyd (fun u (hu : Below w1.heap.size w1 u) => (hu.block g (lt_of_heap hblk)).trans hblk); have KI := hyd (fun u (hu : Below w1.heap.size w1 u) => (hu.block w.heap.size (by omega)).trans h0)
 have KI2 := hyd (fun u (hu : Below w1.heap.size w1 u) => (by
  have hq := (hu.block w.heap.size (by omega)).trans h0; rw [← hA1] at hq
  exact bat_of_range (lt_of_heap hq) (row_cellsD (by rw [hq]; rfl)) : BAt u (some ⟨w.heap.size, 0, none⟩) i))
 have KE := hyd (fun u (hu : Below w1.heap.size w1 u) => (hcels.keep (Stays.of hu) : CelsAt S u g a E)); rw [hA1]
 go_enter Tryz.func22, Tryz.ntmps22
 go_wp2_with fail
 go_loopw [6] (fun k wr => ∃ q : Nat, q ≤ L.length ∧ k = .int .i64 q ∧ (∀ j (hj : j < L.length), j < q → L[j].id < i) ∧ Below w1.heap.size w1 wr) (fun k _ => L.length - (intOf k).toNat)
 case atStart => exact ⟨0, Nat.zero_le _, rfl, fun j _ h => absurd h (Nat.not_lt_zero _), Below.refl _ _⟩
 case round =>
  obtain ⟨q, hq, rfl, hok, hbr⟩ := hrel; have HOK := hyd hok; have HBR := hyd hbr
  have PG := hyd (fun u (hu : Below wr.heap.size wr u) => (by
   rw [Lib.cell_of_heap (KG.out u (hbr.trans (hu.mono hbr.size)))]
   rfl : u.cell? ⟨g, 0, none⟩ = some (.slice a L.length c)))
  clear hbr hok
  by_cases hlt : q < L.length
  ·obtain ⟨y, hy⟩ : ∃ y, L[q].id = y := ⟨_, rfl⟩
   have hqE : q < E.length := by rw [hEn]; exact hlt
   have hyE : E[q].c.id = y := by rw [← hy]; simp only [← hE, List.getElem_map]
   obtain ⟨b, o, rfl, hbl⟩ := hcels.row.some (by omega)
   have hy20 : y.length = 20 := by rw [← hyE]; exact (hcels.ok _ (List.getElem_mem hqE)).1
   have RY := hyd (fun u (hu : Below wr.heap.size wr u) => (by
    have hq2 := (KE.out u (HBR.out.trans (hu.mono HBR.out.size))).id q hqE; rw [hyE] at hq2
    exact hq2 : u.rangeAt b (o + q * 22) (cellsD y)))
   have CY := hyd (fun u (hu : Below wr.heap.size wr u) => conv_id hy20 (bat_of_range (Nat.lt_of_lt_of_le hbl (Nat.le_trans HBR.out.size hu.size)) (RY.out u hu))); have CI := hyd (fun u (hu : Below wr.heap.size wr u) => conv_id hi (KI2.out u (HBR.out.trans (hu.mono HBR.out.size))))
   have sl1 := fun u => slice20_D u b (o + q * 22)
   have sl2 := fun u => slice20_D u w.heap.size 0
   have lm := less_mk y i; have LX := hyd (show (Tryz.prog.info? 24).map (·.size) = some (cellsD y).length by rw [cellsD_len y hy20]; exact infoD_n)
   have g1 : (q : Int) < (L.length : Int) := by omega
   have g2 : (q : Int) ≤ (c : Int) := by omega
   obtain ⟨n, hn⟩ : ∃ n, L.length = n := ⟨_, rfl⟩
   by_cases hl : y < i
   ·have dl : decide (y < i) = true := decide_eq_true hl
    rw [dl] at lm
    generalize (⟨y.toArray⟩ : ByteArray) = Y at *
    generalize (⟨i.toArray⟩ : ByteArray) = I at *
    rw [hn] at PG g1
    go_wp2_with fail
    refine rgB wr (fun hd => ?_); refine tkW 0 rfl hd ?_; refine tkW 1 rfl hd ?_; refine tkW 2 rfl hd ?_; refine tkW 3 rfl hd ?_; refine tkV 4 rfl (.slice (some ⟨b, o, none⟩) n c) ?py4x hd ?_
    case py4x => intro u hu; have q := PG.out u hu; go_simp
    refine tkW 5 rfl hd ?_; refine tkW 6 rfl hd ?_; refine tkW 7 rfl hd ?_; refine tkW 8 rfl hd ?_; refine tkW 9 rfl hd ?_; refine tkW 10 rfl hd ?_; refine tkV 11 rfl (.slice (some ⟨b, o, none⟩) n c) ?py11x hd ?_
    case py11x => intro u hu; have q := PG.out u hu; go_simp
    refine tkW 12 rfl hd ?_; refine tkW 13 rfl hd ?_; refine tkW 14 rfl hd ?_; refine tkW 15 rfl hd ?_; refine tkV 16 rfl (.string Y) ?py16x hd ?_
    case py16x => intro u hu; have q := CY.out u hu; go_simp
    refine tkW 17 rfl hd ?_; refine tkV 18 rfl (.string I) ?py18x hd ?_
    case py18x => intro u hu; have q := CI.out u hu; go_simp
    refine tkW 19 rfl hd ?_; refine tkW 20 rfl hd ?_
    try simp only [Act.put, lgA, lgS, lgZ, lsA, lsZ, lsS]
    refine wpAnyH_done (by kernel_rfl) ?_ _; have HB5 := hyd (HBR.out.trans (hd.mono HBR.out.size))
    have HOK1 := hyd (fun (j : Nat) (hj : j < L.length) (hjk : j < q + 1) => (show L[j].id < i from if h : j < q then HOK.out j hj h else by
     obtain rfl : j = q := by omega
     rw [hy]; exact hl))
    clear hd; go_wp2
    go_roundw
    case rel => exact ⟨q + 1, by omega, by go_num, HOK1.out, HB5.out⟩
    case measure => simp [intOf]; omega
   ·have dl : decide (y < i) = false := decide_eq_false hl
    have FA : atS L i = q := atS_is hq (fun j hj hjq => HOK.out j hj hjq) (fun h => by rw [hy]; exact hl)
    have FG : (getS L i).isSome = eqD y i := by
     have hqa : atS L i < L.length := by rw [FA]; exact hlt
     have hya : L[atS L i].id = y := by simp only [FA]; exact hy
     by_cases he : y = i
     ·rw [getS_some hqa (by rw [hya]; exact he), (eqD_iff _ _).2 he]; rfl
     ·rw [getS_none (fun h e => he (by rw [← hya]; exact e))]
      cases e2 : eqD y i with
      | false => rfl
      | true => exact absurd ((eqD_iff _ _).1 e2) he
    have ED := fun u => eql_arrD y i hy20 hi u
    have FG' := hyd FG; have FA' := hyd FA; clear FG FA
    generalize eqD y i = r at *
    rw [dl] at lm; have LI := hyd (show (Tryz.prog.info? 24).map (·.size) = some (cellsD i).length by rw [cellsD_len i hi]; exact infoD_n)
    have RI := hyd (fun u (hu : Below wr.heap.size wr u) => (by
     have hq := KI.out u (HBR.out.trans (hu.mono HBR.out.size)); rw [← hA1] at hq
     exact row_cellsD (by rw [hq]; rfl) : u.rangeAt w.heap.size 0 (cellsD i)))
    unfold arrD at ED
    generalize cellsD y = cy at *
    generalize cellsD i = ci at *
    generalize (⟨y.toArray⟩ : ByteArray) = Y at *
    generalize (⟨i.toArray⟩ : ByteArray) = I at *
    rw [hn] at PG g1
    go_wp2_with fail
    refine rgB wr (fun hd => ?_); refine tkW 0 rfl hd ?_; refine tkW 1 rfl hd ?_; refine tkW 2 rfl hd ?_; refine tkW 3 rfl hd ?_; refine tkV 4 rfl (.slice (some ⟨b, o, none⟩) n c) ?sy4x hd ?_
    case sy4x => intro u hu; have q := PG.out u hu; go_simp
    refine tkW 5 rfl hd ?_; refine tkW 6 rfl hd ?_; refine tkW 7 rfl hd ?_; refine tkW 8 rfl hd ?_; refine tkW 9 rfl hd ?_; refine tkW 10 rfl hd ?_; refine tkV 11 rfl (.slice (some ⟨b, o, none⟩) n c) ?sy11x hd ?_
    case sy11x => intro u hu; have q := PG.out u hu; go_simp
    refine tkW 12 rfl hd ?_; refine tkW 13 rfl hd ?_; refine tkW 14 rfl hd ?_; refine tkW 15 rfl hd ?_; refine tkV 16 rfl (.string Y) ?sy16x hd ?_
    case sy16x => intro u hu; have q := CY.out u hu; go_simp
    refine tkW 17 rfl hd ?_; refine tkV 18 rfl (.string I) ?sy18x hd ?_
    case sy18x => intro u hu; have q := CI.out u hu; go_simp
    refine tkW 19 rfl hd ?_; refine tkW 20 rfl hd ?_
    try simp only [Act.put, lgA, lgS, lgZ, lsA, lsZ, lsS]
    refine wpAnyH_done (by kernel_rfl) ?_ _; have HQ := hyd hd; clear hd
    go_wp2_with fail
    refine wp_region_held_drew (S := fun u => Below wr.heap.size wr u) (by kernel_rfl) HQ.out.drew (fun hd => ?_); refine tkW 0 rfl hd ?_; refine tkW 1 rfl hd ?_; refine tkW 2 rfl hd ?_; refine tkW 3 rfl hd ?_; refine tkW 4 rfl hd ?_; refine tkV 5 rfl (.slice (some ⟨b, o, none⟩) n c) ?ey5x hd ?_
    case ey5x => intro u hu; have q := PG.out u hu; go_simp
    refine tkW 6 rfl hd ?_; refine tkW 7 rfl hd ?_; refine tkW 8 rfl hd ?_; refine tkW 9 rfl hd ?_; refine tkW 10 rfl hd ?_; refine tkW 11 rfl hd ?_; refine tkV 12 rfl (.slice (some ⟨b, o, none⟩) n c) ?ey12x hd ?_
    case ey12x => intro u hu; have q := PG.out u hu; go_simp
    refine tkW 13 rfl hd ?_; refine tkW 14 rfl hd ?_; refine tkW 15 rfl hd ?_; refine tkH 16 rfl (yieldsIf_load_mid (by kernel_rfl) 24 (.tmp 45) (by kernel_rfl) b (o + q * 22) (by kernel_rfl) cy _ (fun u hu => RY.out u hu) Tryz.underlying24 rfl LX.out) hd ?_; refine tkH 17 rfl (yieldsIf_load_mid (by kernel_rfl) 24 (.tmp 3) (by kernel_rfl) w.heap.size 0 (by kernel_rfl) ci _ (fun u hu => RI.out u hu) Tryz.underlying24 rfl LI.out) hd ?_; refine tkW 18 rfl hd ?_; refine tkW 19 rfl hd ?_; refine tkW 20 rfl hd ?_; refine tkW 21 rfl hd ?_
    try simp only [Act.put, lgA, lgS, lgZ, lsA, lsZ, lsS]
    refine wpAnyH_done (by kernel_rfl) ?_ _; have HB5 := hyd (HB1.out.trans ((HBR.out.trans (hd.mono HBR.out.size)).mono HB1.out.size)); clear hd; go_wp2
    go_ret2
    exact ⟨by rw [FA'.out, FG'.out]; rfl, HB5.out⟩
  ·have hqe : q = L.length := by omega
   have FA : atS L i = q := atS_is hq (fun j hj hjq => HOK.out j hj hjq) (fun h => absurd h hlt); have FG : getS L i = none := getS_none (fun h => absurd h (by rw [FA]; omega))
   have g1 : ¬ (q : Int) < (L.length : Int) := by omega
   obtain ⟨n, hn⟩ : ∃ n, L.length = n := ⟨_, rfl⟩; rw [hn] at PG g1
   go_wp2_with fail
   refine rgB wr (fun hd => ?_); refine tkW 0 rfl hd ?_; refine tkW 1 rfl hd ?_; refine tkW 2 rfl hd ?_; refine tkW 3 rfl hd ?_; refine tkV 4 rfl (.slice a n c) ?ny4x hd ?_
   case ny4x => intro u hu; have q := PG.out u hu; go_simp
   refine tkW 5 rfl hd ?_; refine tkW 6 rfl hd ?_; refine tkW 7 rfl hd ?_; refine tkU 8 rfl hd ?_; refine tkU 9 rfl hd ?_; refine tkU 10 rfl hd ?_; refine tkU 11 rfl hd ?_; refine tkU 12 rfl hd ?_; refine tkU 13 rfl hd ?_; refine tkU 14 rfl hd ?_; refine tkU 15 rfl hd ?_; refine tkU 16 rfl hd ?_; refine tkU 17 rfl hd ?_; refine tkU 18 rfl hd ?_; refine tkU 19 rfl hd ?_; refine tkW 20 rfl hd ?_
   try simp only [Act.put, lgA, lgS, lgZ, lsA, lsZ, lsS]
   refine wpAnyH_done (by kernel_rfl) ?_ _; have HQ := hyd hd; clear hd
   go_wp2_with fail
   refine wp_region_held_drew (S := fun u => Below wr.heap.size wr u) (by kernel_rfl) HQ.out.drew (fun hd => ?_); refine tkW 0 rfl hd ?_; refine tkW 1 rfl hd ?_; refine tkW 2 rfl hd ?_; refine tkW 3 rfl hd ?_; refine tkW 4 rfl hd ?_; refine tkV 5 rfl (.slice a n c) ?my5x hd ?_
   case my5x => intro u hu; have q := PG.out u hu; go_simp
   refine tkW 6 rfl hd ?_; refine tkW 7 rfl hd ?_; refine tkW 8 rfl hd ?_; refine tkU 9 rfl hd ?_; refine tkU 10 rfl hd ?_; refine tkU 11 rfl hd ?_; refine tkU 12 rfl hd ?_; refine tkU 13 rfl hd ?_; refine tkU 14 rfl hd ?_; refine tkU 15 rfl hd ?_; refine tkU 16 rfl hd ?_; refine tkU 17 rfl hd ?_; refine tkU 18 rfl hd ?_; refine tkW 19 rfl hd ?_; refine tkW 20 rfl hd ?_; refine tkW 21 rfl hd ?_
   try simp only [Act.put, lgA, lgS, lgZ, lsA, lsZ, lsS]
   refine wpAnyH_done (by kernel_rfl) ?_ _; have HB5 := hyd (HB1.out.trans ((HBR.out.trans (hd.mono HBR.out.size)).mono HB1.out.size)); clear hd; go_wp2
   go_ret2
   exact ⟨by rw [FA, FG, hqe.trans hn]; rfl, HB5.out⟩
end Go.Proofs.YtnbcbiglkmdepaaGreatDoor
namespace Go.Proofs.YtnbcbiglkmdepaaGreatDoor
open Go
section
variable {P : Program} {ops : Array Oper} {Q : Exit → Act → World → Prop} {md : Region.Mode} {S : World → Prop} {X : Nat → Bool}
def wpAnyX (P : Program) (md : Region.Mode) (ops : Array Oper) (Q : Exit → Act → World → Prop) (S : World → Prop) (X : Nat → Bool) : Nat → Array Bool → Act → World → Prop
 | 0, listed, a, w => Region.ready md ops listed = [] ∧ Q .normal a w
 | fuel + 1, listed, a, w =>
  (Region.ready md ops listed = [] → Q .normal a w) ∧
  ∀ i ∈ Region.ready md ops listed, wpOp P ops Q i (fun a' w' => (S w' ∨ X i = true) ∧ wpAnyX P md ops Q S X fuel (listed.setIfInBounds i true) a' w') a w
theorem wpAny_ofX : ∀ (fuel : Nat) (listed : Array Bool) (a : Act) (w : World), wpAnyX P md ops Q S X fuel listed a w → wpAny P md ops Q fuel listed a w
 | 0, _, _, _, h => h
 | fuel + 1, _, _, _, h => ⟨h.1, fun i hi => wpOp_mono (fun a' w' h' => wpAny_ofX fuel _ a' w' h'.2) (h.2 i hi)⟩
theorem wpAnyX_first {i : Nat} {oi : Oper} {v : Value} (hi : ops[i]? = some oi) (hsel : ∀ (j : Nat) (o : Oper) cs b, ops[j]? = some o → o.op ≠ .select cs b)
  (hQ : ∀ c a w, Q (.panic c) (a.put oi.dst v) w → Q (.panic c) a w) (hX : ∀ j oj, ops[j]? = some oj → X j = true → ∃ e ∈ oj.after, Region.binds md e = true ∧ e.on = i) :
  ∀ (fuel : Nat) (listed : Array Bool) (a : Act) (w : World),
   (∀ j oj, ops[j]? = some oj → j ≠ i → listed.getD j true = false → (∀ e ∈ oj.after, Region.binds md e = true → e.on ≠ i) → oi.apart ops oj = true) →
   i ∈ Region.ready md ops listed → YieldsIf P ops S oi v a → S w →
   wpAnyX P md ops Q S X fuel (listed.setIfInBounds i true) (a.put oi.dst v) w → wpAnyX P md ops Q S X (fuel + 1) listed a w := by
 intro fuel
 induction fuel with
 | zero =>
  intro listed a w _ hr hy hS H; refine ⟨fun h => (by rw [h] at hr; cases hr), fun j hj => ?_⟩
  by_cases hji : j = i
  ·subst hji; exact hy.wpOp hi hS ⟨.inl hS, H⟩
  ·have := ready_mono hj hji
   rw [H.1] at this
   cases this
 | succ fuel ih =>
  intro listed a w hfree hr hy hS H; refine ⟨fun h => (by rw [h] at hr; cases hr), fun j hj => ?_⟩
  by_cases hji : j = i
  ·subst hji; exact hy.wpOp hi hS ⟨.inl hS, H⟩
  ·have h1 := H.2 j (ready_mono hj hji)
   obtain ⟨hjun, oj, hoj, hall⟩ := mem_ready.1 hj
   have hnot : ∀ e ∈ oj.after, Region.binds md e = true → e.on ≠ i := fun e he hb heq => by
    have h1 := hall e he hb; have h0 := (mem_ready.1 hr).1; rw [heq] at h1
    rcases Nat.lt_or_ge i listed.size with h' | h'
    ·simp [h'] at h0 h1; rw [h0] at h1; cases h1
    ·simp [Array.getElem?_eq_none h'] at h1
   have hXj : X j = true → False := fun hx => by
    obtain ⟨e, he, hb, ho⟩ := hX j oj hoj hx; exact hnot e he hb ho
   have h2 := wpOp_putIf hoj (hfree j oj hoj hji hjun hnot) (fun cs b => hsel i oi cs b hi) (fun cs b => hsel j oj cs b hoj) hQ hy h1
   have hfree' : ∀ k ok, ops[k]? = some ok → k ≠ i → (listed.setIfInBounds j true).getD k true = false →
     (∀ e ∈ ok.after, Region.binds md e = true → e.on ≠ i) → oi.apart ops ok = true := fun k ok hk hki hun hno => by
    refine hfree k ok hk hki ?_ hno
    by_cases hjk : j = k
    ·subst hjk; exact hjun
    ·rw [getD_set_ne true hjk] at hun; exact hun
   refine wpOp_mono (fun a' w' h3 => ?_) h2; have hS' : S w' := h3.2.1.resolve_right hXj; refine ⟨.inl hS', ih (listed.setIfInBounds j true) a' w' hfree' (ready_mono hr (Ne.symm hji)) h3.1 hS' ?_⟩; rw [Array.setIfInBounds_comm _ _ hji]; exact h3.2.2
theorem wpAnyX_firstP {i : Nat} {oi : Oper} {v : Value} (hi : ops[i]? = some oi) (hsel : ∀ (j : Nat) (o : Oper) cs b, ops[j]? = some o → o.op ≠ .select cs b)
  (hQ : ∀ c a w, Q (.panic c) (a.put oi.dst v) w → Q (.panic c) a w) (hXi : X i = true) :
  ∀ (fuel : Nat) (listed : Array Bool) (a : Act) (w : World),
   (∀ j oj, ops[j]? = some oj → j ≠ i → listed.getD j true = false → (∀ e ∈ oj.after, Region.binds md e = true → e.on ≠ i) → oi.apart ops oj = true) →
   i ∈ Region.ready md ops listed → YieldsIf P ops (fun _ => True) oi v a →
   wpAnyX P md ops Q S X fuel (listed.setIfInBounds i true) (a.put oi.dst v) w → wpAnyX P md ops Q S X (fuel + 1) listed a w := by
 intro fuel
 induction fuel with
 | zero =>
  intro listed a w _ hr hy H; refine ⟨fun h => (by rw [h] at hr; cases hr), fun j hj => ?_⟩
  by_cases hji : j = i
  ·subst hji; exact hy.wpOp hi trivial ⟨.inr hXi, H⟩
  ·have := ready_mono hj hji
   rw [H.1] at this
   cases this
 | succ fuel ih =>
  intro listed a w hfree hr hy H; refine ⟨fun h => (by rw [h] at hr; cases hr), fun j hj => ?_⟩
  by_cases hji : j = i
  ·subst hji; exact hy.wpOp hi trivial ⟨.inr hXi, H⟩
  ·have h1 := H.2 j (ready_mono hj hji)
   obtain ⟨hjun, oj, hoj, hall⟩ := mem_ready.1 hj
   have hnot : ∀ e ∈ oj.after, Region.binds md e = true → e.on ≠ i := fun e he hb heq => by
    have h1 := hall e he hb; have h0 := (mem_ready.1 hr).1; rw [heq] at h1
    rcases Nat.lt_or_ge i listed.size with h' | h'
    ·simp [h'] at h0 h1; rw [h0] at h1; cases h1
    ·simp [Array.getElem?_eq_none h'] at h1
   have h2 := wpOp_putIf hoj (hfree j oj hoj hji hjun hnot) (fun cs b => hsel i oi cs b hi) (fun cs b => hsel j oj cs b hoj) hQ hy h1
   have hfree' : ∀ k ok, ops[k]? = some ok → k ≠ i → (listed.setIfInBounds j true).getD k true = false →
     (∀ e ∈ ok.after, Region.binds md e = true → e.on ≠ i) → oi.apart ops ok = true := fun k ok hk hki hun hno => by
    refine hfree k ok hk hki ?_ hno
    by_cases hjk : j = k
    ·subst hjk; exact hjun
    ·rw [getD_set_ne true hjk] at hun; exact hun
   refine wpOp_mono (fun a' w' h3 => ?_) h2; refine ⟨h3.2.1, ih (listed.setIfInBounds j true) a' w' hfree' (ready_mono hr (Ne.symm hji)) h3.1 ?_⟩; rw [Array.setIfInBounds_comm _ _ hji]; exact h3.2.2
def waitsX (md : Region.Mode) (ops : Array Oper) (X : Nat → Bool) (i : Nat) : Bool :=
 (List.range ops.size).all fun j => !X j || (match ops[j]? with | some oj => oj.after.any (fun e => Region.binds md e && e.on == i) | none => true)
theorem waitsX_spec {i : Nat} (h : waitsX md ops X i = true) : ∀ j oj, ops[j]? = some oj → X j = true → ∃ e ∈ oj.after, Region.binds md e = true ∧ e.on = i := by
 intro j oj hoj hx; have hj : j < ops.size := (Array.getElem?_eq_some_iff.1 hoj).1; have := List.all_eq_true.1 h j (List.mem_range.2 hj); rw [hx, hoj] at this; simp only [Bool.not_true, Bool.false_or] at this; obtain ⟨k, hk, hp⟩ := Array.any_eq_true.1 this; simp only [Bool.and_eq_true, beq_iff_eq] at hp; exact ⟨_, Array.getElem_mem hk, hp.1, hp.2⟩
theorem wpAnyX_take {i : Nat} {oi : Oper} {v : Value} {fuel : Nat} {listed : Array Bool} {a : Act} {w : World} (hi : ops[i]? = some oi)
  (hs : Region.noSelect ops = true) (hf : Region.free md ops listed i = true) (hr : (Region.ready md ops listed).contains i = true) (hx : waitsX md ops X i = true)
  (hQ : ∀ c a w, Q (.panic c) (a.put oi.dst v) w → Q (.panic c) a w) (hy : YieldsIf P ops S oi v a) (hS : S w)
  (h : wpAnyX P md ops Q S X fuel (listed.setIfInBounds i true) (a.put oi.dst v) w) : wpAnyX P md ops Q S X (fuel + 1) listed a w :=
 wpAnyX_first hi (Region.noSelect_spec hs) hQ (waitsX_spec hx) fuel listed a w (Region.free_spec hi hf) (by simpa using hr) hy hS h
theorem wpAnyX_takeP {i : Nat} {oi : Oper} {v : Value} {fuel : Nat} {listed : Array Bool} {a : Act} {w : World} (hi : ops[i]? = some oi)
  (hs : Region.noSelect ops = true) (hf : Region.free md ops listed i = true) (hr : (Region.ready md ops listed).contains i = true) (hx : X i = true)
  (hQ : ∀ c a w, Q (.panic c) (a.put oi.dst v) w → Q (.panic c) a w) (hy : YieldsIf P ops (fun _ => True) oi v a)
  (h : wpAnyX P md ops Q S X fuel (listed.setIfInBounds i true) (a.put oi.dst v) w) : wpAnyX P md ops Q S X (fuel + 1) listed a w :=
 wpAnyX_firstP hi (Region.noSelect_spec hs) hQ hx fuel listed a w (Region.free_spec hi hf) (by simpa using hr) hy h
def AllReadyX (P : Program) (md : Region.Mode) (ops : Array Oper) (Q : Exit → Act → World → Prop) (S : World → Prop) (X : Nat → Bool) (fuel : Nat) (listed : Array Bool) (a : Act) (w : World) (rs : List Nat) : Prop :=
 ∀ i ∈ rs, wpOp P ops Q i (fun a' w' => (S w' ∨ X i = true) ∧ wpAnyX P md ops Q S X fuel (listed.setIfInBounds i true) a' w') a w
theorem AllReadyX.nil {fuel : Nat} {listed : Array Bool} {a : Act} {w : World} : AllReadyX P md ops Q S X fuel listed a w [] := fun _ h => by cases h
theorem AllReadyX.cons {fuel : Nat} {listed : Array Bool} {a : Act} {w : World} {i : Nat} {o : Oper} {rs : List Nat} (ho : ops[i]? = some o)
  (h : ∀ K' : Act → World → Prop, Shut (∀ a w, (S w ∨ X i = true) → ((S w ∨ X i = true) → wpAnyX P md ops Q S X fuel (listed.setIfInBounds i true) a w) → K' a w) → if Region.wanted o (yielded ops a.tmps) = true then Oper.wp P o a w K' Q else K' (a.put o.dst undef) w)
  (hs : AllReadyX P md ops Q S X fuel listed a w rs) : AllReadyX P md ops Q S X fuel listed a w (i :: rs) := fun j hj => by
 rcases List.mem_cons.1 hj with rfl | hj
 ·exact wpOp_step ho (fun K' hK => h K' (fun a w hS hW => hK a w ⟨hS, hW hS⟩))
 ·exact hs j hj
theorem wpAnyX_ready {rs : List Nat} {fuel : Nat} {listed : Array Bool} {a : Act} {w : World} (hr : Region.ready md ops listed = rs) (hne : rs ≠ [])
  (h : AllReadyX P md ops Q S X fuel listed a w rs) : wpAnyX P md ops Q S X (fuel + 1) listed a w := ⟨fun h0 => absurd (hr ▸ h0) hne, hr ▸ h⟩
theorem wpAnyX_done {listed : Array Bool} {a : Act} {w : World} (hr : Region.ready md ops listed = []) (h : Q .normal a w) : ∀ fuel, wpAnyX P md ops Q S X fuel listed a w
 | 0 => ⟨hr, h⟩
 | _ + 1 => ⟨fun _ => h, by rw [hr]; simp⟩
theorem wp_regionX {id : Nat} {a : Act} {w : World} (X : Nat → Bool) (hm : P.follows .mixedOrders = true) (hS : S w.drew)
  (h : S w.drew → wpAnyX P .any ops Q S X ops.size (Array.replicate ops.size false) a w.drew) : (Code.region id ops true).wp P Q a w :=
 wp_region_any hm (wpAny_ofX _ _ _ _ (h hS))
end
end Go.Proofs.YtnbcbiglkmdepaaGreatDoor
