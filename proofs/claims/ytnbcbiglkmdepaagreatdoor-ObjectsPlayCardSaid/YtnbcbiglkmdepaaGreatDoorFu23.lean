/-
  Texts that belong together, one behind the other.
-/
import Derived.Test.YtnbcbiglkmdepaaGreatDoorFu22
import Derived.RangeFuncNested
import Derived.RangeFuncBound
import Derived.RangeFuncOne
import Derived.Shelf.AbstractIn
import Derived.LoopNIn
import Derived.LoopIn
import Derived.Shelf.SlSortCmp.NoneTotal
set_option maxHeartbeats 64000000
set_option linter.unusedVariables false
set_option linter.unusedSimpArgs false
open Go.Lib renaming hid → hyd
namespace Go.Proofs.YtnbcbiglkmdepaaGreatDoor
open Go.RowKit Go.Maps
attribute [local go_sem] Oper.semAt_some
theorem wpListIn_build_idD {F : Fence} {n : Nat} {ops : Array Oper} {rest : List Oper} {o : Oper} {a : Act} {w : World} {Q : Exit → Act → World → Prop} (hgd : o.guard = none) (x : Operand) (ho : o.op = .buildSlice 43 1 #[(0, x)])
  (A : Array Value) (hA : A.size = 20) (hx : a.eval x = .agg A)
  (h : wpListIn F n Tryz.prog ops Q rest (a.put o.dst (.slice (some ⟨w.heap.size, 0, none⟩) 1 1)) (w.alloc (.cells A 24))) : wpListIn F n Tryz.prog ops Q (o :: rest) a w := by
 obtain ⟨ie, hie, hz, hs, _⟩ := infoD_all
 refine wpListIn_plain hgd fun K hK => ?_
 have e : (Array.map (fun (p : Nat × Operand) => (p.1, a.eval p.2)) #[(0, x)]) = #[(0, .agg A)] := by simp [hx]
 have hf : Instr.fill (fun i => some (i * ie.size, ie.size)) ((Array.range (1 * ie.size)).map ((Value.agg (arrD idZ)).cells[· % (Value.agg (arrD idZ)).cells.size]!)) (#[(0, Value.agg A)] : Array (Nat × Value)).toList = some A := by
  rw [hs]; exact fillD_one A _ hA (by simp)
 unfold Oper.wpIn; refine ⟨by simp [Oper.about, ho], ?_⟩; rw [Oper.semAt_plain F _ _ (by rw [ho]; intro c hc; cases hc)]; unfold execOp; simp only [ho, Sem.run_bind]; rw [show (fun (p : Nat × Operand) => match p with | (i, x) => (i, a.eval x)) = (fun (p : Nat × Operand) => (p.1, a.eval p.2)) from rfl, e, run_buildSlice w 43 24 1 _ A ie (.agg (arrD idZ)) Tryz.underlying43 hie hz (by rw [hs]; decide) (by rw [hs]; decide) hf]; simp only [Result.andThen_ok]; exact hK _ _ h
def flatX (l : List B20) : List Value := l.flatMap (fun x => cellsD x.1)
theorem flatX_len (l : List B20) : (flatX l).length = l.length * 20 := by
 have := flatD_len (l.map Subtype.val) (fun i hi => by obtain ⟨x, _, rfl⟩ := List.mem_map.1 hi; exact x.2); rw [List.flatMap_map, List.length_map] at this; exact this
def frX (n0 Bx : Nat) (fv xv : Value) : Act := { tmps := #[.slice none 0 0, fv, .pointer (some ⟨n0, 0, none⟩), undef, .slice none 0 0, .pointer (some ⟨Bx, 0, none⟩), fv, xv, undef, undef, undef, undef, undef], defers := [] }
def IX (w : World) (pre : List B20) (W : World) : Prop :=
 (∃ v, Boxed W w.heap.size 43 v ∧ W.ownsRow w.heap.size 24 20 v pre.length (flatX pre) ∧ (v = .slice none 0 0 ↔ pre = [])) ∧ Below w.heap.size w W
theorem IX_own (w : World) (B : Nat) (hB : w.heap.size ≤ B) : OwnFrom B (IX w) := fun s W W' row h hg hr =>
  ⟨(holdsRow_own w.heap.size w.heap.size 43 24 20 (fun pre : List B20 => pre.length) (fun pre => flatX pre) (fun pre v => v = .slice none 0 0 ↔ pre = [])).from B s W W' row h.1 hg hr,
   ownFrom_below (β := List B20) (Nat.le_refl _) hB s W W' row h.2 hg hr⟩
def AX (n0 : Nat) (fv : Value) (x : B20) (a' : Act) (W : World) : Prop := ∃ Bx, n0 < Bx ∧ W.heap[Bx]? = some (.cells (arrD x.1) 24 (0, 0)) ∧ a' = frX n0 Bx fv (encX x)
theorem AX_own (n0 B : Nat) (fv : Value) (x : B20) (a' : Act) : OwnFrom B (fun (_ : Unit) W => AX n0 fv x a' W) := by
 intro s W W' row ⟨Bx, h1, h2, h3⟩ hg hr; refine ⟨Bx, h1, (hg.block Bx (Array.getElem?_eq_some_iff.1 h2).1 (fun e => ?_)).trans h2, h3⟩; obtain ⟨_, o, ho, hc⟩ := hr Bx e.symm; rw [h2] at ho
 cases ho
 cases hc
set_option maxRecDepth 100000 in
theorem appendSeqX_in (F : Fence) (n : Nat) (h11 : F.fn 92) (hro : F.round = none) (hn : 2 ≤ n) (g : Nat) (lb : Array Value) (hFg : F.fn g) (eg : ∀ args w, (callFunc g args).run Tryz.prog w = .ok (.enter g args) w)
  (S Sp : List B20 → Prop) (N : Nat) (hN : N ≤ 1000000) (w : World) (hseq : SeqStops F (n - 1) Tryz.prog g lb encX S Sp N w) (hS : ∀ l, S l → l.length ≤ N) :
  CallsIn F n Tryz.prog 92 #[.slice none 0 0, .func (.func g) #[] lb] w fun e w' => ∃ (v : Value) (ss : List B20), e = .returned v ∧ S ss ∧ w'.ownsRow w.heap.size 24 20 v ss.length (flatX ss) ∧ (v = .slice none 0 0 ↔ ss = []) ∧ Below w.heap.size w w' := by
 have h1 : 1 ≤ n := by omega
 obtain ⟨z, hz0, hzs, hzv, hzb, hz1⟩ := zId_any; obtain ⟨ie, hie, hiz, his, hib⟩ := infoD_all; have IZ := hyd (show ∀ x : B20, (Tryz.prog.info? 24).map (·.size) = some (arrD x.1).size from fun x => by rw [arrD_size x.1 x.2]; exact infoD_n); have ZS := hyd hzs; clear hz0 hzb hz1 hzs; refine callsIn_of_wp_marks Tryz.func92 rfl h11 ?_ hro; simp only [Tryz.ntmps92, List.size_toArray, List.length_cons, List.length_nil, Nat.reduceAdd, Nat.reduceSub, Array.replicate_succ, Array.replicate_zero, List.push_toArray, List.append_toArray, List.nil_append, List.cons_append]
 gi_wp2
 have bO := Boxed.new w 43 (.slice none 0 0); have hB0 : Below w.heap.size w (w.alloc (.cells #[.slice none 0 0] 43)) := (Below.refl _ w).alloc (Nat.le_refl _) _
 refine wpIn_rangeFunc_ownH hro h1 (gf := g) (lb := lb) rfl hFg eg
  (encs := fun x => #[encX x]) (Kp := KeepsWalks) (S := S) (Sp := Sp) (N := N) (w0 := w.alloc (.cells #[.slice none 0 0] 43)) (seqStopsA_iff.1 (seqStops_iff.1 (hseq.later hB0))) walksK_t walksK_b (Below.refl _ _) (fun _ => rfl)
  (IX w) (fun _ _ _ => False) (IX_own w _ hB0.size) (fun _ _ _ _ _ hs _ _ => hs) ⟨⟨_, bO, World.ownsRow_nil _ _ _ _, by simp⟩, hB0⟩
  (AX w.heap.size (.func (.func g) #[] lb)) (fun x a' => AX_own _ _ _ x a') ?assign ?body ?done ?stop
 case assign =>
  intro l pre x W K hI hK; obtain ⟨⟨v, hv, hrow, hnil⟩, hB⟩ := hI; have hI : IX w pre W := ⟨⟨v, hv, hrow, hnil⟩, hB⟩; have hlt := hv.lt; clear hrow hnil hv; obtain ⟨A, hA⟩ : ∃ A, arrD x.1 = A := ⟨_, rfl⟩
  have hAx : encX x = .agg A := by unfold encX; rw [hA]
  have IA := hyd (hA ▸ IZ.out x : (Tryz.prog.info? 24).map (·.size) = some A.size); have SA := hyd (show A.size = z.size from by rw [← hA, arrD_size x.1 x.2, ZS.out]); have OA := hyd (show A.all (·.oneCell') = true from by rw [← hA]; exact arrD_one _); have hw3 := heap_alloc_new W (.cells z 24); rw [hAx]
  gi_wp2_with (first
   | (with_reducible refine wpListIn_store_all rfl 24 (.tmp 5) (.tmp 7) rfl W.heap.size A rfl rfl 24 z hw3 IA.out SA.out OA.out ?_; intro w4 r4 g4 s4)
   | fail)
  have hg4 : W.grownBy w4 none := (World.grownBy_alloc W _ none).andThen g4 (fun j e => .inl (Nat.le_of_eq (Option.some.inj e))); refine hK _ w4 (KeepsFrom.of_grownBy hg4 (fun j e => by cases e)) (KeepsWalks.of_grownBy hg4 (fun j o e => by cases e)) (IX_own w _ (Nat.le_refl _) pre W w4 none hI hg4 (fun r e => by cases e)) ⟨W.heap.size, hlt, by rw [hA]; exact r4, by rw [hAx]; rfl⟩
 case body =>
  rintro l pre x a' W hl ⟨r, hr⟩ ⟨⟨v, hv, hrow, hnil⟩, hB⟩ ⟨Bx, hBx, bX, rfl⟩ hlt; have hc := hv.cell; obtain ⟨A, hA⟩ : ∃ A, arrD x.1 = A := ⟨_, rfl⟩; have IA := hyd (hA ▸ IZ.out x : (Tryz.prog.info? 24).map (·.size) = some A.size); have SA := hyd (show A.size = 20 from by rw [← hA, arrD_size x.1 x.2]); rw [hA] at bX
  have hrng := hyd (fun (u : World) (hu : u.heap[W.heap.size]? = some (.cells A 24 (0, 0))) (j : Nat) (q : Value) (hq : (cellsD x.1)[j]? = some q) => (by
   have := row_cellsD (i := x.1) (by rw [← hA] at hu; exact hu) j q hq; rw [show (⟨W.heap.size, 0, none⟩ : Addr).add j = ⟨W.heap.size, 0 + j, none⟩ by unfold Addr.add; split <;> simp_all]
   exact this : u.cell? ((⟨W.heap.size, 0, none⟩ : Addr).add j) = some q))
  have hnew := heap_alloc_new W (.cells A 24); unfold frX
  gi_wp2_with (first
   | (with_reducible refine wpListIn_load_all rfl 24 (.tmp 5) rfl Bx A 24 (0, 0) rfl bX _ Tryz.underlying24 rfl IA.out ?_)
   | (with_reducible refine wpListIn_build_idD rfl (.tmp 9) rfl A SA.out rfl ?_)
   | (gi_at_builtin; refine wpListIn_append_own _ rfl _ _ 43 rfl w.heap.size 24 ie (.agg (arrD idZ)) 20 20 Tryz.underlying43 hie hiz his hib (arrD_size _ (by simp [idZ])) (by decide) _ _ _ rfl (hrow.alloc _) ⟨W.heap.size, 0, none⟩ 1 1 (cellsD x.1) rfl (by rw [cellsD_len _ x.2]) (hrng.out _ hnew) (fun u hu => (Array.all_eq_true_iff_forall_mem.1 (cellsD_one x.1)) u (by simpa using hu)) (by unfold maxLen; omega) (by omega) (by have := hB.size; simp; omega) ?_; intro v' w1 hown' hgrow _; obtain ⟨g', cap', rfl⟩ := ownsRow_succ hown'; obtain ⟨hv1, hv2, hr2, hk2, hb2⟩ := hv.appended (by decide) hrow hB.size (Nat.le_refl _) hown' hgrow; have hc1 := hv1.cell; have hf1 := hv1.frozen)
   | fail)
  have hkw : KeepsWalks W _ := ⟨hk2.size, fun k o hk hw => hk2.same k o hk (by cases o <;> first | rfl | cases hw)⟩; exact ⟨hk2.from _, hkw, ⟨⟨_, hv2, by rw [flatX, List.flatMap_append]; simpa [flatX] using hr2, by simp⟩, hB.trans hb2⟩⟩
 case done =>
  rintro D ys W hD hSy ⟨⟨v, hv, hrow, hnil⟩, hB⟩ hK; have hc := hv.cell
  gi_wp2
  refine ⟨by simp, .inl ⟨_, _, rfl, run_takeDeferred hK, ?_⟩⟩; exact ⟨_, results_tmp rfl _ _ _, v, ys, rfl, hSy, ownsRow_putObj hrow _ hK rfl, hnil, hB.trans (belowK_b (w := w) (Nat.le_refl _) W D _ _ (by simp at hD; omega) hK rfl rfl)⟩
 case stop =>
  rintro D c pre W _ _ h _; exact h.elim
end Go.Proofs.YtnbcbiglkmdepaaGreatDoor
namespace Go.Proofs.YtnbcbiglkmdepaaGreatDoor
open Go.RowKit Go.Maps Go.Sort
attribute [local go_sem] Oper.semAt_some
theorem collectX_in (F : Fence) (n : Nat) (h8 : F.fn 66) (h11 : F.fn 92) (hro : F.round = none) (hn : 3 ≤ n) (g : Nat) (lb : Array Value) (hFg : F.fn g) (eg : ∀ args w, (callFunc g args).run Tryz.prog w = .ok (.enter g args) w)
  (S Sp : List B20 → Prop) (N : Nat) (hN : N ≤ 1000000) (w : World) (hseq : SeqStops F (n - 1 - 1) Tryz.prog g lb encX S Sp N w) (hS : ∀ l, S l → l.length ≤ N) :
  CallsIn F n Tryz.prog 66 #[.func (.func g) #[] lb] w fun e w' => ∃ (v : Value) (ss : List B20), e = .returned v ∧ S ss ∧ w'.ownsRow w.heap.size 24 20 v ss.length (flatX ss) ∧ (v = .slice none 0 0 ↔ ss = []) ∧ Below w.heap.size w w' := by
 have h1 : 1 ≤ n := by omega
 refine callsIn_of_wp Tryz.func66 rfl h8 ?_ hro; simp only [Tryz.ntmps66, List.size_toArray, List.length_cons, List.length_nil, Nat.reduceAdd, Nat.reduceSub, Array.replicate_succ, Array.replicate_zero, List.push_toArray, List.append_toArray, List.nil_append, List.cons_append]
 gi_wp2_with (gi_at_call 92; refine (appendSeqX_in F (n - 1) h11 hro (by omega) g lb hFg eg S Sp N hN _ hseq hS).mono ?_; rintro e w' ⟨v, ss, rfl, hSs, hrow, hnil, hb⟩)
 go_ret; exact ⟨v, ss, rfl, hSs, hrow, hnil, hb⟩
theorem flatK_is (ss : List B20) : flatK (fun x : B20 => cellsD x.1) 20 ss.toArray = (flatX ss).toArray := by
 refine ext_get! (by simp [flatX_len]) fun t ht => ?_
 have ht2 : t < ss.length * 20 := by simpa using ht
 rw [get_flatK _ _ _ t (by simpa using ht2)]
 have hq : t / 20 < ss.length := by omega
 have hr : t % 20 < 20 := Nat.mod_lt _ (by decide)
 have e1 : (ss.toArray)[t / 20]! = ss[t / 20] := by simp [hq]
 rw [e1]; have hl : (cellsD ss[t / 20].1).length = 20 := cellsD_len _ ss[t / 20].2; have hu : (cellsD ss[t / 20].1)[t % 20]? = some ((cellsD ss[t / 20].1)[t % 20]'(by omega)) := List.getElem?_eq_getElem (by omega); have h := flatD_at (ss.map Subtype.val) (fun i hi => by obtain ⟨x, _, rfl⟩ := List.mem_map.1 hi; exact x.2) (t / 20) (by simpa using hq) (t % 20) _ (by rw [List.getElem_map]; exact hu); rw [List.flatMap_map] at h
 have e2 : t / 20 * 20 + t % 20 = t := by omega
 rw [e2] at h; have h2 : (flatX ss)[t]? = some ((cellsD ss[t / 20].1)[t % 20]'(by omega)) := h
 have e3 : (flatX ss).toArray[t]! = (cellsD ss[t / 20].1)[t % 20]'(by omega) := by
  rw [Array.getElem!_eq_getD, Array.getD_eq_getD_getElem?, List.getElem?_toArray, h2]
  rfl
 rw [e3, List.getElem!_eq_getElem?_getD, hu]
 rfl
theorem holdsX {w : World} {g : Nat} {cur : Array Value} {e : TypeId} (ss : List B20) (hb : w.heap[g]? = some (.cells cur e (0, 0))) (ht : cur.toList.take (ss.length * 20) = flatX ss) : HoldsK (fun x : B20 => cellsD x.1) 20 w g 0 ss.toArray := by
 unfold HoldsK; rw [flatK_is]; intro j hj
 have hj2 : j < (flatX ss).length := by simpa using hj
 have hj3 : j < ss.length * 20 := by rw [flatX_len] at hj2; exact hj2
 refine ⟨?_, by simp [World.frozen?, hb]⟩; rw [Lib.cell_of_heap hb, Nat.zero_add, ← Array.getElem?_toList]
 have h1 : (cur.toList.take (ss.length * 20))[j]? = (flatX ss)[j]? := by rw [ht]
 rw [List.getElem?_take_of_lt hj3] at h1; rw [h1, List.getElem?_eq_getElem hj2]
 simp [hj2]
theorem heap_sortX {w : World} {g n : Nat} {os : Array Obj} {cur : Array Value} {e : TypeId} {fr : Nat × Nat} (d : Array Value) (hb : w.heap[g]? = some (.cells cur e fr)) :
  (grow (putRow id (Sort.ahead w n) g 0 d) os).heap[g]? = some (.cells (putCells id 0 d cur) e fr) := by
 have hg : g < w.heap.size := (Array.getElem?_eq_some_iff.1 hb).1; rw [heap_grow_old _ _ (by simpa using hg)]
 simp [putRow, mapBlock, Sort.ahead, Array.getElem?_modify, hb, onCells]
theorem grownBy_sortX {w : World} {g n : Nat} {os : Array Obj} (d : Array Value) : w.grownBy (grow (putRow id (Sort.ahead w n) g 0 d) os) (some g) := by
 refine ⟨rfl, rfl, rfl, by simp, fun k hk hne => ?_⟩; rw [heap_grow_old _ _ (by simpa using hk)]
 have : g ≠ k := fun e => hne (by rw [e])
 simp [putRow, mapBlock, Sort.ahead, Array.getElem?_modify, this]
theorem take_putX (cur : Array Value) (ts : List Value) (h : ts.length ≤ cur.size) : (putCells id 0 ts.toArray cur).toList.take ts.length = ts := by
 apply List.ext_getElem?
 intro j
 by_cases hj : j < ts.length
 ·rw [List.getElem?_take_of_lt hj, Array.getElem?_toList]
  simp [putCells, hj, show j < cur.size by omega]
 ·rw [List.getElem?_take_eq_none (by omega), List.getElem?_eq_none (by omega)]
theorem isAggX (w : World) : (isAgg 24).run Tryz.prog w = .ok true w := Tryz.isAgg24 w
theorem sizeX (w : World) : (Go.sizeOf 24).run Tryz.prog w = .ok 20 w := Tryz.sizeOf24 w
theorem apartX (x y : B20) (h1 : ltOf cfX x y = false) (h2 : ltOf cfX y x = false) : x = y := by
 rw [ltX] at h1 h2; simp only [decide_eq_false_iff_not] at h1 h2; exact Subtype.ext (List.le_antisymm (show x.1 ≤ y.1 from h2) (show y.1 ≤ x.1 from h1))
theorem sortX_is {ss T : List B20} (hp : ss.Perm T) (hT : T.Pairwise (fun a b => a.1 < b.1)) : ss.mergeSort (fun x y => !(ltOf cfX) y x) = T := by
 have tr : ∀ a b c : B20, (!(ltOf cfX) b a) = true → (!(ltOf cfX) c b) = true → (!(ltOf cfX) c a) = true := fun a b c h1 h2 => by
  simp only [Bool.not_eq_true'] at *
  exact swoX.ntrans c b a h2 h1
 have to9 : ∀ a b : B20, ((!(ltOf cfX) b a) || (!(ltOf cfX) a b)) = true := fun a b => by
  rw [ltX, ltX]
  by_cases h : b.1 < a.1
  ·have : ¬ a.1 < b.1 := fun h2 => List.lt_irrefl _ (List.lt_trans h h2)
   simp [this]
  ·simp [h]
 refine List.Perm.eq_of_pairwise (le := fun a b => (!(ltOf cfX) b a) = true) (fun a b _ _ h1 h2 => ?_) (List.pairwise_mergeSort tr to9 ss) (hT.imp (fun {a b} h => ?_)) ((List.mergeSort_perm ss _).trans hp)
 ·simp only [Bool.not_eq_true'] at h1 h2
  exact apartX a b h2 h1
 ·rw [ltX]
  have : ¬ b.1 < a.1 := fun h2 => List.lt_irrefl _ (List.lt_trans h h2)
  simp [this]
end Go.Proofs.YtnbcbiglkmdepaaGreatDoor
namespace Go.Proofs.YtnbcbiglkmdepaaGreatDoor
open Go.RowKit Go.Maps
attribute [local go_sem] Oper.semAt_some
set_option maxRecDepth 100000 in
theorem keys1X_in (F : Fence) (n : Nat) (h10 : F.fn 68) (hro : F.round = none) (hn : 1 ≤ n) (l Bm b nn : Nat) (D0 : DataW Unit) (M : List B20) (hM : M.Nodup) (hD : ∀ x, Maps.has D0 (codeX x) = true ↔ x ∈ M) (J Jx : List B20 → World → Prop)
    (hY : ∀ pre x W, J pre W → pre.length < Maps.size D0 → YieldAt F (n - 1) Tryz.prog l #[encX x] W fun e W' =>
      (e = .returned (.bool true) ∧ J (pre ++ [x]) W' ∧ KeepsWalks W W') ∨ (e = .returned (.bool false) ∧ Jx (pre ++ [x]) W'))
    (W : World) (hJ : AbidesFrom W.heap.size J) (hm : W.cell? ⟨Bm, 0, none⟩ = some (.map (some b))) (hown : W.ownsMap Tryz.prog 24 anyElem b nn D0) (h0 : J [] W) :
    CallsIn F n Tryz.prog 68 #[.func (.yield l) #[] #[], .pointer (some ⟨Bm, 0, none⟩)] W fun e W' => (∃ v, e = .returned v) ∧
      ((∃ ss : List B20, ss.Perm M ∧ J ss W') ∨ (∃ pre : List B20, True ∧ Jx pre W')) := by
  obtain ⟨z, hz0, hzs, hzv, hzb, hz1⟩ := zId_any; have IZ := hyd (show ∀ x : B20, (Tryz.prog.info? 24).map (·.size) = some (arrD x.1).size from fun x => by rw [arrD_size x.1 x.2]; exact infoD_n); have ZS := hyd hzs; have hDD := hyd hD; clear hD hzs hz0 hzb hz1; refine callsIn_of_wp Tryz.func68 rfl h10 ?_ hro; simp only [Tryz.ntmps68, List.size_toArray, List.length_cons, List.length_nil, Nat.reduceAdd, Nat.reduceSub, Array.replicate_succ, Array.replicate_zero, List.push_toArray, List.append_toArray, List.nil_append, List.cons_append]
  gi_wp2_with (first
    | (gi_at_range; refine wpListIn_range_own _ rfl _ 46 rfl 24 63 idKeyed Tryz.underlying46 anyElem b nn _ rfl hown ?_; intro w0 hrg0 hg0 hs0)
    | gi_in)
  go_frame
  gi_loopw [3] (fun _ wr => ∃ (left : Lit → Bool) (cnt : Nat) (ss : List B20), wr.ranges Tryz.prog 24 anyElem b W.heap.size nn D0 left cnt ∧ ss.length + cnt ≤ Maps.size D0 ∧ CameX D0 left ss ∧ J ss wr)
    (fun _ wr => wr.rangeLeft b W.heap.size)
  case atStart =>
    exact ⟨_, _, [], hrg0, by simp, CameX.start D0, hJ [] W w0 none h0 hg0 (fun r e => by cases e)⟩
  case round =>
    obtain ⟨left, cnt, ss, hrg, hcs, hC, hJs⟩ := hrel
    gi_wp2_with (first
      | (gi_at_next; refine wpListIn_next_ranges _ rfl _ rfl 24 idKeyed anyElem encX id (fun key kl hk => key_inv hk) (fun v _ _ => ⟨v, rfl⟩) b W.heap.size nn _ _ _ rfl hrg ?_ ?_)
      | gi_in)
    · intro hc0 hl0
      gi_wp2
      go_end0
      exact ⟨⟨_, rfl⟩, .inl ⟨ss, hC.all hl0 hM hDD.out, hJs⟩⟩
    · intro xi xl c kl yd yp w2 cnt2 hkey hlk hv hat hrg2 hlt hg2 hs2 hen
      obtain ⟨x, hx⟩ : ∃ x : B20, (⟨xi, xl⟩ : B20) = x := ⟨_, rfl⟩; rw [hx] at hkey hen ⊢; clear hx xl xi hv yp
      obtain rfl : codeX x = kl := by
        have := code_is x; rw [hkey] at this; exact (Option.some.inj this).symm
      have hJ2 : J ss w2 := hJ ss wr w2 (some W.heap.size) hJs hg2 (fun r e => by cases e; exact ⟨Nat.le_refl _, hrg.iter_walk⟩); have hC2 := hC.step hlk hat; have hw3 := heap_alloc_new w2 (.cells z 24); obtain ⟨A, hA⟩ : ∃ A, arrD x.1 = A := ⟨_, rfl⟩
      have hAx : encX x = .agg A := by unfold encX; rw [hA]
      have IA := hyd (hA ▸ IZ.out x : (Tryz.prog.info? 24).map (·.size) = some A.size); have SA := hyd (show A.size = z.size from by rw [← hA, arrD_size x.1 x.2, ZS.out]); have OA := hyd (show A.all (·.oneCell') = true from by rw [← hA]; exact arrD_one _); clear hs2; rw [hAx] at hen ⊢
      gi_wp2_with (first
        | (with_reducible refine wpListIn_store_all rfl 24 (.tmp 3) (.tmp 9) rfl w2.heap.size A rfl rfl 24 z hw3 IA.out SA.out OA.out ?_; intro w4 r4 g4 s4
           have hg4 : w2.grownBy w4 none := (World.grownBy_alloc w2 _ none).andThen g4 (fun j e => .inl (Nat.le_of_eq (Option.some.inj e))); have hrg4 := (hrg2.alloc (.cells z 24)).kept g4 (fun e => by have h8 := hrg2.owns.lt; have h9 := Option.some.inj e; omega) (fun e => by have h8 := hrg2.lt; have h9 := Option.some.inj e; omega); have hJ4 : J ss w4 := hJ ss w2 w4 none hJ2 hg4 (fun r e => by cases e); obtain ⟨fn, tmps, assign, body, hy, hR⟩ := hY ss x w4 hJ4 (by omega); rw [hAx] at hy
           clear hg4 hJ4 s4 g4)
        | (with_reducible refine wpListIn_load_all rfl 24 (.tmp 3) rfl w2.heap.size A 24 (0, 0) rfl r4 _ Tryz.underlying24 rfl IA.out ?_)
        | fail)
      refine hR.mono ?_; rintro e W3 (⟨rfl, hJ3, hk3⟩ | ⟨rfl, hJx3⟩)
      · gi_wp2
        have hrg3 := hrg4.of_walks hk3
        go_roundw
        case rel => exact ⟨_, cnt2, ss ++ [x], hrg3, by simp; omega, hC2, hJ3⟩
        case measure => rw [hrg3.left_eq, hrg.left_eq]; exact hlt
      · gi_wp2
        refine bodyPost_ret (results_none rfl _ _ _) rfl ?_; exact ⟨⟨_, rfl⟩, .inr ⟨ss ++ [x], trivial, hJx3⟩⟩
set_option maxRecDepth 100000 in
theorem keys1X_nil (F : Fence) (n : Nat) (h10 : F.fn 68) (hro : F.round = none) (l Bm : Nat) (J : List B20 → World → Prop) (W : World) (hJ : AbidesFrom W.heap.size J)
  (hm : W.cell? ⟨Bm, 0, none⟩ = some (.map none)) (h0 : J [] W) :
  CallsIn F n Tryz.prog 68 #[.func (.yield l) #[] #[], .pointer (some ⟨Bm, 0, none⟩)] W fun e W' => (∃ v, e = .returned v) ∧ J [] W' := by
 refine callsIn_of_wp Tryz.func68 rfl h10 ?_ hro; simp only [Tryz.ntmps68, List.size_toArray, List.length_cons, List.length_nil, Nat.reduceAdd, Nat.reduceSub, Array.replicate_succ, Array.replicate_zero, List.push_toArray, List.append_toArray, List.nil_append, List.cons_append]; have hrg := run_range_nilMap (P := Tryz.prog) W 46 24 63 Tryz.underlying46
 have hnx : ∀ ty, (Instr.next (.pointer (some ⟨W.heap.size, 0, none⟩)) false ty).run Tryz.prog (W.alloc (.mapIter none 0 #[] 0)) = _ := fun ty => run_next_nilMap _ ty 0 0 #[]
 gi_wp2
 refine wpIn_loop_rounds 1 ?_; rw [roundsIn_succ]
 gi_wp2
 go_end0
 exact ⟨⟨_, rfl⟩, hJ [] W _ none h0 (World.grownBy_alloc W _ none) (fun r e => by cases e)⟩
theorem keysX_in (F : Fence) (n : Nat) (h7 : F.fn 40) (hro : F.round = none) (mb : Option Nat) (w : World) :
  CallsIn F n Tryz.prog 40 #[.map mb] w fun e w' => e = .returned (.func (.func 68) #[] #[.pointer (some ⟨w.heap.size, 0, none⟩)]) ∧ w' = w.alloc (.cells #[.map mb] 46) := by
 refine callsIn_of_wp Tryz.func40 rfl h7 ?_ hro; simp only [Tryz.ntmps40, List.size_toArray, List.length_cons, List.length_nil, Nat.reduceAdd, Nat.reduceSub, Array.replicate_succ, Array.replicate_zero, List.push_toArray, List.append_toArray, List.nil_append, List.cons_append]
 gi_wp2
 go_ret; exact ⟨rfl, rfl⟩
end Go.Proofs.YtnbcbiglkmdepaaGreatDoor
namespace Go.Proofs.YtnbcbiglkmdepaaGreatDoor
open Go.RowKit Go.Maps Go.Sort
attribute [local go_sem] Oper.semAt_some
set_option maxRecDepth 100000 in
theorem sortedX_in (n : Nat) (hn : 4 ≤ n) (g : Nat) (lb : Array Value) (eg : ∀ args w, (callFunc g args).run Tryz.prog w = .ok (.enter g args) w) (T : List B20) (hT : T.Pairwise (fun a b => a.1 < b.1)) (hm : T.length ≤ 1000000)
  (Sp : List B20 → Prop) (w : World) (hseq : SeqStops Fence.wide (n - 1 - 1 - 1) Tryz.prog g lb encX (fun ss => ss.Perm T) Sp T.length w) :
  CallsIn Fence.wide n Tryz.prog 39 #[.func (.func g) #[] lb, .func (.func 41) #[] #[]] w fun e w' => ∃ v, e = .returned v ∧ OwnD w.heap.size v (T.map Subtype.val) w' ∧ Below w.heap.size w w' := by
 have h1 : 1 ≤ n := by omega
 have f8 : Fence.wide.fn 66 := trivial; have f9 : Fence.wide.fn 67 := trivial; have ec : ∀ args w, (callFunc 41 args).run Tryz.prog w = .ok (.enter 41 args) w := enters_of Tryz.func41 (by kernel_rfl) rfl; have cC := collectX_in Fence.wide (n - 1) trivial trivial rfl (by omega) g lb trivial eg (fun ss => ss.Perm T) Sp T.length hm w hseq (fun l hl => Nat.le_of_eq hl.length_eq); refine callsIn_of_wp Tryz.func39 rfl trivial ?_ rfl; simp only [Tryz.ntmps39, List.size_toArray, List.length_cons, List.length_nil, Nat.reduceAdd, Nat.reduceSub, Array.replicate_succ, Array.replicate_zero, List.push_toArray, List.append_toArray, List.nil_append, List.cons_append]
 gi_wp2_with (first | (gi_at_call 66; refine cC.mono ?_; rintro e W ⟨v, ss, rfl, hS, hrow, hnil, hb⟩) | fail)
 have hlen := hS.length_eq
 rcases hrow.2 with ⟨rfl, hz⟩ | ⟨gb, cap, cur, rfl, hbase, hgb, r1, r2, r3, r4⟩
 ·have hss : ss = [] := List.eq_nil_of_length_eq_zero hz
  subst hss; obtain rfl : T = [] := List.eq_nil_of_length_eq_zero (by simpa using hlen.symm); have cS : Calls Tryz.prog 67 _ _ _ := AnyF.slices_SortFunc_none Tryz.sortX none 0 (.func (.func 41) #[] #[]) W
  gi_wp2_with (first | (gi_at_call 67; refine (callsIn_wide.2 cS).mono ?_; rintro e w' ⟨rfl, rfl⟩) | fail)
  go_ret; exact ⟨_, rfl, by simpa [OwnD, flatX] using hrow, hb⟩
 ·have hH := holdsX (g := gb) ss hgb r4
  have hgl : gb < W.heap.size := (Array.getElem?_eq_some_iff.1 hgb).1
  have hsz : ss.toArray.size < 4611686018427387904 := by simp; omega
  have cS : Calls Tryz.prog 67 _ _ _ := AnyQ.slices_SortFunc_total Tryz.sortX 20 isAggX sizeX (fun x : B20 => cellsD x.1) (fun x => cellsD_len _ x.2) (fun x v hv => (Array.all_eq_true_iff_forall_mem.1 (cellsD_one x.1)) v (by simpa using hv)) cfX swoX 41 #[] gb 0 cap ss.toArray W ec (cmpLaysX gb 0 _ W) hH hgl hsz apartX
  have e1 : ss.toArray.size = ss.length := by simp
  rw [e1] at cS; have cS := hyd cS
  gi_wp2_with (first | (gi_at_call 67; refine (callsIn_wide.2 cS.out).mono ?_; rintro e w' ⟨rfl, nn, os, rfl⟩) | fail)
  go_ret; have e2 : (ss.toArray.toList.mergeSort fun x y => !(ltOf cfX) y x) = T := sortX_is hS hT
  have hl2 : (flatX T).length = ss.length * 20 := by rw [flatX_len, hlen]
  refine ⟨_, rfl, ?_, hb.grown (row := some gb) ?_ hb.size (fun j hj => by cases hj; exact hbase)⟩
  ·unfold sortWorldK putRowK
   rw [e2, flatK_is]; refine ⟨by rw [List.flatMap_map, List.length_map]; exact flatX_len T, .inr ⟨gb, cap, _, by simp [hlen], hbase, heap_sortX _ hgb, by simpa [← hlen] using r1, r2, by simp [putCells, r3], ?_⟩⟩; rw [List.flatMap_map, List.length_map, ← flatX_len T]; exact take_putX cur (flatX T) (by rw [flatX_len, r3, ← hlen]; exact Nat.mul_le_mul_right 20 r1)
  ·unfold sortWorldK putRowK
   exact grownBy_sortX _
theorem B20_of : ∀ L : List Cel, (∀ x ∈ L, x.id.length = 20) → ∃ T : List B20, T.map Subtype.val = L.map Cel.id
 | [], _ => ⟨[], rfl⟩
 | c :: L, h => by
  obtain ⟨T, hT⟩ := B20_of L (fun x hx => h x (by simp [hx])); exact ⟨⟨c.id, h c (by simp)⟩ :: T, by simp [hT]⟩
theorem ownD_base {B B' : Nat} {v : Value} {l : List (List UInt8)} {w : World} (h : OwnD B v l w) (hb : B' ≤ B) : OwnD B' v l w := by
 refine ⟨h.1, ?_⟩
 rcases h.2 with hn | ⟨g, cap, cur, hv, hbg, rest⟩
 ·exact .inl hn
 ·exact .inr ⟨g, cap, cur, hv, Nat.le_trans hb hbg, rest⟩
set_option maxRecDepth 100000 in
theorem Ids_is {S : Nat → Prop} {w : World} {g : Nat} {M L : List Cel} (h : StoreP S w g M) (hp : M.Perm L) (hs : SrtS L) (hm : L.length ≤ 1000000) :
  Calls Tryz.prog 14 #[.pointer (some ⟨g, 0, none⟩)] w fun e w' => ∃ v, e = .returned v ∧ OwnD w.heap.size v (L.map Cel.id) w' ∧ Below w.heap.size w w' := by
 refine (callsIn_wide (n := 6)).1 ?_; have hids := h.ids; obtain ⟨hg, E, mb, hE, hblk, hent, hnone, hmap⟩ := h
 have hL : ∀ x ∈ L, x.id.length = 20 := fun x hx => (hids x (hp.mem_iff.2 hx)).1
 obtain ⟨T, hT⟩ : ∃ T : List B20, T.map Subtype.val = L.map Cel.id := B20_of L hL
 have hTl : T.length = L.length := by
  have := congrArg List.length hT
  simpa using this
 have hTs : T.Pairwise (fun a b => a.1 < b.1) := by
  have h1 : (T.map Subtype.val).Pairwise (fun a b => a < b) := by
   rw [hT, List.pairwise_map]; exact hs
  exact List.pairwise_map.1 h1
 have hgc : w.cell? ⟨g, 0, none⟩ = some (.map mb) := by rw [Lib.cell_of_heap hblk]; rfl
 have eK : ∀ args w, (callFunc 68 args).run Tryz.prog w = .ok (.enter 68 args) w := enters_of Tryz.func68 (by kernel_rfl) rfl
 have hseq : SeqStops Fence.wide 2 Tryz.prog 68 #[.pointer (some ⟨w.heap.size, 0, none⟩)] encX (fun ss => ss.Perm T) (fun _ => True) T.length (w.alloc (.cells #[.map mb] 46)) := by
  intro l J Jx W hW hJ hJx hY h0; have hmc : W.cell? ⟨w.heap.size, 0, none⟩ = some (.map mb) := (hW.cell (p := ⟨w.heap.size, 0, none⟩) (by simp)).trans (by rw [Lib.cell_of_heap (heap_alloc_new w _)]; rfl)
  cases mb with
  | none =>
   have hE0 := hnone rfl; subst hE0; subst hE
   obtain rfl : L = [] := by simpa using hp.symm
   obtain rfl : T = [] := List.eq_nil_of_length_eq_zero hTl; refine (keys1X_nil Fence.wide 2 trivial rfl l w.heap.size J W hJ hmc h0).mono ?_; rintro e W' ⟨he, hj⟩; exact ⟨he, .inl ⟨[], List.Perm.refl _, hj⟩⟩
  | some b =>
   obtain ⟨hSb, hbg, hM⟩ := hmap b rfl; obtain ⟨D, hown, hsz, hD⟩ := hM.owns idKeyed (celP_keys (fun e he => (hent e he).1)); have hbW : W.heap[b]? = w.heap[b]? := (hW.block b (by have := hM.lt; simp; omega)).trans (Below.heap_alloc w _ b hM.lt)
   have hownW : W.ownsMap Tryz.prog 24 anyElem b (celP E).length D := by
    obtain ⟨es, clock, h1, h2⟩ := hown; exact ⟨es, clock, hbW.trans h1, h2⟩
   have hlen : Maps.size D = T.length := by
    rw [hsz, hTl, ← hp.length_eq, ← hE]
    simp [celP]
   have hTn : T.Nodup := hTs.imp (fun {a b} h e => by rw [e] at h; exact List.lt_irrefl _ h)
   have hDT : ∀ x, Maps.has D (codeX x) = true ↔ x ∈ T := by
    intro x; rw [hD (encX x) (codeX x) (code_is x)]; have e1 : x ∈ T ↔ x.1 ∈ T.map Subtype.val := ⟨fun hx => List.mem_map.2 ⟨x, hx, rfl⟩, fun hx => by obtain ⟨y, hy, e⟩ := List.mem_map.1 hx; rw [← Subtype.ext e]; exact hy⟩; rw [e1, hT, ← (hp.map Cel.id).mem_iff, ← hE]
    constructor
    ·rintro ⟨m, hm, he⟩
     obtain ⟨e, hee, rfl⟩ := List.mem_map.1 hm; exact List.mem_map.2 ⟨e.c, List.mem_map.2 ⟨e, hee, rfl⟩, arrD_inj (Value.agg.inj he)⟩
    ·intro hx
     obtain ⟨c, hc, he⟩ := List.mem_map.1 hx; obtain ⟨e, hee, rfl⟩ := List.mem_map.1 hc; exact ⟨_, List.mem_map.2 ⟨e, hee, rfl⟩, by rw [he]; rfl⟩
   exact keys1X_in Fence.wide 2 trivial rfl (by omega) l w.heap.size b _ D T hTn hDT J Jx (by rw [hlen]; exact hY) W hJ hmc hownW h0
 have cK := fun mb W => keysX_in Fence.wide 5 trivial rfl mb W
 have cS := sortedX_in 5 (by omega) _ _ eK T hTs (by omega) _ _ hseq; rw [hT] at cS; have hfK : Fence.wide.fn 40 := trivial; have hfS : Fence.wide.fn 39 := trivial; refine callsIn_of_wp Tryz.func14 rfl trivial ?_ rfl; simp only [Tryz.ntmps14, List.size_toArray, List.length_cons, List.length_nil, Nat.reduceAdd, Nat.reduceSub, Array.replicate_succ, Array.replicate_zero, List.push_toArray, List.append_toArray, List.nil_append, List.cons_append]; have cS := hyd cS; clear hids hL hp hs hnone hmap hent hE hblk
 gi_wp2_with (first
  | (gi_at_call 40; refine (cK _ _).mono ?_; rintro e w' ⟨rfl, rfl⟩)
  | (gi_at_call 39; refine cS.out.mono ?_; rintro e w' ⟨v, rfl, hv, hb⟩))
 go_ret; have hb0 : Below w.heap.size w (w.alloc (.cells #[.map mb] 46)) := (Below.refl _ w).alloc (Nat.le_refl _) _; exact ⟨v, rfl, ownD_base hv hb0.size, hb0.trans (hb.mono hb0.size)⟩
end Go.Proofs.YtnbcbiglkmdepaaGreatDoor
namespace Go.Proofs.YtnbcbiglkmdepaaGreatDoor
set_option maxRecDepth 20000
open Go.RowKit
theorem bat1 (w : World) (x : UInt8) (fr : Nat × Nat) : BAt (w.alloc (.cells #[.int .u8 x.toNat] 5 fr)) (some ⟨w.heap.size, 0, none⟩) [x] := fun _ =>
 ⟨w.heap.size, 0, rfl, by simp, fun i hi => by
  rw [Lib.cell_of_heap (heap_alloc_new w _)]
  match i, hi with
  | 0, _ => rfl⟩
theorem print_a : (printO 1 [97]).2 = 0 := by decide +kernel
theorem putM_a : putM [] 1 [97] = ([⟨sumO 1 [97], 1, [97]⟩], sumO 1 [97], 0) := by
 unfold putM; rw [if_pos print_a]
 rfl
theorem awake10 (w : World) (tab : Tab w) : Calls Tryz.prog 5 #[] w fun e w' => e = .returned (.bool true) ∧ Below w.heap.size w w' := by
 have kc := Lib.run_convert_bytes_const (P := Tryz.prog) (w.alloc (.cells #[.map none] 48)) 32 5 #[Value.int .u8 97] 1 1 Tryz.underlying32 Tryz.underlying5; rw [show (#[Value.int .u8 97] : Array Value).size = 1 from rfl] at kc
 have hs0 : (w.alloc (.cells #[.map none] 48)).heap.size = w.heap.size + 1 := by simp
 rw [hs0] at kc; obtain ⟨z, hz0, hzs, hzv, hzb, hz1⟩ := zId_any; have CN := hyd (new_is w); have b0 := (Below.refl w.heap.size w).alloc (Nat.le_refl _) (.cells #[.map none] 48); have s0 := StoreP.new (fun j => j = w.heap.size) w rfl
 go_enter Tryz.func5, Tryz.ntmps5
 go_wp2_with (first
  | (go_at_call 4; refine CN.out.mono ?_; rintro e w1 ⟨rfl, rfl⟩)
  | fail)
 obtain ⟨w1, hw1⟩ : ∃ w1, w.alloc (.cells #[.map none] 48) = w1 := ⟨_, rfl⟩; rw [hw1] at b0 s0 hs0 ⊢; rw [← hs0]; obtain ⟨w2, hw2⟩ : ∃ w2, w1.alloc (.cells #[.int .u8 97] 5 (1, 2)) = w2 := ⟨_, rfl⟩
 have ba : BAt w2 (some ⟨w1.heap.size, 0, none⟩) [97] := by rw [← hw2]; exact bat1 w1 97 (1, 2)
 have b12 : Below w1.heap.size w1 w2 := by rw [← hw2]; exact (Below.refl _ _).alloc (Nat.le_refl _) _
 have B2 := b0.trans (b12.mono b0.size)
 have rd : Red w2 (.slice (some ⟨w1.heap.size, 0, none⟩) 1 1) [97] := by
  refine ⟨some ⟨w1.heap.size, 0, none⟩, 1, rfl, ba, ?_, ?_, ?_⟩
  ·intro h
   cases h
  ·exact Nat.le_refl 1
  ·simp [maxLen]
 have CP := PutP_is (s0.below b12) 1 (.slice (some ⟨w1.heap.size, 0, none⟩) 1 1) [97] rd (tab.keep B2) (by simp); rw [putM_a] at CP; have CP := hyd CP; have HB2 := hyd B2; rw [hw2]; clear rd s0 ba b12 B2 b0 kc hw2 hw1 CN; refine CP.out.mono ?_; rintro e w3 ⟨rfl, hS3, hC3⟩; have HB3 := hyd (HB2.out.trans (hC3.below HB2.out.size (fun j _ hj => Nat.le_of_eq hj.symm))); have sl := sumO_len print_a; obtain ⟨I, hI⟩ : ∃ I, arrD (sumO 1 [97]) = I := ⟨_, rfl⟩; have IS := hyd (show I.size = 20 by rw [← hI]; exact arrD_size _ sl); have IO := hyd (show I.all (·.oneCell') = true by rw [← hI]; exact arrD_one _); have II := hyd (show (Tryz.prog.info? 24).map (·.size) = some I.size from by rw [IS.out]; exact infoD_n)
 have hgm : getM [⟨sumO 1 [97], 1, [97]⟩] (sumO 1 [97]) = some ⟨sumO 1 [97], 1, [97]⟩ := by simp [getM]
 have CBl := fun u (hu : Below w3.heap.size w3 u) => BlobP_is (hS3.below hu) (sumO 1 [97]) sl (fun c hc => by rw [hgm] at hc; cases hc; decide)
 rw [hgm, hI] at CBl; have CBl := hyd CBl; have CId := hyd (fun u (hu : Below w3.heap.size w3 u) => Ids_is (hS3.below hu) (List.Perm.refl _) (List.pairwise_singleton _ _) (by simp)); have SL := hyd sl; have ZS := hyd hzs; simp only; rw [hI]; clear hS3 hC3 CP hgm hI hz0 hzs hzb hz1 sl
 go_wp2_with (first
  | (with_reducible refine wpList_store_all rfl 24 (.tmp 2) (.tmp 15) rfl w3.heap.size I rfl rfl 24 z (heap_alloc_new w3 _) II.out (IS.out.trans ZS.out.symm) IO.out ?_)
  | fail)
 intro w4 r4 off4 sz4; have b34 : Below w3.heap.size w3 w4 := ((Below.refl w3.heap.size w3).alloc (Nat.le_refl _) (.cells z 24)).trans (off4.below (Nat.le_refl _) (by simp)); have HB34 := hyd b34; have R4 := hyd r4; clear b34 r4 off4 sz4
 go_wp2_with (first
  | (with_reducible refine wpList_load_all 24 (.tmp 2) rfl (by kernel_rfl) w3.heap.size I 24 (0, 0) rfl R4.out _ Tryz.underlying24 rfl II.out ?_)
  | fail)
 refine (CBl.out _ HB34.out).mono ?_; rintro e w5 ⟨v5, rfl, hr5, -, hb5⟩; obtain ⟨va, vc, e5, -, -, hba5, -⟩ := hr5.shape; rw [show (ofS (some ⟨sumO 1 [97], 1, [97]⟩) 1).1 = [97] from rfl] at e5 hba5; rw [show ([97] : List UInt8).length = 1 from rfl] at e5; subst e5; have cv := hba5.conv (P := Tryz.prog) vc 32 5 Tryz.underlying32 Tryz.underlying5 9 Tryz.underlying9; rw [show ([97] : List UInt8).length = 1 from rfl] at cv; have HB35 := hyd (HB34.out.trans (hb5.mono HB34.out.size)); clear hr5 hb5 hba5 CBl
 go_wp2_with fail
 refine (CId.out _ HB35.out).mono ?_; rintro e w6 ⟨v6, rfl, ho6, hb6⟩; obtain ⟨a6, c6, e6, -⟩ := ownD_ids ho6 (fun i hi => by simp at hi; rw [hi]; exact SL.out); rw [show (List.map Cel.id [⟨sumO 1 [97], 1, [97]⟩]).length = 1 from rfl] at e6; subst e6; have HB6 := hyd (HB3.out.trans ((HB35.out.trans (hb6.mono HB35.out.size)).mono HB3.out.size)); clear ho6 hb6 cv CId; go_wp2; go_ret; exact ⟨rfl, HB6.out⟩
structure Both (w : World) (A1 : Array Value) (g q : Nat) (Sp Sr : Nat → Prop) (M L : List Cel) (u : World) : Prop where
 bel : Below w.heap.size w u
 box : u.heap[w.heap.size]? = some (.cells A1 24 (0, 0))
 sp : StoreP Sp u g M
 sr : StoreAt Sr u q L
 inp : ∀ j, Sp j → w.heap.size < j ∧ j < u.heap.size
 inr : ∀ j, Sr j → w.heap.size < j ∧ j < u.heap.size
 apart : ∀ j, Sp j → ¬ Sr j
def Apart (w : World) (Sp Sr : Nat → Prop) (u : World) (j : Nat) : Prop := w.heap.size < j ∧ j < u.heap.size ∧ ¬ Sp j ∧ ¬ Sr j
theorem Both.keep {w : World} {A1 : Array Value} {g q : Nat} {Sp Sr : Nat → Prop} {M L : List Cel} {u u' : World} (h : Both w A1 g q Sp Sr M L u) (b : Below u.heap.size u u') : Both w A1 g q Sp Sr M L u' where
 bel := h.bel.trans (b.mono h.bel.size)
 box := (b.block _ (lt_of_heap h.box)).trans h.box
 sp := h.sp.below b
 sr := h.sr.below b
 inp := fun j hj => ⟨(h.inp j hj).1, Nat.lt_of_lt_of_le (h.inp j hj).2 b.size⟩
 inr := fun j hj => ⟨(h.inr j hj).1, Nat.lt_of_lt_of_le (h.inr j hj).2 b.size⟩
 apart := h.apart
theorem Apart.keep {w : World} {Sp Sr : Nat → Prop} {u u' : World} {j : Nat} (h : Apart w Sp Sr u j) (hs : u.heap.size ≤ u'.heap.size) : Apart w Sp Sr u' j := ⟨h.1, Nat.lt_of_lt_of_le h.2.1 hs, h.2.2⟩
theorem Both.free {w : World} {A1 : Array Value} {g q : Nat} {Sp Sr : Nat → Prop} {M L : List Cel} {u : World} (h : Both w A1 g q Sp Sr M L u) {v : World} {j : Nat} (hj : u.heap.size ≤ j) (hv : j < v.heap.size) : Apart w Sp Sr v j :=
 ⟨Nat.lt_of_lt_of_le (lt_of_heap h.box) hj, hv, fun hs => absurd (h.inp j hs).2 (by omega), fun hs => absurd (h.inr j hs).2 (by omega)⟩
theorem Both.other {w : World} {A1 : Array Value} {g q : Nat} {Sp Sr : Nat → Prop} {M L : List Cel} {u u' : World} (h : Both w A1 g q Sp Sr M L u) {x : Nat} (hx : Apart w Sp Sr u x) (c : Chg (fun k => k = x) u u') : Both w A1 g q Sp Sr M L u' where
 bel := h.bel.trans (c.below h.bel.size (fun j _ hj => by rw [hj]; exact Nat.le_of_lt hx.1))
 box := (c.block _ (lt_of_heap h.box) (fun e => absurd hx.1 (by omega))).trans h.box
 sp := h.sp.keep ⟨c.size, fun k hk hl => c.block k hl (fun e => hx.2.2.1 (e ▸ hk))⟩
 sr := h.sr.keep ⟨c.size, fun k hk hl => c.block k hl (fun e => hx.2.2.2 (e ▸ hk))⟩
 inp := fun j hj => ⟨(h.inp j hj).1, Nat.lt_of_lt_of_le (h.inp j hj).2 c.size⟩
 inr := fun j hj => ⟨(h.inr j hj).1, Nat.lt_of_lt_of_le (h.inr j hj).2 c.size⟩
 apart := h.apart
theorem Both.put {w : World} {A1 : Array Value} {g q : Nat} {Sp Sr : Nat → Prop} {M M' L : List Cel} {u u' : World} (h : Both w A1 g q Sp Sr M L u)
  (s : StoreP (fun j => Sp j ∨ (u.heap.size ≤ j ∧ j < u'.heap.size)) u' g M') (c : Chg Sp u u') : Both w A1 g q (fun j => Sp j ∨ (u.heap.size ≤ j ∧ j < u'.heap.size)) Sr M' L u' where
 bel := h.bel.trans (c.below h.bel.size (fun j _ hj => Nat.le_of_lt (h.inp j hj).1))
 box := (c.block _ (lt_of_heap h.box) (fun e => absurd (h.inp _ e).1 (Nat.lt_irrefl _))).trans h.box
 sp := s
 sr := h.sr.keep ⟨c.size, fun k hk hl => c.block k hl (fun e => h.apart k e hk)⟩
 inp := fun j hj => by
  rcases hj with hj | hj
  ·exact ⟨(h.inp j hj).1, Nat.lt_of_lt_of_le (h.inp j hj).2 c.size⟩
  ·exact ⟨Nat.lt_of_lt_of_le (lt_of_heap h.box) hj.1, hj.2⟩
 inr := fun j hj => ⟨(h.inr j hj).1, Nat.lt_of_lt_of_le (h.inr j hj).2 c.size⟩
 apart := fun j hj hr => by
  rcases hj with hj | hj
  ·exact h.apart j hj hr
  ·exact absurd (h.inr j hr).2 (by omega)
theorem Apart.put {w : World} {Sp Sr : Nat → Prop} {u u' : World} {j : Nat} (h : Apart w Sp Sr u j) (hs : u.heap.size ≤ u'.heap.size) : Apart w (fun j => Sp j ∨ (u.heap.size ≤ j ∧ j < u'.heap.size)) Sr u' j :=
 ⟨h.1, Nat.lt_of_lt_of_le h.2.1 hs, fun e => e.elim h.2.2.1 (fun e => absurd h.2.1 (by omega)), h.2.2.2⟩
theorem Both.rput {w : World} {A1 : Array Value} {g q : Nat} {Sp Sr : Nat → Prop} {M L L' : List Cel} {u u' : World} (h : Both w A1 g q Sp Sr M L u)
  (s : StoreAt (fun j => Sr j ∨ (u.heap.size ≤ j ∧ j < u'.heap.size)) u' q L') (c : Off q u u') : Both w A1 g q Sp (fun j => Sr j ∨ (u.heap.size ≤ j ∧ j < u'.heap.size)) M L' u' where
 bel := h.bel.trans (c.below (Nat.le_of_lt (h.inr q h.sr.1).1) h.bel.size)
 box := (c.block _ (lt_of_heap h.box) (fun e => absurd (h.inr q h.sr.1).1 (by omega))).trans h.box
 sp := h.sp.keep ⟨c.size, fun k hk hl => c.block k hl (fun e => h.apart k hk (e ▸ h.sr.1))⟩
 sr := s
 inp := fun j hj => ⟨(h.inp j hj).1, Nat.lt_of_lt_of_le (h.inp j hj).2 c.size⟩
 inr := fun j hj => by
  rcases hj with hj | hj
  ·exact ⟨(h.inr j hj).1, Nat.lt_of_lt_of_le (h.inr j hj).2 c.size⟩
  ·exact ⟨Nat.lt_of_lt_of_le (lt_of_heap h.box) hj.1, hj.2⟩
 apart := fun j hj hr => by
  rcases hr with hr | hr
  ·exact h.apart j hj hr
  ·exact absurd (h.inp j hj).2 (by omega)
theorem Apart.rput {w : World} {Sp Sr : Nat → Prop} {u u' : World} {j : Nat} (h : Apart w Sp Sr u j) (hs : u.heap.size ≤ u'.heap.size) : Apart w Sp (fun j => Sr j ∨ (u.heap.size ≤ j ∧ j < u'.heap.size)) u' j :=
 ⟨h.1, Nat.lt_of_lt_of_le h.2.1 hs, h.2.2.1, fun e => e.elim h.2.2.2 (fun e => absurd h.2.1 (by omega))⟩
theorem Both.fork {w : World} {A1 : Array Value} {g q g' : Nat} {Sp Sr : Nat → Prop} {M L : List Cel} {u u1 u2 u3 : World} (h : Both w A1 g q Sp Sr M L u)
  (b : Below u.heap.size u u1) (s : StoreP (fun j => ForkS Sp u g j ∨ (u.heap.size ≤ j ∧ j < u1.heap.size)) u1 g' M) (b2 : Below u1.heap.size u1 u2)
  (c : Chg (fun j => j = g ∨ u.heap[g]? = some (.cells #[.map (some j)] 48 (0, 0))) u2 u3) :
  Both w A1 g' q (fun j => ForkS Sp u g j ∨ (u.heap.size ≤ j ∧ j < u1.heap.size)) Sr M L u3 := by
 have hm : ∀ c, u.heap[g]? = some (.cells #[.map (some c)] 48 (0, 0)) → Sp c := fun c hc => h.sp.map_in hc
 have hs : ∀ j, (j = g ∨ u.heap[g]? = some (.cells #[.map (some j)] 48 (0, 0))) → Sp j := fun j hj => by
  rcases hj with rfl | hj
  ·exact h.sp.1
  ·exact hm j hj
 have h2 := (h.keep b).keep b2; have bb := b.trans (b2.mono b.size); have hsz : u.heap.size ≤ u2.heap.size := Nat.le_trans b.size b2.size; refine ⟨h2.bel.trans (c.below h2.bel.size (fun j _ hj => Nat.le_of_lt (h.inp j (hs j hj)).1)), (c.block _ (lt_of_heap h2.box) (fun e => absurd (h.inp _ (hs _ e)).1 (Nat.lt_irrefl _))).trans h2.box, ?_, ?_, ?_, ?_, ?_⟩
 ·refine (s.below b2).keep ⟨c.size, fun k hk hl => c.block k hl (fun e => ?_)⟩
  rcases hk with hk | hk
  ·rcases e with e | e
   ·exact hk.2.1 e
   ·exact hk.2.2 k e rfl
  ·exact absurd (h.inp k (hs k e)).2 (by omega)
 ·exact h2.sr.keep ⟨c.size, fun k hk hl => c.block k hl (fun e => h.apart k (hs k e) hk)⟩
 ·intro j hj
  rcases hj with hj | hj
  ·exact ⟨(h.inp j hj.1).1, Nat.lt_of_lt_of_le (h.inp j hj.1).2 (Nat.le_trans hsz c.size)⟩
  ·exact ⟨Nat.lt_of_lt_of_le (lt_of_heap h.box) hj.1, Nat.lt_of_lt_of_le hj.2 (Nat.le_trans b2.size c.size)⟩
 ·exact fun j hj => ⟨(h.inr j hj).1, Nat.lt_of_lt_of_le (h.inr j hj).2 (Nat.le_trans hsz c.size)⟩
 ·intro j hj hr
  rcases hj with hj | hj
  ·exact h.apart j hj.1 hr
  ·exact absurd (h.inr j hr).2 (by omega)
theorem Apart.chg {w : World} {Sp Sr : Nat → Prop} {u u' : World} {j : Nat} (h : Apart w Sp Sr u j) (c : Chg Sp u u') {o : Obj} (ho : u.heap[j]? = some o) : u'.heap[j]? = some o := (c.block j h.2.1 h.2.2.1).trans ho
theorem Apart.off {w : World} {Sp Sr : Nat → Prop} {u u' : World} {q j : Nat} (h : Apart w Sp Sr u j) (hq : Sr q) (c : Off q u u') {o : Obj} (ho : u.heap[j]? = some o) : u'.heap[j]? = some o := (c.block j h.2.1 (fun e => h.2.2.2 (e ▸ hq))).trans ho
def PlayI (w : World) (A1 : Array Value) (q i g : Nat) (u : World) : Prop :=
 ∃ Sp Sr M L, Both w A1 g q Sp Sr M L u ∧ M.Perm L ∧ GoodS sumO L ∧ L.length ≤ i
theorem putM_len (M : List Cel) (k : Int) (b : List UInt8) : (putM M k b).2.1.length = 20 := by
 unfold putM
 by_cases he : (printO k b).2 = 0
 ·rw [if_pos he]
  cases getM M (sumO k b) with
  | none => exact sumO_len he
  | some c =>
   show (pickI _ _).length = 20
   cases c.kind == k && c.body == b
   ·rfl
   ·exact sumO_len he
 ·rw [if_neg he]; rfl
end Go.Proofs.YtnbcbiglkmdepaaGreatDoor
