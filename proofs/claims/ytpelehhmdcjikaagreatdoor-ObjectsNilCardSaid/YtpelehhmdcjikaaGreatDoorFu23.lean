/-
  Texts that belong together, one behind the other.
-/
import Derived.Shelf.SlSortCmp.WholeK
import Derived.Shelf.SlMaps.Clone
import Derived.Shelf.SlGeneric
import Derived.Ground.SlsfProg
import Derived.Ground.SlmcProg
import Derived.Test.YtpelehhmdcjikaaGreatDoorProg
import Derived.Test.YtpelehhmdcjikaaGreatDoorFu22
import Derived.Shelf.SlSortCmp.NoneTotal
import Derived.RangeFuncNested
import Derived.RangeFuncBound
import Derived.RangeFuncCalls
import Derived.RangeFuncLeaves
import Derived.RangeFuncGives
import Derived.RangeFuncStops
import Derived.Sort.MapsRangeIn
import Derived.Laws.IdiomRangeMap
import Derived.WalkKit
import Derived.OwnWalkIn
import Derived.TacticsInMore
import Derived.RegionIn
import Derived.LoopNIn
import Derived.LoopIn
import Derived.Test.YtpelehhmdcjikaaGreatDoorFu06
import Derived.Shelf.AbstractIn
import Derived.Test.YtpelehhmdcjikaaGreatDoorFu09
import Derived.Lib.SlBytesConst
/-
  The library's contracts of generic functions laid at this program: a table of numbers and one application each.
-/
namespace Go.Proofs
open Go.Shelf
def Tryz.sortX_ren : Go.Shelf.Ren := ⟨fun | 6 => 69 | 15 => 96 | 14 => 95 | 28 => 126 | 29 => 127 | 20 => 118 | 21 => 119 | 22 => 120 | 23 => 121 | 24 => 122 | 25 => 123 | 26 => 124 | 27 => 125 | 46 => 149 | 47 => 150 | 48 => 151 | 49 => 152 | 50 => 153 | 57 => 170 | n => n, fun | 22 => 43 | 24 => 24 | 25 => 89 | 3 => 3 | 39 => 62 | 0 => 0 | 53 => 140 | 55 => 143 | 4 => 4 | 46 => 196 | 45 => 195 | 50 => 70 | 5 => 5 | 9 => 9 | 66 => 211 | 70 => 215 | 76 => 224 | 77 => 162 | n => n, fun | n => n⟩
theorem Tryz.sortX : Go.Proofs.SlLaysF0.n6 Tryz.prog Tryz.sortX_ren := {
  mixed := by kernel_rfl
  f6 := ⟨Tryz.f69.name, by decide, Tryz.func69.trans (congrArg some (by kernel_rfl))⟩
  f14 := ⟨Tryz.f95.name, by decide, Tryz.func95.trans (congrArg some (by kernel_rfl))⟩
  f15 := Tryz.func96.trans (congrArg some (by kernel_rfl))
  f20 := ⟨Tryz.f118.name, by decide, Tryz.func118.trans (congrArg some (by kernel_rfl))⟩
  f21 := ⟨Tryz.f119.name, by decide, Tryz.func119.trans (congrArg some (by kernel_rfl))⟩
  f22 := ⟨Tryz.f120.name, by decide, Tryz.func120.trans (congrArg some (by kernel_rfl))⟩
  f23 := ⟨Tryz.f121.name, by decide, Tryz.func121.trans (congrArg some (by kernel_rfl))⟩
  f24 := ⟨Tryz.f122.name, by decide, Tryz.func122.trans (congrArg some (by kernel_rfl))⟩
  f25 := ⟨Tryz.f123.name, by decide, Tryz.func123.trans (congrArg some (by kernel_rfl))⟩
  f26 := ⟨Tryz.f124.name, by decide, Tryz.func124.trans (congrArg some (by kernel_rfl))⟩
  f27 := ⟨Tryz.f125.name, by decide, Tryz.func125.trans (congrArg some (by kernel_rfl))⟩
  f28 := Tryz.func126.trans (congrArg some (by kernel_rfl))
  f29 := Tryz.func127.trans (congrArg some (by kernel_rfl))
  f46 := ⟨Tryz.f149.name, by decide, Tryz.func149.trans (congrArg some (by kernel_rfl))⟩
  f47 := Tryz.func150.trans (congrArg some (by kernel_rfl))
  f48 := Tryz.func151.trans (congrArg some (by kernel_rfl))
  f49 := ⟨Tryz.f152.name, by decide, Tryz.func152.trans (congrArg some (by kernel_rfl))⟩
  f50 := ⟨Tryz.f153.name, by decide, Tryz.func153.trans (congrArg some (by kernel_rfl))⟩
  f57 := ⟨Tryz.f170.name, by decide, Tryz.func170.trans (congrArg some (by kernel_rfl))⟩
  t0 := Tryz.underlying0
  a0 := Tryz.isAgg0
  z0 := Tryz.sizeOf0
  v0 := Tryz.zeroValue0
  t3 := Tryz.underlying3
  a3 := Tryz.isAgg3
  z3 := Tryz.sizeOf3
  v3 := Tryz.zeroValue3
  t4 := Tryz.underlying4
  a4 := Tryz.isAgg4
  z4 := Tryz.sizeOf4
  v4 := Tryz.zeroValue4
  t5 := Tryz.underlying5
  a5 := Tryz.isAgg5
  z5 := Tryz.sizeOf5
  v5 := Tryz.zeroValue5
  t9 := Tryz.underlying9
  a9 := Tryz.isAgg9
  z9 := Tryz.sizeOf9
  v9 := Tryz.zeroValue9
  t22 := Tryz.underlying43
  a22 := Tryz.isAgg43
  z22 := Tryz.sizeOf43
  v22 := Tryz.zeroValue43
  t25 := Tryz.underlying89
  a25 := Tryz.isAgg89
  z25 := Tryz.sizeOf89
  v25 := Tryz.zeroValue89
  t39 := Tryz.underlying62
  a39 := Tryz.isAgg62
  z39 := Tryz.sizeOf62
  v39 := Tryz.zeroValue62
  t45 := Tryz.underlying195
  a45 := Tryz.isAgg195
  z45 := Tryz.sizeOf195
  v45 := Tryz.zeroValue195
  t46 := Tryz.underlying196
  a46 := Tryz.isAgg196
  z46 := Tryz.sizeOf196
  v46 := Tryz.zeroValue196
  t50 := Tryz.underlying70
  a50 := Tryz.isAgg70
  z50 := Tryz.sizeOf70
  v50 := Tryz.zeroValue70
  t53 := Tryz.underlying140
  a53 := Tryz.isAgg140
  z53 := Tryz.sizeOf140
  v53 := Tryz.zeroValue140
  t55 := Tryz.underlying143
  a55 := Tryz.isAgg143
  z55 := Tryz.sizeOf143
  v55 := Tryz.zeroValue143
  t66 := Tryz.underlying211
  a66 := Tryz.isAgg211
  z66 := Tryz.sizeOf211
  v66 := Tryz.zeroValue211
  t70 := Tryz.underlying215
  a70 := Tryz.isAgg215
  z70 := Tryz.sizeOf215
  v70 := Tryz.zeroValue215
  t76 := Tryz.underlying224
  a76 := Tryz.isAgg224
  z76 := Tryz.sizeOf224
  v76 := Tryz.zeroValue224
  t77 := Tryz.underlying162
  a77 := Tryz.isAgg162
  z77 := Tryz.sizeOf162
  v77 := Tryz.zeroValue162 }
end Go.Proofs

/-
  slices.Collect and slices.SortedFunc over ids: what an iterator gives, in order, in a row of its own.
-/
namespace Go.Proofs.YtpelehhmdcjikaaGreatDoor
open Go.RowKit Go.Maps Go.Sort
attribute [local go_sem] Oper.semAt_some
set_option linter.unusedVariables false
set_option linter.unusedSimpArgs false
set_option maxHeartbeats 1000000 in
theorem collectX_in (F : Fence) (n : Nat) (h8 : F.fn 68) (h11 : F.fn 94) (hro : F.round = none) (hn : 3 ≤ n) (g : Nat) (lb : Array Value) (hFg : F.fn g) (eg : ∀ args w, (callFunc g args).run Tryz.prog w = .ok (.enter g args) w)
    (S Sp : List B20 → Prop) (N : Nat) (hN : N ≤ 1000000) (w : World) (hseq : SeqStops F (n - 1 - 1) Tryz.prog g lb encX S Sp N w) (hS : ∀ l, S l → l.length ≤ N) :
    CallsIn F n Tryz.prog 68 #[.func (.func g) #[] lb] w fun e w' => ∃ (v : Value) (ss : List B20), e = .returned v ∧ S ss ∧ w'.ownsRow w.heap.size 24 20 v ss.length (flatX ss) ∧ (v = .slice none 0 0 ↔ ss = []) ∧ Below w.heap.size w w' := by
  have h1 : 1 ≤ n := by omega
  refine callsIn_of_wp Tryz.func68 rfl h8 ?_ hro
  simp only [Tryz.ntmps68, List.size_toArray, List.length_cons, List.length_nil, Nat.reduceAdd, Nat.reduceSub, Array.replicate_succ, Array.replicate_zero, List.push_toArray, List.append_toArray, List.nil_append, List.cons_append]
  gi_wp2_with (gi_at_call 94; refine (appendSeqX_in F (n - 1) h11 hro (by omega) g lb hFg eg S Sp N hN _ hseq hS).mono ?_; rintro e w' ⟨v, ss, rfl, hSs, hrow, hnil, hb⟩)
  go_ret
  exact ⟨v, ss, rfl, hSs, hrow, hnil, hb⟩
/-- The sort's flat row is the ids' cells. -/
theorem flatK_is (ss : List B20) : flatK (fun x : B20 => cellsD x.1) 20 ss.toArray = (flatX ss).toArray := by
  refine ext_get! (by simp [flatX_len]) fun t ht => ?_
  have ht2 : t < ss.length * 20 := by simpa using ht
  rw [get_flatK _ _ _ t (by simpa using ht2)]
  have hq : t / 20 < ss.length := by omega
  have hr : t % 20 < 20 := Nat.mod_lt _ (by decide)
  have e1 : (ss.toArray)[t / 20]! = ss[t / 20] := by simp [hq]
  rw [e1]
  have hl : (cellsD ss[t / 20].1).length = 20 := cellsD_len _ ss[t / 20].2
  have hu : (cellsD ss[t / 20].1)[t % 20]? = some ((cellsD ss[t / 20].1)[t % 20]'(by omega)) := List.getElem?_eq_getElem (by omega)
  have h := flatD_at (ss.map Subtype.val) (fun i hi => by obtain ⟨x, _, rfl⟩ := List.mem_map.1 hi; exact x.2) (t / 20) (by simpa using hq) (t % 20) _ (by rw [List.getElem_map]; exact hu)
  rw [List.flatMap_map] at h
  have e2 : t / 20 * 20 + t % 20 = t := by omega
  rw [e2] at h
  have h2 : (flatX ss)[t]? = some ((cellsD ss[t / 20].1)[t % 20]'(by omega)) := h
  have e3 : (flatX ss).toArray[t]! = (cellsD ss[t / 20].1)[t % 20]'(by omega) := by
    rw [Array.getElem!_eq_getD, Array.getD_eq_getD_getElem?, List.getElem?_toArray, h2]
    rfl
  rw [e3, List.getElem!_eq_getElem?_getD, hu]
  rfl
theorem holdsX {w : World} {g : Nat} {cur : Array Value} {e : TypeId} (ss : List B20) (hb : w.heap[g]? = some (.cells cur e (0, 0))) (ht : cur.toList.take (ss.length * 20) = flatX ss) : HoldsK (fun x : B20 => cellsD x.1) 20 w g 0 ss.toArray := by
  unfold HoldsK
  rw [flatK_is]
  intro j hj
  have hj2 : j < (flatX ss).length := by simpa using hj
  have hj3 : j < ss.length * 20 := by rw [flatX_len] at hj2; exact hj2
  refine ⟨?_, by simp [World.frozen?, hb]⟩
  rw [Lib.cell_of_heap hb, Nat.zero_add, ← Array.getElem?_toList]
  have h1 : (cur.toList.take (ss.length * 20))[j]? = (flatX ss)[j]? := by rw [ht]
  rw [List.getElem?_take_of_lt hj3] at h1
  rw [h1, List.getElem?_eq_getElem hj2]
  simp [hj2]
theorem heap_sortX {w : World} {g n : Nat} {os : Array Obj} {cur : Array Value} {e : TypeId} {fr : Nat × Nat} (d : Array Value) (hb : w.heap[g]? = some (.cells cur e fr)) :
    (grow (putRow id (Sort.ahead w n) g 0 d) os).heap[g]? = some (.cells (putCells id 0 d cur) e fr) := by
  have hg : g < w.heap.size := (Array.getElem?_eq_some_iff.1 hb).1
  rw [heap_grow_old _ _ (by simpa using hg)]
  simp [putRow, mapBlock, Sort.ahead, Array.getElem?_modify, hb, onCells]
theorem grownBy_sortX {w : World} {g n : Nat} {os : Array Obj} (d : Array Value) : w.grownBy (grow (putRow id (Sort.ahead w n) g 0 d) os) (some g) := by
  refine ⟨rfl, rfl, rfl, by simp, fun k hk hne => ?_⟩
  rw [heap_grow_old _ _ (by simpa using hk)]
  have : g ≠ k := fun e => hne (by rw [e])
  simp [putRow, mapBlock, Sort.ahead, Array.getElem?_modify, this]
theorem take_putX (cur : Array Value) (ts : List Value) (h : ts.length ≤ cur.size) : (putCells id 0 ts.toArray cur).toList.take ts.length = ts := by
  apply List.ext_getElem?
  intro j
  by_cases hj : j < ts.length
  · rw [List.getElem?_take_of_lt hj, Array.getElem?_toList]
    simp [putCells, hj, show j < cur.size by omega]
  · rw [List.getElem?_take_eq_none (by omega), List.getElem?_eq_none (by omega)]
theorem isAggX (w : World) : (isAgg 24).run Tryz.prog w = .ok true w := Tryz.isAgg24 w
theorem sizeX (w : World) : (Go.sizeOf 24).run Tryz.prog w = .ok 20 w := Tryz.sizeOf24 w
theorem apartX (x y : B20) (h1 : ltOf cfX x y = false) (h2 : ltOf cfX y x = false) : x = y := by
  rw [ltX] at h1 h2
  simp only [decide_eq_false_iff_not] at h1 h2
  exact Subtype.ext (List.le_antisymm (show x.1 ≤ y.1 from h2) (show y.1 ≤ x.1 from h1))
/-- Ids in order are what a sort makes of them. -/
theorem sortX_is {ss T : List B20} (hp : ss.Perm T) (hT : T.Pairwise (fun a b => a.1 < b.1)) : ss.mergeSort (fun x y => !(ltOf cfX) y x) = T := by
  have tr : ∀ a b c : B20, (!(ltOf cfX) b a) = true → (!(ltOf cfX) c b) = true → (!(ltOf cfX) c a) = true := fun a b c h1 h2 => by
    simp only [Bool.not_eq_true'] at *
    exact swoX.ntrans c b a h2 h1
  have to9 : ∀ a b : B20, ((!(ltOf cfX) b a) || (!(ltOf cfX) a b)) = true := fun a b => by
    rw [ltX, ltX]
    by_cases h : b.1 < a.1
    · have : ¬ a.1 < b.1 := fun h2 => List.lt_irrefl _ (List.lt_trans h h2)
      simp [this]
    · simp [h]
  refine List.Perm.eq_of_pairwise (le := fun a b => (!(ltOf cfX) b a) = true) (fun a b _ _ h1 h2 => ?_) (List.pairwise_mergeSort tr to9 ss) (hT.imp (fun {a b} h => ?_)) ((List.mergeSort_perm ss _).trans hp)
  · simp only [Bool.not_eq_true'] at h1 h2
    exact apartX a b h2 h1
  · rw [ltX]
    have : ¬ b.1 < a.1 := fun h2 => List.lt_irrefl _ (List.lt_trans h h2)
    simp [this]
end Go.Proofs.YtpelehhmdcjikaaGreatDoor

/-
  maps.Keys over a map keyed by ids: the keys come, each once, in some order.
-/
namespace Go.Proofs.YtpelehhmdcjikaaGreatDoor
open Go.RowKit Go.Maps
attribute [local go_sem] Oper.semAt_some
set_option linter.unusedVariables false
set_option linter.unusedSimpArgs false
set_option maxRecDepth 100000 in
set_option maxHeartbeats 4000000 in
theorem keys1X_in (F : Fence) (n : Nat) (h10 : F.fn 70) (hro : F.round = none) (hn : 1 ≤ n) (l Bm b nn : Nat) (D0 : DataW Unit) (M : List B20) (hM : M.Nodup) (hD : ∀ x, Maps.has D0 (codeX x) = true ↔ x ∈ M) (J Jx : List B20 → World → Prop)
    (hY : ∀ pre x W, J pre W → pre.length < Maps.size D0 → YieldAt F (n - 1) Tryz.prog l #[encX x] W fun e W' =>
      (e = .returned (.bool true) ∧ J (pre ++ [x]) W' ∧ KeepsWalks W W') ∨ (e = .returned (.bool false) ∧ Jx (pre ++ [x]) W'))
    (W : World) (hJ : AbidesFrom W.heap.size J) (hm : W.cell? ⟨Bm, 0, none⟩ = some (.map (some b))) (hown : W.ownsMap Tryz.prog 24 anyElem b nn D0) (h0 : J [] W) :
    CallsIn F n Tryz.prog 70 #[.func (.yield l) #[] #[], .pointer (some ⟨Bm, 0, none⟩)] W fun e W' => (∃ v, e = .returned v) ∧
      ((∃ ss : List B20, ss.Perm M ∧ J ss W') ∨ (∃ pre : List B20, True ∧ Jx pre W')) := by
  obtain ⟨z, hz0, hzs, hzv, hzb, hz1⟩ := zId_any
  have IZ := Lib.hid (show ∀ x : B20, (Tryz.prog.info? 24).map (·.size) = some (arrD x.1).size from fun x => by rw [arrD_size x.1 x.2]; exact infoD_n)
  have ZS := Lib.hid hzs
  have hDD := Lib.hid hD
  clear hD hzs hz0 hzb hz1
  refine callsIn_of_wp Tryz.func70 rfl h10 ?_ hro
  simp only [Tryz.ntmps70, List.size_toArray, List.length_cons, List.length_nil, Nat.reduceAdd, Nat.reduceSub, Array.replicate_succ, Array.replicate_zero, List.push_toArray, List.append_toArray, List.nil_append, List.cons_append]
  gi_wp2_with (first
    | (gi_at_range; refine wpListIn_range_own _ rfl _ 64 rfl 24 78 idKeyed Tryz.underlying64 anyElem b nn _ rfl hown ?_; intro w0 hrg0 hg0 hs0)
    | gi_in)
  go_frame
  gi_loopw [3] (fun _ wr => ∃ (left : Lit → Bool) (cnt : Nat) (ss : List B20), wr.ranges Tryz.prog 24 anyElem b W.heap.size nn D0 left cnt ∧ ss.length + cnt ≤ Maps.size D0 ∧ CameX D0 left ss ∧ J ss wr)
    (fun _ wr => wr.rangeLeft b W.heap.size)
  case atStart =>
    exact ⟨_, _, [], hrg0, by simp, CameX.start D0, hJ [] W w0 none h0 hg0 (fun r e => by cases e)⟩
  case round =>
    obtain ⟨left, cnt, ss, hrg, hcs, hC, hJs⟩ := hrel
    gi_wp2_with (first
      | (gi_at_next; refine wpListIn_next_ranges _ rfl _ rfl 24 idKeyed anyElem encX id (fun key kl hk => key_inv hk) (fun v _ _ => ⟨v, rfl⟩) b W.heap.size nn _ _ _ rfl hrg ?_ ?_)
      | gi_in)
    · intro hc0 hl0
      gi_wp2
      go_end0
      exact ⟨⟨_, rfl⟩, .inl ⟨ss, hC.all hl0 hM hDD.out, hJs⟩⟩
    · intro xi xl c kl yd yp w2 cnt2 hkey hlk hv hat hrg2 hlt hg2 hs2 hen
      obtain ⟨x, hx⟩ : ∃ x : B20, (⟨xi, xl⟩ : B20) = x := ⟨_, rfl⟩
      rw [hx] at hkey hen ⊢
      clear hx xl xi hv yp
      obtain rfl : codeX x = kl := by
        have := code_is x
        rw [hkey] at this
        exact (Option.some.inj this).symm
      have hJ2 : J ss w2 := hJ ss wr w2 (some W.heap.size) hJs hg2 (fun r e => by cases e; exact ⟨Nat.le_refl _, hrg.iter_walk⟩)
      have hC2 := hC.step hlk hat
      have hw3 := heap_alloc_new w2 (.cells z 24)
      obtain ⟨A, hA⟩ : ∃ A, arrD x.1 = A := ⟨_, rfl⟩
      have hAx : encX x = .agg A := by unfold encX; rw [hA]
      have IA := Lib.hid (hA ▸ IZ.out x : (Tryz.prog.info? 24).map (·.size) = some A.size)
      have SA := Lib.hid (show A.size = z.size from by rw [← hA, arrD_size x.1 x.2, ZS.out])
      have OA := Lib.hid (show A.all (·.oneCell') = true from by rw [← hA]; exact arrD_one _)
      clear hs2
      rw [hAx] at hen ⊢
      gi_wp2_with (first
        | (with_reducible refine wpListIn_store_all rfl 24 (.tmp 3) (.tmp 9) rfl w2.heap.size A rfl rfl 24 z hw3 IA.out SA.out OA.out ?_; intro w4 r4 g4 s4
           have hg4 : w2.grownBy w4 none := (World.grownBy_alloc w2 _ none).andThen g4 (fun j e => .inl (Nat.le_of_eq (Option.some.inj e)))
           have hrg4 := (hrg2.alloc (.cells z 24)).kept g4 (fun e => by have h8 := hrg2.owns.lt; have h9 := Option.some.inj e; omega) (fun e => by have h8 := hrg2.lt; have h9 := Option.some.inj e; omega)
           have hJ4 : J ss w4 := hJ ss w2 w4 none hJ2 hg4 (fun r e => by cases e)
           obtain ⟨fn, tmps, assign, body, hy, hR⟩ := hY ss x w4 hJ4 (by omega)
           rw [hAx] at hy
           clear hg4 hJ4 s4 g4)
        | (with_reducible refine wpListIn_load_all rfl 24 (.tmp 3) rfl w2.heap.size A 24 (0, 0) rfl r4 _ Tryz.underlying24 rfl IA.out ?_)
        | fail)
      refine hR.mono ?_
      rintro e W3 (⟨rfl, hJ3, hk3⟩ | ⟨rfl, hJx3⟩)
      · gi_wp2
        have hrg3 := hrg4.of_walks hk3
        go_roundw
        case rel => exact ⟨_, cnt2, ss ++ [x], hrg3, by simp; omega, hC2, hJ3⟩
        case measure => rw [hrg3.left_eq, hrg.left_eq]; exact hlt
      · gi_wp2
        refine bodyPost_ret (results_none rfl _ _ _) rfl ?_
        exact ⟨⟨_, rfl⟩, .inr ⟨ss ++ [x], trivial, hJx3⟩⟩
set_option maxRecDepth 100000 in
set_option maxHeartbeats 4000000 in
/-- .. of a nil map: none. -/
theorem keys1X_nil (F : Fence) (n : Nat) (h10 : F.fn 70) (hro : F.round = none) (l Bm : Nat) (J : List B20 → World → Prop) (W : World) (hJ : AbidesFrom W.heap.size J)
    (hm : W.cell? ⟨Bm, 0, none⟩ = some (.map none)) (h0 : J [] W) :
    CallsIn F n Tryz.prog 70 #[.func (.yield l) #[] #[], .pointer (some ⟨Bm, 0, none⟩)] W fun e W' => (∃ v, e = .returned v) ∧ J [] W' := by
  refine callsIn_of_wp Tryz.func70 rfl h10 ?_ hro
  simp only [Tryz.ntmps70, List.size_toArray, List.length_cons, List.length_nil, Nat.reduceAdd, Nat.reduceSub, Array.replicate_succ, Array.replicate_zero, List.push_toArray, List.append_toArray, List.nil_append, List.cons_append]
  have hrg := run_range_nilMap (P := Tryz.prog) W 64 24 78 Tryz.underlying64
  have hnx : ∀ ty, (Instr.next (.pointer (some ⟨W.heap.size, 0, none⟩)) false ty).run Tryz.prog (W.alloc (.mapIter none 0 #[] 0)) = _ := fun ty => run_next_nilMap _ ty 0 0 #[]
  gi_wp2
  refine wpIn_loop_rounds 1 ?_
  rw [roundsIn_succ]
  gi_wp2
  go_end0
  exact ⟨⟨_, rfl⟩, hJ [] W _ none h0 (World.grownBy_alloc W _ none) (fun r e => by cases e)⟩
set_option maxHeartbeats 1000000 in
theorem keysX_in (F : Fence) (n : Nat) (h7 : F.fn 42) (hro : F.round = none) (mb : Option Nat) (w : World) :
    CallsIn F n Tryz.prog 42 #[.map mb] w fun e w' => e = .returned (.func (.func 70) #[] #[.pointer (some ⟨w.heap.size, 0, none⟩)]) ∧ w' = w.alloc (.cells #[.map mb] 64) := by
  refine callsIn_of_wp Tryz.func42 rfl h7 ?_ hro
  simp only [Tryz.ntmps42, List.size_toArray, List.length_cons, List.length_nil, Nat.reduceAdd, Nat.reduceSub, Array.replicate_succ, Array.replicate_zero, List.push_toArray, List.append_toArray, List.nil_append, List.cons_append]
  gi_wp2
  go_ret
  exact ⟨rfl, rfl⟩
end Go.Proofs.YtpelehhmdcjikaaGreatDoor

/-
  slices.SortedFunc over ids; the program's Ids.
-/
namespace Go.Proofs.YtpelehhmdcjikaaGreatDoor
open Go.RowKit Go.Maps Go.Sort
attribute [local go_sem] Oper.semAt_some
set_option linter.unusedVariables false
set_option linter.unusedSimpArgs false
set_option maxRecDepth 100000 in
set_option maxHeartbeats 4000000 in
theorem sortedX_in (n : Nat) (hn : 4 ≤ n) (g : Nat) (lb : Array Value) (eg : ∀ args w, (callFunc g args).run Tryz.prog w = .ok (.enter g args) w) (T : List B20) (hT : T.Pairwise (fun a b => a.1 < b.1)) (hm : T.length ≤ 1000000)
    (Sp : List B20 → Prop) (w : World) (hseq : SeqStops Fence.wide (n - 1 - 1 - 1) Tryz.prog g lb encX (fun ss => ss.Perm T) Sp T.length w) :
    CallsIn Fence.wide n Tryz.prog 41 #[.func (.func g) #[] lb, .func (.func 43) #[] #[]] w fun e w' => ∃ v, e = .returned v ∧ OwnD w.heap.size v (T.map Subtype.val) w' ∧ Below w.heap.size w w' := by
  have h1 : 1 ≤ n := by omega
  have f8 : Fence.wide.fn 68 := trivial
  have f9 : Fence.wide.fn 69 := trivial
  have ec : ∀ args w, (callFunc 43 args).run Tryz.prog w = .ok (.enter 43 args) w := enters_of Tryz.func43 (by kernel_rfl) rfl
  have cC := collectX_in Fence.wide (n - 1) trivial trivial rfl (by omega) g lb trivial eg (fun ss => ss.Perm T) Sp T.length hm w hseq (fun l hl => Nat.le_of_eq hl.length_eq)
  refine callsIn_of_wp Tryz.func41 rfl trivial ?_ rfl
  simp only [Tryz.ntmps41, List.size_toArray, List.length_cons, List.length_nil, Nat.reduceAdd, Nat.reduceSub, Array.replicate_succ, Array.replicate_zero, List.push_toArray, List.append_toArray, List.nil_append, List.cons_append]
  gi_wp2_with (first | (gi_at_call 68; refine cC.mono ?_; rintro e W ⟨v, ss, rfl, hS, hrow, hnil, hb⟩) | fail)
  have hlen := hS.length_eq
  rcases hrow.2 with ⟨rfl, hz⟩ | ⟨gb, cap, cur, rfl, hbase, hgb, r1, r2, r3, r4⟩
  · have hss : ss = [] := List.eq_nil_of_length_eq_zero hz
    subst hss
    obtain rfl : T = [] := List.eq_nil_of_length_eq_zero (by simpa using hlen.symm)
    have cS : Calls Tryz.prog 69 _ _ _ := AnyF.slices_SortFunc_none Tryz.sortX none 0 (.func (.func 43) #[] #[]) W
    gi_wp2_with (first | (gi_at_call 69; refine (callsIn_wide.2 cS).mono ?_; rintro e w' ⟨rfl, rfl⟩) | fail)
    go_ret
    exact ⟨_, rfl, by simpa [OwnD, flatX] using hrow, hb⟩
  · have hH := holdsX (g := gb) ss hgb r4
    have hgl : gb < W.heap.size := (Array.getElem?_eq_some_iff.1 hgb).1
    have hsz : ss.toArray.size < 4611686018427387904 := by simp; omega
    have cS : Calls Tryz.prog 69 _ _ _ := AnyQ.slices_SortFunc_total Tryz.sortX 20 isAggX sizeX (fun x : B20 => cellsD x.1) (fun x => cellsD_len _ x.2) (fun x v hv => (Array.all_eq_true_iff_forall_mem.1 (cellsD_one x.1)) v (by simpa using hv)) cfX swoX 43 #[] gb 0 cap ss.toArray W ec (cmpLaysX gb 0 _ W) hH hgl hsz apartX
    have e1 : ss.toArray.size = ss.length := by simp
    rw [e1] at cS
    have cS := Lib.hid cS
    gi_wp2_with (first | (gi_at_call 69; refine (callsIn_wide.2 cS.out).mono ?_; rintro e w' ⟨rfl, nn, os, rfl⟩) | fail)
    go_ret
    have e2 : (ss.toArray.toList.mergeSort fun x y => !(ltOf cfX) y x) = T := sortX_is hS hT
    have hl2 : (flatX T).length = ss.length * 20 := by rw [flatX_len, hlen]
    refine ⟨_, rfl, ?_, hb.grown (row := some gb) ?_ hb.size (fun j hj => by cases hj; exact hbase)⟩
    · unfold sortWorldK putRowK
      rw [e2, flatK_is]
      refine ⟨by rw [List.flatMap_map, List.length_map]; exact flatX_len T, .inr ⟨gb, cap, _, by simp [hlen], hbase, heap_sortX _ hgb, by simpa [← hlen] using r1, r2, by simp [putCells, r3], ?_⟩⟩
      rw [List.flatMap_map, List.length_map, ← flatX_len T]
      exact take_putX cur (flatX T) (by rw [flatX_len, r3, ← hlen]; exact Nat.mul_le_mul_right 20 r1)
    · unfold sortWorldK putRowK
      exact grownBy_sortX _
theorem B20_of : ∀ L : List Cel, (∀ x ∈ L, x.id.length = 20) → ∃ T : List B20, T.map Subtype.val = L.map Cel.id
  | [], _ => ⟨[], rfl⟩
  | c :: L, h => by
    obtain ⟨T, hT⟩ := B20_of L (fun x hx => h x (by simp [hx]))
    exact ⟨⟨c.id, h c (by simp)⟩ :: T, by simp [hT]⟩
theorem ownD_base {B B' : Nat} {v : Value} {l : List (List UInt8)} {w : World} (h : OwnD B v l w) (hb : B' ≤ B) : OwnD B' v l w := by
  refine ⟨h.1, ?_⟩
  rcases h.2 with hn | ⟨g, cap, cur, hv, hbg, rest⟩
  · exact .inl hn
  · exact .inr ⟨g, cap, cur, hv, Nat.le_trans hb hbg, rest⟩
set_option maxRecDepth 100000 in
set_option maxHeartbeats 4000000 in
/-- The ids of all objects, in their order. -/
theorem Ids_is {S : Nat → Prop} {w : World} {g : Nat} {M L : List Cel} (h : StoreP S w g M) (hp : M.Perm L) (hs : SrtS L) (hm : L.length ≤ 1000000) :
    Calls Tryz.prog 16 #[.pointer (some ⟨g, 0, none⟩)] w fun e w' => ∃ v, e = .returned v ∧ OwnD w.heap.size v (L.map Cel.id) w' ∧ Below w.heap.size w w' := by
  refine (callsIn_wide (n := 6)).1 ?_
  have hids := h.ids
  obtain ⟨hg, E, mb, hE, hblk, hent, hnone, hmap⟩ := h
  have hL : ∀ x ∈ L, x.id.length = 20 := fun x hx => (hids x (hp.mem_iff.2 hx)).1
  obtain ⟨T, hT⟩ : ∃ T : List B20, T.map Subtype.val = L.map Cel.id := B20_of L hL
  have hTl : T.length = L.length := by
    have := congrArg List.length hT
    simpa using this
  have hTs : T.Pairwise (fun a b => a.1 < b.1) := by
    have h1 : (T.map Subtype.val).Pairwise (fun a b => a < b) := by
      rw [hT, List.pairwise_map]
      exact hs
    exact List.pairwise_map.1 h1
  have hgc : w.cell? ⟨g, 0, none⟩ = some (.map mb) := by rw [Lib.cell_of_heap hblk]; rfl
  have eK : ∀ args w, (callFunc 70 args).run Tryz.prog w = .ok (.enter 70 args) w := enters_of Tryz.func70 (by kernel_rfl) rfl
  have hseq : SeqStops Fence.wide 2 Tryz.prog 70 #[.pointer (some ⟨w.heap.size, 0, none⟩)] encX (fun ss => ss.Perm T) (fun _ => True) T.length (w.alloc (.cells #[.map mb] 64)) := by
    intro l J Jx W hW hJ hJx hY h0
    have hmc : W.cell? ⟨w.heap.size, 0, none⟩ = some (.map mb) := (hW.cell (p := ⟨w.heap.size, 0, none⟩) (by simp)).trans (by rw [Lib.cell_of_heap (heap_alloc_new w _)]; rfl)
    cases mb with
    | none =>
      have hE0 := hnone rfl
      subst hE0
      subst hE
      obtain rfl : L = [] := by simpa using hp.symm
      obtain rfl : T = [] := List.eq_nil_of_length_eq_zero hTl
      refine (keys1X_nil Fence.wide 2 trivial rfl l w.heap.size J W hJ hmc h0).mono ?_
      rintro e W' ⟨he, hj⟩
      exact ⟨he, .inl ⟨[], List.Perm.refl _, hj⟩⟩
    | some b =>
      obtain ⟨hSb, hbg, hM⟩ := hmap b rfl
      obtain ⟨D, hown, hsz, hD⟩ := hM.owns idKeyed (celP_keys (fun e he => (hent e he).1))
      have hbW : W.heap[b]? = w.heap[b]? := (hW.block b (by have := hM.lt; simp; omega)).trans (Below.heap_alloc w _ b hM.lt)
      have hownW : W.ownsMap Tryz.prog 24 anyElem b (celP E).length D := by
        obtain ⟨es, clock, h1, h2⟩ := hown
        exact ⟨es, clock, hbW.trans h1, h2⟩
      have hlen : Maps.size D = T.length := by
        rw [hsz, hTl, ← hp.length_eq, ← hE]
        simp [celP]
      have hTn : T.Nodup := hTs.imp (fun {a b} h e => by rw [e] at h; exact List.lt_irrefl _ h)
      have hDT : ∀ x, Maps.has D (codeX x) = true ↔ x ∈ T := by
        intro x
        rw [hD (encX x) (codeX x) (code_is x)]
        have e1 : x ∈ T ↔ x.1 ∈ T.map Subtype.val := ⟨fun hx => List.mem_map.2 ⟨x, hx, rfl⟩, fun hx => by obtain ⟨y, hy, e⟩ := List.mem_map.1 hx; rw [← Subtype.ext e]; exact hy⟩
        rw [e1, hT, ← (hp.map Cel.id).mem_iff, ← hE]
        constructor
        · rintro ⟨m, hm, he⟩
          obtain ⟨e, hee, rfl⟩ := List.mem_map.1 hm
          exact List.mem_map.2 ⟨e.c, List.mem_map.2 ⟨e, hee, rfl⟩, arrD_inj (Value.agg.inj he)⟩
        · intro hx
          obtain ⟨c, hc, he⟩ := List.mem_map.1 hx
          obtain ⟨e, hee, rfl⟩ := List.mem_map.1 hc
          exact ⟨_, List.mem_map.2 ⟨e, hee, rfl⟩, by rw [he]; rfl⟩
      exact keys1X_in Fence.wide 2 trivial rfl (by omega) l w.heap.size b _ D T hTn hDT J Jx (by rw [hlen]; exact hY) W hJ hmc hownW h0
  have cK := fun mb W => keysX_in Fence.wide 5 trivial rfl mb W
  have cS := sortedX_in 5 (by omega) _ _ eK T hTs (by omega) _ _ hseq
  rw [hT] at cS
  have hfK : Fence.wide.fn 42 := trivial
  have hfS : Fence.wide.fn 41 := trivial
  refine callsIn_of_wp Tryz.func16 rfl trivial ?_ rfl
  simp only [Tryz.ntmps16, List.size_toArray, List.length_cons, List.length_nil, Nat.reduceAdd, Nat.reduceSub, Array.replicate_succ, Array.replicate_zero, List.push_toArray, List.append_toArray, List.nil_append, List.cons_append]
  have cS := Lib.hid cS
  clear hids hL hp hs hnone hmap hent hE hblk
  gi_wp2_with (first
    | (gi_at_call 42; refine (cK _ _).mono ?_; rintro e w' ⟨rfl, rfl⟩)
    | (gi_at_call 41; refine cS.out.mono ?_; rintro e w' ⟨v, rfl, hv, hb⟩))
  go_ret
  have hb0 : Below w.heap.size w (w.alloc (.cells #[.map mb] 64)) := (Below.refl _ w).alloc (Nat.le_refl _) _
  exact ⟨v, rfl, ownD_base hv hb0.size, hb0.trans (hb.mono hb0.size)⟩
end Go.Proofs.YtpelehhmdcjikaaGreatDoor

/-
  Layer 10, the program: Get and Blob.
-/
namespace Go.Proofs.YtpelehhmdcjikaaGreatDoor
set_option maxRecDepth 20000
open Go.RowKit
set_option linter.unusedVariables false
set_option linter.unusedSimpArgs false
theorem bodies_le {M : List Cel} {i : List UInt8} {k : Int} (h : ∀ c, getM M i = some c → c.body.length ≤ 65536) : (ofS (getM M i) k).1.length ≤ 65536 := by
  unfold ofS
  cases e : getM M i with
  | none => exact Nat.zero_le _
  | some c =>
    by_cases hk : c.kind = k
    · simp only [if_pos hk]; exact h c e
    · simp only [if_neg hk]; exact Nat.zero_le _
set_option maxHeartbeats 16000000 in
theorem BlobP_is {S : Nat → Prop} {w : World} {g : Nat} {M : List Cel} (h : StoreP S w g M) (i : List UInt8) (hi : i.length = 20) (hb : ∀ c, getM M i = some c → c.body.length ≤ 65536) :
    Calls Tryz.prog 21 #[.pointer (some ⟨g, 0, none⟩), .agg (arrD i)] w fun e w' => ∃ v, e = .returned (.tuple #[v, .int .i64 (ofS (getM M i) 1).2]) ∧ Row w' v (ofS (getM M i) 1).1 ∧ (∀ g, foot v = some g → w.heap.size ≤ g) ∧ Below w.heap.size w w' := by
  obtain ⟨A1, hA1⟩ : ∃ A, arrD i = A := ⟨_, rfl⟩
  have sA : A1.size = 20 := by rw [← hA1]; exact arrD_size i hi
  have H1 := Lib.hid (heap_alloc_new w (.cells A1 24)); have B1 := Lib.hid ((Below.refl w.heap.size w).alloc (Nat.le_refl _) (.cells A1 24))
  have IA := Lib.hid (show (Tryz.prog.info? 24).map (·.size) = some A1.size from by rw [sA]; exact infoD_n)
  have CO := Lib.hid (fun u (hu : Below w.heap.size w u) => bodyP_is (h.below hu) i hi 1)
  have OL := Lib.hid (bodies_le (k := 1) hb)
  rw [hA1] at CO ⊢
  obtain ⟨r, hr⟩ : ∃ r, ofS (getM M i) 1 = r := ⟨_, rfl⟩
  rw [hr] at CO OL ⊢
  obtain ⟨bs, er⟩ := r
  simp only at CO OL ⊢
  clear h sA hr hb
  go_enter Tryz.func21, Tryz.ntmps21
  go_wp2_with (first
    | (with_reducible refine wpList_load_all 24 (.tmp 3) rfl (by kernel_rfl) w.heap.size A1 24 (0, 0) rfl H1.out _ Tryz.underlying24 rfl IA.out ?_)
    | fail)
  refine (CO.out _ B1.out).mono ?_
  rintro e w3 ⟨v, rfl, ⟨va, vc, rfl, hba, hno, hvc, -, -⟩, hb3⟩
  have HB3 := Lib.hid (B1.out.trans (hb3.mono B1.out.size))
  have CC := Lib.hid (bClone_any bs w3 va bs.length vc hba rfl hno (Nat.le_trans OL.out (by omega)))
  clear hb3 CO hba hvc hno
  obtain ⟨n, hn⟩ : ∃ n, bs.length = n := ⟨_, rfl⟩
  rw [hn] at CC
  rw [hn]
  go_wp2_with fail
  refine CC.out.mono ?_
  rintro e w4 ⟨v', rfl, hr4, hf4, hb4⟩
  have F := Lib.hid (And.intro hr4 (And.intro (fun g hg => Nat.le_trans HB3.out.size (hf4 g hg)) (HB3.out.trans (hb4.mono HB3.out.size))))
  clear hr4 hf4 hb4 CC
  go_wp2
  go_ret2
  exact ⟨_, rfl, F.out⟩
end Go.Proofs.YtpelehhmdcjikaaGreatDoor

/-
  Layer 10: what a program that does nothing does not answer.
-/
namespace Go.Proofs.YtpelehhmdcjikaaGreatDoor
set_option maxRecDepth 20000
open Go.RowKit
set_option linter.unusedVariables false
set_option linter.unusedSimpArgs false
theorem bat1 (w : World) (x : UInt8) (fr : Nat × Nat) : BAt (w.alloc (.cells #[.int .u8 x.toNat] 5 fr)) (some ⟨w.heap.size, 0, none⟩) [x] := fun _ =>
  ⟨w.heap.size, 0, rfl, by simp, fun i hi => by
    rw [Lib.cell_of_heap (heap_alloc_new w _)]
    match i, hi with
    | 0, _ => rfl⟩
theorem print_a : (printO 1 [97]).2 = 0 := by decide +kernel
theorem putM_a : putM [] 1 [97] = ([⟨sumO 1 [97], 1, [97]⟩], sumO 1 [97], 0) := by
  unfold putM
  rw [if_pos print_a]
  rfl
set_option maxHeartbeats 16000000 in
theorem awake10 (w : World) (tab : Tab w) : Calls Tryz.prog 7 #[] w fun e w' => e = .returned (.bool true) ∧ Below w.heap.size w w' := by
  have kc := Lib.run_convert_bytes_const (P := Tryz.prog) (w.alloc (.cells #[.map none] 66)) 32 5 #[Value.int .u8 97] 1 1 Tryz.underlying32 Tryz.underlying5
  rw [show (#[Value.int .u8 97] : Array Value).size = 1 from rfl] at kc
  have hs0 : (w.alloc (.cells #[.map none] 66)).heap.size = w.heap.size + 1 := by simp
  rw [hs0] at kc
  obtain ⟨z, hz0, hzs, hzv, hzb, hz1⟩ := zId_any
  have CN := Lib.hid (new_is w)
  have b0 := (Below.refl w.heap.size w).alloc (Nat.le_refl _) (.cells #[.map none] 66)
  have s0 := StoreP.new (fun j => j = w.heap.size) w rfl
  go_enter Tryz.func7, Tryz.ntmps7
  go_wp2_with (first
    | (go_at_call 6; refine CN.out.mono ?_; rintro e w1 ⟨rfl, rfl⟩)
    | fail)
  obtain ⟨w1, hw1⟩ : ∃ w1, w.alloc (.cells #[.map none] 66) = w1 := ⟨_, rfl⟩
  rw [hw1] at b0 s0 hs0 ⊢
  rw [← hs0]
  obtain ⟨w2, hw2⟩ : ∃ w2, w1.alloc (.cells #[.int .u8 97] 5 (1, 2)) = w2 := ⟨_, rfl⟩
  have ba : BAt w2 (some ⟨w1.heap.size, 0, none⟩) [97] := by rw [← hw2]; exact bat1 w1 97 (1, 2)
  have b12 : Below w1.heap.size w1 w2 := by rw [← hw2]; exact (Below.refl _ _).alloc (Nat.le_refl _) _
  have B2 := b0.trans (b12.mono b0.size)
  have rd : Red w2 (.slice (some ⟨w1.heap.size, 0, none⟩) 1 1) [97] := by
    refine ⟨some ⟨w1.heap.size, 0, none⟩, 1, rfl, ba, ?_, ?_, ?_⟩
    · intro h
      cases h
    · exact Nat.le_refl 1
    · simp [maxLen]
  have CP := PutP_is (s0.below b12) 1 (.slice (some ⟨w1.heap.size, 0, none⟩) 1 1) [97] rd (tab.keep B2) (by simp)
  rw [putM_a] at CP
  have CP := Lib.hid CP; have HB2 := Lib.hid B2
  rw [hw2]
  clear rd s0 ba b12 B2 b0 kc hw2 hw1 CN
  refine CP.out.mono ?_
  rintro e w3 ⟨rfl, hS3, hC3⟩
  have HB3 := Lib.hid (HB2.out.trans (hC3.below HB2.out.size (fun j _ hj => Nat.le_of_eq hj.symm)))
  have sl := sumO_len print_a
  obtain ⟨I, hI⟩ : ∃ I, arrD (sumO 1 [97]) = I := ⟨_, rfl⟩
  have IS := Lib.hid (show I.size = 20 by rw [← hI]; exact arrD_size _ sl)
  have IO := Lib.hid (show I.all (·.oneCell') = true by rw [← hI]; exact arrD_one _)
  have II := Lib.hid (show (Tryz.prog.info? 24).map (·.size) = some I.size from by rw [IS.out]; exact infoD_n)
  have hgm : getM [⟨sumO 1 [97], 1, [97]⟩] (sumO 1 [97]) = some ⟨sumO 1 [97], 1, [97]⟩ := by simp [getM]
  have CBl := fun u (hu : Below w3.heap.size w3 u) => BlobP_is (hS3.below hu) (sumO 1 [97]) sl (fun c hc => by rw [hgm] at hc; cases hc; decide)
  rw [hgm, hI] at CBl
  have CBl := Lib.hid CBl
  have CId := Lib.hid (fun u (hu : Below w3.heap.size w3 u) => Ids_is (hS3.below hu) (List.Perm.refl _) (List.pairwise_singleton _ _) (by simp))
  have SL := Lib.hid sl; have ZS := Lib.hid hzs
  simp only
  rw [hI]
  clear hS3 hC3 CP hgm hI hz0 hzs hzb hz1 sl
  go_wp2_with (first
    | (with_reducible refine wpList_store_all rfl 24 (.tmp 2) (.tmp 15) rfl w3.heap.size I rfl rfl 24 z (heap_alloc_new w3 _) II.out (IS.out.trans ZS.out.symm) IO.out ?_)
    | fail)
  intro w4 r4 off4 sz4
  have b34 : Below w3.heap.size w3 w4 := ((Below.refl w3.heap.size w3).alloc (Nat.le_refl _) (.cells z 24)).trans (off4.below (Nat.le_refl _) (by simp))
  have HB34 := Lib.hid b34
  have R4 := Lib.hid r4
  clear b34 r4 off4 sz4
  go_wp2_with (first
    | (with_reducible refine wpList_load_all 24 (.tmp 2) rfl (by kernel_rfl) w3.heap.size I 24 (0, 0) rfl R4.out _ Tryz.underlying24 rfl II.out ?_)
    | fail)
  refine (CBl.out _ HB34.out).mono ?_
  rintro e w5 ⟨v5, rfl, hr5, -, hb5⟩
  obtain ⟨va, vc, e5, -, -, hba5, -⟩ := hr5.shape
  rw [show (ofS (some ⟨sumO 1 [97], 1, [97]⟩) 1).1 = [97] from rfl] at e5 hba5
  rw [show ([97] : List UInt8).length = 1 from rfl] at e5
  subst e5
  have cv := hba5.conv (P := Tryz.prog) vc 32 5 Tryz.underlying32 Tryz.underlying5 9 Tryz.underlying9
  rw [show ([97] : List UInt8).length = 1 from rfl] at cv
  have HB35 := Lib.hid (HB34.out.trans (hb5.mono HB34.out.size))
  clear hr5 hb5 hba5 CBl
  go_wp2_with fail
  refine (CId.out _ HB35.out).mono ?_
  rintro e w6 ⟨v6, rfl, ho6, hb6⟩
  obtain ⟨a6, c6, e6, -⟩ := ownD_ids ho6 (fun i hi => by simp at hi; rw [hi]; exact SL.out)
  rw [show (List.map Cel.id [⟨sumO 1 [97], 1, [97]⟩]).length = 1 from rfl] at e6
  subst e6
  have HB6 := Lib.hid (HB3.out.trans ((HB35.out.trans (hb6.mono HB35.out.size)).mono HB3.out.size))
  clear ho6 hb6 cv CId
  go_wp2
  go_ret
  exact ⟨rfl, HB6.out⟩
end Go.Proofs.YtpelehhmdcjikaaGreatDoor
