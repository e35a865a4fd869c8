/-
  Texts that belong together, one behind the other.
-/
import Derived.Test.YtalmoaofodjehaaDoorRows
import Derived.Test.YtalmoaofodjehaaDoorFu10
import Derived.Test.YtalmoaofodjehaaDoorShelf
import Derived.Test.YtalmoaofodjehaaDoorFu19
import Derived.ProofKit
import Derived.OpenShut
import Derived.ShutString
import Derived.Below
import Derived.Lay
import Derived.LaidSub
import Derived.SevenTiedAt
import Derived.Deep.DeepHandedRow
import Derived.Lib.LaidTab
import Derived.Test.YtalmoaofodjehaaDoorFu02
import Derived.Deep.Slices
import Derived.Deep.Strs
import Derived.Test.YtalmoaofodjehaaDoorFu04
import Derived.Deep.MidRow
import Derived.Test.YtalmoaofodjehaaDoorFu12
/-
  What the frames of layers that call quote share: the tables, from what the row lists and from the world's shape.
-/
namespace Go.Proofs.YtalmoaofodjehaaDoor
open Go.ChangeShapes Go.WideShapes Go.ChangeAt Go.RowKit Go.Lib
open Go.ChangeMaps (open_string shut_string)
set_option linter.unusedVariables false

theorem own : ownKnob Tryd.prog.godebug = none := by kernel_rfl
theorem acc_data : Rows.laid_unicode_utf8_acceptRanges (H := Unit) = acceptData := by kernel_rfl
theorem first_data : Rows.laid_unicode_utf8_first = firstData := Pinned.utf8First_eq
def foldZ : List Int := match Rows.laid_unicode_asciiFold (H := Unit) with
  | .agg ds => ds.map fun d => match d with | .lit (.int _ z) => z | _ => 0
  | _ => []
theorem fold_data : Rows.laid_unicode_asciiFold (H := Unit) = tabData .u16 foldZ := by kernel_rfl
theorem tab_of {W : World} {l : List (String × DataW Unit)} (h : laidMetH Tryd.prog l W) (hS : W.ShapedOpen Tryd.prog)
    (h1 : ("unicode/utf8.first", Rows.laid_unicode_utf8_first) ∈ l.filter fun a => a.2.handleName?.isNone)
    (h2 : ("unicode/utf8.acceptRanges", Rows.laid_unicode_utf8_acceptRanges) ∈ l.filter fun a => a.2.handleName?.isNone)
    (h3 : ("unicode.asciiFold", Rows.laid_unicode_asciiFold) ∈ l.filter fun a => a.2.handleName?.isNone) : QTab W := by
  have h0 := (laidMetH_iff.1 h).1
  have r1 := Lib.laidMet.reads h0 h1
  have r2 := Lib.laidMet.reads h0 h2
  have r3 := Lib.laidMet.reads h0 h3
  rw [first_data] at r1
  rw [acc_data] at r2
  rw [fold_data] at r3
  exact ⟨tabs_of W r1 r2, fold_of W foldZ r3 (by kernel_rfl) (by kernel_rfl) (by kernel_rfl) (by kernel_rfl) (by kernel_rfl) (by kernel_rfl) (by kernel_rfl), Tryd.laysM146.s1_3 W hS⟩
theorem len_of_str {l : List UInt8} (h : (⟨l.toArray⟩ : ByteArray).size ≤ maxLen) : l.length ≤ maxLen := by rwa [size_toArray] at h
theorem bd_i64 {n : Int} (h : (Lit.int .i64 n).wf = true) : -9223372036854775808 ≤ n ∧ n ≤ 9223372036854775807 := by
  have e1 : IntKind.i64.min = -9223372036854775808 := rfl
  have e2 : IntKind.i64.max = 9223372036854775807 := rfl
  simpa [Lit.wf, e1, e2] using h
theorem bd_u8 {n : Int} (h : (Lit.int .u8 n).wf = true) : 0 ≤ n ∧ n ≤ 255 := by
  have e1 : IntKind.u8.min = 0 := rfl
  have e2 : IntKind.u8.max = 255 := rfl
  simpa [Lit.wf, e1, e2] using h
end Go.Proofs.YtalmoaofodjehaaDoor

/-
  An item that came in by value, and a slice of items, opened.
-/
namespace Go.Proofs.YtalmoaofodjehaaDoor
open Go.ChangeShapes Go.WideShapes Go.ChangeAt Go.RowKit Go.Deep
set_option linter.unusedVariables false
set_option maxRecDepth 100000

def byteO : Value → UInt8
  | .int _ z => UInt8.ofNat z.toNat
  | _ => 0
theorem spot_noneI {W : World} {a : Addr} {v : Value} (h : W.cell? a = some v) : ∃ b o, a = ⟨b, o, none⟩ := by
  obtain ⟨b, o, s⟩ := a
  have := World.cell?_spot h
  exact ⟨b, o, by simpa using this⟩
theorem bytes_of_cells {H : Type} {enc : TypeId × Value → H} {W : World} {base fuel : Nat} {cs : List Value} {x : DataW H × List MemPlace} (hl : cs.length = 20) (h : DataW.trod enc Tryd.prog W base (fun _ => true) true fuel 28 cs = some x) :
    cs = Lib.byteCells (cs.map byteO) := by
  have hu : Tryd.prog.underlying 28 = some (.array 20 5) := Tryd.underlying28
  obtain ⟨xs, m, _, _, _, hxl, hel⟩ := DataW.trod_array hu h
  have c5 : Tryd.prog.cellsOf 5 = 1 := by kernel_rfl
  apply List.ext_getElem
  · simp [Lib.byteCells]
  · intro i h1 h2
    have hi : i < 20 := by omega
    have e := hel i hi
    rw [c5] at e
    have e2 : (cs.drop (i * 1)).take 1 = [cs[i]] := by
      rw [Nat.mul_one, List.drop_eq_getElem_cons h1]; rfl
    rw [e2, List.getElem?_eq_getElem (by omega)] at e
    obtain ⟨z, hz, _, hw⟩ := DataW.trod_int Tryd.underlying5 e
    have hz2 : cs[i] = .int .u8 z := by simpa using hz
    have hb := bd_u8 hw
    simp only [Lib.byteCells, List.map_map, List.getElem_map, Function.comp, hz2, byteO]
    congr 1
    rw [UInt8.toNat_ofNat']
    omega
theorem item_of_cells {H : Type} {enc : TypeId × Value → H} {W : World} {base fuel : Nat} {cs : List Value} {x : DataW H × List MemPlace} (h : DataW.trod enc Tryd.prog W base (fun _ => true) true fuel 30 cs = some x) :
    ∃ i : Itm, cs = cellsI i ∧ i.id.length = 20 ∧ i.name.length ≤ maxLen := by
  obtain ⟨y0, y1, y2, n, _, hlen, t0, t1, t2⟩ := trod_struct3 Tryd.underlying30 h
  have c22 : Tryd.prog.cellsOf 30 = 22 := by kernel_rfl
  have c3 : Tryd.prog.cellsOf 3 = 1 := by kernel_rfl
  have c9 : Tryd.prog.cellsOf 9 = 1 := by kernel_rfl
  have c28 : Tryd.prog.cellsOf 28 = 20 := by kernel_rfl
  rw [c22] at hlen
  match cs, hlen with
  | v0 :: v1 :: ds, hlen =>
    have hd : ds.length = 20 := by simpa using hlen
    obtain ⟨z0, e0, _, _⟩ := DataW.trod_int Tryd.underlying3 t0
    obtain ⟨s1, e1, _, w1⟩ := DataW.trod_string Tryd.underlying9 t1
    have e0' : v0 = .int .i64 z0 := by simpa [c3] using e0
    have e1' : v1 = .string s1 := by simpa [c9] using e1
    have t2' : DataW.trod enc Tryd.prog W base (fun _ => true) true n 28 ds = some y2 := by
      have e : (List.drop 2 (v0 :: v1 :: ds)).take (Tryd.prog.cellsOf 28) = ds := by rw [c28]; simp [List.take_of_length_le, hd]
      rw [← e]
      exact t2
    have e2 := bytes_of_cells hd t2'
    subst e0'; subst e1'
    refine ⟨⟨z0, s1.data.toList, ds.map byteO⟩, ?_, by simp [hd], ?_⟩
    · unfold cellsI
      rw [← e2]
    · show s1.data.toList.length ≤ maxLen
      rw [Array.length_toList]
      exact w1
theorem open_item {H : Type} {enc : TypeId × Value → H} {W : World} {b0 base : Nat} {v : Value} {d : DataW H} {p : List MemPlace} (hv : Value.okWide Tryd.prog W .any b0 30 v) (h : DataW.Trod enc Tryd.prog W base (fun _ => true) true 30 v d p) :
    ∃ i : Itm, v = .agg (cellsI i).toArray ∧ i.id.length = 20 ∧ i.name.length ≤ maxLen := by
  obtain ⟨cs, rfl, hsz⟩ := okWide_struct Tryd.underlying30 hv
  obtain ⟨fuel, hf⟩ := h
  obtain ⟨i, e, h1, h2⟩ := item_of_cells hf
  refine ⟨i, ?_, h1, h2⟩
  have e' : cs.toList = cellsI i := e
  rw [← e']
theorem open_items {H : Type} {enc : TypeId × Value → H} {W : World} {base : Nat} {a : Option Addr} {n c : Nat} {d : DataW H} {p : List MemPlace} (h : DataW.Trod enc Tryd.prog W base (fun _ => true) true 22 (.slice a n c) d p) :
    ∃ l : List Itm, n = l.length ∧ ItemsAt W a l ∧ (a = none → n = 0 ∧ c = 0) ∧ (n ≤ c ∧ c ≤ maxLen) ∧ (∀ i ∈ l, i.id.length = 20) ∧ ∀ i ∈ l, i.name.length ≤ maxLen := by
  obtain ⟨fuel, hf⟩ := h
  rcases open_slice Tryd.underlying22 hf with ⟨hcs, _⟩ | ⟨x, len, cap, m, q, D, Pl, hcs, hb, hl, hm, hmm, _, hx⟩
  · simp [Value.cells] at hcs
    obtain ⟨rfl, rfl, rfl⟩ := hcs
    exact ⟨[], rfl, ItemsAt.nil _ _, fun _ => ⟨rfl, rfl⟩, ⟨Nat.le_refl _, Nat.zero_le _⟩, fun i hi => (by cases hi), fun i hi => (by cases hi)⟩
  · simp [Value.cells] at hcs
    obtain ⟨rfl, rfl, rfl⟩ := hcs
    have hmc : m = c := by simpa using hmm
    have c22 : Tryd.prog.cellsOf 30 = 22 := by kernel_rfl
    rw [c22] at hx
    have each : ∀ r, r < n → ∃ i : Itm, (∀ j v, (cellsI i)[j]? = some v → W.cell? ((x.add (r * 22)).add j) = some v) ∧ i.id.length = 20 ∧ i.name.length ≤ maxLen := by
      intro r hr
      obtain ⟨cs', h1, h2⟩ := hx r (by omega)
      obtain ⟨_, hlen, hcell⟩ := World.cells?_some h1
      obtain ⟨i, rfl, k1, k2⟩ := item_of_cells h2
      refine ⟨i, fun j v hj => ?_, k1, k2⟩
      obtain ⟨hjl, hje⟩ := List.getElem?_eq_some_iff.1 hj
      have := hcell j (by rw [cellsI_len i k1] at hjl; exact hjl)
      rw [this, List.getElem?_eq_getElem hjl, hje]
    haveI : Inhabited Itm := ⟨⟨0, [], []⟩⟩
    obtain ⟨y, hy⟩ := choose_lt each
    refine ⟨(List.range n).map y, by simp, ?_, (fun h => by cases h), ⟨hl, hm⟩, ?_, ?_⟩
    · intro hp
      have hp2 : 0 < n := by simpa using hp
      obtain ⟨b, o, rfl⟩ : ∃ b o, x = ⟨b, o, none⟩ := by
        have := (hy 0 hp2).1 0 _ (cellsI_0 (y 0))
        rw [Nat.zero_mul, show (x.add 0).add 0 = x by unfold Addr.add; simp] at this
        exact spot_noneI this
      have add_eq : ∀ r s, ((⟨b, o, none⟩ : Addr).add r).add s = ⟨b, o + r + s, none⟩ := fun r s => by unfold Addr.add; split <;> split <;> simp_all
      have hlt : b < W.heap.size := by
        have := (hy 0 hp2).1 0 _ (cellsI_0 (y 0))
        rw [add_eq] at this
        exact lt_of_cell this
      refine ⟨b, o, rfl, hlt, fun k hk j v hv => ?_⟩
      have hk2 : k < n := by simpa using hk
      have e : ((List.range n).map y)[k] = y k := by simp
      rw [e] at hv
      have := (hy k hk2).1 j v hv
      rwa [add_eq] at this
    · intro i hi
      obtain ⟨k, hk, rfl⟩ := List.mem_map.1 hi
      exact (hy k (List.mem_range.1 hk)).2.1
    · intro i hi
      obtain ⟨k, hk, rfl⟩ := List.mem_map.1 hi
      exact (hy k (List.mem_range.1 hk)).2.2
end Go.Proofs.YtalmoaofodjehaaDoor

/-
  Rows of items in regions that draw their order: what one operation does.
-/
namespace Go.Proofs.YtalmoaofodjehaaDoor
set_option maxRecDepth 20000
open Go.RowKit
set_option linter.unusedVariables false
set_option linter.unusedSimpArgs false

theorem step_of {P : Program} {ops : Array Oper} {o : Oper} {a : Act} {w : World} {K : Act → World → Prop} {Q : Exit → Act → World → Prop} {E : Prop} (hgd : o.guard = none) (h : Oper.wp P o a w K Q) : if Region.wanted o (yielded ops a.tmps) = true then Oper.wp P o a w K Q else E := by
  have hw : Region.wanted o (yielded ops a.tmps) = true := by simp [Region.wanted, hgd]
  rw [if_pos hw]
  exact h
theorem wp_store_item {o : Oper} {a : Act} {w : World} {K : Act → World → Prop} {Q : Exit → Act → World → Prop} (x y : Operand) (ho : o.op = .store 30 x y)
    (B g c k off : Nat) (l : List Itm) (hid : ∀ i ∈ l, i.id.length = 20) (i : Itm) (cs : List Value) (hA : cs = cellsI i) (hoff : off = k * 22) (hx : a.eval x = .pointer (some ⟨g, off, none⟩)) (hy : a.eval y = .agg cs.toArray) (hk : k < l.length) (hi : i.id.length = 20) (hown : OwnI B (.slice (some ⟨g, 0, none⟩) l.length c) l w)
    (h : ∀ w', OwnI B (.slice (some ⟨g, 0, none⟩) l.length c) (l.set k i) w' → w.grownBy w' (some g) → K (a.put o.dst undef) w') : Oper.wp Tryd.prog o a w K Q := by
  subst hA; subst hoff
  have hcl := cellsI_len i hi
  have hmul : k * 22 + 22 ≤ l.length * 22 := by omega
  have hown2 := hown
  rcases hown.2 with ⟨h', _⟩ | ⟨g', cap', cur, h', hb', hg, hnc, hcm, hcs, htake⟩
  · simp at h'
  · simp only [Value.slice.injEq, Option.some.injEq, Addr.mk.injEq, and_true, true_and] at h'
    obtain ⟨rfl, rfl⟩ := h'
    have hc22 : l.length * 22 ≤ c * 22 := Nat.mul_le_mul_right 22 hnc
    have hst := run_storeCells_at Tryd.prog g (k * 22) 30 (cellsI i) 0 cur w hg (by rw [hcl, hcs]; omega) (fun v hv => (Array.all_eq_true_iff_forall_mem.1 (cellsI_one i)) v (by simpa using hv))
    obtain ⟨ie, hie, _, hsz, _⟩ := info_all
    unfold Oper.wp execOp
    simp only [ho, hx, hy, Instr.storeAt, Instr.sureAddr, Sem.run_bind, Sem.run_pure, Result.andThen_ok]
    have hrun : (storeVar 30 ⟨g, k * 22, none⟩ (.agg (cellsI i).toArray)).run Tryd.prog w = .ok () (w.setRow g (cur.toList.take (k * 22) ++ cellsI i ++ cur.toList.drop (k * 22 + 22)).toArray) := by
      simp only [Nat.add_zero] at hst
      rw [hcl] at hst
      simp [storeVar, sizeOf, typeInfo, hie, hsz, Value.cells, hcl, hst]
    rw [hrun]
    refine h _ ⟨?_, .inr ⟨g, c, _, by rw [List.length_set], hb', setRow_heap w g cur _ 30 (0, 0) hg, by rw [List.length_set]; exact hnc, hcm, ?_, ?_⟩⟩ (grown_setRow w g _)
    · rw [flat_cells_len _ (set_ids hid k hi)]
    · simp only [List.size_toArray, List.length_append, List.length_take, List.length_drop, hcl, Array.length_toList, hcs]
      omega
    · have hcur : c * 22 = cur.toList.length := by rw [Array.length_toList]; exact hcs.symm
      rw [← putI_flat l hid k hk i, List.length_set]
      unfold putI
      rw [← htake]
      exact take_put cur.toList (cellsI i) (k * 22) (k * 22 + 22) (l.length * 22) (by rw [hcl]) hmul (hcur ▸ hc22)
/-- 'append([]api.Item(nil), l...)'. -/
theorem wp_copy_items {o : Oper} {a : Act} {w : World} {K : Act → World → Prop} {Q : Exit → Act → World → Prop} (s x : Operand)
    (ho : o.op = .call { callee := .builtin .append, args := #[s, x], argTypes := #[22, 22] }) (B : Nat) (l : List Itm) (hid : ∀ i ∈ l, i.id.length = 20) (hs : a.eval s = .slice none 0 0) (b o' m c : Nat) (hm : m = l.length) (hx : a.eval x = .slice (some ⟨b, o', none⟩) m c)
    (hit : ItemsAt w (some ⟨b, o', none⟩) l) (hb : l.length ≤ 1000000) (hB : B ≤ w.heap.size)
    (h : ∀ v' w', OwnI B v' l w' → w.grownBy w' none → K (a.put o.dst v') w') : Oper.wp Tryd.prog o a w K Q := by
  subst hm
  obtain ⟨ie, hie, hz, hsz, hby⟩ := info_all
  refine wp_append_own w s x 22 ho B 30 ie (.agg (arrI zItm)) 22 48 Tryd.underlying22 hie hz hsz hby (arrI_size _ (by simp [zItm, zeroId])) (by decide) _ 0 [] hs (World.ownsRow_nil w B _ _) ⟨b, o', none⟩ l.length c (l.flatMap cellsI) hx (flat_cells_len l hid) (fun j u hj => hit.cells hid _ rfl j u hj) (flat_one l) (by unfold maxLen; omega) (by omega) hB ?_
  intro v' w' ho hgr _
  refine h v' w' ?_ hgr
  unfold OwnI
  simpa using ho
/-- 'append(l, x)'. -/
theorem wp_append_item {o : Oper} {a : Act} {w : World} {K : Act → World → Prop} {Q : Exit → Act → World → Prop} (sl x : Operand)
    (ho : o.op = .call { callee := .builtin .append, args := #[sl, x], argTypes := #[22, 22] }) (B : Nat) (v : Value) (l : List Itm) (i : Itm) (g : Nat) (hs : a.eval sl = v) (hx : a.eval x = .slice (some ⟨g, 0, none⟩) 1 1)
    (hg : w.heap[g]? = some (.cells (cellsI i).toArray 30 (0, 0))) (hid : i.id.length = 20) (hown : OwnI B v l w) (hb : l.length ≤ 1000000) (hB : B ≤ w.heap.size)
    (h : ∀ v' w', OwnI B v' (l ++ [i]) w' → w.grownBy w' v.ownBlock → K (a.put o.dst v') w') : Oper.wp Tryd.prog o a w K Q := by
  obtain ⟨ie, hie, hz, hsz, hby⟩ := info_all
  refine wp_append_own w sl x 22 ho B 30 ie (.agg (arrI zItm)) 22 48 Tryd.underlying22 hie hz hsz hby (arrI_size _ (by simp [zItm, zeroId])) (by decide) v l.length (l.flatMap cellsI) hs hown ⟨g, 0, none⟩ 1 1 (cellsI i) hx (by rw [cellsI_len i hid]) (fun j u hu => ?_) (fun u hu => (Array.all_eq_true_iff_forall_mem.1 (cellsI_one i)) u (by simpa using hu)) (by unfold maxLen; omega) (by omega) hB ?_
  · have := row_cells (i := i) hg j u hu
    rw [show (⟨g, 0, none⟩ : Addr).add j = ⟨g, 0 + j, none⟩ by unfold Addr.add; split <;> simp_all]
    exact this
  · intro v' w' ho hgr _
    refine h v' w' ?_ hgr
    unfold OwnI
    rw [List.length_append, List.flatMap_append]
    simpa using ho
/-- A literal of one item. -/
theorem wp_build_item {o : Oper} {a : Act} {w : World} {K : Act → World → Prop} {Q : Exit → Act → World → Prop} (x : Operand) (ho : o.op = .buildSlice 22 1 #[(0, x)])
    (A : Array Value) (hA : A.size = 22) (hx : a.eval x = .agg A)
    (h : K (a.put o.dst (.slice (some ⟨w.heap.size, 0, none⟩) 1 1)) (w.alloc (.cells A 30))) : Oper.wp Tryd.prog o a w K Q := by
  obtain ⟨ie, hie, hz, hs, _⟩ := info_all
  have hzs : (arrI zItm).size = 22 := arrI_size _ (by simp [zItm, zeroId])
  refine wp_buildSlice 22 30 1 _ ho A ie (.agg (arrI zItm)) Tryd.underlying22 hie hz (by rw [hs]; decide) (by rw [hs]; decide) ?_ h
  rw [hs]
  have e : (Array.map (fun (p : Nat × Operand) => (p.1, a.eval p.2)) #[(0, x)]).toList = [(0, .agg A)] := by simp [hx]
  rw [show (fun (p : Nat × Operand) => match p with | (i, x) => (i, a.eval x)) = (fun (p : Nat × Operand) => (p.1, a.eval p.2)) from rfl, e]
  exact fill_one A _ hA (by simp)
/-- A literal of three parts. -/
theorem wpList_build_three {P : Program} {ops : Array Oper} {rest : List Oper} {o : Oper} {a : Act} {w : World} {Q : Exit → Act → World → Prop} (hgd : o.guard = none) (t : TypeId) (k0 k1 k2 : Nat) (x0 x1 x2 : Operand) (ho : o.op = .build t #[(k0, x0), (k1, x1), (k2, x2)])
    (v0 v1 v2 : Value) (h0 : a.eval x0 = v0) (h1 : a.eval x1 = v1) (h2 : a.eval x2 = v2) (cells : Array Value) (hb : P.built t [(k0, v0), (k1, v1), (k2, v2)] = some cells)
    (h : wpList P ops Q rest (a.put o.dst (.agg cells)) w) : wpList P ops Q (o :: rest) a w :=
  wpList_build_as hgd t _ ho cells (by simp [h0, h1, h2, hb]) h
theorem own_some {B : Nat} {a : Option Addr} {m c : Nat} {l : List Itm} {w : World} (h : OwnI B (.slice a m c) l w) (hl : l.length ≠ 0) : ∃ g, a = some ⟨g, 0, none⟩ ∧ B ≤ g ∧ g < w.heap.size ∧ m = l.length := by
  rcases h.2 with ⟨_, h0⟩ | ⟨g, cap, cur, h', hb, hg, _⟩
  · exact absurd h0 hl
  · simp only [Value.slice.injEq] at h'
    exact ⟨g, h'.1, hb, lt_of_heap hg, h'.2.1⟩
theorem own_range {B g m c : Nat} {l : List Itm} {w : World} (h : OwnI B (.slice (some ⟨g, 0, none⟩) m c) l w) (hid : ∀ i ∈ l, i.id.length = 20) (k : Nat) (hk : k < l.length) (u : World) (hu : Below w.heap.size w u) : u.rangeAt g (k * 22) (cellsI (l[k])) := by
  obtain ⟨a', c', hv, _, _, hit, _⟩ := ownI_items h hid
  simp only [Value.slice.injEq] at hv
  obtain ⟨b, o, e, hlt, hc⟩ := hit (by omega)
  rw [← hv.1] at e
  cases e
  intro j v hj
  have h1 := hc k hk j v hj
  rw [show 0 + k * 22 + j = k * 22 + j by omega] at h1
  exact (hu.cell (p := ⟨g, k * 22 + j, none⟩) hlt).trans h1
theorem wpList_copy_items {ops : Array Oper} {rest : List Oper} {o : Oper} {a : Act} {w : World} {Q : Exit → Act → World → Prop} (hgd : o.guard = none) (s x : Operand)
    (ho : o.op = .call { callee := .builtin .append, args := #[s, x], argTypes := #[22, 22] }) (B : Nat) (l : List Itm) (hid : ∀ i ∈ l, i.id.length = 20) (hs : a.eval s = .slice none 0 0) (b o' m c : Nat) (hm : m = l.length) (hx : a.eval x = .slice (some ⟨b, o', none⟩) m c)
    (hit : ItemsAt w (some ⟨b, o', none⟩) l) (hb : l.length ≤ 1000000) (hB : B ≤ w.heap.size)
    (h : ∀ v' w', OwnI B v' l w' → w.grownBy w' none → wpList Tryd.prog ops Q rest (a.put o.dst v') w') : wpList Tryd.prog ops Q (o :: rest) a w :=
  wpList_plain hgd fun _ hK => wp_copy_items s x ho B l hid hs b o' m c hm hx hit hb hB (fun v' w' h1 h2 => hK _ _ (h v' w' h1 h2))
end Go.Proofs.YtalmoaofodjehaaDoor

/-
  Layer 8, the law TreeOrder, plain: items of seven names, put in order.
-/
namespace Go.Proofs.YtalmoaofodjehaaDoor
set_option linter.unusedVariables false
set_option linter.unusedSimpArgs false

/-- The seven names. -/
def tb (k : Nat) : List UInt8 := [[97], [97, 46, 98], [97, 45, 98], [97, 98], [98], [65], [97, 48]].getD k []
theorem tb_name (k : Nat) (h : k < 7) : nameI (tb k) = true := by
  have h0 : ∀ k, k < 7 → nameI (tb k) = true := by decide +kernel
  exact h0 k h
theorem tb_len (k : Nat) : (tb k).length ≤ 3 := by
  unfold tb
  match k with
  | 0 | 1 | 2 | 3 | 4 | 5 | 6 => decide
  | k + 7 => exact Nat.zero_le _
def idN (i : Nat) : List UInt8 := UInt8.ofNat (i + 1) :: List.replicate 19 0
theorem idN_len (i : Nat) : (idN i).length = 20 := rfl
theorem idN_nat (i : Nat) (h : i < 20) : (UInt8.ofNat (i + 1)).toNat = i + 1 := by rw [UInt8.toNat_ofNat']; omega
theorem idN_nz (i : Nat) (h : i < 20) : idN i ≠ zeroId := by
  intro e
  unfold idN zeroId at e
  rw [show (20 : Nat) = 19 + 1 from rfl, List.replicate_succ] at e
  have e1 := (List.cons.inj e).1
  have e2 := congrArg UInt8.toNat e1
  rw [idN_nat i h] at e2
  simp at e2
/-- What the items so far are. -/
structure Good (l : List Itm) : Prop where
  one : ∀ x ∈ l, oneI x = true
  ids : ∀ x ∈ l, x.id.length = 20
  names : (l.map Itm.name).Nodup
theorem Good.nil : Good [] := ⟨fun x h => (by cases h), fun x h => (by cases h), List.nodup_nil⟩
def seenL (l : List Itm) (s : List UInt8) : Bool := l.any (fun x => x.name == s)
theorem Good.add {l : List Itm} (h : Good l) {k i : Nat} {m : Int} (hk : k < 7) (hi : i < 20) (hm : m = 1 ∨ m = 4) (hs : seenL l (tb k) = false) : Good (l ++ [⟨m, tb k, idN i⟩]) := by
  have h1 : oneI ⟨m, tb k, idN i⟩ = true := by
    unfold oneI
    rw [tb_name k hk, Bool.true_and, show ((idN i == zeroId) = false) from beq_false_of_ne (idN_nz i hi)]
    rcases hm with rfl | rfl <;> rfl
  refine ⟨fun x hx => ?_, fun x hx => ?_, ?_⟩
  · rcases List.mem_append.1 hx with hx | hx
    · exact h.one x hx
    · rw [List.mem_singleton.1 hx]; exact h1
  · rcases List.mem_append.1 hx with hx | hx
    · exact h.ids x hx
    · rw [List.mem_singleton.1 hx]; rfl
  · rw [List.map_append, List.nodup_append]
    refine ⟨h.names, by simp, fun a ha b hb e => ?_⟩
    obtain ⟨x, hx, rfl⟩ := List.mem_map.1 ha
    have hb2 : b = tb k := by simpa using hb
    unfold seenL at hs
    rw [List.any_eq_false] at hs
    exact hs x hx (by rw [e, hb2]; simp)
theorem Good.perm {l m : List Itm} (h : Good l) (p : m.Perm l) : Good m :=
  ⟨fun x hx => h.one x (p.mem_iff.1 hx), fun x hx => h.ids x (p.mem_iff.1 hx), ((p.map Itm.name).nodup_iff).2 h.names⟩
theorem Good.short {l : List Itm} (h : Good l) : ∀ x ∈ l, x.name.length ≤ 1000000 := fun x hx => Nat.le_trans (one_parts (h.one x hx)).1 (by decide)
theorem Good.right {l : List Itm} (h : Good l) (h1 : 1 ≤ l.length) (h5 : l.length ≤ 500) (hs : Srt l) : rightI l = true := right_of_srt h1 h5 h.one h.names hs
theorem seen_next (l : List Itm) (s : List UInt8) (j : Nat) (h : j < l.length) : seenL (l.take (j + 1)) s = (seenL (l.take j) s || (l[j].name == s)) := by
  unfold seenL
  rw [List.take_add_one, List.getElem?_eq_getElem h, List.any_append]
  simp
theorem printT_turned {l : List Itm} (h : 0 < l.length) (hr : rightI l = false) : printT l = ([], 11) := printT_bad h hr
end Go.Proofs.YtalmoaofodjehaaDoor
