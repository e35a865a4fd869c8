/-
  Texts that belong together, one behind the other.
-/
import Derived.Test.YtnbcbiglkmdepaaGreatDoorFu17
import Derived.Test.YtnbcbiglkmdepaaGreatDoorFu14
import Derived.Test.YtnbcbiglkmdepaaGreatDoorFu02
import Derived.Deep.Slices
import Derived.Deep.Strs
import Derived.Lib.SmallJoins
import Derived.Test.YtnbcbiglkmdepaaGreatDoorFu09
import Derived.Test.YtnbcbiglkmdepaaGreatDoorFu07
import Derived.Test.YtnbcbiglkmdepaaGreatDoorFu01
import Derived.Test.YtnbcbiglkmdepaaGreatDoorFu10
import Derived.Test.YtnbcbiglkmdepaaGreatDoorFu03
import Derived.Laws.OwnMore
import Derived.Laws.CopyOwn
import Derived.IntWalk
import Derived.WalkSmall
import Derived.OwnWalk
import Derived.Deep.MidRow
import Derived.Deep.QuietTactic
import Derived.BigQuiet
set_option maxHeartbeats 64000000
set_option linter.unusedVariables false
set_option linter.unusedSimpArgs false
open Go.Lib renaming hid → hyd
namespace Go.Proofs.YtnbcbiglkmdepaaGreatDoor
open Go.ChangeShapes Go.WideShapes Go.ChangeAt Go.RowKit Go.Lib Go.Joins
open Go.ChangeMaps (open_string shut_string)
theorem place_data : Rows.laid_trestle_ident_zonePlaces (H := Unit) = Lib.tabData .i64 [600, 60, 10, 1] := by kernel_rfl
theorem places_of (w : World) (h : VarReads Tryz.prog w "trestle/ident.zonePlaces" (tabData .i64 [600, 60, 10, 1])) : ZTab w := by
 obtain ⟨g, t, cs, fuel, p, hg, hty, hvar, hd⟩ := h; obtain rfl := Option.some.inj ((show Tryz.prog.globalNamed "trestle/ident.zonePlaces" = some 6 by kernel_rfl).symm.trans hg); obtain rfl := Option.some.inj ((show (Tryz.prog.globals[6]?).map (·.type) = some 265 by kernel_rfl).symm.trans hty); have hcs := cells_of_tab Tryz.underlying265 Tryz.underlying3 (by kernel_rfl) (by kernel_rfl) hd
 have key0 : w.cell? ⟨6, 0, none⟩ = some (.int .i64 600) := by rw [World.var?_cell hg hvar 0, ← Array.getElem?_toList, hcs]; rfl
 have key1 : w.cell? ⟨6, 1, none⟩ = some (.int .i64 60) := by rw [World.var?_cell hg hvar 1, ← Array.getElem?_toList, hcs]; rfl
 have key2 : w.cell? ⟨6, 2, none⟩ = some (.int .i64 10) := by rw [World.var?_cell hg hvar 2, ← Array.getElem?_toList, hcs]; rfl
 have key3 : w.cell? ⟨6, 3, none⟩ = some (.int .i64 1) := by rw [World.var?_cell hg hvar 3, ← Array.getElem?_toList, hcs]; rfl
 refine ⟨lt_of_cell (a := ⟨6, 0, none⟩) key0, fun k hk => ?_⟩
 obtain rfl | rfl | rfl | rfl : k = 0 ∨ k = 1 ∨ k = 2 ∨ k = 3 := by omega
 ·exact key0
 ·exact key1
 ·exact key2
 ·exact key3
theorem t7_of {W : World} {l : List (String × DataW Unit)} (h : laidMetH Tryz.prog l W) (hS : W.ShapedOpen Tryz.prog)
  (hl : (l.filter fun x => x.1 == "internal/strconv.uint64pow10") = [("internal/strconv.uint64pow10", Rows.laid_internal_strconv_uint64pow10)])
  (h1 : ("unicode/utf8.first", Rows.laid_unicode_utf8_first) ∈ l.filter fun a => a.2.handleName?.isNone)
  (h2 : ("unicode/utf8.acceptRanges", Rows.laid_unicode_utf8_acceptRanges) ∈ l.filter fun a => a.2.handleName?.isNone)
  (h3 : ("trestle/ident.zonePlaces", Rows.laid_trestle_ident_zonePlaces) ∈ l.filter fun a => a.2.handleName?.isNone) : T7 W := by
 have r3 := Lib.laidMet.reads (laidMetH_iff.1 h).1 h3; rw [place_data] at r3; exact ⟨t6_of h hl h1 h2, places_of W r3, Tryz.laysM145.s1_3 W hS⟩
end Go.Proofs.YtnbcbiglkmdepaaGreatDoor
namespace Go.Proofs.YtnbcbiglkmdepaaGreatDoor
open Go.ChangeShapes Go.WideShapes Go.ChangeAt Go.RowKit Go.Deep
set_option maxRecDepth 100000
theorem bd_i64D {n : Int} (h : (Lit.int .i64 n).wf = true) : -9223372036854775808 ≤ n ∧ n ≤ 9223372036854775807 := by
 have e1 : IntKind.i64.min = -9223372036854775808 := rfl; have e2 : IntKind.i64.max = 9223372036854775807 := rfl
 simpa [Lit.wf, e1, e2] using h
def byteD : Value → UInt8
 | .int _ z => UInt8.ofNat z.toNat
 | _ => 0
theorem spot_noneD {W : World} {a : Addr} {v : Value} (h : W.cell? a = some v) : ∃ b o, a = ⟨b, o, none⟩ := by
 obtain ⟨b, o, s⟩ := a; have := World.cell?_spot h; exact ⟨b, o, by simpa using this⟩
theorem id_of_cells {H : Type} {enc : TypeId × Value → H} {W : World} {base fuel : Nat} {cs : List Value} {x : DataW H × List MemPlace} (hl : cs.length = 20) (h : DataW.trod enc Tryz.prog W base (fun _ => true) true fuel 24 cs = some x) :
  ∃ i : List UInt8, cs = cellsD i ∧ i.length = 20 := by
 refine ⟨cs.map byteD, ?_, by simp [hl]⟩; unfold cellsD; have hu : Tryz.prog.underlying 24 = some (.array 20 5) := Tryz.underlying24; obtain ⟨xs, m, _, _, _, hxl, hel⟩ := DataW.trod_array hu h
 have c5 : Tryz.prog.cellsOf 5 = 1 := by kernel_rfl
 apply List.ext_getElem
 ·simp [Lib.byteCells]
 ·intro i h1 h2
  have hi : i < 20 := by omega
  have e := hel i hi; rw [c5] at e
  have e2 : (cs.drop (i * 1)).take 1 = [cs[i]] := by
   rw [Nat.mul_one, List.drop_eq_getElem_cons h1]; rfl
  rw [e2, List.getElem?_eq_getElem (by omega)] at e; obtain ⟨z, hz, _, hw⟩ := DataW.trod_int Tryz.underlying5 e
  have hz2 : cs[i] = .int .u8 z := by simpa using hz
  have hb := bounds_byte hw; simp only [Lib.byteCells, List.map_map, List.getElem_map, Function.comp, hz2, byteD]
  congr 1
  rw [UInt8.toNat_ofNat']
  omega
end Go.Proofs.YtnbcbiglkmdepaaGreatDoor
namespace Go.Proofs.YtnbcbiglkmdepaaGreatDoor
open Go.ChangeShapes Go.WideShapes Go.ChangeAt Go.RowKit Go.Lib
structure T10 (w : World) : Prop where
 t7 : T7 w
 q : QTab w
theorem T10.keep {w w' : World} (h : T10 w) (hb : Below w.heap.size w w') : T10 w' := ⟨h.t7.keep hb, h.q.below hb⟩
theorem T10.pow {w : World} (h : T10 w) : Tab w := h.t7.t6.pow
def foldX : List Int := match Rows.laid_unicode_asciiFold (H := Unit) with
 | .agg ds => ds.map fun d => match d with | .lit (.int _ z) => z | _ => 0
 | _ => []
theorem fold_dataX : Rows.laid_unicode_asciiFold (H := Unit) = tabData .u16 foldX := by kernel_rfl
theorem t10_of {W : World} {l : List (String × DataW Unit)} (h : laidMetH Tryz.prog l W) (hS : W.ShapedOpen Tryz.prog)
  (hl : (l.filter fun x => x.1 == "internal/strconv.uint64pow10") = [("internal/strconv.uint64pow10", Rows.laid_internal_strconv_uint64pow10)])
  (h1 : ("unicode/utf8.first", Rows.laid_unicode_utf8_first) ∈ l.filter fun a => a.2.handleName?.isNone)
  (h2 : ("unicode/utf8.acceptRanges", Rows.laid_unicode_utf8_acceptRanges) ∈ l.filter fun a => a.2.handleName?.isNone)
  (h3 : ("trestle/ident.zonePlaces", Rows.laid_trestle_ident_zonePlaces) ∈ l.filter fun a => a.2.handleName?.isNone)
  (h4 : ("unicode.asciiFold", Rows.laid_unicode_asciiFold) ∈ l.filter fun a => a.2.handleName?.isNone) : T10 W := by
 have t7 := t7_of h hS hl h1 h2 h3; have r4 := Lib.laidMet.reads (laidMetH_iff.1 h).1 h4; rw [fold_dataX] at r4; exact ⟨t7, t7.t6.utf, fold_of W foldX r4 (by kernel_rfl) (by kernel_rfl) (by kernel_rfl) (by kernel_rfl) (by kernel_rfl) (by kernel_rfl) (by kernel_rfl), t7.max⟩
set_option maxRecDepth 100000 in
theorem open_idX {H : Type} {enc : TypeId × Value → H} {W : World} {b0 base : Nat} {v : Value} {d : DataW H} {p : List MemPlace} (hv : Value.okWide Tryz.prog W .any b0 24 v) (h : DataW.Trod enc Tryz.prog W base (fun _ => true) true 24 v d p) :
  ∃ l : List UInt8, l.length = 20 ∧ v = .agg (arrD l) := by
 have hu : Tryz.prog.underlying 24 = some (.array 20 5) := Tryz.underlying24
 obtain ⟨cs, rfl, hsz⟩ : ∃ cs, v = .agg cs ∧ cs.size = 20 := by
  simp only [Value.okWide, hu] at hv; obtain ⟨cs, h1, h2, _⟩ := hv; exact ⟨cs, h1, h2.trans (by kernel_rfl)⟩
 obtain ⟨fuel, hf⟩ := h; have hcs : (Value.agg cs).cells.toList = cs.toList := rfl; rw [hcs] at hf; obtain ⟨i, hi, hl⟩ := id_of_cells (by simpa using hsz) hf; exact ⟨i, hl, by unfold arrD; rw [← hi]⟩
end Go.Proofs.YtnbcbiglkmdepaaGreatDoor
namespace Go.Proofs.YtnbcbiglkmdepaaGreatDoor
set_option maxRecDepth 20000
open Go.RowKit
theorem item_part0 (xs : Array Value) (v : Value) (u : World) (h : xs[0]? = some v) : (part 3 xs 0).run Tryz.prog u = .ok v u := by
 simp [part, isAgg, run_underlying Tryz.underlying3, h]
theorem item_part1 (xs : Array Value) (v : Value) (u : World) (h : xs[1]? = some v) : (part 9 xs 1).run Tryz.prog u = .ok v u := by
 simp [part, isAgg, run_underlying Tryz.underlying9, h]
theorem item_part2 (i : Itm) (hid : i.id.length = 20) (u : World) : (part 24 (arrI i) 2).run Tryz.prog u = .ok (idv i.id) u := by
 have hs : (sizeOf 24).run Tryz.prog u = .ok 20 u := Tryz.sizeOf24 u
 have hl : (Lib.byteCells i.id).length = 20 := by simp [Lib.byteCells, hid]
 have e : ((arrI i).extract 2 (2 + 20)) = (Lib.byteCells i.id).toArray := by
  apply Array.ext'
  unfold arrI; rw [Array.toList_extract]; simp only [List.extract, cellsI]
  show ((Lib.byteCells i.id)).take 20 = _
  rw [List.take_of_length_le (by omega)]
 simp [part, isAgg, run_underlying Tryz.underlying24, hs, idv]
 simpa using e
theorem item_fields : ∃ f0 f1 f2 : Field, (Tryz.prog.fieldsOf 77).toList = [f0, f1, f2] ∧ (f0.type = 3 ∧ f0.offset = 0 ∧ (f0.name == "_") = false) ∧ (f1.type = 9 ∧ f1.offset = 1 ∧ (f1.name == "_") = false) ∧ (f2.type = 24 ∧ f2.offset = 2 ∧ (f2.name == "_") = false) := by
 have h : (Tryz.prog.fieldsOf 77).toList.map (fun f => (f.type, f.offset, f.name == "_")) = [(3, 0, false), (9, 1, false), (24, 2, false)] := by kernel_rfl
 generalize (Tryz.prog.fieldsOf 77).toList = fs at h ⊢
 rcases fs with _ | ⟨f0, _ | ⟨f1, _ | ⟨f2, _ | ⟨f3, fs⟩⟩⟩⟩
 ·cases h
 ·exact absurd (congrArg List.length h) (by simp)
 ·exact absurd (congrArg List.length h) (by simp)
 ·simp only [List.map_cons, List.map_nil, List.cons.injEq, Prod.mk.injEq, and_true] at h
  exact ⟨f0, f1, f2, rfl, h.1, h.2.1, h.2.2⟩
 ·exact absurd (congrArg List.length h) (by simp)
def eqI (i j : Itm) : Bool := (i.mode == j.mode) && ((i.name == j.name) && (i.id == j.id))
theorem eqI_iff (i j : Itm) : eqI i j = true ↔ i = j := by
 cases i; cases j
 simp [eqI]
theorem eqI_same (i : Itm) : eqI i i = true := (eqI_iff i i).2 rfl
theorem item_under : Tryz.prog.underlying 77 = some (.struct (Tryz.prog.fieldsOf 77)) := by kernel_rfl
theorem equalIn_item (d : Nat) (i j : Itm) (hi : i.id.length = 20) (hj : j.id.length = 20) (w : World) : (Op.equalIn (d + 3) 77 (.agg (arrI i)) (.agg (arrI j))).run Tryz.prog w = .ok (eqI i j) w := by
 obtain ⟨f0, f1, f2, hf, ⟨a0, b0, c0⟩, ⟨a1, b1, c1⟩, ⟨a2, b2, c2⟩⟩ := item_fields
 have n0 : f0.name ≠ "_" := by intro e; rw [e] at c0; simp at c0
 have n1 : f1.name ≠ "_" := by intro e; rw [e] at c1; simp at c1
 have n2 : f2.name ≠ "_" := by intro e; rw [e] at c2; simp at c2
 have p0 := fun k u => item_part0 (arrI k) (.int .i64 k.mode) u rfl
 have p1 := fun k u => item_part1 (arrI k) (.string ⟨k.name.toArray⟩) u rfl
 have e0 := fun u => run_equalIn_int (P := Tryz.prog) u (d + 1) 3 .i64 .i64 i.mode j.mode Tryz.underlying3
 have e1 := fun u => run_equalIn_string (P := Tryz.prog) u (d + 1) 9 ⟨i.name.toArray⟩ ⟨j.name.toArray⟩ Tryz.underlying9
 have e2 : ∀ u, (Op.equalIn (d + 1 + 1) 24 (idv i.id) (idv j.id)).run Tryz.prog u = .ok (i.id == j.id) u := fun u => run_equalIn_bytes (P := Tryz.prog) u d 24 5 20 Tryz.underlying24 Tryz.underlying5 Tryz.sizeOf5 i.id j.id hi hj
 have p2 := fun u => item_part2 i hi u
 have p3 := fun u => item_part2 j hj u
 rw [run_equalIn_struct w (d + 2) 77 _ _ item_under (by kernel_rfl), hf]; unfold eqI; rw [toList_mk, toList_mk] at e1; generalize (i.mode == j.mode) = x at e0 ⊢; generalize (i.name == j.name) = y at e1 ⊢; generalize (i.id == j.id) = z at e2 ⊢; simp only [Op.eqFields, n0, n1, n2, ne_eq, not_false_eq_true, if_true, Sem.run_bind, a0, b0, a1, b1, a2, b2, p0, p1, p2, p3, Result.andThen_ok, e0, e1, e2]
 cases x <;> cases y <;> cases z <;> simp [e1, e2, p1, p2, p3]
theorem eql_item (i j : Itm) (hi : i.id.length = 20) (hj : j.id.length = 20) (w : World) : (binOp .eql 77 (.agg (arrI i)) (.agg (arrI j))).run Tryz.prog w = .ok (.bool (eqI i j)) w := by
 have h := equalIn_item 9997 i j hi hj w; rw [run_eql_struct]; rw [show Op.equalIn 10000 = Op.equalIn (9997 + 3) from rfl, h]
 rfl
theorem eq_item (i j : Itm) (hi : i.id.length = 20) (hj : j.id.length = 20) (w : World) :
  Calls Tryz.prog 65 #[.agg (arrI i), .agg (arrI j)] w fun e w' => e = .returned (.bool (eqI i j)) ∧ Below w.heap.size w w' := by
 have E := fun u => eql_item i j hi hj u
 have HA := hyd (arrI_size i hi); have HB := hyd (arrI_size j hj)
 generalize arrI i = A at *
 generalize arrI j = B at *
 generalize eqI i j = r at *
 have b1 := (Below.refl w.heap.size w).alloc (Nat.le_refl _) (.cells A 77); have b2 := b1.alloc b1.size (.cells B 77)
 have e1 : (w.alloc (.cells A 77)).heap.size = w.heap.size + 1 := by simp
 have h1 := (((Below.refl (w.alloc (.cells A 77)).heap.size (w.alloc (.cells A 77))).alloc (Nat.le_refl _) (.cells B 77)).block w.heap.size (by simp)).trans (heap_alloc_new w _); have h2 := heap_alloc_new (w.alloc (.cells A 77)) (.cells B 77); rw [e1] at h2; have H1 := hyd h1; have H2 := hyd h2; have B2 := hyd b2; clear b1 b2 h1 h2 hi hj e1
 go_enter Tryz.func65, Tryz.ntmps65
 go_wp2_with (first
  | (with_reducible refine wpList_load_row rfl 77 (.tmp 2) rfl w.heap.size rfl 77 A (0, 0) _ H1.out Tryz.underlying77 rfl (info_arr A HA.out) ?_)
  | (with_reducible refine wpList_load_row rfl 77 (.tmp 3) rfl (w.heap.size + 1) rfl 77 B (0, 0) _ H2.out Tryz.underlying77 rfl (info_arr B HB.out) ?_))
 go_ret; exact ⟨rfl, B2.out⟩
theorem SameItm_some (b1 o1 b2 o2 c1 c2 n : Nat) (l : List Itm) (w : World) (hn : n = l.length) (hm : n ≤ 1000000) (h1 : b1 < w.heap.size) (h2 : b2 < w.heap.size)
  (hc1 : ∀ k (h : k < l.length) j v, (cellsI l[k])[j]? = some v → w.cell? ⟨b1, o1 + k * 22 + j, none⟩ = some v) (hc2 : ∀ k (h : k < l.length) j v, (cellsI l[k])[j]? = some v → w.cell? ⟨b2, o2 + k * 22 + j, none⟩ = some v) (hid : ∀ i ∈ l, i.id.length = 20) :
  Calls Tryz.prog 64 #[.slice (some ⟨b1, o1, none⟩) n c1, .slice (some ⟨b2, o2, none⟩) n c2, .func (.func 65) #[] #[]] w fun e w' => e = .returned (.bool true) ∧ Below w.heap.size w w' := by
 have HC1 := hyd hc1; have HC2 := hyd hc2; have HID := hyd hid; have HN := hyd hn; clear hc1 hc2 hid hn
 go_enter Tryz.func64, Tryz.ntmps64
 go_wp2_with fail
 go_loopw [7] (fun i wr => ∃ k : Nat, k ≤ n ∧ i = .int .i64 k ∧ Below w.heap.size w wr) (fun i _ => n - (intOf i).toNat)
 case atStart => exact ⟨0, Nat.zero_le _, rfl, Below.refl _ _⟩
 case round =>
  obtain ⟨k, hk, rfl, hbr⟩ := hrel; have HBR := hyd hbr; clear hbr
  by_cases hlt : k < n
  ·have hkl : k < l.length := by rw [← HN.out]; exact hlt
   obtain ⟨x, hx2⟩ : ∃ x, l[k] = x := ⟨_, rfl⟩; have hidx := HID.out x (by rw [← hx2]; exact List.getElem_mem _)
   have r1 : ∀ u, Below wr.heap.size wr u → u.rangeAt b1 (o1 + k * 22) (cellsI x) := fun u hu j v hv =>
    (hu.cell (p := ⟨b1, o1 + k * 22 + j, none⟩) (Nat.lt_of_lt_of_le h1 HBR.out.size)).trans ((HBR.out.cell (p := ⟨b1, o1 + k * 22 + j, none⟩) h1).trans (HC1.out k hkl j v (by rw [hx2]; exact hv)))
   have r2 : ∀ u, Below wr.heap.size wr u → u.rangeAt b2 (o2 + k * 22) (cellsI x) := fun u hu j v hv =>
    (hu.cell (p := ⟨b2, o2 + k * 22 + j, none⟩) (Nat.lt_of_lt_of_le h2 HBR.out.size)).trans ((HBR.out.cell (p := ⟨b2, o2 + k * 22 + j, none⟩) h2).trans (HC2.out k hkl j v (by rw [hx2]; exact hv)))
   have ce : ∀ u, Below wr.heap.size wr u → Calls Tryz.prog 65 #[.agg (cellsI x).toArray, .agg (cellsI x).toArray] u fun e u' => e = .returned (.bool true) ∧ Below wr.heap.size wr u' := fun u hu =>
    (eq_item x x hidx hidx u).mono fun e u' h => ⟨by rw [h.1, eqI_same], hu.trans (h.2.mono hu.size)⟩
   have ll : (Tryz.prog.info? 77).map (·.size) = some (cellsI x).length := by rw [cellsI_len x hidx]; exact infoItem
   have R1 := hyd r1; have R2 := hyd r2; have CE := hyd ce; have LX := hyd ll; clear r1 r2 ce ll hx2 hidx
   generalize cellsI x = cx at *
   go_wp2_with fail
   refine rgB wr (fun hd => ?_); refine tkW 0 rfl hd ?_; refine tkW 1 rfl hd ?_; refine tkW 2 rfl hd ?_; refine tkW 3 rfl hd ?_; refine tkH 4 rfl (yieldsIf_load_mid (by kernel_rfl) 77 (.tmp 22) (by kernel_rfl) b1 (o1 + k * 22) (by kernel_rfl) cx _ (fun u hu => R1.out u hu) Tryz.underlying77 rfl LX.out) hd ?_; refine tkW 5 rfl hd ?_; refine tkW 6 rfl hd ?_; refine tkW 7 rfl hd ?_; refine tkH 8 rfl (yieldsIf_load_mid (by kernel_rfl) 77 (.tmp 26) (by kernel_rfl) b2 (o2 + k * 22) (by kernel_rfl) cx _ (fun u hu => R2.out u hu) Tryz.underlying77 rfl LX.out) hd ?_; refine rdH 9 rfl (fun K hK => ?_)
   go_simp
   refine (CE.out _ hd).mono ?_; rintro e u1 ⟨rfl, hH⟩; clear hd; refine hK.out _ _ hH (fun hd => ?_); clear hK K
   try simp only [Act.put, lsA, lsZ, lsS]
   refine tkW 10 rfl hd ?_; refine wpAnyH_done (by kernel_rfl) ?_ _; have HB2 := hyd (HBR.out.trans (hd.mono HBR.out.size)); clear hd; go_wp2
   go_roundw
   case rel => exact ⟨k + 1, by omega, by go_num, HB2.out⟩
   case measure => simp [intOf]; omega
  ·obtain rfl : k = n := by omega
   go_wp2; go_ret; exact ⟨rfl, HBR.out⟩
theorem SameItm_none (a1 a2 : Option Addr) (c1 c2 : Nat) (w : World) :
  Calls Tryz.prog 64 #[.slice a1 0 c1, .slice a2 0 c2, .func (.func 65) #[] #[]] w fun e w' => e = .returned (.bool true) ∧ Below w.heap.size w w' := by
 go_enter Tryz.func64, Tryz.ntmps64
 go_wp2_with fail
 refine wp_loop_rounds 1 ?_; rw [rounds_succ]; go_wp2; go_ret; exact ⟨rfl, Below.refl _ _⟩
theorem SameItm_any (a1 a2 : Option Addr) (n c1 c2 : Nat) (l : List Itm) (w : World) (h1 : ItemsAt w a1 l) (h2 : ItemsAt w a2 l) (hn : n = l.length) (hm : n ≤ 1000000) (hid : ∀ i ∈ l, i.id.length = 20) :
  Calls Tryz.prog 64 #[.slice a1 n c1, .slice a2 n c2, .func (.func 65) #[] #[]] w fun e w' => e = .returned (.bool true) ∧ Below w.heap.size w w' := by
 by_cases hp : 0 < l.length
 ·obtain ⟨b1, o1, rfl, hb1, hc1⟩ := h1 hp
  obtain ⟨b2, o2, rfl, hb2, hc2⟩ := h2 hp; exact SameItm_some b1 o1 b2 o2 c1 c2 n l w hn hm hb1 hb2 hc1 hc2 hid
 ·obtain rfl : n = 0 := by omega
  exact SameItm_none a1 a2 c1 c2 w
theorem PlainItm_any (a1 a2 : Option Addr) (n c1 c2 : Nat) (l : List Itm) (w : World) (h1 : ItemsAt w a1 l) (h2 : ItemsAt w a2 l) (hn : n = l.length) (hm : n ≤ 1000000) (hid : ∀ i ∈ l, i.id.length = 20) :
  Calls Tryz.prog 34 #[.slice a1 n c1, .slice a2 n c2] w fun e w' => e = .returned (.bool true) ∧ Below w.heap.size w w' := by
 have C := hyd (SameItm_any a1 a2 n c1 c2 l w h1 h2 hn hm hid); clear h1 h2 hn hm hid
 go_enter Tryz.func34, Tryz.ntmps34
 go_wp2_with fail
 refine C.out.mono ?_; rintro e w1 ⟨rfl, hb⟩; go_wp2; go_ret; exact ⟨rfl, hb⟩
end Go.Proofs.YtnbcbiglkmdepaaGreatDoor
