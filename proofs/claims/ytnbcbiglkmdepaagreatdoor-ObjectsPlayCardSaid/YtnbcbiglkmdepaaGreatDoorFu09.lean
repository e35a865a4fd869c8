/-
  Texts that belong together, one behind the other.
-/
import Derived.Test.YtnbcbiglkmdepaaGreatDoorFu08
import Derived.Lib.Split
import Derived.Lib.IndexAny
import Derived.Test.YtnbcbiglkmdepaaGreatDoorFu07
import Derived.OwnWalk
import Derived.Test.YtnbcbiglkmdepaaGreatDoorFu01
import Derived.Deep.MidRow
import Derived.Maps.OwnSet
import Derived.StringKeys
set_option maxHeartbeats 64000000
set_option linter.unusedVariables false
set_option linter.unusedSimpArgs false
open Go.Lib renaming hid → hyd
namespace Go.Proofs
open Go.Shelf Go.RowKit Go.Lib
namespace YtnbcbiglkmdepaaGreatDoor
theorem fold_of (w : World) (zs : List Int) (h : VarReads Tryz.prog w "unicode.asciiFold" (tabData .u16 zs)) (h46 : zs[46]? = some 46) (h71 : zs[71]? = some 103) (h73 : zs[73]? = some 105) (h84 : zs[84]? = some 116) (h103 : zs[103]? = some 71) (h105 : zs[105]? = some 73) (h116 : zs[116]? = some 84) : FoldTab w := by
 obtain ⟨g, t, cs, fuel, p, hg, hty, hvar, hd⟩ := h; obtain rfl := Option.some.inj ((show Tryz.prog.globalNamed "unicode.asciiFold" = some 7 by kernel_rfl).symm.trans hg); obtain rfl := Option.some.inj ((show (Tryz.prog.globals[7]?).map (·.type) = some 274 by kernel_rfl).symm.trans hty); have hcs := cells_of_tab Tryz.underlying274 Tryz.underlying273 (by kernel_rfl) (by kernel_rfl) hd
 have key : ∀ (k : Nat) (v : Int), zs[k]? = some v → w.cell? ⟨7, k, none⟩ = some (.int .u16 v) := by
  intro k v hk; rw [World.var?_cell hg hvar k, ← Array.getElem?_toList, hcs]
  simp [hk]
 intro k v hk
 rcases hk with ⟨rfl, rfl⟩ | ⟨rfl, rfl⟩ | ⟨rfl, rfl⟩ | ⟨rfl, rfl⟩ | ⟨rfl, rfl⟩ | ⟨rfl, rfl⟩ | ⟨rfl, rfl⟩
 ·exact key _ _ h46
 ·exact key _ _ h71
 ·exact key _ _ h73
 ·exact key _ _ h84
 ·exact key _ _ h103
 ·exact key _ _ h105
 ·exact key _ _ h116
end YtnbcbiglkmdepaaGreatDoor
end Go.Proofs
namespace Go.Proofs.YtnbcbiglkmdepaaGreatDoor
open Go.RowKit
theorem split_lib : ∀ (k : Nat) (l : List UInt8), l.length ≤ k → Lib.splitB ⟨#[47]⟩ 0 (Lib.countB ⟨l.toArray⟩ ⟨#[47]⟩) ⟨l.toArray⟩ = (splitL l).map (fun n => (⟨n.toArray⟩ : ByteArray)) ∧ Lib.countB ⟨l.toArray⟩ ⟨#[47]⟩ + 1 = (splitL l).length := by
 intro k
 induction k with
 | zero =>
  intro l hl; obtain rfl : l = [] := List.eq_nil_of_length_eq_zero (by omega)
  have hi : Lib.indexB ⟨([] : List UInt8).toArray⟩ ⟨#[47]⟩ = -1 := by
   show Lib.index [] [47] = -1
   rw [Lib.index_one]
   rfl
  rw [Lib.countB_miss _ _ hi]; exact ⟨rfl, rfl⟩
 | succ k ih =>
  intro l hl
  have hb : Lib.indexB ⟨l.toArray⟩ ⟨#[47]⟩ = Lib.indexByte l 47 := by
   show Lib.index l [47] = _
   exact Lib.index_one l 47
  by_cases hm : Lib.indexByte l 47 = -1
  ·rw [Lib.countB_miss _ _ (hb.trans hm), Lib.splitB_zero]
   have hno : ∀ c ∈ l, c.toNat ≠ 47 := fun c hc h => by
    obtain ⟨j, hj, rfl⟩ := List.getElem_of_mem hc; exact Lib.indexByte_none hm j (by rw [List.getElem?_eq_getElem hj]; exact congrArg some (UInt8.toNat_inj.1 h))
   rw [split_none l hno]; exact ⟨rfl, rfl⟩
  ·obtain ⟨i, hi⟩ : ∃ i : Nat, Lib.indexByte l 47 = i := ⟨(Lib.indexByte l 47).toNat, by have := Lib.indexByte_ge l 47; omega⟩
   obtain ⟨h1, h2⟩ := Lib.indexByte_some hi; have hil : i < l.length := (List.getElem?_eq_some_iff.1 h1).1
   have hg : l.getD i 0 = 47 := by rw [List.getD_eq_getElem?_getD, h1]; rfl
   have e1 : (⟨l.toArray⟩ : ByteArray).extract (i + (⟨#[47]⟩ : ByteArray).size) (⟨l.toArray⟩ : ByteArray).size = ⟨(l.drop (i + 1)).toArray⟩ := by
    rw [size_toArray]; exact ext_drop l (i + 1)
   have hc := Lib.countB_hit ⟨l.toArray⟩ ⟨#[47]⟩ i (by decide) (hb.trans hi); rw [e1] at hc; obtain ⟨a, b⟩ := ih (l.drop (i + 1)) (by rw [List.length_drop]; omega)
   have hs : splitL l = l.take i :: splitL (l.drop (i + 1)) := by
    have e : l = l.take i ++ l.getD i 0 :: l.drop (i + 1) := by rw [← drop_at l i hil, List.take_append_drop]
    conv => lhs; rw [e]
    refine split_at _ _ (by rw [hg]; rfl) _ (fun c hc h => ?_); obtain ⟨j, hj, rfl⟩ := List.getElem_of_mem hc; rw [List.length_take] at hj; refine h2 j (by omega) ?_; rw [List.getElem_take] at h; rw [List.getElem?_eq_getElem (by omega)]; exact congrArg some (UInt8.toNat_inj.1 h)
   rw [hs, hc, show 1 + Lib.countB ⟨(l.drop (i + 1)).toArray⟩ ⟨#[47]⟩ = Lib.countB ⟨(l.drop (i + 1)).toArray⟩ ⟨#[47]⟩ + 1 by omega, Lib.splitB_hit _ _ _ _ i (hb.trans hi), e1, a]; refine ⟨?_, by simp only [List.length_cons]; omega⟩; rw [List.map_cons, Nat.add_zero, ext_take]
theorem path_form (l : List UInt8) : pathL l = (decide (l.length ≤ 400) && Lib.validD l && !l.any (fun c => c.toNat == 0) && decide ((splitL l).length ≤ 16) && (splitL l).all nameL) := by
 unfold pathL
 cases l with
 | nil => rfl
 | cons c r => simp
theorem split_len : ∀ (l : List UInt8), ∀ n ∈ splitL l, n.length ≤ l.length
 | [], n, hn => by
  simp [splitL] at hn
  subst hn
  simp
 | c :: r, n, hn => by
  have ih := split_len r
  by_cases h : c.toNat = 47
  ·rw [split_slash c r h, List.mem_cons] at hn
   rcases hn with rfl | hn
   ·simp
   ·have := ih n hn
    simp
    omega
  ·obtain ⟨x, m, hx⟩ := split_form r
   rw [split_other c r x m h hx, List.mem_cons] at hn
   rcases hn with rfl | hn
   ·have := ih x (by rw [hx]; simp)
    simp
    omega
   ·have := ih n (by rw [hx]; simp [hn])
    simp
    omega
structure QTab (w : World) : Prop where
 utf : Lib.Utf8Tabs 2 3 w
 fold : FoldTab w
 max : ∃ m : Int, w.cell? ⟨0, 0, none⟩ = some (.int .i64 m)
theorem QTab.below {w w' : World} (t : QTab w) (hb : Below w.heap.size w w') : QTab w' where
 utf := Utf8Tabs_below t.utf hb
 fold := t.fold.below hb
 max := by
  obtain ⟨m, h⟩ := t.max; exact ⟨m, (hb.cell (p := ⟨0, 0, none⟩) (World.block_lt_of_cell? w _ h)).trans h⟩
set_option maxRecDepth 100000 in
theorem reserved_is (l : List UInt8) (w : World) (hn : l.length ≤ 1000000) (tab : QTab w) :
  Calls Tryz.prog 175 #[.string ⟨l.toArray⟩] w fun e w' => e = .returned (.bool (!nameL l)) ∧ Below w.heap.size w w' := by
 have hem := empty_list l
 have hq1 : ((⟨l.toArray⟩ : ByteArray).toList == [46]) = decide (l = [46]) := by rw [list_text]; rw [Bool.eq_iff_iff]; simp
 have hq2 : ((⟨l.toArray⟩ : ByteArray).toList == [46, 46]) = decide (l = [46, 46]) := by rw [list_text]; rw [Bool.eq_iff_iff]; simp
 have cE := EqualFold_git l w hn tab.fold tab.utf; obtain ⟨s, hs⟩ : ∃ s : ByteArray, s = ⟨l.toArray⟩ := ⟨_, rfl⟩; rw [← hs] at hem hq1 hq2 cE ⊢; clear hs tab
 by_cases h0 : l.length = 0
 ·have e0 : s.toList.isEmpty = true := by rw [hem]; simp [h0]
  have : l = [] := List.eq_nil_of_length_eq_zero h0; have NN : Hid ((!nameL l) = true) := hyd (by rw [this]; rfl); clear hem hq1 hq2 h0 this cE
  go_enter Tryz.func175, Tryz.ntmps175
  go_wp2; go_ret; exact ⟨ret_bool NN.out.symm, Below.refl _ _⟩
 have e0 : s.toList.isEmpty = false := by rw [hem]; simp [h0]
 have n0 : l ≠ [] := fun h => h0 (by rw [h]; rfl)
 by_cases h1 : l = [46]
 ·rw [decide_eq_true h1] at hq1
  have NN : Hid ((!nameL l) = true) := hyd (by rw [h1]; rfl); clear hem hq2 h0 n0 h1 cE
  go_enter Tryz.func175, Tryz.ntmps175
  go_wp2; go_ret; exact ⟨ret_bool NN.out.symm, Below.refl _ _⟩
 rw [decide_eq_false h1] at hq1
 by_cases h2 : l = [46, 46]
 ·rw [decide_eq_true h2] at hq2
  have NN : Hid ((!nameL l) = true) := hyd (by rw [h2]; rfl); clear hem h0 n0 h1 h2 cE
  go_enter Tryz.func175, Tryz.ntmps175
  go_wp2; go_ret; exact ⟨ret_bool NN.out.symm, Below.refl _ _⟩
 rw [decide_eq_false h2] at hq2; have NM := hyd (name_of l n0 h1 h2); obtain ⟨b, hb⟩ : ∃ b : Bool, b = decide (l.map lowB = gitL) := ⟨_, rfl⟩; rw [← hb] at cE; have HB := hyd hb; clear hem n0 h1 h2 h0 hb
 go_enter Tryz.func175, Tryz.ntmps175
 go_wp2_with fail
 refine cE.mono ?_; rintro e w1 ⟨rfl, b1⟩; go_wp2; go_ret; exact ⟨ret_bool (by rw [NM.out, ← HB.out, Bool.not_not]), b1⟩
set_option maxRecDepth 100000 in
theorem Path_is (l : List UInt8) (w : World) (hn : l.length ≤ 1000000) (tab : QTab w) :
  Calls Tryz.prog 157 #[.string ⟨l.toArray⟩] w fun e w' => e = .returned (.bool (pathL l)) ∧ Below w.heap.size w w' := by
 have T := hyd tab; have PF := hyd (path_form l); have hsz := size_toArray l
 have cV := fun w (t : QTab w) => valid_is l w hn t.utf
 have cZ := fun w => Tryz.strings_Contains_one ⟨l.toArray⟩ 0 w
 have cS := fun w m hm => Tryz.strings_Split ⟨l.toArray⟩ ⟨#[47]⟩ m w (by rw [hsz]; omega) hm (by decide)
 obtain ⟨e1, e2⟩ := split_lib l.length l (Nat.le_refl _); rw [e1] at cS; rw [e2] at cS
 have hz : decide (0 ≤ Lib.indexByte (⟨l.toArray⟩ : ByteArray).data.toList 0) = l.any (fun c => c.toNat == 0) := by
  rw [← Lib.contains_iff_indexByte]; rw [Bool.eq_iff_iff]; simp only [List.contains_iff_mem, List.any_eq_true, beq_iff_eq]
  constructor
  ·intro h
   exact ⟨0, h, rfl⟩
  ·rintro ⟨c, hc, h⟩
   obtain rfl : c = 0 := UInt8.toNat_inj.1 h; exact hc
 rw [hz] at cZ; have NL : Hid (∀ n ∈ splitL l, n.length ≤ 1000000) := hyd (fun n h => Nat.le_trans (split_len l n h) hn); obtain ⟨ns, hns⟩ : ∃ ns, ns = splitL l := ⟨_, rfl⟩; rw [← hns] at cS PF NL; obtain ⟨zb, hzb⟩ : ∃ zb, zb = l.any (fun c => c.toNat == 0) := ⟨_, rfl⟩; rw [← hzb] at cZ PF; obtain ⟨s, hs⟩ : ∃ s : ByteArray, s = ⟨l.toArray⟩ := ⟨_, rfl⟩; rw [← hs] at cS cZ cV hsz ⊢; have CS := hyd cS; clear tab e1 e2 hz hns hzb hs cS
 by_cases h400 : 400 < l.length
 ·have R : Hid (pathL l = false) := hyd (by rw [PF.out]; simp [show ¬ l.length ≤ 400 by omega])
  clear cV cZ
  go_enter Tryz.func157, Tryz.ntmps157
  go_wp2; go_ret; exact ⟨ret_bool R.out.symm, Below.refl _ _⟩
 have L4 := hyd (show decide (l.length ≤ 400) = true from decide_eq_true (by omega))
 cases hv : Lib.validD l with
 | false =>
  have R : Hid (pathL l = false) := hyd (by rw [PF.out, hv]; simp); rw [hv] at cV; clear hv cZ
  go_enter Tryz.func157, Tryz.ntmps157
  go_wp2_with fail
  refine (cV _ T.out).mono ?_; rintro e w1 ⟨rfl, b1⟩; go_wp2; go_ret; exact ⟨ret_bool R.out.symm, b1⟩
 | true =>
  rw [hv] at cV PF; clear hv
  cases zb with
  | true =>
   have R : Hid (pathL l = false) := hyd (by rw [PF.out]; simp)
   go_enter Tryz.func157, Tryz.ntmps157
   go_wp2_with fail
   refine (cV _ T.out).mono ?_; rintro e w1 ⟨rfl, b1⟩
   go_wp2_with fail
   refine (cZ _).mono ?_; rintro e w2 ⟨rfl, rfl⟩; go_wp2; go_ret; exact ⟨ret_bool R.out.symm, b1⟩
  | false =>
   obtain ⟨P, hP⟩ : ∃ P, P = pathL l := ⟨_, rfl⟩; have R : Hid (P = (decide (ns.length ≤ 16) && ns.all nameL)) := hyd (by rw [hP, PF.out, L4.out]; simp); rw [← hP]; clear hP PF L4
   go_enter Tryz.func157, Tryz.ntmps157
   go_wp2_with fail
   refine (cV _ T.out).mono ?_; rintro e w1 ⟨rfl, b1⟩
   go_wp2_with fail
   refine (cZ _).mono ?_; rintro e w2 ⟨rfl, rfl⟩; obtain ⟨m, hm⟩ := (T.out.below b1).max; have CM := CS.out w2 m hm; clear cV cZ CS
   go_wp2_with fail
   refine CM.mono ?_; rintro e w3 ⟨rfl, hw3⟩
   have b3 : Below w.heap.size w w3 := by rw [hw3]; exact b1.alloc b1.size _
   have hcell : w3.heap[w2.heap.size]? = some (.cells (((ns.map (fun n => (⟨n.toArray⟩ : ByteArray))).map Value.string).toArray) 9 (0, 0)) := by rw [hw3]; exact heap_alloc_new _ _
   have HC := hyd hcell
   have lt3 : w2.heap.size < w3.heap.size := by rw [hw3]; simp
   have B3 := hyd b3; clear CM hm b1 hcell hw3 b3
   by_cases h16 : 16 < ns.length
   ·have hP : P = false := by rw [R.out]; simp [show ¬ ns.length ≤ 16 by omega]
    subst hP; go_wp2; go_ret; exact ⟨rfl, B3.out⟩
   ·have R2 : Hid (P = ns.all nameL) := hyd (by rw [R.out]; simp [show ns.length ≤ 16 by omega])
    clear R
    go_wp2_with fail
    go_loopw [25] (fun vi wr => ∃ i : Nat, i ≤ ns.length ∧ vi = .int .i64 i ∧ Below w3.heap.size w3 wr ∧ Hid (∀ j, j < i → nameL (ns.getD j []) = true)) (fun vi _ => ns.length - (intOf vi).toNat)
    case atStart => exact ⟨0, Nat.zero_le _, rfl, Below.refl _ _, hyd fun j h => absurd h (Nat.not_lt_zero _)⟩
    case round =>
     obtain ⟨i, hi, rfl, hbr, HALL⟩ := hrel
     by_cases hlt : i < ns.length
     ·obtain ⟨nm, hnm⟩ : ∃ nm, nm = ns.getD i [] := ⟨_, rfl⟩
      have hg : ns[i]? = some nm := by rw [hnm, List.getD_eq_getElem?_getD, List.getElem?_eq_getElem hlt]; rfl
      have hcl : wr.cell? ⟨w2.heap.size, i, none⟩ = some (.string ⟨nm.toArray⟩) := by
       rw [hbr.cell (p := ⟨w2.heap.size, i, none⟩) lt3, Lib.cell_of_heap HC.out i]
       simp [hg]
      have cR := fun w (t : QTab w) => reserved_is nm w (NL.out nm (List.mem_of_getElem? hg)) t
      have T3 := hyd ((T.out.below B3.out).below hbr); have NE := hyd hnm; clear hnm hg
      cases hN : nameL nm with
      | false =>
       rw [hN] at cR
       have hP : Hid (P = false) := hyd (by
        rw [R2.out, List.all_eq_false]
        exact ⟨nm, by rw [NE.out, List.getD_eq_getElem?_getD, List.getElem?_eq_getElem hlt]; exact List.getElem_mem _, by rw [hN]; decide⟩)
       clear hN
       go_wp2_with fail
       refine (cR _ T3.out).mono ?_; rintro e w4 ⟨rfl, b4⟩; go_wp2; go_ret; exact ⟨ret_bool hP.out.symm, B3.out.trans ((hbr.trans (b4.mono hbr.size)).mono B3.out.size)⟩
      | true =>
       rw [hN] at cR
       have NX : Hid (∀ j, j < i + 1 → nameL (ns.getD j []) = true) := hyd fun j hj => by
        by_cases h : j < i
        ·exact HALL.out j h
        ·obtain rfl : j = i := by omega
         rw [← NE.out]; exact hN
       clear hN
       go_wp2_with fail
       refine (cR _ T3.out).mono ?_; rintro e w4 ⟨rfl, b4⟩; go_wp2
       go_roundw
       case rel => exact ⟨i + 1, by omega, by go_num, hbr.trans (b4.mono hbr.size), NX⟩
       case measure => simp [intOf]; omega
     ·obtain rfl : i = ns.length := by omega
      have hP : Hid (P = true) := hyd (by
       rw [R2.out, List.all_eq_true]; intro x hx; obtain ⟨j, hj, rfl⟩ := List.getElem_of_mem hx; have := HALL.out j hj
       rwa [List.getD_eq_getElem?_getD, List.getElem?_eq_getElem hj] at this)
      go_wp2; go_ret; exact ⟨ret_bool hP.out.symm, B3.out.trans (hbr.mono B3.out.size)⟩
set_option maxRecDepth 20000
theorem pName_is (s : List UInt8) (w : World) (hs : s.length ≤ 1000000) (tab : QTab w) :
  Calls Tryz.prog 132 #[.string ⟨s.toArray⟩] w fun e w' => e = .returned (.bool (nameI s)) ∧ Below w.heap.size w w' := by
 have c1 := Path_is s w hs tab
 have c2 := fun w => indexOf_is 47 (by decide) s 47 rfl w hs
 have hf := seek_any s 47; unfold nameI; generalize (seekI s 47).1 = q at c2; rw [hf] at c2
 generalize (⟨s.toArray⟩ : ByteArray) = S at *
 generalize (s.any fun x => x == 47) = r at *
 cases hp : pathL s with
 | false =>
  rw [hp] at c1; clear hs tab c2 hf
  go_enter Tryz.func132, Tryz.ntmps132
  go_wp2_with fail
  refine c1.mono ?_; rintro e w1 ⟨rfl, b1⟩; have B1 := hyd b1; clear b1; go_wp2; go_ret; exact ⟨rfl, B1.out⟩
 | true =>
  rw [hp] at c1; clear hs tab
  go_enter Tryz.func132, Tryz.ntmps132
  go_wp2_with fail
  refine c1.mono ?_; rintro e w1 ⟨rfl, b1⟩; have B1 := hyd b1; clear b1
  go_wp2_with fail
  refine (c2 _).mono ?_; rintro e w2 ⟨rfl, b2⟩; have B2 := hyd (B1.out.trans (b2.mono B1.out.size)); clear b2; go_wp2; go_ret; exact ⟨rfl, B2.out⟩
theorem sound_is (i : Itm) (hid : i.id.length = 20) (hnm : i.name.length ≤ 1000000) (w : World) (tab : QTab w) :
  Calls Tryz.prog 99 #[.agg (arrI i)] w fun e w' => e = .returned (.bool (oneI i)) ∧ Below w.heap.size w w' := by
 have h0 := heap_alloc_new w (.cells (arrI i) 77); have hr := row_cells h0; have q0 : (w.alloc (.cells (arrI i) 77)).cell? ⟨w.heap.size, 0, none⟩ = some (.int .i64 i.mode) := hr 0 _ rfl; have q1 : (w.alloc (.cells (arrI i) 77)).cell? ⟨w.heap.size, 1, none⟩ = some (.string ⟨i.name.toArray⟩) := hr 1 _ rfl; have b0 := (Below.refl w.heap.size w).alloc (Nat.le_refl _) (.cells (arrI i) 77)
 have s0 : (w.alloc (.cells (arrI i) 77)).heap.size = w.heap.size + 1 := by simp
 have cW := fun w => tword_is i.mode w
 have cN := pName_is i.name (w.alloc (.cells (arrI i) 77)) hnm (tab.below b0)
 have q2 : ∀ u, Below (w.alloc (.cells (arrI i) 77)).heap.size (w.alloc (.cells (arrI i) 77)) u → u.rangeAt w.heap.size 2 (Lib.byteCells i.id) := fun u hu j v hv => by
  have := (hu.cell (p := ⟨w.heap.size, 0 + (j + 2), none⟩) (by rw [s0]; exact Nat.lt_succ_self _)).trans (hr (j + 2) v hv)
  rwa [show 0 + (j + 2) = 2 + j by omega] at this
 have hli : (Tryz.prog.info? 24).map (·.size) = some (Lib.byteCells i.id).length := by rw [show (Lib.byteCells i.id).length = 20 by simp [Lib.byteCells, hid]]; exact info29
 have LI := hyd hli; have HQ2 := hyd q2; have HB0 := hyd b0; obtain ⟨z, hz, hze⟩ := z29; have hzv := zero_arr hz
 have ids := fun u => neq_idv u i.id zeroId hid (by simp [zeroId])
 rw [show idv zeroId = .agg z by rw [hze]; rfl, show idv i.id = .agg (Lib.byteCells i.id).toArray from rfl] at ids; have hone : oneI i = (nameI i.name && !(i.id == zeroId) && decide (1 ≤ i.mode) && decide (i.mode ≤ 4)) := rfl; have hem := empty_list (wordI i.mode)
 have hwd : wordI i.mode = if 1 ≤ i.mode ∧ i.mode ≤ 4 then modeL i.mode else [] := rfl
 obtain ⟨m, hm⟩ : ∃ m, i.mode = m := ⟨_, rfl⟩; rw [hm] at q0 cW hone hem hwd; obtain ⟨zb, hzb⟩ : ∃ zb, (i.id == zeroId) = zb := ⟨_, rfl⟩; rw [hzb] at ids hone; obtain ⟨nm, hnm2⟩ : ∃ nm, nameI i.name = nm := ⟨_, rfl⟩; rw [hnm2] at cN hone; obtain ⟨R, hR⟩ : ∃ R, oneI i = R := ⟨_, rfl⟩; rw [hR] at hone ⊢; have HONE := hyd hone; clear hnm tab h0 hr b0 s0 q2 hli hz hze hid hm hzb hnm2 hR hone
 generalize Lib.byteCells i.id = ic at *
 generalize arrI i = ar at *
 generalize (⟨i.name.toArray⟩ : ByteArray) = sn at *
 by_cases h14 : 1 ≤ m ∧ m ≤ 4
 ·have hl := modeL_len m
  rw [decide_eq_false (by rw [hwd, if_pos h14]; omega)] at hem
  generalize (⟨(wordI m).toArray⟩ : ByteArray) = sw at *
  have hd1 : decide (1 ≤ m) = true := decide_eq_true h14.1; have hd4 : decide (m ≤ 4) = true := decide_eq_true h14.2; rw [hd1, hd4] at HONE; clear hwd hl h14 hd1 hd4
  cases nm with
  | false =>
   have hr : R = false := HONE.out; subst hr
   go_enter Tryz.func99, Tryz.ntmps99
   go_wp2_with fail
   refine (cW _).mono ?_; rintro e w1 ⟨rfl, rfl⟩
   go_wp2_with fail
   refine cN.mono ?_; rintro e w1 ⟨rfl, b1⟩; have B1 := hyd (HB0.out.trans (b1.mono HB0.out.size)); clear b1; go_wp2; go_ret; exact ⟨rfl, B1.out⟩
  | true =>
   have hr : R = !zb := by rw [HONE.out]; simp
   subst hr
   go_enter Tryz.func99, Tryz.ntmps99
   go_wp2_with fail
   refine (cW _).mono ?_; rintro e w1 ⟨rfl, rfl⟩
   go_wp2_with fail
   refine cN.mono ?_; rintro e w1 ⟨rfl, b1⟩; have Q3 := hyd (HQ2.out _ b1); have B1 := hyd (HB0.out.trans (b1.mono HB0.out.size)); clear b1
   go_wp2_with (first
    | (with_reducible refine wpList_load_midW 24 (.tmp 13) rfl (by kernel_rfl) w.heap.size 2 rfl ic _ Q3.out Tryz.underlying24 rfl LI.out ?_)
    | fail)
   go_ret; exact ⟨rfl, B1.out⟩
 ·have hr : R = false := by
   rw [HONE.out]
   by_cases h1 : 1 ≤ m
   ·rw [decide_eq_false (by omega : ¬ m ≤ 4), Bool.and_false]
   ·rw [decide_eq_false h1, Bool.and_false, Bool.false_and]
  subst hr; rw [decide_eq_true (by rw [hwd, if_neg h14]; rfl)] at hem
  generalize (⟨(wordI m).toArray⟩ : ByteArray) = sw at *
  clear hwd h14 cN
  go_enter Tryz.func99, Tryz.ntmps99
  go_wp2_with fail
  refine (cW _).mono ?_; rintro e w1 ⟨rfl, rfl⟩; go_wp2; go_ret; exact ⟨rfl, HB0.out⟩
end Go.Proofs.YtnbcbiglkmdepaaGreatDoor
namespace Go.Proofs.YtnbcbiglkmdepaaGreatDoor
set_option maxRecDepth 20000
open Go.RowKit Go.Maps
theorem keyLaw : Keyed Tryz.prog 9 := string_keyed Tryz.underlying9
theorem zero_unit (w : World) : (zeroValue 170).run Tryz.prog w = .ok (.agg #[]) w := by kernel_rfl
theorem run_makeMap_hint (n : Int) (w : World) : (Instr.makeMap 168 (some (.int .i64 n))).run Tryz.prog w = .ok (.map (some w.heap.size)) (w.alloc (.map #[] 0)) := by
 simp [Instr.makeMap, run_underlying Tryz.underlying168, asInt, asIntOf, Result.andThen]
def namesD (l : List Itm) (k : Nat) : DataW Unit := setOf (.agg []) ((l.take k).map fun i => Lit.string i.name)
theorem namesD_zero (l : List Itm) : namesD l 0 = .map [] := by simp [namesD, setOf]
theorem namesD_next (l : List Itm) (k : Nat) (h : k < l.length) : namesD l (k + 1) = (namesD l k).put (.string l[k].name) (.agg []) := by
 unfold namesD; rw [List.take_add_one, List.getElem?_eq_getElem h, List.map_append]; exact setOf_snoc _ _ _
theorem namesD_has (l : List Itm) (k : Nat) (s : List UInt8) : Maps.has (namesD l k) (.string s) = (l.take k).any (fun i => i.name == s) := by
 unfold namesD; rw [has_setOf _ _ _ (fun y hy => by obtain ⟨_, _, rfl⟩ := List.mem_map.1 hy; trivial), List.any_map]
 rfl
theorem names_other (l : List Itm) (i : Nat) (h : i < l.length) : otherI l i = !((l.take i).any (fun y => y.name == (l.getD i noI).name)) := by
 rw [Bool.eq_iff_iff, other_iff, Bool.not_eq_true', List.any_eq_false]
 constructor
 ·intro ho y hy
  obtain ⟨k, hk, rfl⟩ := List.mem_iff_getElem.1 hy; rw [List.length_take] at hk; have := ho k (by omega); rw [List.getD_eq_getElem?_getD, List.getElem?_eq_getElem (by omega)] at this; rw [List.getElem_take]
  simpa using this
 ·intro ho k hk
  have := ho l[k] (List.mem_iff_getElem.2 ⟨k, by rw [List.length_take]; omega, by rw [List.getElem_take]⟩); rw [List.getD_eq_getElem?_getD, List.getElem?_eq_getElem (by omega)]
  simpa using this
theorem map_below {w w' : World} {B n : Nat} {D : DataW Unit} (h : w.ownsMap Tryz.prog 9 unitElem B n D) (b : Below w.heap.size w w') : w'.ownsMap Tryz.prog 9 unitElem B n D := by
 obtain ⟨es, clock, hb, r⟩ := h; exact ⟨es, clock, (b.block B (Array.getElem?_eq_some_iff.1 hb).1).trans hb, r⟩
theorem pRight_some (b o n c : Nat) (l : List Itm) (w : World) (hn : n = l.length) (h1 : 1 ≤ n) (h5 : n ≤ 500) (hbl : b < w.heap.size)
  (hc : ∀ k (h : k < l.length) j v, (cellsI l[k])[j]? = some v → w.cell? ⟨b, o + k * 22 + j, none⟩ = some v) (hid : ∀ i ∈ l, i.id.length = 20) (hnm : ∀ i ∈ l, i.name.length ≤ 1000000) (tab : QTab w) :
  Calls Tryz.prog 81 #[.slice (some ⟨b, o, none⟩) n c] w fun e w' => e = .returned (.bool (rightIt l)) ∧ Below w.heap.size w w' := by
 have g1 : ((n : Int) == 0) = false := beq_false_of_ne (by omega)
 have g2 : ¬ ((n : Int) > 500) := by omega
 have HN := hyd hn; have HC := hyd hc; have HID := hyd hid; have HNM := hyd hnm; have TB := hyd tab; have hmm := run_makeMap_hint (n : Int); obtain ⟨R, hR⟩ : ∃ R, rightIt l = R := ⟨_, rfl⟩; have HR := hyd hR; rw [hR]; obtain ⟨z, hz, hzs, hzv, hzb, hz1⟩ := zItem_any; have HZS := hyd hzs; clear hn hc hid hnm tab hR hz hzs hzb hz1
 go_enter Tryz.func81, Tryz.ntmps81
 go_wp2_with fail
 go_loopw [21] (fun v21 wr => ∃ i : Nat, i ≤ n ∧ v21 = .int .i64 i ∧ (∀ j, j < i → stepI l j = true) ∧ wr.ownsMap Tryz.prog 9 unitElem w.heap.size i (namesD l i) ∧ Below w.heap.size w wr) (fun v21 _ => n - (intOf v21).toNat)
 case atStart => exact ⟨0, Nat.zero_le _, rfl, fun j hj => absurd hj (Nat.not_lt_zero _), by rw [namesD_zero]; exact World.ownsMap_made _ _ _ _, (Below.refl _ _).alloc (Nat.le_refl _) _⟩
 case round =>
  obtain ⟨i, hi, rfl, hst, hown, hbr⟩ := hrel; have HST := hyd hst; have HOWN := hyd hown; have HBR := hyd hbr; clear hst hown hbr
  by_cases hlt : i < n
  ·have hil : i < l.length := by rw [← HN.out]; exact hlt
   have hx : l.getD i noI = l[i] := by rw [List.getD_eq_getElem?_getD, List.getElem?_eq_getElem hil]; rfl
   obtain ⟨x, hx2⟩ : ∃ x, l[i] = x := ⟨_, rfl⟩
   have hxm : x ∈ l := by rw [← hx2]; exact List.getElem_mem _
   have hidx := HID.out x hxm; have hnx := HNM.out x hxm
   have rx : wr.rangeAt b (o + i * 22) (cellsI x) := fun j v hv => (HBR.out.cell (p := ⟨b, o + i * 22 + j, none⟩) hbl).trans (HC.out i hil j v (by rw [hx2]; exact hv))
   have lx : (Tryz.prog.info? 77).map (·.size) = some (cellsI x).length := by rw [cellsI_len x hidx]; exact infoItem
   have HAH := hyd (show aheadI l i = (oneI x && (i == 0 || befI (l.getD (i - 1) noI) x)) by unfold aheadI; rw [hx, hx2]); have HOT := hyd (show otherI l i = !(Maps.has (namesD l i) (.string x.name)) by rw [names_other l i hil, namesD_has, hx, hx2]); have HNX := hyd (show namesD l (i + 1) = (namesD l i).put (.string x.name) (.agg []) by rw [namesD_next l i hil, hx2]); have hky : keyOf Tryz.prog 9 (.string ⟨x.name.toArray⟩) = some (.string x.name) := WideMaps.keyOf_string_mk Tryz.underlying9 (by rw [size_toArray]; unfold maxLen; omega); have hcs : (arrI x).size = 22 := arrI_size x hidx; have hc1 : (arrI x).all (·.oneCell') = true := arrI_one x; have b1 := below_setRow (B := wr.heap.size) (g := wr.heap.size) ((Below.refl wr.heap.size wr).alloc (Nat.le_refl _) (.cells z 77)) (Nat.le_refl _) (arrI x); have h1g := setRow_heap (wr.alloc (.cells z 77)) wr.heap.size z (arrI x) 77 (0, 0) (heap_alloc_new wr _); have hax : arrI x = (cellsI x).toArray := rfl; obtain ⟨cx, hcx⟩ : ∃ cx, cellsI x = cx := ⟨_, rfl⟩; rw [hcx] at rx lx hax; rw [hax] at hcs hc1 b1 h1g; have HCX := hyd hcx; have RX := hyd rx; have LX := hyd lx; have HKY := hyd hky; have HCS := hyd hcs; have HC1 := hyd hc1; have HB1 := hyd b1; have H1G := hyd h1g; clear hx hx2 rx lx hky hcs hc1 b1 h1g hxm hax hcx
   go_wp2_with (first
    | (with_reducible refine wpList_load_mid rfl 77 (.tmp 24) rfl b (o + i * 22) rfl cx _ RX.out Tryz.underlying77 rfl LX.out ?_)
    | (with_reducible refine wpList_store_row rfl 77 (.tmp 5) (.tmp 25) rfl wr.heap.size cx.toArray rfl rfl 77 z (heap_alloc_new wr _) (info_arr _ HCS.out) (HZS.out.trans HCS.out.symm) HC1.out ?_)
    | fail)
   obtain ⟨W1, hW1⟩ : ∃ W1, (wr.alloc (.cells z 77)).setRow wr.heap.size cx.toArray = W1 := ⟨_, rfl⟩; have hb1 := HB1.out; have hg1 := H1G.out; rw [hW1] at hb1 hg1 ⊢; have HBW := hyd (HBR.out.trans (hb1.mono HBR.out.size)); have HOW := hyd (map_below HOWN.out hb1)
   have RG := hyd (show ∀ u, Below W1.heap.size W1 u → u.rangeAt wr.heap.size 0 cx from fun u hu j v hv => by
    have e := heap_keep hg1 hu
    rw [Lib.cell_of_heap e, Nat.zero_add, ← hv]; simp)
   have DS := hyd (show ∀ u, Below W1.heap.size W1 u → Calls Tryz.prog 99 #[.agg cx.toArray] u fun e u' => e = .returned (.bool (oneI x)) ∧ Below W1.heap.size W1 u' from fun u hu =>
    (by
     have := sound_is x hidx hnx u (TB.out.below ((HBW.out.trans (hu.mono HBW.out.size)))); rw [show arrI x = cx.toArray by rw [← HCX.out]; rfl] at this
     exact this.mono fun e u' ⟨he, hb⟩ => ⟨he, hu.trans (hb.mono hu.size)⟩))
   have HIX := hyd hidx; have HNXX := hyd hnx; clear hb1 hg1 hW1 hidx hnx; obtain ⟨ra, hra⟩ : ∃ ra, (!aheadI l i) = ra := ⟨_, rfl⟩; have HRA := hyd hra; clear hra; obtain ⟨on, hon⟩ : ∃ on, oneI x = on := ⟨_, rfl⟩; have ds := DS.out; have hah := HAH.out; clear HAH DS; rw [hon] at ds hah; have DS := hyd ds; have HAH := hyd hah; clear ds hah hon; refine region_cut (fun _ a' u => a' = ({ tmps := List.toArray ((.slice (some ⟨b, o, none⟩) n c : Value) :: undef :: u2 :: (.map (some w.heap.size) : Value) :: (.int .i64 i : Value) :: (.pointer (some ⟨wr.heap.size, 0, none⟩) : Value) :: u6 :: u7 :: (.slice (some ⟨b, o, none⟩) n c : Value) :: (.int .i64 n : Value) :: (.bool false : Value) :: (.bool false : Value) :: (.slice (some ⟨b, o, none⟩) n c : Value) :: (.int .i64 n : Value) :: (.bool false : Value) :: (.bool false : Value) :: (.slice (some ⟨b, o, none⟩) n c : Value) :: (.int .i64 n : Value) :: (.map (some w.heap.size) : Value) :: (.slice (some ⟨b, o, none⟩) n c : Value) :: (.int .i64 n : Value) :: (.int .i64 i : Value) :: (.bool true : Value) :: (.int .i64 i : Value) :: (.pointer (some ⟨b, o + i * 22, none⟩) : Value) :: (.agg cx.toArray : Value) :: (a'.tmps.getD 26 undef) :: (a'.tmps.getD 27 undef) :: (a'.tmps.getD 28 undef) :: (a'.tmps.getD 29 undef) :: (a'.tmps.getD 30 undef) :: (a'.tmps.getD 31 undef) :: (a'.tmps.getD 32 undef) :: (a'.tmps.getD 33 undef) :: (a'.tmps.getD 34 undef) :: (a'.tmps.getD 35 undef) :: (a'.tmps.getD 36 undef) :: (a'.tmps.getD 37 undef) :: (a'.tmps.getD 38 undef) :: (a'.tmps.getD 39 undef) :: (a'.tmps.getD 40 undef) :: (a'.tmps.getD 41 undef) :: (.bool ra : Value) :: u43 :: u44 :: u45 :: u46 :: u47 :: u48 :: u49 :: u50 :: u51 :: u52 :: u53 :: u54 :: u55 :: []), defers := [] } : Act) ∧ Below W1.heap.size W1 u) ?_ ?_
   ·cases on with
    | false =>
     have HA := hyd (show (!aheadI l i) = true by rw [HAH.out]; rfl); obtain rfl : true = ra := HA.out.symm.trans HRA.out; refine rgB W1 (fun hd => ?_); refine tkH 0 rfl (yieldsIf_load_mid (by kernel_rfl) 77 (.tmp 5) (by kernel_rfl) wr.heap.size 0 (by kernel_rfl) cx _ (fun u hu => RG.out u hu) Tryz.underlying77 rfl LX.out) hd ?_; refine rdH 1 rfl (fun K hK => ?_)
     go_simp
     refine (DS.out _ hd).mono ?_; rintro e u1 ⟨rfl, hH⟩; clear hd; refine hK.out _ _ hH (fun hd => ?_); clear hK K
     try simp only [Act.put, lsA, lsZ, lsS]
     refine tkW 2 rfl hd ?_; refine tkW 3 rfl hd ?_; refine tkU 4 rfl hd ?_; refine tkU 5 rfl hd ?_; refine tkU 6 rfl hd ?_; refine tkU 7 rfl hd ?_; refine tkU 8 rfl hd ?_; refine tkU 9 rfl hd ?_; refine tkU 10 rfl hd ?_; refine tkU 11 rfl hd ?_; refine tkU 12 rfl hd ?_; refine tkU 13 rfl hd ?_; refine tkU 14 rfl hd ?_; refine tkU 15 rfl hd ?_; refine tkW 16 rfl hd ?_; refine wpAnyH_done (by kernel_rfl) ?_ _; refine ⟨?_, hH⟩
     kernel_rfl
    | true =>
     by_cases hi0 : i = 0
     ·have hi1 : (i == 0) = true := by simp [hi0]
      have hz0 : decide ((0 : Int) < (i : Int)) = false := decide_eq_false (by omega); have hz1 : decide (0 < i) = false := decide_eq_false (by omega)
      have hz2 : ¬ 0 < i := by omega
      have HI0 := hyd hi0; clear hi0; have HA := hyd (show (!aheadI l i) = false by rw [HAH.out]; rw [hi1]; rfl); obtain rfl : false = ra := HA.out.symm.trans HRA.out; refine rgB W1 (fun hd => ?_); refine tkH 0 rfl (yieldsIf_load_mid (by kernel_rfl) 77 (.tmp 5) (by kernel_rfl) wr.heap.size 0 (by kernel_rfl) cx _ (fun u hu => RG.out u hu) Tryz.underlying77 rfl LX.out) hd ?_; refine rdH 1 rfl (fun K hK => ?_)
      go_simp
      refine (DS.out _ hd).mono ?_; rintro e u1 ⟨rfl, hH⟩; clear hd; refine hK.out _ _ hH (fun hd => ?_); clear hK K
      try simp only [Act.put, lsA, lsZ, lsS]
      refine tkW 2 rfl hd ?_; refine tkW 3 rfl hd ?_; refine tkW 4 rfl hd ?_; refine tkW 5 rfl hd ?_; refine tkW 6 rfl hd ?_; refine tkU 7 rfl hd ?_; refine tkU 8 rfl hd ?_; refine tkU 9 rfl hd ?_; refine tkU 10 rfl hd ?_; refine tkU 11 rfl hd ?_; refine tkU 12 rfl hd ?_; refine tkU 13 rfl hd ?_; refine tkU 14 rfl hd ?_; refine tkW 15 rfl hd ?_; refine tkW 16 rfl hd ?_; refine wpAnyH_done (by kernel_rfl) ?_ _; refine ⟨?_, hH⟩
      kernel_rfl
     ·have hp : i - 1 < l.length := by omega
      have hm : l[i - 1] ∈ l := List.getElem_mem _; obtain ⟨p, hpi⟩ : ∃ p, p + 1 = i := ⟨i - 1, by omega⟩; obtain ⟨y, hy⟩ : ∃ y, l[i - 1] = y := ⟨_, rfl⟩
      have hyp : l.getD (i - 1) noI = y := by rw [List.getD_eq_getElem?_getD, List.getElem?_eq_getElem hp]; exact hy
      rw [hy] at hm; have hiy := HID.out y hm; have hny := HNM.out y hm
      have hw : IntKind.i64.wrap ((i : Int) - 1) = (p : Int) := by rw [IntWalk.i64_in _ (by omega)]; omega
      have hpn : p < n := by omega
      have hry : ∀ u, Below W1.heap.size W1 u → u.rangeAt b (o + p * 22) (cellsI y) := fun u hu j v hv => ((HBW.out.trans (hu.mono HBW.out.size)).cell (p := ⟨b, o + p * 22 + j, none⟩) hbl).trans (HC.out p (by omega) j v (by rw [show l[p]'(by omega) = y by rw [← hy]; congr 1; omega]; exact hv))
      have ly : (Tryz.prog.info? 77).map (·.size) = some (cellsI y).length := by rw [cellsI_len y hiy]; exact infoItem
      have cB := fun u => pBefore_is y x hiy HIX.out hny HNXX.out u
      obtain ⟨r, hr⟩ : ∃ r, befI y x = r := ⟨_, rfl⟩; rw [hr] at cB; obtain ⟨cp, hcp⟩ : ∃ cp, cellsI y = cp := ⟨_, rfl⟩; rw [HCX.out, hcp] at cB; rw [hcp] at ly hry; have LP := hyd ly; have RP := hyd hry; have DB := hyd (fun u (h : Below W1.heap.size W1 u) => ((cB u).mono (fun e u' ⟨he, hb⟩ => ⟨he, h.trans (hb.mono h.size)⟩) : Calls Tryz.prog 100 #[.agg cp.toArray, .agg cx.toArray] u fun e u' => e = .returned (.bool r) ∧ Below W1.heap.size W1 u')); have hi1 : (i == 0) = false := beq_false_of_ne hi0; have HH := hyd (And.intro hr hyp)
      have hpos : 0 < i := by omega
      clear ly hry cB hr hyp hiy hny hcp hy hm hp; have HA := hyd (show (!aheadI l i) = (!r) by rw [HAH.out]; rw [hi1, HH.out.2, HH.out.1]; cases r <;> rfl); obtain rfl : (!r) = ra := HA.out.symm.trans HRA.out; refine rgB W1 (fun hd => ?_); refine tkH 0 rfl (yieldsIf_load_mid (by kernel_rfl) 77 (.tmp 5) (by kernel_rfl) wr.heap.size 0 (by kernel_rfl) cx _ (fun u hu => RG.out u hu) Tryz.underlying77 rfl LX.out) hd ?_; refine rdH 1 rfl (fun K hK => ?_)
      go_simp
      refine (DS.out _ hd).mono ?_; rintro e u1 ⟨rfl, hH⟩; clear hd; refine hK.out _ _ hH (fun hd => ?_); clear hK K
      try simp only [Act.put, lsA, lsZ, lsS]
      refine tkW 2 rfl hd ?_; refine tkW 3 rfl hd ?_; refine tkW 4 rfl hd ?_; refine tkW 5 rfl hd ?_; refine tkW 6 rfl hd ?_; refine tkW 7 rfl hd ?_; refine tkW 8 rfl hd ?_; refine tkW 9 rfl hd ?_; refine tkW 10 rfl hd ?_; refine tkH 11 rfl (yieldsIf_load_mid (by kernel_rfl) 77 (.tmp 36) (by kernel_rfl) b (o + p * 22) (by kernel_rfl) cp _ (fun u hu => RP.out u hu) Tryz.underlying77 rfl LP.out) hd ?_; refine tkH 12 rfl (yieldsIf_load_mid (by kernel_rfl) 77 (.tmp 5) (by kernel_rfl) wr.heap.size 0 (by kernel_rfl) cx _ (fun u hu => RG.out u hu) Tryz.underlying77 rfl LX.out) hd ?_; refine rdH 13 rfl (fun K hK => ?_)
      go_simp
      refine (DB.out _ hd).mono ?_; rintro e u2 ⟨rfl, hH⟩; clear hd; refine hK.out _ _ hH (fun hd => ?_); clear hK K
      try simp only [Act.put, lsA, lsZ, lsS]
      refine tkW 14 rfl hd ?_; refine tkW 15 rfl hd ?_; refine tkW 16 rfl hd ?_; refine wpAnyH_done (by kernel_rfl) ?_ _; refine ⟨?_, hH⟩
      kernel_rfl
   ·rintro a' u ⟨he, hbu⟩
    generalize a'.tmps.getD 26 undef = s26 at he; generalize a'.tmps.getD 27 undef = s27 at he; generalize a'.tmps.getD 28 undef = s28 at he; generalize a'.tmps.getD 29 undef = s29 at he; generalize a'.tmps.getD 30 undef = s30 at he; generalize a'.tmps.getD 31 undef = s31 at he; generalize a'.tmps.getD 32 undef = s32 at he; generalize a'.tmps.getD 33 undef = s33 at he; generalize a'.tmps.getD 34 undef = s34 at he; generalize a'.tmps.getD 35 undef = s35 at he; generalize a'.tmps.getD 36 undef = s36 at he; generalize a'.tmps.getD 37 undef = s37 at he; generalize a'.tmps.getD 38 undef = s38 at he; generalize a'.tmps.getD 39 undef = s39 at he; generalize a'.tmps.getD 40 undef = s40 at he; generalize a'.tmps.getD 41 undef = s41 at he; subst he; have HB := hyd hbu; have HOU := hyd (map_below HOW.out hbu); have HBU := hyd (HBW.out.trans (hbu.mono HBW.out.size)); have q1 : u.cell? ⟨wr.heap.size, 1, none⟩ = some (.string ⟨x.name.toArray⟩) := RG.out u hbu 1 _ (by rw [← HCX.out]; rfl); clear hbu; obtain ⟨sx, hsx⟩ : ∃ sx : ByteArray, ⟨x.name.toArray⟩ = sx := ⟨_, rfl⟩; have hky := HKY.out; rw [hsx] at q1 hky; have HK := hyd hky; clear hsx hky
    cases ra with
    | true =>
     have hR : false = R := by
      rw [← HR.out]; exact (right_no_step l i (by rw [← HN.out]; exact hlt) (by unfold stepI; have := HRA.out; cases ha : aheadI l i with | false => rfl | true => rw [ha] at this; cases this)).symm
     subst hR; go_wp2; go_ret; exact ⟨rfl, HBU.out⟩
    | false =>
     have HAH2 := hyd (show aheadI l i = true by have := HRA.out; cases ha : aheadI l i with | true => rfl | false => rw [ha] at this; cases this); have hot := HOT.out; obtain ⟨ht, hht⟩ : ∃ ht, Maps.has (namesD l i) (.string x.name) = ht := ⟨_, rfl⟩; rw [hht] at hot; have HOTT := hyd hot; have HHT := hyd hht; clear hot hht
     cases ht with
     | true =>
      have hR : false = R := by
       rw [← HR.out]; exact (right_no_step l i (by rw [← HN.out]; exact hlt) (by unfold stepI; rw [HOTT.out]; simp)).symm
      subst hR
      go_wp2_with (first
       | (at_lookup; refine wpList_lookup_own_unit _ rfl _ _ 168 rfl 9 170 keyLaw Tryz.underlying168 (zero_unit _) w.heap.size i _ rfl HOU.out _ _ rfl HK.out ?_; rw [HHT.out])
       | fail)
      go_ret; exact ⟨rfl, HBU.out.alloc HBU.out.size _⟩
     | false =>
      have HSTEP := hyd (show stepI l i = true by unfold stepI; rw [HAH2.out, HOTT.out]; rfl); have u1 := (Below.refl u.heap.size u).alloc (Nat.le_refl _) (.cells #[] 170); have q1b := (u1.cell (p := ⟨wr.heap.size, 1, none⟩) (World.block_lt_of_cell? u _ q1)).trans q1; have HOV := hyd (map_below HOU.out u1); have HBV := hyd (HBU.out.trans (u1.mono HBU.out.size)); clear u1
      go_wp2_with (first
       | (at_lookup; refine wpList_lookup_own_unit _ rfl _ _ 168 rfl 9 170 keyLaw Tryz.underlying168 (zero_unit _) w.heap.size i _ rfl HOU.out _ _ rfl HK.out ?_; rw [HHT.out])
       | (at_mapUpdate; refine wpList_mapUpdate_own _ rfl _ _ _ 168 rfl 9 170 keyLaw Tryz.underlying168 (unitElem (H := Unit)) w.heap.size i _ rfl HOV.out (by unfold maxLen; omega) _ _ _ rfl rfl HK.out _ [] unitElem_mk ?_; intro w1 hown1 hgrow1)
       | fail)
      have hbn := HBV.out.grown hgrow1 HBV.out.size (fun j hj => by cases hj; exact Nat.le_refl _); have HON := hyd hown1; have HBN := hyd hbn; clear hown1 hgrow1 hbn
      go_roundw
      case rel =>
       refine ⟨i + 1, by omega, by go_num, fun j hj => ?_, by rw [HNX.out]; exact HON.out, HBN.out⟩
       by_cases hji : j < i
       ·exact HST.out j hji
       ·obtain rfl : j = i := by omega
        exact HSTEP.out
      case measure => simp [intOf]; omega
  ·have hR : true = R := by
    rw [← HR.out]; exact (right_yes l (by rw [← HN.out]; exact h1) (by rw [← HN.out]; exact h5) (fun j hj => HST.out j (by rw [← HN.out] at hj; omega))).symm
   subst hR; go_wp2; go_ret; exact ⟨rfl, HBR.out⟩
end Go.Proofs.YtnbcbiglkmdepaaGreatDoor
