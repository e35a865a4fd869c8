/-
  Texts that belong together, one behind the other.
-/
import Derived.Test.YtnohonjjfjppoaaGreatDoorFu05
import Derived.Test.YtnohonjjfjppoaaGreatDoorFu04
import Derived.Test.YtnohonjjfjppoaaGreatDoorFu06
import Derived.Laws.CopyRow
import Derived.Laws.ResultCell
import Derived.BigFrame
import Derived.Lib.LaidU8T
import Derived.PinnedBridge
import Derived.Test.YtnohonjjfjppoaaGreatDoorFu02
import Derived.Shelf.Unicode.ValidAny
import Derived.Test.YtnohonjjfjppoaaGreatDoorFu01
import Derived.Deep.QuietTactic
import Derived.BigQuiet
/-
  Layer 8: items in blocks of their own: the one that tells nothing, literals, an id copied in, results.
-/
namespace Go.Proofs.YtnohonjjfjppoaaGreatDoor
set_option maxRecDepth 20000
open Go.RowKit
set_option linter.unusedVariables false
set_option linter.unusedSimpArgs false
/-- The item that tells nothing. -/
def zItm : Itm := ⟨0, [], zeroId⟩
/-- An item's cells, as one array. -/
def arrI (i : Itm) : Array Value := (cellsI i).toArray
theorem arrI_size (i : Itm) (h : i.id.length = 20) : (arrI i).size = 22 := by unfold arrI; rw [List.size_toArray, cellsI_len i h]
theorem arrI_one (i : Itm) : (arrI i).all (·.oneCell') = true := cellsI_one i
theorem zItem : (Tryz.prog.info? 54).map (fun i => (i.zero, i.size)) = some (some (.agg (arrI zItm)), 22) := by kernel_rfl
theorem zItem_any : ∃ z : Array Value, z = arrI zItm ∧ z.size = 22 ∧ (∀ w, (zeroValue 54).run Tryz.prog w = .ok (.agg z) w) ∧ Tryz.prog.built 54 [] = some z ∧ z.all (·.oneCell') = true :=
  ⟨arrI zItm, rfl, by kernel_rfl, zero_arr zItem, by kernel_rfl, arrI_one _⟩
theorem built_item (m : Int) (s : List UInt8) : Tryz.prog.built 54 [(0, .int .i64 m), (1, .string ⟨s.toArray⟩)] = some (arrI ⟨m, s, zeroId⟩) := by kernel_rfl
theorem info_arr (a : Array Value) (h : a.size = 22) : (Tryz.prog.info? 54).map (·.size) = some a.size := by rw [h]; exact infoItem
theorem slice20_all (u : World) (g k : Nat) : (Instr.sliceAt 27 (.pointer (some ⟨g, k, none⟩)) none none none).run Tryz.prog u = .ok (.slice (some ⟨g, k, none⟩) 20 20) u := by
  have ea : Tryz.prog.arrayLen 27 = 20 := by kernel_rfl
  have ee : Tryz.prog.elem 27 = 5 := by kernel_rfl
  rw [run_sliceAt_array_all u 27 ⟨g, k, none⟩ (by rw [ea, ee]; exact Tryz.underlying27), ea, ee, Tryz.sizeOf5]
  simp [Result.andThen, slicedAt, Addr.add]
theorem bc_one (l : List UInt8) : ∀ v ∈ Lib.byteCells l, v.oneCell' = true := by
  intro v hv
  simp only [Lib.byteCells, List.mem_map] at hv
  obtain ⟨b, _, rfl⟩ := hv
  rfl
/-- 'copy(x.Id[:], s)'. -/
theorem copy_item (w : World) (g : Nat) (m : Int) (nm y : List UInt8) (cs : Array Value) (hcs : cs = arrI ⟨m, nm, zeroId⟩) (hg : w.heap[g]? = some (.cells cs 54 (0, 0))) (hy : 20 ≤ y.length) :
    (Builtin.copy_ #[50, 9] 3 #[.slice (some ⟨g, 2, none⟩) 20 20, .string ⟨y.toArray⟩]).run Tryz.prog w = .ok (.int .i64 20) (w.setRow g (arrI ⟨m, nm, y.take 20⟩)) := by
  have hl : (Lib.byteCells (y.take 20)).length = 20 := by simp [Lib.byteCells]; omega
  have hcz : cs.size = 22 := by rw [hcs]; exact arrI_size _ (by simp [zeroId])
  have hst := run_storeCells_at Tryz.prog g 2 54 (Lib.byteCells (y.take 20)) 0 cs w hg (by rw [hl, hcz]; omega) (bc_one _)
  have hmin : Nat.min y.length 20 = 20 := Nat.min_eq_right hy
  have hu : Tryz.prog.underlying 50 = some (.slice 5) := Tryz.underlying50
  have e1 : (List.take 20 (List.map (fun b : UInt8 => Value.int IntKind.u8 (b.toNat : Int)) y)) = Lib.byteCells (y.take 20) := by simp [Lib.byteCells]
  have e2 : (cs.toList.take 2 ++ Lib.byteCells (y.take 20) ++ cs.toList.drop 22).toArray = arrI ⟨m, nm, y.take 20⟩ := by
    rw [List.drop_eq_nil_of_le (by rw [Array.length_toList, hcz]; omega), List.append_nil, hcs]
    rfl
  rw [hl] at hst
  simp only [Nat.add_zero] at hst
  rw [show 2 + 20 = 22 from rfl, e2] at hst
  simp [Builtin.copy_, run_underlying hu, Builtin.lenOf, Builtin.firstCells, Tryz.sizeOf5, Result.andThen, size_toArray, hmin]
  rw [e1, hst]
  rfl
/-- What a function hands back: an item out of its block, and two values. -/
theorem results_item3 {fn : Func} (h : fn.results = #[.cell 2 54, .tmp 3, .tmp 4]) (tmps : Array Value) (w : World) (g : Nat) (cs : Array Value) (fr : Nat × Nat) (x y : Value)
    (hp : tmps.getD 2 undef = .pointer (some ⟨g, 0, none⟩)) (hx : tmps.getD 3 undef = x) (hy : tmps.getD 4 undef = y) (hg : w.heap[g]? = some (.cells cs 54 fr)) (hn : cs.size = 22) :
    (results fn tmps).run Tryz.prog w = .ok (.tuple #[.agg cs, x, y]) w := by
  have hl := run_loadVar_row w g 54 54 cs fr _ hg Tryz.underlying54 rfl (info_arr cs hn)
  have hp' : tmps[2]?.getD undef = .pointer (some ⟨g, 0, none⟩) := by simpa using hp
  have hx' : tmps[3]?.getD undef = x := by simpa using hx
  have hy' : tmps[4]?.getD undef = y := by simpa using hy
  simp [results, h, hp', hx', hy', asAddr, hl, Result.andThen]
/-- A load of many cells out of the middle of a block, under a guard that holds. -/
theorem wpList_load_midW {ops : Array Oper} {rest : List Oper} {op : Oper} {a : Act} {w : World} {Q : Exit → Act → World → Prop} (ty : TypeId) (x : Operand) (ho : op.op = .load ty x) (hw : Region.wanted op (yielded ops a.tmps) = true)
    (b o : Nat) (hx : a.eval x = .pointer (some ⟨b, o, none⟩)) (cs : List Value) (d : TypeDesc) (hc : w.rangeAt b o cs)
    (hu : Tryz.prog.underlying ty = some d) (hd : d.isRow = true) (hi : (Tryz.prog.info? ty).map (·.size) = some cs.length)
    (h : wpList Tryz.prog ops Q rest (a.put op.dst (.agg cs.toArray)) w) : wpList Tryz.prog ops Q (op :: rest) a w :=
  Go.BigFrame.wpList_want hw fun _ hK => wp_load_mid ty x ho b o hx cs d hc hu hd hi (hK _ _ h)
end Go.Proofs.YtnohonjjfjppoaaGreatDoor

/-
  unicode/utf8's tables, as the row lists them.
-/
namespace Go.Proofs
open Go.Shelf Go.RowKit Go.Lib
def Tryz.utRen : Go.Shelf.Ren := ⟨fun n => n, fun | 5 => 5 | 119 => 156 | 138 => 158 | 139 => 159 | n => n, fun | 3 => 0 | 4 => 1 | n => n⟩
theorem Tryz.utTypes : U8Types Tryz.prog Tryz.utRen := {
  t5 := by kernel_rfl
  t119 := by kernel_rfl
  t138 := by kernel_rfl
  t139 := by kernel_rfl }
theorem Tryz.utExtra : U8Extra Tryz.prog Tryz.utRen := {
  n3 := by kernel_rfl
  n4 := by kernel_rfl
  y3 := by kernel_rfl
  y4 := by kernel_rfl
  c5 := by kernel_rfl
  c119 := by kernel_rfl
  c138 := by kernel_rfl }
namespace YtnohonjjfjppoaaGreatDoor
theorem tabs_of (w : World) (h3 : VarReads Tryz.prog w "unicode/utf8.first" firstData) (h4 : VarReads Tryz.prog w "unicode/utf8.acceptRanges" acceptData) : Lib.Utf8Tabs 0 1 w :=
  utf8Tabs_of_readsT Tryz.utTypes Tryz.utExtra h3 h4
end YtnohonjjfjppoaaGreatDoor
end Go.Proofs

/-
  The contract of utf8.ValidString at this program, the library's own, laid by hand; the tables of unicode/utf8, from what the row lists.
-/
namespace Go.Proofs
open Go.Shelf Go.RowKit Go.Lib
def Tryz.vsRen : Go.Shelf.Ren := ⟨fun | 196 => 71 | 259 => 103 | n => n, fun | 0 => 0 | 3 => 3 | 4 => 4 | 5 => 5 | 9 => 9 | 12 => 12 | 46 => 48 | 53 => 175 | 119 => 156 | 138 => 158 | 139 => 159 | n => n, fun | 3 => 0 | 4 => 1 | n => n⟩
theorem Tryz.vs196 : Go.Proofs.Lays.n196 Tryz.prog Tryz.vsRen := {
  mixed := by kernel_rfl
  f196 := Tryz.func71.trans (congrArg some (by kernel_rfl))
  f259 := Tryz.func103.trans (congrArg some (by kernel_rfl))
  t0 := Tryz.underlying0
  a0 := Tryz.isAgg0
  z0 := Tryz.sizeOf0
  v0 := Tryz.zeroValue0
  t3 := Tryz.underlying3
  a3 := Tryz.isAgg3
  z3 := Tryz.sizeOf3
  v3 := Tryz.zeroValue3
  t4 := Tryz.underlying4
  a4 := Tryz.isAgg4
  z4 := Tryz.sizeOf4
  v4 := Tryz.zeroValue4
  t5 := Tryz.underlying5
  a5 := Tryz.isAgg5
  z5 := Tryz.sizeOf5
  v5 := Tryz.zeroValue5
  t9 := Tryz.underlying9
  a9 := Tryz.isAgg9
  z9 := Tryz.sizeOf9
  v9 := Tryz.zeroValue9
  t12 := Tryz.underlying12
  a12 := Tryz.isAgg12
  z12 := Tryz.sizeOf12
  v12 := Tryz.zeroValue12
  t46 := Tryz.underlying48
  a46 := Tryz.isAgg48
  z46 := Tryz.sizeOf48
  v46 := Tryz.zeroValue48
  t53 := Tryz.underlying175
  a53 := Tryz.isAgg175
  z53 := Tryz.sizeOf175
  v53 := Tryz.zeroValue175
  t119 := Tryz.underlying156
  a119 := Tryz.isAgg156
  z119 := Tryz.sizeOf156
  t138 := Tryz.underlying158
  a138 := Tryz.isAgg158
  z138 := Tryz.sizeOf158
  v138 := Tryz.zeroValue158
  t139 := Tryz.underlying159
  a139 := Tryz.isAgg159
  z139 := Tryz.sizeOf159
  v139 := Tryz.zeroValue159
  g3 := by kernel_rfl
  g4 := by kernel_rfl }
namespace YtnohonjjfjppoaaGreatDoor
theorem valid_is (l : List UInt8) (w : World) (hn : l.length ≤ 1000000) (hT : Lib.Utf8Tabs 0 1 w) :
    Calls Tryz.prog 71 #[.string ⟨l.toArray⟩] w fun e w' => e = .returned (.bool (Lib.validD l)) ∧ Below w.heap.size w w' :=
  Any.utf8_ValidString Tryz.vs196 ⟨l.toArray⟩ w (by rw [size_toArray]; omega) hT
end YtnohonjjfjppoaaGreatDoor
end Go.Proofs

/-
  Layer 3: names and paths of the reference.
-/
namespace Go.Proofs.YtnohonjjfjppoaaGreatDoor
open Go.RowKit
set_option linter.unusedVariables false
set_option linter.unusedSimpArgs false
set_option maxHeartbeats 4000000 in
theorem rlow_is (c : UInt8) (w : World) : Calls Tryz.prog 104 #[.int .u8 c.toNat] w fun e w' => e = .returned (.int .u8 (lowB c).toNat) ∧ w' = w := by
  have hc := c.toNat_lt
  by_cases h1 : 65 ≤ c.toNat
  · by_cases h2 : c.toNat ≤ 90
    · have e : (lowB c).toNat = c.toNat + 32 := by
        unfold lowB
        rw [if_pos ⟨h1, h2⟩, UInt8.toNat_ofNat']
        omega
      have E := Lib.hid e
      clear e
      go_enter Tryz.func104, Tryz.ntmps104
      go_wp2
      go_ret
      exact ⟨ret_int (by rw [E.out]; omega), rfl⟩
    · have e : lowB c = c := by unfold lowB; rw [if_neg (by omega)]
      rw [e]
      go_enter Tryz.func104, Tryz.ntmps104
      go_wp2
      go_ret
      exact ⟨rfl, rfl⟩
  · have e : lowB c = c := by unfold lowB; rw [if_neg (by omega)]
    rw [e]
    go_enter Tryz.func104, Tryz.ntmps104
    go_wp2
    go_ret
    exact ⟨rfl, rfl⟩
def gitL : List UInt8 := [46, 103, 105, 116]
theorem git_at (l : List UInt8) (h4 : l.length = 4) (h : ∀ i, i < 4 → (lowB (l.getD i 0)).toNat = (gitL.getD i 0).toNat) : l.map lowB = gitL := by
  match l, h4 with
  | [a, b, c, d], _ =>
    have e0 := UInt8.toNat_inj.1 (h 0 (by omega))
    have e1 := UInt8.toNat_inj.1 (h 1 (by omega))
    have e2 := UInt8.toNat_inj.1 (h 2 (by omega))
    have e3 := UInt8.toNat_inj.1 (h 3 (by omega))
    simp only [List.getD_cons_zero, List.getD_cons_succ, gitL] at e0 e1 e2 e3
    simp only [List.map_cons, List.map_nil, gitL, e0, e1, e2, e3]
theorem git_not (l : List UInt8) (i : Nat) (hi : i < l.length) (h : (lowB (l.getD i 0)).toNat ≠ (gitL.getD i 0).toNat) : l.map lowB ≠ gitL := by
  intro e
  apply h
  rw [← e]
  congr 1
  rw [List.getD_eq_getElem?_getD, List.getD_eq_getElem?_getD, List.getElem?_map, List.getElem?_eq_getElem hi]
  rfl
theorem name_of (l : List UInt8) (h0 : l ≠ []) (h1 : l ≠ [46]) (h2 : l ≠ [46, 46]) : nameL l = !(decide (l.map lowB = gitL)) := by
  have e : (l.map lowB == [46, 103, 105, 116]) = decide (l.map lowB = gitL) := by
    unfold gitL
    rw [Bool.eq_iff_iff]; simp
  unfold nameL
  rw [e]
  simp [h0, h1, h2]
set_option maxHeartbeats 8000000 in
set_option maxRecDepth 100000 in
theorem rname_is (l : List UInt8) (w : World) (hn : l.length ≤ 1000000) :
    Calls Tryz.prog 72 #[.string ⟨l.toArray⟩] w fun e w' => e = .returned (.bool (nameL l)) ∧ Below w.heap.size w w' := by
  have hem := empty_list l
  have hq1 : ((⟨l.toArray⟩ : ByteArray).toList == [46]) = decide (l = [46]) := by rw [list_text]; rw [Bool.eq_iff_iff]; simp
  have hq2 : ((⟨l.toArray⟩ : ByteArray).toList == [46, 46]) = decide (l = [46, 46]) := by rw [list_text]; rw [Bool.eq_iff_iff]; simp
  have hsz := size_toArray l
  have hget : ∀ i, i < l.length → ∀ h2 : i < (⟨l.toArray⟩ : ByteArray).size, (⟨l.toArray⟩ : ByteArray)[i]'h2 = l.getD i 0 := fun i h h2 => getD_str l i h h2
  obtain ⟨s, hs⟩ : ∃ s : ByteArray, s = ⟨l.toArray⟩ := ⟨_, rfl⟩
  rw [← hs] at hem hq1 hq2 hsz hget ⊢
  have HGET := Lib.hid hget
  clear hs hget
  by_cases h0 : l.length = 0
  · have e0 : s.toList.isEmpty = true := by rw [hem]; simp [h0]
    have : l = [] := List.eq_nil_of_length_eq_zero h0
    have NN : Hid (nameL l = false) := Lib.hid (by rw [this]; rfl)
    clear hem hq1 hq2 hsz h0 this
    go_enter Tryz.func72, Tryz.ntmps72
    go_wp2
    go_ret
    exact ⟨ret_bool NN.out.symm, Below.refl _ _⟩
  have e0 : s.toList.isEmpty = false := by rw [hem]; simp [h0]
  have n0 : l ≠ [] := fun h => h0 (by rw [h]; rfl)
  by_cases h1 : l = [46]
  · rw [decide_eq_true h1] at hq1
    have NN : Hid (nameL l = false) := Lib.hid (by rw [h1]; rfl)
    clear hem hq2 hsz h0 n0 h1
    go_enter Tryz.func72, Tryz.ntmps72
    go_wp2
    go_ret
    exact ⟨ret_bool NN.out.symm, Below.refl _ _⟩
  rw [decide_eq_false h1] at hq1
  by_cases h2 : l = [46, 46]
  · rw [decide_eq_true h2] at hq2
    have NN : Hid (nameL l = false) := Lib.hid (by rw [h2]; rfl)
    clear hem hsz h0 n0 h1 h2
    go_enter Tryz.func72, Tryz.ntmps72
    go_wp2
    go_ret
    exact ⟨ret_bool NN.out.symm, Below.refl _ _⟩
  rw [decide_eq_false h2] at hq2
  have NM := Lib.hid (name_of l n0 h1 h2)
  clear hem n0 h1 h2
  by_cases h4 : l.length = 4
  · have GI : Hid (∀ i, i < 4 → ∀ h, (⟨#[46, 103, 105, 116]⟩ : ByteArray)[i]'h = gitL.getD i 0) := Lib.hid (fun i hi h => by
      have : i = 0 ∨ i = 1 ∨ i = 2 ∨ i = 3 := by omega
      rcases this with rfl | rfl | rfl | rfl <;> rfl)
    have hs4 : s.size = 4 := hsz.trans h4
    have H4 := Lib.hid h4
    clear hsz h4 h0
    go_enter Tryz.func72, Tryz.ntmps72
    go_wp2_with fail
    go_loopw [3] (fun vi wr => ∃ i : Nat, i ≤ 4 ∧ vi = .int .i64 i ∧ Below w.heap.size w wr ∧ Hid (∀ j, j < i → (lowB (l.getD j 0)).toNat = (gitL.getD j 0).toNat)) (fun vi _ => 4 - (intOf vi).toNat)
    case atStart => exact ⟨0, Nat.zero_le _, rfl, Below.refl _ _, Lib.hid fun j h => absurd h (Nat.not_lt_zero _)⟩
    case round =>
      obtain ⟨i, hi, rfl, hbr, HALL⟩ := hrel
      by_cases hlt : i < 4
      · have hx := HGET.out i (by have := H4.out; omega) (by omega)
        have hy := GI.out i hlt
        obtain ⟨x, hxe⟩ : ∃ x : UInt8, x = l.getD i 0 := ⟨_, rfl⟩
        obtain ⟨y, hye⟩ : ∃ y : UInt8, y = gitL.getD i 0 := ⟨_, rfl⟩
        rw [← hxe] at hx
        rw [← hye] at hy
        have cL := rlow_is x
        have XE := Lib.hid hxe
        have YE := Lib.hid hye
        obtain ⟨z, hz⟩ : ∃ z : Nat, z = (lowB x).toNat := ⟨_, rfl⟩
        rw [← hz] at cL
        have ZE := Lib.hid hz
        clear hxe hye hz
        by_cases hne : z = y.toNat
        · have f1 : ((z : Int) != (y.toNat : Int)) = false := by simp [hne]
          have NE := Lib.hid hne
          clear hne
          go_wp2_with fail
          go_quiet ((go_at_call 104; exact Calls.quiet_of_same (cL _)))
          go_wp2
          go_roundw
          case rel => exact ⟨i + 1, by omega, by go_num, _root_.Go.below_drewN hbr _, Lib.hid fun j hj => by
            by_cases h : j < i
            · exact HALL.out j h
            · obtain rfl : j = i := by omega
              rw [← XE.out, ← ZE.out, ← YE.out]
              exact NE.out⟩
          case measure => simp [intOf]; omega
        · have f1 : ((z : Int) != (y.toNat : Int)) = true := by simp; omega
          have NN : Hid (nameL l = true) := Lib.hid (by
            rw [NM.out, decide_eq_false (git_not l i (by have := H4.out; omega) (by rw [← XE.out, ← ZE.out, ← YE.out]; exact hne))]
            rfl)
          clear hne
          go_wp2_with fail
          go_quiet ((go_at_call 104; exact Calls.quiet_of_same (cL _)))
          go_wp2
          go_ret
          exact ⟨ret_bool NN.out.symm, _root_.Go.below_drewN hbr _⟩
      · obtain rfl : i = 4 := by omega
        have NN : Hid (nameL l = false) := Lib.hid (by
          rw [NM.out, decide_eq_true (git_at l H4.out HALL.out)]
          rfl)
        go_wp2
        go_ret
        exact ⟨ret_bool NN.out.symm, hbr⟩
  · have NN : Hid (nameL l = true) := Lib.hid (by
      rw [NM.out, decide_eq_false (fun h => h4 (by have := congrArg List.length h; simpa [gitL] using this))]
      rfl)
    have f4 : ((l.length : Int) != 4) = true := by simp; omega
    clear h0 h4
    go_enter Tryz.func72, Tryz.ntmps72
    go_wp2
    go_ret
    exact ⟨ret_bool NN.out.symm, Below.refl _ _⟩
end Go.Proofs.YtnohonjjfjppoaaGreatDoor
