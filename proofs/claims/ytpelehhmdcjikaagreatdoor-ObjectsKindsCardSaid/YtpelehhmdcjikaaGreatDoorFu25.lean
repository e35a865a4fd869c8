/-
  Texts that belong together, one behind the other.
-/
import Derived.Test.YtpelehhmdcjikaaGreatDoorFu18
import Derived.Test.YtpelehhmdcjikaaGreatDoorFu24
import Derived.Lib.Split
import Derived.Lib.IndexAny
import Derived.Test.YtpelehhmdcjikaaGreatDoorFu03
import Derived.Deep.Slices
import Derived.Deep.Strs
import Derived.Lib.SmallJoins
import Derived.Test.YtpelehhmdcjikaaGreatDoorFu06
import Derived.Test.YtpelehhmdcjikaaGreatDoorFu20
/-
  The table of the simple folds, from what the row lists.
-/
namespace Go.Proofs
open Go.Shelf Go.RowKit Go.Lib
namespace YtpelehhmdcjikaaGreatDoor
/-- The table of simple folds, where ".git" reads it. -/
theorem fold_of (w : World) (zs : List Int) (h : VarReads Tryz.prog w "unicode.asciiFold" (tabData .u16 zs)) (h46 : zs[46]? = some 46) (h71 : zs[71]? = some 103) (h73 : zs[73]? = some 105) (h84 : zs[84]? = some 116) (h103 : zs[103]? = some 71) (h105 : zs[105]? = some 73) (h116 : zs[116]? = some 84) : FoldTab w := by
  obtain ⟨g, t, cs, fuel, p, hg, hty, hvar, hd⟩ := h
  obtain rfl := Option.some.inj ((show Tryz.prog.globalNamed "unicode.asciiFold" = some 7 by kernel_rfl).symm.trans hg)
  obtain rfl := Option.some.inj ((show (Tryz.prog.globals[7]?).map (·.type) = some 276 by kernel_rfl).symm.trans hty)
  have hcs := cells_of_tab Tryz.underlying276 Tryz.underlying275 (by kernel_rfl) (by kernel_rfl) hd
  have key : ∀ (k : Nat) (v : Int), zs[k]? = some v → w.cell? ⟨7, k, none⟩ = some (.int .u16 v) := by
    intro k v hk
    rw [World.var?_cell hg hvar k, ← Array.getElem?_toList, hcs]
    simp [hk]
  intro k v hk
  rcases hk with ⟨rfl, rfl⟩ | ⟨rfl, rfl⟩ | ⟨rfl, rfl⟩ | ⟨rfl, rfl⟩ | ⟨rfl, rfl⟩ | ⟨rfl, rfl⟩ | ⟨rfl, rfl⟩
  · exact key _ _ h46
  · exact key _ _ h71
  · exact key _ _ h73
  · exact key _ _ h84
  · exact key _ _ h103
  · exact key _ _ h105
  · exact key _ _ h116
end YtpelehhmdcjikaaGreatDoor
end Go.Proofs

/-
  Layer 3: reserved and Path of the program.
-/
namespace Go.Proofs.YtpelehhmdcjikaaGreatDoor
open Go.RowKit
set_option linter.unusedVariables false
set_option linter.unusedSimpArgs false
/-- The pieces between slashes, as the library cuts them. -/
theorem split_lib : ∀ (k : Nat) (l : List UInt8), l.length ≤ k → Lib.splitB ⟨#[47]⟩ 0 (Lib.countB ⟨l.toArray⟩ ⟨#[47]⟩) ⟨l.toArray⟩ = (splitL l).map (fun n => (⟨n.toArray⟩ : ByteArray)) ∧ Lib.countB ⟨l.toArray⟩ ⟨#[47]⟩ + 1 = (splitL l).length := by
  intro k
  induction k with
  | zero =>
    intro l hl
    obtain rfl : l = [] := List.eq_nil_of_length_eq_zero (by omega)
    have hi : Lib.indexB ⟨([] : List UInt8).toArray⟩ ⟨#[47]⟩ = -1 := by
      show Lib.index [] [47] = -1
      rw [Lib.index_one]
      rfl
    rw [Lib.countB_miss _ _ hi]
    exact ⟨rfl, rfl⟩
  | succ k ih =>
    intro l hl
    have hb : Lib.indexB ⟨l.toArray⟩ ⟨#[47]⟩ = Lib.indexByte l 47 := by
      show Lib.index l [47] = _
      exact Lib.index_one l 47
    by_cases hm : Lib.indexByte l 47 = -1
    · rw [Lib.countB_miss _ _ (hb.trans hm), Lib.splitB_zero]
      have hno : ∀ c ∈ l, c.toNat ≠ 47 := fun c hc h => by
        obtain ⟨j, hj, rfl⟩ := List.getElem_of_mem hc
        exact Lib.indexByte_none hm j (by rw [List.getElem?_eq_getElem hj]; exact congrArg some (UInt8.toNat_inj.1 h))
      rw [split_none l hno]
      exact ⟨rfl, rfl⟩
    · obtain ⟨i, hi⟩ : ∃ i : Nat, Lib.indexByte l 47 = i := ⟨(Lib.indexByte l 47).toNat, by have := Lib.indexByte_ge l 47; omega⟩
      obtain ⟨h1, h2⟩ := Lib.indexByte_some hi
      have hil : i < l.length := (List.getElem?_eq_some_iff.1 h1).1
      have hg : l.getD i 0 = 47 := by rw [List.getD_eq_getElem?_getD, h1]; rfl
      have e1 : (⟨l.toArray⟩ : ByteArray).extract (i + (⟨#[47]⟩ : ByteArray).size) (⟨l.toArray⟩ : ByteArray).size = ⟨(l.drop (i + 1)).toArray⟩ := by
        rw [size_toArray]
        exact ext_drop l (i + 1)
      have hc := Lib.countB_hit ⟨l.toArray⟩ ⟨#[47]⟩ i (by decide) (hb.trans hi)
      rw [e1] at hc
      obtain ⟨a, b⟩ := ih (l.drop (i + 1)) (by rw [List.length_drop]; omega)
      have hs : splitL l = l.take i :: splitL (l.drop (i + 1)) := by
        have e : l = l.take i ++ l.getD i 0 :: l.drop (i + 1) := by rw [← drop_at l i hil, List.take_append_drop]
        conv => lhs; rw [e]
        refine split_at _ _ (by rw [hg]; rfl) _ (fun c hc h => ?_)
        obtain ⟨j, hj, rfl⟩ := List.getElem_of_mem hc
        rw [List.length_take] at hj
        refine h2 j (by omega) ?_
        rw [List.getElem_take] at h
        rw [List.getElem?_eq_getElem (by omega)]
        exact congrArg some (UInt8.toNat_inj.1 h)
      rw [hs, hc, show 1 + Lib.countB ⟨(l.drop (i + 1)).toArray⟩ ⟨#[47]⟩ = Lib.countB ⟨(l.drop (i + 1)).toArray⟩ ⟨#[47]⟩ + 1 by omega, Lib.splitB_hit _ _ _ _ i (hb.trans hi), e1, a]
      refine ⟨?_, by simp only [List.length_cons]; omega⟩
      rw [List.map_cons, Nat.add_zero, ext_take]
theorem path_form (l : List UInt8) : pathL l = (decide (l.length ≤ 400) && Lib.validD l && !l.any (fun c => c.toNat == 0) && decide ((splitL l).length ≤ 16) && (splitL l).all nameL) := by
  unfold pathL
  cases l with
  | nil => rfl
  | cons c r => simp
theorem split_len : ∀ (l : List UInt8), ∀ n ∈ splitL l, n.length ≤ l.length
  | [], n, hn => by
    simp [splitL] at hn
    subst hn
    simp
  | c :: r, n, hn => by
    have ih := split_len r
    by_cases h : c.toNat = 47
    · rw [split_slash c r h, List.mem_cons] at hn
      rcases hn with rfl | hn
      · simp
      · have := ih n hn
        simp
        omega
    · obtain ⟨x, m, hx⟩ := split_form r
      rw [split_other c r x m h hx, List.mem_cons] at hn
      rcases hn with rfl | hn
      · have := ih x (by rw [hx]; simp)
        simp
        omega
      · have := ih n (by rw [hx]; simp [hn])
        simp
        omega
/-- The tables that the calls read. -/
structure QTab (w : World) : Prop where
  utf : Lib.Utf8Tabs 2 3 w
  fold : FoldTab w
  max : ∃ m : Int, w.cell? ⟨0, 0, none⟩ = some (.int .i64 m)
theorem QTab.below {w w' : World} (t : QTab w) (hb : Below w.heap.size w w') : QTab w' where
  utf := Utf8Tabs_below t.utf hb
  fold := t.fold.below hb
  max := by
    obtain ⟨m, h⟩ := t.max
    exact ⟨m, (hb.cell (p := ⟨0, 0, none⟩) (World.block_lt_of_cell? w _ h)).trans h⟩
set_option maxHeartbeats 8000000 in
set_option maxRecDepth 100000 in
theorem reserved_is (l : List UInt8) (w : World) (hn : l.length ≤ 1000000) (tab : QTab w) :
    Calls Tryz.prog 173 #[.string ⟨l.toArray⟩] w fun e w' => e = .returned (.bool (!nameL l)) ∧ Below w.heap.size w w' := by
  have hem := empty_list l
  have hq1 : ((⟨l.toArray⟩ : ByteArray).toList == [46]) = decide (l = [46]) := by rw [list_text]; rw [Bool.eq_iff_iff]; simp
  have hq2 : ((⟨l.toArray⟩ : ByteArray).toList == [46, 46]) = decide (l = [46, 46]) := by rw [list_text]; rw [Bool.eq_iff_iff]; simp
  have cE := EqualFold_git l w hn tab.fold tab.utf
  obtain ⟨s, hs⟩ : ∃ s : ByteArray, s = ⟨l.toArray⟩ := ⟨_, rfl⟩
  rw [← hs] at hem hq1 hq2 cE ⊢
  clear hs tab
  by_cases h0 : l.length = 0
  · have e0 : s.toList.isEmpty = true := by rw [hem]; simp [h0]
    have : l = [] := List.eq_nil_of_length_eq_zero h0
    have NN : Hid ((!nameL l) = true) := Lib.hid (by rw [this]; rfl)
    clear hem hq1 hq2 h0 this cE
    go_enter Tryz.func173, Tryz.ntmps173
    go_wp2
    go_ret
    exact ⟨ret_bool NN.out.symm, Below.refl _ _⟩
  have e0 : s.toList.isEmpty = false := by rw [hem]; simp [h0]
  have n0 : l ≠ [] := fun h => h0 (by rw [h]; rfl)
  by_cases h1 : l = [46]
  · rw [decide_eq_true h1] at hq1
    have NN : Hid ((!nameL l) = true) := Lib.hid (by rw [h1]; rfl)
    clear hem hq2 h0 n0 h1 cE
    go_enter Tryz.func173, Tryz.ntmps173
    go_wp2
    go_ret
    exact ⟨ret_bool NN.out.symm, Below.refl _ _⟩
  rw [decide_eq_false h1] at hq1
  by_cases h2 : l = [46, 46]
  · rw [decide_eq_true h2] at hq2
    have NN : Hid ((!nameL l) = true) := Lib.hid (by rw [h2]; rfl)
    clear hem h0 n0 h1 h2 cE
    go_enter Tryz.func173, Tryz.ntmps173
    go_wp2
    go_ret
    exact ⟨ret_bool NN.out.symm, Below.refl _ _⟩
  rw [decide_eq_false h2] at hq2
  have NM := Lib.hid (name_of l n0 h1 h2)
  obtain ⟨b, hb⟩ : ∃ b : Bool, b = decide (l.map lowB = gitL) := ⟨_, rfl⟩
  rw [← hb] at cE
  have HB := Lib.hid hb
  clear hem n0 h1 h2 h0 hb
  go_enter Tryz.func173, Tryz.ntmps173
  go_wp2_with fail
  refine cE.mono ?_
  rintro e w1 ⟨rfl, b1⟩
  go_wp2
  go_ret
  exact ⟨ret_bool (by rw [NM.out, ← HB.out, Bool.not_not]), b1⟩
set_option maxHeartbeats 8000000 in
set_option maxRecDepth 100000 in
theorem Path_is (l : List UInt8) (w : World) (hn : l.length ≤ 1000000) (tab : QTab w) :
    Calls Tryz.prog 155 #[.string ⟨l.toArray⟩] w fun e w' => e = .returned (.bool (pathL l)) ∧ Below w.heap.size w w' := by
  have T := Lib.hid tab
  have PF := Lib.hid (path_form l)
  have hsz := size_toArray l
  have cV := fun w (t : QTab w) => valid_is l w hn t.utf
  have cZ := fun w => Tryz.strings_Contains_one ⟨l.toArray⟩ 0 w
  have cS := fun w m hm => Tryz.strings_Split ⟨l.toArray⟩ ⟨#[47]⟩ m w (by rw [hsz]; omega) hm (by decide)
  obtain ⟨e1, e2⟩ := split_lib l.length l (Nat.le_refl _)
  rw [e1] at cS
  rw [e2] at cS
  have hz : decide (0 ≤ Lib.indexByte (⟨l.toArray⟩ : ByteArray).data.toList 0) = l.any (fun c => c.toNat == 0) := by
    rw [← Lib.contains_iff_indexByte]
    rw [Bool.eq_iff_iff]
    simp only [List.contains_iff_mem, List.any_eq_true, beq_iff_eq]
    constructor
    · intro h
      exact ⟨0, h, rfl⟩
    · rintro ⟨c, hc, h⟩
      obtain rfl : c = 0 := UInt8.toNat_inj.1 h
      exact hc
  rw [hz] at cZ
  have NL : Hid (∀ n ∈ splitL l, n.length ≤ 1000000) := Lib.hid (fun n h => Nat.le_trans (split_len l n h) hn)
  obtain ⟨ns, hns⟩ : ∃ ns, ns = splitL l := ⟨_, rfl⟩
  rw [← hns] at cS PF NL
  obtain ⟨zb, hzb⟩ : ∃ zb, zb = l.any (fun c => c.toNat == 0) := ⟨_, rfl⟩
  rw [← hzb] at cZ PF
  obtain ⟨s, hs⟩ : ∃ s : ByteArray, s = ⟨l.toArray⟩ := ⟨_, rfl⟩
  rw [← hs] at cS cZ cV hsz ⊢
  have CS := Lib.hid cS
  clear tab e1 e2 hz hns hzb hs cS
  by_cases h400 : 400 < l.length
  · have R : Hid (pathL l = false) := Lib.hid (by rw [PF.out]; simp [show ¬ l.length ≤ 400 by omega])
    clear cV cZ
    go_enter Tryz.func155, Tryz.ntmps155
    go_wp2
    go_ret
    exact ⟨ret_bool R.out.symm, Below.refl _ _⟩
  have L4 := Lib.hid (show decide (l.length ≤ 400) = true from decide_eq_true (by omega))
  cases hv : Lib.validD l with
  | false =>
    have R : Hid (pathL l = false) := Lib.hid (by rw [PF.out, hv]; simp)
    rw [hv] at cV
    clear hv cZ
    go_enter Tryz.func155, Tryz.ntmps155
    go_wp2_with fail
    refine (cV _ T.out).mono ?_
    rintro e w1 ⟨rfl, b1⟩
    go_wp2
    go_ret
    exact ⟨ret_bool R.out.symm, b1⟩
  | true =>
    rw [hv] at cV PF
    clear hv
    cases zb with
    | true =>
      have R : Hid (pathL l = false) := Lib.hid (by rw [PF.out]; simp)
      go_enter Tryz.func155, Tryz.ntmps155
      go_wp2_with fail
      refine (cV _ T.out).mono ?_
      rintro e w1 ⟨rfl, b1⟩
      go_wp2_with fail
      refine (cZ _).mono ?_
      rintro e w2 ⟨rfl, rfl⟩
      go_wp2
      go_ret
      exact ⟨ret_bool R.out.symm, b1⟩
    | false =>
      obtain ⟨P, hP⟩ : ∃ P, P = pathL l := ⟨_, rfl⟩
      have R : Hid (P = (decide (ns.length ≤ 16) && ns.all nameL)) := Lib.hid (by rw [hP, PF.out, L4.out]; simp)
      rw [← hP]
      clear hP PF L4
      go_enter Tryz.func155, Tryz.ntmps155
      go_wp2_with fail
      refine (cV _ T.out).mono ?_
      rintro e w1 ⟨rfl, b1⟩
      go_wp2_with fail
      refine (cZ _).mono ?_
      rintro e w2 ⟨rfl, rfl⟩
      obtain ⟨m, hm⟩ := (T.out.below b1).max
      have CM := CS.out w2 m hm
      clear cV cZ CS
      go_wp2_with fail
      refine CM.mono ?_
      rintro e w3 ⟨rfl, hw3⟩
      have b3 : Below w.heap.size w w3 := by rw [hw3]; exact b1.alloc b1.size _
      have hcell : w3.heap[w2.heap.size]? = some (.cells (((ns.map (fun n => (⟨n.toArray⟩ : ByteArray))).map Value.string).toArray) 9 (0, 0)) := by rw [hw3]; exact heap_alloc_new _ _
      have HC := Lib.hid hcell
      have lt3 : w2.heap.size < w3.heap.size := by rw [hw3]; simp
      have B3 := Lib.hid b3
      clear CM hm b1 hcell hw3 b3
      by_cases h16 : 16 < ns.length
      · have hP : P = false := by rw [R.out]; simp [show ¬ ns.length ≤ 16 by omega]
        subst hP
        go_wp2
        go_ret
        exact ⟨rfl, B3.out⟩
      · have R2 : Hid (P = ns.all nameL) := Lib.hid (by rw [R.out]; simp [show ns.length ≤ 16 by omega])
        clear R
        go_wp2_with fail
        go_loopw [25] (fun vi wr => ∃ i : Nat, i ≤ ns.length ∧ vi = .int .i64 i ∧ Below w3.heap.size w3 wr ∧ Hid (∀ j, j < i → nameL (ns.getD j []) = true)) (fun vi _ => ns.length - (intOf vi).toNat)
        case atStart => exact ⟨0, Nat.zero_le _, rfl, Below.refl _ _, Lib.hid fun j h => absurd h (Nat.not_lt_zero _)⟩
        case round =>
          obtain ⟨i, hi, rfl, hbr, HALL⟩ := hrel
          by_cases hlt : i < ns.length
          · obtain ⟨nm, hnm⟩ : ∃ nm, nm = ns.getD i [] := ⟨_, rfl⟩
            have hg : ns[i]? = some nm := by rw [hnm, List.getD_eq_getElem?_getD, List.getElem?_eq_getElem hlt]; rfl
            have hcl : wr.cell? ⟨w2.heap.size, i, none⟩ = some (.string ⟨nm.toArray⟩) := by
              rw [hbr.cell (p := ⟨w2.heap.size, i, none⟩) lt3, Lib.cell_of_heap HC.out i]
              simp [hg]
            have cR := fun w (t : QTab w) => reserved_is nm w (NL.out nm (List.mem_of_getElem? hg)) t
            have T3 := Lib.hid ((T.out.below B3.out).below hbr)
            have NE := Lib.hid hnm
            clear hnm hg
            cases hN : nameL nm with
            | false =>
              rw [hN] at cR
              have hP : Hid (P = false) := Lib.hid (by
                rw [R2.out, List.all_eq_false]
                exact ⟨nm, by rw [NE.out, List.getD_eq_getElem?_getD, List.getElem?_eq_getElem hlt]; exact List.getElem_mem _, by rw [hN]; decide⟩)
              clear hN
              go_wp2_with fail
              refine (cR _ T3.out).mono ?_
              rintro e w4 ⟨rfl, b4⟩
              go_wp2
              go_ret
              exact ⟨ret_bool hP.out.symm, B3.out.trans ((hbr.trans (b4.mono hbr.size)).mono B3.out.size)⟩
            | true =>
              rw [hN] at cR
              have NX : Hid (∀ j, j < i + 1 → nameL (ns.getD j []) = true) := Lib.hid fun j hj => by
                by_cases h : j < i
                · exact HALL.out j h
                · obtain rfl : j = i := by omega
                  rw [← NE.out]; exact hN
              clear hN
              go_wp2_with fail
              refine (cR _ T3.out).mono ?_
              rintro e w4 ⟨rfl, b4⟩
              go_wp2
              go_roundw
              case rel => exact ⟨i + 1, by omega, by go_num, hbr.trans (b4.mono hbr.size), NX⟩
              case measure => simp [intOf]; omega
          · obtain rfl : i = ns.length := by omega
            have hP : Hid (P = true) := Lib.hid (by
              rw [R2.out, List.all_eq_true]
              intro x hx
              obtain ⟨j, hj, rfl⟩ := List.getElem_of_mem hx
              have := HALL.out j hj
              rwa [List.getD_eq_getElem?_getD, List.getElem?_eq_getElem hj] at this)
            go_wp2
            go_ret
            exact ⟨ret_bool hP.out.symm, B3.out.trans (hbr.mono B3.out.size)⟩
end Go.Proofs.YtpelehhmdcjikaaGreatDoor

/-
  Frame: an id in its cells, opened.
-/
namespace Go.Proofs.YtpelehhmdcjikaaGreatDoor
open Go.ChangeShapes Go.WideShapes Go.ChangeAt Go.RowKit Go.Deep
set_option linter.unusedVariables false
set_option maxRecDepth 100000
def byteD : Value → UInt8
  | .int _ z => UInt8.ofNat z.toNat
  | _ => 0
theorem id_of_cells {H : Type} {enc : TypeId × Value → H} {W : World} {base fuel : Nat} {cs : List Value} {x : DataW H × List MemPlace} (hl : cs.length = 20) (h : DataW.trod enc Tryz.prog W base (fun _ => true) true fuel 24 cs = some x) :
    ∃ i : List UInt8, cs = cellsD i ∧ i.length = 20 := by
  refine ⟨cs.map byteD, ?_, by simp [hl]⟩
  unfold cellsD
  have hu : Tryz.prog.underlying 24 = some (.array 20 5) := Tryz.underlying24
  obtain ⟨xs, m, _, _, _, hxl, hel⟩ := DataW.trod_array hu h
  have c5 : Tryz.prog.cellsOf 5 = 1 := by kernel_rfl
  apply List.ext_getElem
  · simp [Lib.byteCells]
  · intro i h1 h2
    have hi : i < 20 := by omega
    have e := hel i hi
    rw [c5] at e
    have e2 : (cs.drop (i * 1)).take 1 = [cs[i]] := by
      rw [Nat.mul_one, List.drop_eq_getElem_cons h1]; rfl
    rw [e2, List.getElem?_eq_getElem (by omega)] at e
    obtain ⟨z, hz, _, hw⟩ := DataW.trod_int Tryz.underlying5 e
    have hz2 : cs[i] = .int .u8 z := by simpa using hz
    have hb := bounds_byte hw
    simp only [Lib.byteCells, List.map_map, List.getElem_map, Function.comp, hz2, byteD]
    congr 1
    rw [UInt8.toNat_ofNat']
    omega
end Go.Proofs.YtpelehhmdcjikaaGreatDoor

/-
  Layer 10: the tables that its functions read.
-/
namespace Go.Proofs.YtpelehhmdcjikaaGreatDoor
open Go.ChangeShapes Go.WideShapes Go.ChangeAt Go.RowKit Go.Lib
set_option linter.unusedVariables false
/-- What layer 10 reads of the world. -/
structure T10 (w : World) : Prop where
  t7 : T7 w
  q : QTab w
theorem T10.keep {w w' : World} (h : T10 w) (hb : Below w.heap.size w w') : T10 w' := ⟨h.t7.keep hb, h.q.below hb⟩
theorem T10.pow {w : World} (h : T10 w) : Tab w := h.t7.t6.pow
def foldX : List Int := match Rows.laid_unicode_asciiFold (H := Unit) with
  | .agg ds => ds.map fun d => match d with | .lit (.int _ z) => z | _ => 0
  | _ => []
theorem fold_dataX : Rows.laid_unicode_asciiFold (H := Unit) = tabData .u16 foldX := by kernel_rfl
theorem t10_of {W : World} {l : List (String × DataW Unit)} (h : laidMetH Tryz.prog l W) (hS : W.ShapedOpen Tryz.prog)
    (hl : (l.filter fun x => x.1 == "internal/strconv.uint64pow10") = [("internal/strconv.uint64pow10", Rows.laid_internal_strconv_uint64pow10)])
    (h1 : ("unicode/utf8.first", Rows.laid_unicode_utf8_first) ∈ l.filter fun a => a.2.handleName?.isNone)
    (h2 : ("unicode/utf8.acceptRanges", Rows.laid_unicode_utf8_acceptRanges) ∈ l.filter fun a => a.2.handleName?.isNone)
    (h3 : ("trestle/ident.zonePlaces", Rows.laid_trestle_ident_zonePlaces) ∈ l.filter fun a => a.2.handleName?.isNone)
    (h4 : ("unicode.asciiFold", Rows.laid_unicode_asciiFold) ∈ l.filter fun a => a.2.handleName?.isNone) : T10 W := by
  have t7 := t7_of h hS hl h1 h2 h3
  have r4 := Lib.laidMet.reads (laidMetH_iff.1 h).1 h4
  rw [fold_dataX] at r4
  exact ⟨t7, t7.t6.utf, fold_of W foldX r4 (by kernel_rfl) (by kernel_rfl) (by kernel_rfl) (by kernel_rfl) (by kernel_rfl) (by kernel_rfl) (by kernel_rfl), t7.max⟩
set_option maxRecDepth 100000 in
/-- An id that came in by value. -/
theorem open_idX {H : Type} {enc : TypeId × Value → H} {W : World} {b0 base : Nat} {v : Value} {d : DataW H} {p : List MemPlace} (hv : Value.okWide Tryz.prog W .any b0 24 v) (h : DataW.Trod enc Tryz.prog W base (fun _ => true) true 24 v d p) :
    ∃ l : List UInt8, l.length = 20 ∧ v = .agg (arrD l) := by
  have hu : Tryz.prog.underlying 24 = some (.array 20 5) := Tryz.underlying24
  obtain ⟨cs, rfl, hsz⟩ : ∃ cs, v = .agg cs ∧ cs.size = 20 := by
    simp only [Value.okWide, hu] at hv
    obtain ⟨cs, h1, h2, _⟩ := hv
    exact ⟨cs, h1, h2.trans (by kernel_rfl)⟩
  obtain ⟨fuel, hf⟩ := h
  have hcs : (Value.agg cs).cells.toList = cs.toList := rfl
  rw [hcs] at hf
  obtain ⟨i, hi, hl⟩ := id_of_cells (by simpa using hsz) hf
  exact ⟨i, hl, by unfold arrD; rw [← hi]⟩
end Go.Proofs.YtpelehhmdcjikaaGreatDoor

/-
  The helper Record of the statements, over records that tell the same.
-/
namespace Go.Proofs.YtpelehhmdcjikaaGreatDoor
set_option maxRecDepth 20000
open Go.RowKit
set_option linter.unusedVariables false
set_option linter.unusedSimpArgs false
set_option maxHeartbeats 4000000 in
theorem Record_same (t : List UInt8) (a1 a2 : Option Addr) (n c1 c2 : Nat) (l : List (List UInt8)) (a c : Idt) (x : List UInt8) (w : World) (ht : t.length = 20) (h1 : IdsAt w a1 l) (h2 : IdsAt w a2 l) (hn : n = l.length) (hm : n ≤ 1000000) (hid : ∀ i ∈ l, i.length = 20) :
    Calls Tryz.prog 23 #[.agg (arrC t (.slice a1 n c1) a c x), .agg (arrC t (.slice a2 n c2) a c x)] w fun e w' => e = .returned (.bool true) ∧ Below w.heap.size w w' := by
  obtain ⟨A1, hA1⟩ : ∃ A, arrC t (.slice a1 n c1) a c x = A := ⟨_, rfl⟩
  obtain ⟨A2, hA2⟩ : ∃ A, arrC t (.slice a2 n c2) a c x = A := ⟨_, rfl⟩
  have b1 := (Below.refl w.heap.size w).alloc (Nat.le_refl _) (.cells A1 54)
  have b2 := b1.alloc b1.size (.cells A2 54)
  have e1 : (w.alloc (.cells A1 54)).heap.size = w.heap.size + 1 := by simp
  have g1 := (((Below.refl (w.alloc (.cells A1 54)).heap.size (w.alloc (.cells A1 54))).alloc (Nat.le_refl _) (.cells A2 54)).block w.heap.size (by simp)).trans (heap_alloc_new w _)
  have g2 := heap_alloc_new (w.alloc (.cells A1 54)) (.cells A2 54)
  rw [e1] at g2
  have r1 := recAt_of (ty := 54) (fr := (0, 0)) (v := .slice a1 n c1) (a := a) (c := c) (x := x) ht (by rw [hA1]; exact g1)
  have r2 := recAt_of (ty := 54) (fr := (0, 0)) (v := .slice a2 n c2) (a := a) (c := c) (x := x) ht (by rw [hA2]; exact g2)
  have P := Lib.hid (fun u (hb : Below w.heap.size w u) => PlainIds_any a1 a2 n c1 c2 l u (h1.keep hb) (h2.keep hb) hn hm hid)
  have ED := fun u => eql_arrD t t ht ht u
  rw [eqD_same] at ED
  have EA := fun u => eql_idt_same a u
  have EC := fun u => eql_idt_same c u
  have LD := Lib.hid (show (Tryz.prog.info? 24).map (·.size) = some (cellsD t).length by rw [cellsD_len t ht]; exact infoD_n)
  have LA := Lib.hid (show (Tryz.prog.info? 52).map (·.size) = some (cellsT a).length from infoT)
  have LC := Lib.hid (show (Tryz.prog.info? 52).map (·.size) = some (cellsT c).length from infoT)
  unfold arrD at ED
  rw [hA1, hA2]
  have R1 := Lib.hid r1; have R2 := Lib.hid r2; have B2 := Lib.hid b2
  have p1 := r1.parents
  have p2 := r2.parents
  clear hA1 hA2 b1 b2 e1 g1 g2 r1 r2 h1 h2 hn hid ht
  have K := Lib.hid (fun u (hb : Below ((w.alloc (.cells A1 54)).alloc (.cells A2 54)).heap.size ((w.alloc (.cells A1 54)).alloc (.cells A2 54)) u) => And.intro (R1.out.keep hb) (R2.out.keep hb))
  have R1' := Lib.hid (And.intro R1.out.tree R1.out.text); have R2' := Lib.hid (And.intro R2.out.tree R2.out.text)
  generalize cellsD t = cd at *
  go_enter Tryz.func23, Tryz.ntmps23
  go_wp2_with (first
    | (with_reducible refine wpList_load_mid rfl 24 (.tmp 5) rfl w.heap.size 0 rfl cd _ R1'.out.1 Tryz.underlying24 rfl LD.out ?_)
    | (with_reducible refine wpList_load_mid rfl 24 (.tmp 7) rfl (w.heap.size + 1) 0 rfl cd _ R2'.out.1 Tryz.underlying24 rfl LD.out ?_))
  refine (P.out _ B2.out).mono ?_
  rintro e w3 ⟨rfl, hb3⟩
  obtain ⟨k1, k2⟩ := K.out _ hb3
  have HB3 := Lib.hid (B2.out.trans (hb3.mono B2.out.size))
  have ha1 := Lib.hid k1.author; have ha2 := Lib.hid k2.author; have hc1 := Lib.hid k1.committer; have hc2 := Lib.hid k2.committer
  have x1 := k1.text
  have x2 := k2.text
  clear k1 k2 hb3 p1 p2 K
  generalize cellsT a = ca at *
  generalize cellsT c = cc at *
  go_wp2_with (first
    | (with_reducible refine wpList_load_midD 52 (.tmp 18) rfl (by kernel_rfl) w.heap.size 21 rfl ca _ ha1.out Tryz.underlying52 rfl LA.out ?_)
    | (with_reducible refine wpList_load_midD 52 (.tmp 20) rfl (by kernel_rfl) (w.heap.size + 1) 21 rfl ca _ ha2.out Tryz.underlying52 rfl LA.out ?_)
    | (with_reducible refine wpList_load_midD 52 (.tmp 25) rfl (by kernel_rfl) w.heap.size 25 rfl cc _ hc1.out Tryz.underlying52 rfl LC.out ?_)
    | (with_reducible refine wpList_load_midD 52 (.tmp 27) rfl (by kernel_rfl) (w.heap.size + 1) 25 rfl cc _ hc2.out Tryz.underlying52 rfl LC.out ?_))
  go_ret
  exact ⟨rfl, HB3.out⟩
end Go.Proofs.YtpelehhmdcjikaaGreatDoor

/-
  An object that came in by value, opened.
-/
namespace Go.Proofs.YtpelehhmdcjikaaGreatDoor
open Go.ChangeShapes Go.WideShapes Go.ChangeAt Go.RowKit Go.Lib Go.Joins
set_option linter.unusedVariables false
set_option maxRecDepth 100000 in
theorem open_object {H : Type} {enc : TypeId × Value → H} {W : World} {b0 base : Nat} {v : Value} {d : DataW H} {p : List MemPlace} (hv : Value.okWide Tryz.prog W .any b0 34 v) (h : DataW.Trod enc Tryz.prog W base (fun _ => true) true 34 v d p) :
    ∃ (k : Int) (a : Option Addr) (n c : Nat) (l : List UInt8), v = .agg #[.int .i64 k, .slice a n c] ∧ n = l.length ∧ BAt W a l ∧ (a = none → n = 0 ∧ c = 0) ∧ (n ≤ c ∧ c ≤ maxLen) ∧ (-9223372036854775808 ≤ k ∧ k ≤ 9223372036854775807) := by
  have hc : Tryz.prog.cellsOf 34 = 2 := by kernel_rfl
  obtain ⟨c0, c1, y0, y1, m, rfl, rfl, rfl, h0, h1⟩ := open_agg2 Tryz.underlying34 (by kernel_rfl) hc hv h
  obtain ⟨k, e0, z0, w0⟩ := DataW.trod_int Tryz.underlying3 h0
  simp only [List.cons.injEq, and_true] at e0
  subst e0
  have hk : -9223372036854775808 ≤ k ∧ k ≤ 9223372036854775807 := by
    have e1 : IntKind.i64.min = -9223372036854775808 := rfl
    have e2 : IntKind.i64.max = 9223372036854775807 := rfl
    simpa [Lit.wf, e1, e2] using w0
  have hs : ∃ (a : Option Addr) (n c : Nat), c1 = .slice a n c := by
    rcases open_ints Tryz.underlying32 Tryz.underlying5 (by kernel_rfl) h1 with ⟨hcs, _⟩ | ⟨x, l, c', zs, hcs, _⟩
    · simp at hcs
      exact ⟨_, _, _, hcs⟩
    · simp at hcs
      exact ⟨_, _, _, hcs⟩
  obtain ⟨a, n, c, rfl⟩ := hs
  have ht : DataW.Trod enc Tryz.prog W base (fun _ => true) true 32 (.slice a n c) y1.1 y1.2 := ⟨m, by simpa [Value.cells] using h1⟩
  obtain ⟨l, h2, h3, h4, h5⟩ := open_bytes ht
  exact ⟨k, a, n, c, l, rfl, h2, h3, h4, h5, hk⟩
end Go.Proofs.YtpelehhmdcjikaaGreatDoor
