/-
  Texts that belong together, one behind the other.
-/
import Derived.Test.YtdgcjjledbnofaaDoorFu08
import Derived.Test.YtdgcjjledbnofaaDoorFu12
import Derived.Lib.Split
import Derived.Lib.IndexAny
import Derived.Test.YtdgcjjledbnofaaDoorFu01
/-
  The table of the simple folds, from what the row lists.
-/
namespace Go.Proofs
open Go.Shelf Go.RowKit Go.Lib
namespace YtdgcjjledbnofaaDoor
/-- The table of simple folds, where ".git" reads it. -/
theorem fold_of (w : World) (zs : List Int) (h : VarReads Tryd.prog w "unicode.asciiFold" (tabData .u16 zs)) (h46 : zs[46]? = some 46) (h71 : zs[71]? = some 103) (h73 : zs[73]? = some 105) (h84 : zs[84]? = some 116) (h103 : zs[103]? = some 71) (h105 : zs[105]? = some 73) (h116 : zs[116]? = some 84) : FoldTab w := by
  obtain ⟨g, t, cs, fuel, p, hg, hty, hvar, hd⟩ := h
  obtain rfl := Option.some.inj ((show Tryd.prog.globalNamed "unicode.asciiFold" = some 3 by kernel_rfl).symm.trans hg)
  obtain rfl := Option.some.inj ((show (Tryd.prog.globals[3]?).map (·.type) = some 106 by kernel_rfl).symm.trans hty)
  have hcs := cells_of_tab Tryd.underlying106 Tryd.underlying105 (by kernel_rfl) (by kernel_rfl) hd
  have key : ∀ (k : Nat) (v : Int), zs[k]? = some v → w.cell? ⟨3, k, none⟩ = some (.int .u16 v) := by
    intro k v hk
    rw [World.var?_cell hg hvar k, ← Array.getElem?_toList, hcs]
    simp [hk]
  intro k v hk
  rcases hk with ⟨rfl, rfl⟩ | ⟨rfl, rfl⟩ | ⟨rfl, rfl⟩ | ⟨rfl, rfl⟩ | ⟨rfl, rfl⟩ | ⟨rfl, rfl⟩ | ⟨rfl, rfl⟩
  · exact key _ _ h46
  · exact key _ _ h71
  · exact key _ _ h73
  · exact key _ _ h84
  · exact key _ _ h103
  · exact key _ _ h105
  · exact key _ _ h116
end YtdgcjjledbnofaaDoor
end Go.Proofs

/-
  Layer 3: reserved and Path of the program.
-/
namespace Go.Proofs.YtdgcjjledbnofaaDoor
open Go.RowKit
set_option linter.unusedVariables false
set_option linter.unusedSimpArgs false

/-- The pieces between slashes, as the library cuts them. -/
theorem split_lib : ∀ (k : Nat) (l : List UInt8), l.length ≤ k → Lib.splitB ⟨#[47]⟩ 0 (Lib.countB ⟨l.toArray⟩ ⟨#[47]⟩) ⟨l.toArray⟩ = (splitL l).map (fun n => (⟨n.toArray⟩ : ByteArray)) ∧ Lib.countB ⟨l.toArray⟩ ⟨#[47]⟩ + 1 = (splitL l).length := by
  intro k
  induction k with
  | zero =>
    intro l hl
    obtain rfl : l = [] := List.eq_nil_of_length_eq_zero (by omega)
    have hi : Lib.indexB ⟨([] : List UInt8).toArray⟩ ⟨#[47]⟩ = -1 := by
      show Lib.index [] [47] = -1
      rw [Lib.index_one]
      rfl
    rw [Lib.countB_miss _ _ hi]
    exact ⟨rfl, rfl⟩
  | succ k ih =>
    intro l hl
    have hb : Lib.indexB ⟨l.toArray⟩ ⟨#[47]⟩ = Lib.indexByte l 47 := by
      show Lib.index l [47] = _
      exact Lib.index_one l 47
    by_cases hm : Lib.indexByte l 47 = -1
    · rw [Lib.countB_miss _ _ (hb.trans hm), Lib.splitB_zero]
      have hno : ∀ c ∈ l, c.toNat ≠ 47 := fun c hc h => by
        obtain ⟨j, hj, rfl⟩ := List.getElem_of_mem hc
        exact Lib.indexByte_none hm j (by rw [List.getElem?_eq_getElem hj]; exact congrArg some (UInt8.toNat_inj.1 h))
      rw [split_none l hno]
      exact ⟨rfl, rfl⟩
    · obtain ⟨i, hi⟩ : ∃ i : Nat, Lib.indexByte l 47 = i := ⟨(Lib.indexByte l 47).toNat, by have := Lib.indexByte_ge l 47; omega⟩
      obtain ⟨h1, h2⟩ := Lib.indexByte_some hi
      have hil : i < l.length := (List.getElem?_eq_some_iff.1 h1).1
      have hg : l.getD i 0 = 47 := by rw [List.getD_eq_getElem?_getD, h1]; rfl
      have e1 : (⟨l.toArray⟩ : ByteArray).extract (i + (⟨#[47]⟩ : ByteArray).size) (⟨l.toArray⟩ : ByteArray).size = ⟨(l.drop (i + 1)).toArray⟩ := by
        rw [size_toArray]
        exact ext_drop l (i + 1)
      have hc := Lib.countB_hit ⟨l.toArray⟩ ⟨#[47]⟩ i (by decide) (hb.trans hi)
      rw [e1] at hc
      obtain ⟨a, b⟩ := ih (l.drop (i + 1)) (by rw [List.length_drop]; omega)
      have hs : splitL l = l.take i :: splitL (l.drop (i + 1)) := by
        have e : l = l.take i ++ l.getD i 0 :: l.drop (i + 1) := by rw [← drop_at l i hil, List.take_append_drop]
        conv => lhs; rw [e]
        refine split_at _ _ (by rw [hg]; rfl) _ (fun c hc h => ?_)
        obtain ⟨j, hj, rfl⟩ := List.getElem_of_mem hc
        rw [List.length_take] at hj
        refine h2 j (by omega) ?_
        rw [List.getElem_take] at h
        rw [List.getElem?_eq_getElem (by omega)]
        exact congrArg some (UInt8.toNat_inj.1 h)
      rw [hs, hc, show 1 + Lib.countB ⟨(l.drop (i + 1)).toArray⟩ ⟨#[47]⟩ = Lib.countB ⟨(l.drop (i + 1)).toArray⟩ ⟨#[47]⟩ + 1 by omega, Lib.splitB_hit _ _ _ _ i (hb.trans hi), e1, a]
      refine ⟨?_, by simp only [List.length_cons]; omega⟩
      rw [List.map_cons, Nat.add_zero, ext_take]

theorem path_form (l : List UInt8) : pathL l = (decide (l.length ≤ 400) && Lib.validD l && !l.any (fun c => c.toNat == 0) && decide ((splitL l).length ≤ 16) && (splitL l).all nameL) := by
  unfold pathL
  cases l with
  | nil => rfl
  | cons c r => simp

theorem split_len : ∀ (l : List UInt8), ∀ n ∈ splitL l, n.length ≤ l.length
  | [], n, hn => by
    simp [splitL] at hn
    subst hn
    simp
  | c :: r, n, hn => by
    have ih := split_len r
    by_cases h : c.toNat = 47
    · rw [split_slash c r h, List.mem_cons] at hn
      rcases hn with rfl | hn
      · simp
      · have := ih n hn
        simp
        omega
    · obtain ⟨x, m, hx⟩ := split_form r
      rw [split_other c r x m h hx, List.mem_cons] at hn
      rcases hn with rfl | hn
      · have := ih x (by rw [hx]; simp)
        simp
        omega
      · have := ih n (by rw [hx]; simp [hn])
        simp
        omega

/-- The tables that the calls read. -/
structure QTab (w : World) : Prop where
  utf : Lib.Utf8Tabs 0 1 w
  fold : FoldTab w
  max : ∃ m : Int, w.cell? ⟨2, 0, none⟩ = some (.int .i64 m)
theorem QTab.below {w w' : World} (t : QTab w) (hb : Below w.heap.size w w') : QTab w' where
  utf := Utf8Tabs_below t.utf hb
  fold := t.fold.below hb
  max := by
    obtain ⟨m, h⟩ := t.max
    exact ⟨m, (hb.cell (p := ⟨2, 0, none⟩) (World.block_lt_of_cell? w _ h)).trans h⟩

set_option maxHeartbeats 8000000 in
set_option maxRecDepth 100000 in
theorem reserved_is (l : List UInt8) (w : World) (hn : l.length ≤ 1000000) (tab : QTab w) :
    Calls Tryd.prog 61 #[.string ⟨l.toArray⟩] w fun e w' => e = .returned (.bool (!nameL l)) ∧ Below w.heap.size w w' := by
  have hem := empty_list l
  have hq1 : ((⟨l.toArray⟩ : ByteArray).toList == [46]) = decide (l = [46]) := by rw [list_text]; rw [Bool.eq_iff_iff]; simp
  have hq2 : ((⟨l.toArray⟩ : ByteArray).toList == [46, 46]) = decide (l = [46, 46]) := by rw [list_text]; rw [Bool.eq_iff_iff]; simp
  have cE := EqualFold_git l w hn tab.fold tab.utf
  obtain ⟨s, hs⟩ : ∃ s : ByteArray, s = ⟨l.toArray⟩ := ⟨_, rfl⟩
  rw [← hs] at hem hq1 hq2 cE ⊢
  clear hs tab
  by_cases h0 : l.length = 0
  · have e0 : s.toList.isEmpty = true := by rw [hem]; simp [h0]
    have : l = [] := List.eq_nil_of_length_eq_zero h0
    have NN : Hid ((!nameL l) = true) := Lib.hid (by rw [this]; rfl)
    clear hem hq1 hq2 h0 this cE
    go_enter Tryd.func61, Tryd.ntmps61
    go_wp2
    go_ret
    exact ⟨ret_bool NN.out.symm, Below.refl _ _⟩
  have e0 : s.toList.isEmpty = false := by rw [hem]; simp [h0]
  have n0 : l ≠ [] := fun h => h0 (by rw [h]; rfl)
  by_cases h1 : l = [46]
  · rw [decide_eq_true h1] at hq1
    have NN : Hid ((!nameL l) = true) := Lib.hid (by rw [h1]; rfl)
    clear hem hq2 h0 n0 h1 cE
    go_enter Tryd.func61, Tryd.ntmps61
    go_wp2
    go_ret
    exact ⟨ret_bool NN.out.symm, Below.refl _ _⟩
  rw [decide_eq_false h1] at hq1
  by_cases h2 : l = [46, 46]
  · rw [decide_eq_true h2] at hq2
    have NN : Hid ((!nameL l) = true) := Lib.hid (by rw [h2]; rfl)
    clear hem h0 n0 h1 h2 cE
    go_enter Tryd.func61, Tryd.ntmps61
    go_wp2
    go_ret
    exact ⟨ret_bool NN.out.symm, Below.refl _ _⟩
  rw [decide_eq_false h2] at hq2
  have NM := Lib.hid (name_of l n0 h1 h2)
  obtain ⟨b, hb⟩ : ∃ b : Bool, b = decide (l.map lowB = gitL) := ⟨_, rfl⟩
  rw [← hb] at cE
  have HB := Lib.hid hb
  clear hem n0 h1 h2 h0 hb
  go_enter Tryd.func61, Tryd.ntmps61
  go_wp2_with fail
  refine cE.mono ?_
  rintro e w1 ⟨rfl, b1⟩
  go_wp2
  go_ret
  exact ⟨ret_bool (by rw [NM.out, ← HB.out, Bool.not_not]), b1⟩

set_option maxHeartbeats 8000000 in
set_option maxRecDepth 100000 in
theorem Path_is (l : List UInt8) (w : World) (hn : l.length ≤ 1000000) (tab : QTab w) :
    Calls Tryd.prog 53 #[.string ⟨l.toArray⟩] w fun e w' => e = .returned (.bool (pathL l)) ∧ Below w.heap.size w w' := by
  have T := Lib.hid tab
  have PF := Lib.hid (path_form l)
  have hsz := size_toArray l
  have cV := fun w (t : QTab w) => valid_is l w hn t.utf
  have cZ := fun w => Tryd.strings_Contains_one ⟨l.toArray⟩ 0 w
  have cS := fun w m hm => Tryd.strings_Split ⟨l.toArray⟩ ⟨#[47]⟩ m w (by rw [hsz]; omega) hm (by decide)
  obtain ⟨e1, e2⟩ := split_lib l.length l (Nat.le_refl _)
  rw [e1] at cS
  rw [e2] at cS
  have hz : decide (0 ≤ Lib.indexByte (⟨l.toArray⟩ : ByteArray).data.toList 0) = l.any (fun c => c.toNat == 0) := by
    rw [← Lib.contains_iff_indexByte]
    rw [Bool.eq_iff_iff]
    simp only [List.contains_iff_mem, List.any_eq_true, beq_iff_eq]
    constructor
    · intro h
      exact ⟨0, h, rfl⟩
    · rintro ⟨c, hc, h⟩
      obtain rfl : c = 0 := UInt8.toNat_inj.1 h
      exact hc
  rw [hz] at cZ
  have NL : Hid (∀ n ∈ splitL l, n.length ≤ 1000000) := Lib.hid (fun n h => Nat.le_trans (split_len l n h) hn)
  obtain ⟨ns, hns⟩ : ∃ ns, ns = splitL l := ⟨_, rfl⟩
  rw [← hns] at cS PF NL
  obtain ⟨zb, hzb⟩ : ∃ zb, zb = l.any (fun c => c.toNat == 0) := ⟨_, rfl⟩
  rw [← hzb] at cZ PF
  obtain ⟨s, hs⟩ : ∃ s : ByteArray, s = ⟨l.toArray⟩ := ⟨_, rfl⟩
  rw [← hs] at cS cZ cV hsz ⊢
  have CS := Lib.hid cS
  clear tab e1 e2 hz hns hzb hs cS
  by_cases h400 : 400 < l.length
  · have R : Hid (pathL l = false) := Lib.hid (by rw [PF.out]; simp [show ¬ l.length ≤ 400 by omega])
    clear cV cZ
    go_enter Tryd.func53, Tryd.ntmps53
    go_wp2
    go_ret
    exact ⟨ret_bool R.out.symm, Below.refl _ _⟩
  have L4 := Lib.hid (show decide (l.length ≤ 400) = true from decide_eq_true (by omega))
  cases hv : Lib.validD l with
  | false =>
    have R : Hid (pathL l = false) := Lib.hid (by rw [PF.out, hv]; simp)
    rw [hv] at cV
    clear hv cZ
    go_enter Tryd.func53, Tryd.ntmps53
    go_wp2_with fail
    refine (cV _ T.out).mono ?_
    rintro e w1 ⟨rfl, b1⟩
    go_wp2
    go_ret
    exact ⟨ret_bool R.out.symm, b1⟩
  | true =>
    rw [hv] at cV PF
    clear hv
    cases zb with
    | true =>
      have R : Hid (pathL l = false) := Lib.hid (by rw [PF.out]; simp)
      go_enter Tryd.func53, Tryd.ntmps53
      go_wp2_with fail
      refine (cV _ T.out).mono ?_
      rintro e w1 ⟨rfl, b1⟩
      go_wp2_with fail
      refine (cZ _).mono ?_
      rintro e w2 ⟨rfl, rfl⟩
      go_wp2
      go_ret
      exact ⟨ret_bool R.out.symm, b1⟩
    | false =>
      obtain ⟨P, hP⟩ : ∃ P, P = pathL l := ⟨_, rfl⟩
      have R : Hid (P = (decide (ns.length ≤ 16) && ns.all nameL)) := Lib.hid (by rw [hP, PF.out, L4.out]; simp)
      rw [← hP]
      clear hP PF L4
      go_enter Tryd.func53, Tryd.ntmps53
      go_wp2_with fail
      refine (cV _ T.out).mono ?_
      rintro e w1 ⟨rfl, b1⟩
      go_wp2_with fail
      refine (cZ _).mono ?_
      rintro e w2 ⟨rfl, rfl⟩
      obtain ⟨m, hm⟩ := (T.out.below b1).max
      have CM := CS.out w2 m hm
      clear cV cZ CS
      go_wp2_with fail
      refine CM.mono ?_
      rintro e w3 ⟨rfl, hw3⟩
      have b3 : Below w.heap.size w w3 := by rw [hw3]; exact b1.alloc b1.size _
      have hcell : w3.heap[w2.heap.size]? = some (.cells (((ns.map (fun n => (⟨n.toArray⟩ : ByteArray))).map Value.string).toArray) 9 (0, 0)) := by rw [hw3]; exact heap_alloc_new _ _
      have HC := Lib.hid hcell
      have lt3 : w2.heap.size < w3.heap.size := by rw [hw3]; simp
      have B3 := Lib.hid b3
      clear CM hm b1 hcell hw3 b3
      by_cases h16 : 16 < ns.length
      · have hP : P = false := by rw [R.out]; simp [show ¬ ns.length ≤ 16 by omega]
        subst hP
        go_wp2
        go_ret
        exact ⟨rfl, B3.out⟩
      · have R2 : Hid (P = ns.all nameL) := Lib.hid (by rw [R.out]; simp [show ns.length ≤ 16 by omega])
        clear R
        go_wp2_with fail
        go_loopw [25] (fun vi wr => ∃ i : Nat, i ≤ ns.length ∧ vi = .int .i64 i ∧ Below w3.heap.size w3 wr ∧ Hid (∀ j, j < i → nameL (ns.getD j []) = true)) (fun vi _ => ns.length - (intOf vi).toNat)
        case atStart => exact ⟨0, Nat.zero_le _, rfl, Below.refl _ _, Lib.hid fun j h => absurd h (Nat.not_lt_zero _)⟩
        case round =>
          obtain ⟨i, hi, rfl, hbr, HALL⟩ := hrel
          by_cases hlt : i < ns.length
          · obtain ⟨nm, hnm⟩ : ∃ nm, nm = ns.getD i [] := ⟨_, rfl⟩
            have hg : ns[i]? = some nm := by rw [hnm, List.getD_eq_getElem?_getD, List.getElem?_eq_getElem hlt]; rfl
            have hcl : wr.cell? ⟨w2.heap.size, i, none⟩ = some (.string ⟨nm.toArray⟩) := by
              rw [hbr.cell (p := ⟨w2.heap.size, i, none⟩) lt3, Lib.cell_of_heap HC.out i]
              simp [hg]
            have cR := fun w (t : QTab w) => reserved_is nm w (NL.out nm (List.mem_of_getElem? hg)) t
            have T3 := Lib.hid ((T.out.below B3.out).below hbr)
            have NE := Lib.hid hnm
            clear hnm hg
            cases hN : nameL nm with
            | false =>
              rw [hN] at cR
              have hP : Hid (P = false) := Lib.hid (by
                rw [R2.out, List.all_eq_false]
                exact ⟨nm, by rw [NE.out, List.getD_eq_getElem?_getD, List.getElem?_eq_getElem hlt]; exact List.getElem_mem _, by rw [hN]; decide⟩)
              clear hN
              go_wp2_with fail
              refine (cR _ T3.out).mono ?_
              rintro e w4 ⟨rfl, b4⟩
              go_wp2
              go_ret
              exact ⟨ret_bool hP.out.symm, B3.out.trans ((hbr.trans (b4.mono hbr.size)).mono B3.out.size)⟩
            | true =>
              rw [hN] at cR
              have NX : Hid (∀ j, j < i + 1 → nameL (ns.getD j []) = true) := Lib.hid fun j hj => by
                by_cases h : j < i
                · exact HALL.out j h
                · obtain rfl : j = i := by omega
                  rw [← NE.out]; exact hN
              clear hN
              go_wp2_with fail
              refine (cR _ T3.out).mono ?_
              rintro e w4 ⟨rfl, b4⟩
              go_wp2
              go_roundw
              case rel => exact ⟨i + 1, by omega, by go_num, hbr.trans (b4.mono hbr.size), NX⟩
              case measure => simp [intOf]; omega
          · obtain rfl : i = ns.length := by omega
            have hP : Hid (P = true) := Lib.hid (by
              rw [R2.out, List.all_eq_true]
              intro x hx
              obtain ⟨j, hj, rfl⟩ := List.getElem_of_mem hx
              have := HALL.out j hj
              rwa [List.getD_eq_getElem?_getD, List.getElem?_eq_getElem hj] at this)
            go_wp2
            go_ret
            exact ⟨ret_bool hP.out.symm, B3.out.trans (hbr.mono B3.out.size)⟩
end Go.Proofs.YtdgcjjledbnofaaDoor

/-
  Layer 1: what the reference's digit function returns.
-/
namespace Go.Proofs.YtdgcjjledbnofaaDoor
open Go.RowKit
set_option linter.unusedVariables false

set_option maxHeartbeats 400000 in
theorem rdigit_dec (c : Int) (h0 : 48 ≤ c) (h1 : c ≤ 57) (w : World) :
    Calls Tryd.prog 52 #[.int .u8 c] w fun e w' => e = .returned (.int .i64 (c - 48)) ∧ w = w' := by
  go_enter Tryd.func52, Tryd.ntmps52
  go_wp2
  go_ret
  exact ⟨rfl, rfl⟩
set_option maxHeartbeats 400000 in
theorem rdigit_hex (c : Int) (h0 : 97 ≤ c) (h1 : c ≤ 102) (w : World) :
    Calls Tryd.prog 52 #[.int .u8 c] w fun e w' => e = .returned (.int .i64 (c - 87)) ∧ w = w' := by
  go_enter Tryd.func52, Tryd.ntmps52
  go_wp2
  go_ret
  exact ⟨ret_int (by omega), rfl⟩
set_option maxHeartbeats 400000 in
theorem rdigit_low (c : Int) (h1 : c < 48) (w : World) :
    Calls Tryd.prog 52 #[.int .u8 c] w fun e w' => e = .returned (.int .i64 (-1)) ∧ w = w' := by
  go_enter Tryd.func52, Tryd.ntmps52
  go_wp2
  go_ret
  exact ⟨rfl, rfl⟩
set_option maxHeartbeats 400000 in
theorem rdigit_mid (c : Int) (h0 : 57 < c) (h1 : c < 97) (w : World) :
    Calls Tryd.prog 52 #[.int .u8 c] w fun e w' => e = .returned (.int .i64 (-1)) ∧ w = w' := by
  go_enter Tryd.func52, Tryd.ntmps52
  go_wp2
  go_ret
  exact ⟨rfl, rfl⟩
set_option maxHeartbeats 400000 in
theorem rdigit_high (c : Int) (h0 : 102 < c) (w : World) :
    Calls Tryd.prog 52 #[.int .u8 c] w fun e w' => e = .returned (.int .i64 (-1)) ∧ w = w' := by
  go_enter Tryd.func52, Tryd.ntmps52
  go_wp2
  go_ret
  exact ⟨rfl, rfl⟩
theorem rdigit (c : Int) (w : World) :
    Calls Tryd.prog 52 #[.int .u8 c] w fun e w' => e = .returned (.int .i64 (dig16 c)) ∧ w = w' := by
  unfold dig16
  by_cases h1 : 48 ≤ c ∧ c ≤ 57
  · rw [if_pos h1]; exact rdigit_dec c h1.1 h1.2 w
  · rw [if_neg h1]
    by_cases h2 : 97 ≤ c ∧ c ≤ 102
    · rw [if_pos h2]; exact rdigit_hex c h2.1 h2.2 w
    · rw [if_neg h2]
      by_cases h3 : c < 48
      · exact rdigit_low c h3 w
      · by_cases h4 : 102 < c
        · exact rdigit_high c h4 w
        · exact rdigit_mid c (by omega) (by omega) w
end Go.Proofs.YtdgcjjledbnofaaDoor
