/-
  Texts that belong together, one behind the other.
-/
import Derived.Test.YtnohonjjfjppoaaGreatDoorFu09
import Derived.Test.YtnohonjjfjppoaaGreatDoorFu04
import Derived.Deep.MidRow
import Derived.Maps.OwnSet
import Derived.StringKeys
import Derived.OwnWalk
/-
  Layer 8: Right of the program. (Made by tools/genpright8.py.)
-/
namespace Go.Proofs.YtnohonjjfjppoaaGreatDoor
set_option maxRecDepth 20000
open Go.RowKit Go.Maps
set_option linter.unusedVariables false
set_option linter.unusedSimpArgs false
theorem keyLaw : Keyed Tryz.prog 9 := string_keyed Tryz.underlying9
theorem zero_unit (w : World) : (zeroValue 76).run Tryz.prog w = .ok (.agg #[]) w := by kernel_rfl
theorem run_makeMap_hint (n : Int) (w : World) : (Instr.makeMap 73 (some (.int .i64 n))).run Tryz.prog w = .ok (.map (some w.heap.size)) (w.alloc (.map #[] 0)) := by
  simp [Instr.makeMap, run_underlying Tryz.underlying73, asInt, asIntOf, Result.andThen]
/-- The names of the first items, as a set. -/
def namesD (l : List Itm) (k : Nat) : DataW Unit := setOf (.agg []) ((l.take k).map fun i => Lit.string i.name)
theorem namesD_zero (l : List Itm) : namesD l 0 = .map [] := by simp [namesD, setOf]
theorem namesD_next (l : List Itm) (k : Nat) (h : k < l.length) : namesD l (k + 1) = (namesD l k).put (.string l[k].name) (.agg []) := by
  unfold namesD
  rw [List.take_add_one, List.getElem?_eq_getElem h, List.map_append]
  exact setOf_snoc _ _ _
theorem namesD_has (l : List Itm) (k : Nat) (s : List UInt8) : Maps.has (namesD l k) (.string s) = (l.take k).any (fun i => i.name == s) := by
  unfold namesD
  rw [has_setOf _ _ _ (fun y hy => by obtain ⟨_, _, rfl⟩ := List.mem_map.1 hy; trivial), List.any_map]
  rfl
theorem names_other (l : List Itm) (i : Nat) (h : i < l.length) : otherI l i = !((l.take i).any (fun y => y.name == (l.getD i noI).name)) := by
  rw [Bool.eq_iff_iff, other_iff, Bool.not_eq_true', List.any_eq_false]
  constructor
  · intro ho y hy
    obtain ⟨k, hk, rfl⟩ := List.mem_iff_getElem.1 hy
    rw [List.length_take] at hk
    have := ho k (by omega)
    rw [List.getD_eq_getElem?_getD, List.getElem?_eq_getElem (by omega)] at this
    rw [List.getElem_take]
    simpa using this
  · intro ho k hk
    have := ho l[k] (List.mem_iff_getElem.2 ⟨k, by rw [List.length_take]; omega, by rw [List.getElem_take]⟩)
    rw [List.getD_eq_getElem?_getD, List.getElem?_eq_getElem (by omega)]
    simpa using this
theorem map_below {w w' : World} {B n : Nat} {D : DataW Unit} (h : w.ownsMap Tryz.prog 9 unitElem B n D) (b : Below w.heap.size w w') : w'.ownsMap Tryz.prog 9 unitElem B n D := by
  obtain ⟨es, clock, hb, r⟩ := h
  exact ⟨es, clock, (b.block B (Array.getElem?_eq_some_iff.1 hb).1).trans hb, r⟩
set_option maxHeartbeats 64000000 in
theorem pRight_some (b o n c : Nat) (l : List Itm) (w : World) (hn : n = l.length) (h1 : 1 ≤ n) (h5 : n ≤ 500) (hbl : b < w.heap.size)
    (hc : ∀ k (h : k < l.length) j v, (cellsI l[k])[j]? = some v → w.cell? ⟨b, o + k * 22 + j, none⟩ = some v) (hid : ∀ i ∈ l, i.id.length = 20) (hnm : ∀ i ∈ l, i.name.length ≤ 1000000) (tab : QTab w) :
    Calls Tryz.prog 94 #[.slice (some ⟨b, o, none⟩) n c] w fun e w' => e = .returned (.bool (rightIt l)) ∧ Below w.heap.size w w' := by
  have g1 : ((n : Int) == 0) = false := beq_false_of_ne (by omega)
  have g2 : ¬ ((n : Int) > 500) := by omega
  have HN := Lib.hid hn; have HC := Lib.hid hc; have HID := Lib.hid hid; have HNM := Lib.hid hnm; have TB := Lib.hid tab
  have hmm := run_makeMap_hint (n : Int)
  obtain ⟨R, hR⟩ : ∃ R, rightIt l = R := ⟨_, rfl⟩
  have HR := Lib.hid hR
  rw [hR]
  obtain ⟨z, hz, hzs, hzv, hzb, hz1⟩ := zItem_any
  have HZS := Lib.hid hzs
  clear hn hc hid hnm tab hR hz hzs hzb hz1
  go_enter Tryz.func94, Tryz.ntmps94
  go_wp2_with fail
  go_loopw [21] (fun v21 wr => ∃ i : Nat, i ≤ n ∧ v21 = .int .i64 i ∧ (∀ j, j < i → stepI l j = true) ∧ wr.ownsMap Tryz.prog 9 unitElem w.heap.size i (namesD l i) ∧ Below w.heap.size w wr) (fun v21 _ => n - (intOf v21).toNat)
  case atStart => exact ⟨0, Nat.zero_le _, rfl, fun j hj => absurd hj (Nat.not_lt_zero _), by rw [namesD_zero]; exact World.ownsMap_made _ _ _ _, (Below.refl _ _).alloc (Nat.le_refl _) _⟩
  case round =>
    obtain ⟨i, hi, rfl, hst, hown, hbr⟩ := hrel
    have HST := Lib.hid hst
    have HOWN := Lib.hid hown
    have HBR := Lib.hid hbr
    clear hst hown hbr
    by_cases hlt : i < n
    · have hil : i < l.length := by rw [← HN.out]; exact hlt
      have hx : l.getD i noI = l[i] := by rw [List.getD_eq_getElem?_getD, List.getElem?_eq_getElem hil]; rfl
      obtain ⟨x, hx2⟩ : ∃ x, l[i] = x := ⟨_, rfl⟩
      have hxm : x ∈ l := by rw [← hx2]; exact List.getElem_mem _
      have hidx := HID.out x hxm
      have hnx := HNM.out x hxm
      have rx : wr.rangeAt b (o + i * 22) (cellsI x) := fun j v hv => (HBR.out.cell (p := ⟨b, o + i * 22 + j, none⟩) hbl).trans (HC.out i hil j v (by rw [hx2]; exact hv))
      have lx : (Tryz.prog.info? 54).map (·.size) = some (cellsI x).length := by rw [cellsI_len x hidx]; exact infoItem
      have HAH := Lib.hid (show aheadI l i = (oneI x && (i == 0 || befI (l.getD (i - 1) noI) x)) by unfold aheadI; rw [hx, hx2])
      have HOT := Lib.hid (show otherI l i = !(Maps.has (namesD l i) (.string x.name)) by rw [names_other l i hil, namesD_has, hx, hx2])
      have HNX := Lib.hid (show namesD l (i + 1) = (namesD l i).put (.string x.name) (.agg []) by rw [namesD_next l i hil, hx2])
      have hky : keyOf Tryz.prog 9 (.string ⟨x.name.toArray⟩) = some (.string x.name) := WideMaps.keyOf_string_mk Tryz.underlying9 (by rw [size_toArray]; unfold maxLen; omega)
      have hcs : (arrI x).size = 22 := arrI_size x hidx
      have hc1 : (arrI x).all (·.oneCell') = true := arrI_one x
      have b1 := below_setRow (B := wr.heap.size) (g := wr.heap.size) ((Below.refl wr.heap.size wr).alloc (Nat.le_refl _) (.cells z 54)) (Nat.le_refl _) (arrI x)
      have h1g := setRow_heap (wr.alloc (.cells z 54)) wr.heap.size z (arrI x) 54 (0, 0) (heap_alloc_new wr _)
      have hax : arrI x = (cellsI x).toArray := rfl
      obtain ⟨cx, hcx⟩ : ∃ cx, cellsI x = cx := ⟨_, rfl⟩
      rw [hcx] at rx lx hax
      rw [hax] at hcs hc1 b1 h1g
      have HCX := Lib.hid hcx
      have RX := Lib.hid rx; have LX := Lib.hid lx; have HKY := Lib.hid hky; have HCS := Lib.hid hcs; have HC1 := Lib.hid hc1
      have HB1 := Lib.hid b1; have H1G := Lib.hid h1g
      clear hx hx2 rx lx hky hcs hc1 b1 h1g hxm hax hcx
      go_wp2_with (first
        | (with_reducible refine wpList_load_mid rfl 54 (.tmp 24) rfl b (o + i * 22) rfl cx _ RX.out Tryz.underlying54 rfl LX.out ?_)
        | (with_reducible refine wpList_store_row rfl 54 (.tmp 5) (.tmp 25) rfl wr.heap.size cx.toArray rfl rfl 54 z (heap_alloc_new wr _) (info_arr _ HCS.out) (HZS.out.trans HCS.out.symm) HC1.out ?_)
        | fail)
      obtain ⟨W1, hW1⟩ : ∃ W1, (wr.alloc (.cells z 54)).setRow wr.heap.size cx.toArray = W1 := ⟨_, rfl⟩
      have hb1 := HB1.out
      have hg1 := H1G.out
      rw [hW1] at hb1 hg1 ⊢
      have HBW := Lib.hid (HBR.out.trans (hb1.mono HBR.out.size))
      have HOW := Lib.hid (map_below HOWN.out hb1)
      have RG := Lib.hid (show ∀ u, Below W1.heap.size W1 u → u.rangeAt wr.heap.size 0 cx from fun u hu j v hv => by
        have e := heap_keep hg1 hu
        rw [Lib.cell_of_heap e, Nat.zero_add, ← hv]; simp)
      have DS := Lib.hid (show ∀ u, Below W1.heap.size W1 u → Calls Tryz.prog 125 #[.agg cx.toArray] u fun e u' => e = .returned (.bool (oneI x)) ∧ Below W1.heap.size W1 u' from fun u hu =>
        (by
          have := sound_is x hidx hnx u (TB.out.below ((HBW.out.trans (hu.mono HBW.out.size))))
          rw [show arrI x = cx.toArray by rw [← HCX.out]; rfl] at this
          exact this.mono fun e u' ⟨he, hb⟩ => ⟨he, hu.trans (hb.mono hu.size)⟩))
      have HIX := Lib.hid hidx; have HNXX := Lib.hid hnx
      clear hb1 hg1 hW1 hidx hnx
      obtain ⟨ra, hra⟩ : ∃ ra, (!aheadI l i) = ra := ⟨_, rfl⟩
      have HRA := Lib.hid hra
      clear hra
      obtain ⟨on, hon⟩ : ∃ on, oneI x = on := ⟨_, rfl⟩
      have ds := DS.out
      have hah := HAH.out
      clear HAH DS
      rw [hon] at ds hah
      have DS := Lib.hid ds; have HAH := Lib.hid hah
      clear ds hah hon
      refine region_cut (fun _ a' u => a' = ({ tmps := List.toArray ((.slice (some ⟨b, o, none⟩) n c : Value) :: undef :: u2 :: (.map (some w.heap.size) : Value) :: (.int .i64 i : Value) :: (.pointer (some ⟨wr.heap.size, 0, none⟩) : Value) :: u6 :: u7 :: (.slice (some ⟨b, o, none⟩) n c : Value) :: (.int .i64 n : Value) :: (.bool false : Value) :: (.bool false : Value) :: (.slice (some ⟨b, o, none⟩) n c : Value) :: (.int .i64 n : Value) :: (.bool false : Value) :: (.bool false : Value) :: (.slice (some ⟨b, o, none⟩) n c : Value) :: (.int .i64 n : Value) :: (.map (some w.heap.size) : Value) :: (.slice (some ⟨b, o, none⟩) n c : Value) :: (.int .i64 n : Value) :: (.int .i64 i : Value) :: (.bool true : Value) :: (.int .i64 i : Value) :: (.pointer (some ⟨b, o + i * 22, none⟩) : Value) :: (.agg cx.toArray : Value) :: (a'.tmps.getD 26 undef) :: (a'.tmps.getD 27 undef) :: (a'.tmps.getD 28 undef) :: (a'.tmps.getD 29 undef) :: (a'.tmps.getD 30 undef) :: (a'.tmps.getD 31 undef) :: (a'.tmps.getD 32 undef) :: (a'.tmps.getD 33 undef) :: (a'.tmps.getD 34 undef) :: (a'.tmps.getD 35 undef) :: (a'.tmps.getD 36 undef) :: (a'.tmps.getD 37 undef) :: (a'.tmps.getD 38 undef) :: (a'.tmps.getD 39 undef) :: (a'.tmps.getD 40 undef) :: (a'.tmps.getD 41 undef) :: (.bool ra : Value) :: u43 :: u44 :: u45 :: u46 :: u47 :: u48 :: u49 :: u50 :: u51 :: u52 :: u53 :: u54 :: u55 :: []), defers := [] } : Act) ∧ Below W1.heap.size W1 u) ?_ ?_
      · cases on with
        | false =>
          have HA := Lib.hid (show (!aheadI l i) = true by rw [HAH.out]; rfl)
          obtain rfl : true = ra := HA.out.symm.trans HRA.out
          refine wp_region_held_drew (S := fun u => Below W1.heap.size W1 u) (by kernel_rfl) (Below.refl _ _).drew (fun hHeld => ?_)
          refine wpAnyH_take (i := 0) rfl (by kernel_rfl) (by kernel_rfl) (by kernel_rfl) (fun _ _ _ h => h) (yieldsIf_load_mid (by kernel_rfl) 54 (.tmp 5) (by kernel_rfl) wr.heap.size 0 (by kernel_rfl) cx _ (fun u hu => RG.out u hu) Tryz.underlying54 rfl LX.out) hHeld ?_
          try simp only [Act.put, List.setIfInBounds_toArray, List.set_cons_zero, List.set_cons_succ]
          refine wpAnyH_ready (rs := [1]) (by kernel_rfl) (by simp) ?_
          refine AllReadyH.cons rfl (fun K hK => ?_) AllReadyH.nil
          go_simp
          refine (DS.out _ hHeld).mono ?_
          rintro e u1 ⟨rfl, hH⟩
          clear hHeld
          refine hK.out _ _ hH (fun hHeld => ?_)
          clear hK K
          try simp only [Act.put, List.setIfInBounds_toArray, List.set_cons_zero, List.set_cons_succ]
          refine wpAnyH_take (i := 2) (v := ?b1v2) rfl (by kernel_rfl) (by kernel_rfl) (by kernel_rfl) (fun _ _ _ h => h) (Or.inl ⟨by kernel_rfl, ?b1y2⟩) hHeld ?_
          case b1y2 => intro u hu; go_simp; try with_reducible rfl
          try simp only [Act.put, List.setIfInBounds_toArray, List.set_cons_zero, List.set_cons_succ]
          refine wpAnyH_take (i := 3) (v := ?b1v3) rfl (by kernel_rfl) (by kernel_rfl) (by kernel_rfl) (fun _ _ _ h => h) (Or.inl ⟨by kernel_rfl, ?b1y3⟩) hHeld ?_
          case b1y3 => intro u hu; go_simp; try with_reducible rfl
          try simp only [Act.put, List.setIfInBounds_toArray, List.set_cons_zero, List.set_cons_succ]
          refine wpAnyH_take (i := 4) (v := undef) rfl (by kernel_rfl) (by kernel_rfl) (by kernel_rfl) (fun _ _ _ h => h) (Or.inr ⟨by kernel_rfl, rfl⟩) hHeld ?_
          try simp only [Act.put, List.setIfInBounds_toArray, List.set_cons_zero, List.set_cons_succ]
          refine wpAnyH_take (i := 5) (v := undef) rfl (by kernel_rfl) (by kernel_rfl) (by kernel_rfl) (fun _ _ _ h => h) (Or.inr ⟨by kernel_rfl, rfl⟩) hHeld ?_
          try simp only [Act.put, List.setIfInBounds_toArray, List.set_cons_zero, List.set_cons_succ]
          refine wpAnyH_take (i := 6) (v := undef) rfl (by kernel_rfl) (by kernel_rfl) (by kernel_rfl) (fun _ _ _ h => h) (Or.inr ⟨by kernel_rfl, rfl⟩) hHeld ?_
          try simp only [Act.put, List.setIfInBounds_toArray, List.set_cons_zero, List.set_cons_succ]
          refine wpAnyH_take (i := 7) (v := undef) rfl (by kernel_rfl) (by kernel_rfl) (by kernel_rfl) (fun _ _ _ h => h) (Or.inr ⟨by kernel_rfl, rfl⟩) hHeld ?_
          try simp only [Act.put, List.setIfInBounds_toArray, List.set_cons_zero, List.set_cons_succ]
          refine wpAnyH_take (i := 8) (v := undef) rfl (by kernel_rfl) (by kernel_rfl) (by kernel_rfl) (fun _ _ _ h => h) (Or.inr ⟨by kernel_rfl, rfl⟩) hHeld ?_
          try simp only [Act.put, List.setIfInBounds_toArray, List.set_cons_zero, List.set_cons_succ]
          refine wpAnyH_take (i := 9) (v := undef) rfl (by kernel_rfl) (by kernel_rfl) (by kernel_rfl) (fun _ _ _ h => h) (Or.inr ⟨by kernel_rfl, rfl⟩) hHeld ?_
          try simp only [Act.put, List.setIfInBounds_toArray, List.set_cons_zero, List.set_cons_succ]
          refine wpAnyH_take (i := 10) (v := undef) rfl (by kernel_rfl) (by kernel_rfl) (by kernel_rfl) (fun _ _ _ h => h) (Or.inr ⟨by kernel_rfl, rfl⟩) hHeld ?_
          try simp only [Act.put, List.setIfInBounds_toArray, List.set_cons_zero, List.set_cons_succ]
          refine wpAnyH_take (i := 11) (v := undef) rfl (by kernel_rfl) (by kernel_rfl) (by kernel_rfl) (fun _ _ _ h => h) (Or.inr ⟨by kernel_rfl, rfl⟩) hHeld ?_
          try simp only [Act.put, List.setIfInBounds_toArray, List.set_cons_zero, List.set_cons_succ]
          refine wpAnyH_take (i := 12) (v := undef) rfl (by kernel_rfl) (by kernel_rfl) (by kernel_rfl) (fun _ _ _ h => h) (Or.inr ⟨by kernel_rfl, rfl⟩) hHeld ?_
          try simp only [Act.put, List.setIfInBounds_toArray, List.set_cons_zero, List.set_cons_succ]
          refine wpAnyH_take (i := 13) (v := undef) rfl (by kernel_rfl) (by kernel_rfl) (by kernel_rfl) (fun _ _ _ h => h) (Or.inr ⟨by kernel_rfl, rfl⟩) hHeld ?_
          try simp only [Act.put, List.setIfInBounds_toArray, List.set_cons_zero, List.set_cons_succ]
          refine wpAnyH_take (i := 14) (v := undef) rfl (by kernel_rfl) (by kernel_rfl) (by kernel_rfl) (fun _ _ _ h => h) (Or.inr ⟨by kernel_rfl, rfl⟩) hHeld ?_
          try simp only [Act.put, List.setIfInBounds_toArray, List.set_cons_zero, List.set_cons_succ]
          refine wpAnyH_take (i := 15) (v := undef) rfl (by kernel_rfl) (by kernel_rfl) (by kernel_rfl) (fun _ _ _ h => h) (Or.inr ⟨by kernel_rfl, rfl⟩) hHeld ?_
          try simp only [Act.put, List.setIfInBounds_toArray, List.set_cons_zero, List.set_cons_succ]
          refine wpAnyH_take (i := 16) (v := ?b1v16) rfl (by kernel_rfl) (by kernel_rfl) (by kernel_rfl) (fun _ _ _ h => h) (Or.inl ⟨by kernel_rfl, ?b1y16⟩) hHeld ?_
          case b1y16 => intro u hu; go_simp; try with_reducible rfl
          try simp only [Act.put, List.setIfInBounds_toArray, List.set_cons_zero, List.set_cons_succ]
          refine wpAnyH_done (by kernel_rfl) ?_ _
          refine ⟨?_, hH⟩
          kernel_rfl
        | true =>
          by_cases hi0 : i = 0
          · have hi1 : (i == 0) = true := by simp [hi0]
            have hz0 : decide ((0 : Int) < (i : Int)) = false := decide_eq_false (by omega)
            have hz1 : decide (0 < i) = false := decide_eq_false (by omega)
            have hz2 : ¬ 0 < i := by omega
            have HI0 := Lib.hid hi0
            clear hi0
            have HA := Lib.hid (show (!aheadI l i) = false by rw [HAH.out]; rw [hi1]; rfl)
            obtain rfl : false = ra := HA.out.symm.trans HRA.out
            refine wp_region_held_drew (S := fun u => Below W1.heap.size W1 u) (by kernel_rfl) (Below.refl _ _).drew (fun hHeld => ?_)
            refine wpAnyH_take (i := 0) rfl (by kernel_rfl) (by kernel_rfl) (by kernel_rfl) (fun _ _ _ h => h) (yieldsIf_load_mid (by kernel_rfl) 54 (.tmp 5) (by kernel_rfl) wr.heap.size 0 (by kernel_rfl) cx _ (fun u hu => RG.out u hu) Tryz.underlying54 rfl LX.out) hHeld ?_
            try simp only [Act.put, List.setIfInBounds_toArray, List.set_cons_zero, List.set_cons_succ]
            refine wpAnyH_ready (rs := [1]) (by kernel_rfl) (by simp) ?_
            refine AllReadyH.cons rfl (fun K hK => ?_) AllReadyH.nil
            go_simp
            refine (DS.out _ hHeld).mono ?_
            rintro e u1 ⟨rfl, hH⟩
            clear hHeld
            refine hK.out _ _ hH (fun hHeld => ?_)
            clear hK K
            try simp only [Act.put, List.setIfInBounds_toArray, List.set_cons_zero, List.set_cons_succ]
            refine wpAnyH_take (i := 2) (v := ?b2v2) rfl (by kernel_rfl) (by kernel_rfl) (by kernel_rfl) (fun _ _ _ h => h) (Or.inl ⟨by kernel_rfl, ?b2y2⟩) hHeld ?_
            case b2y2 => intro u hu; go_simp; try with_reducible rfl
            try simp only [Act.put, List.setIfInBounds_toArray, List.set_cons_zero, List.set_cons_succ]
            refine wpAnyH_take (i := 3) (v := ?b2v3) rfl (by kernel_rfl) (by kernel_rfl) (by kernel_rfl) (fun _ _ _ h => h) (Or.inl ⟨by kernel_rfl, ?b2y3⟩) hHeld ?_
            case b2y3 => intro u hu; go_simp; try with_reducible rfl
            try simp only [Act.put, List.setIfInBounds_toArray, List.set_cons_zero, List.set_cons_succ]
            refine wpAnyH_take (i := 4) (v := ?b2v4) rfl (by kernel_rfl) (by kernel_rfl) (by kernel_rfl) (fun _ _ _ h => h) (Or.inl ⟨by kernel_rfl, ?b2y4⟩) hHeld ?_
            case b2y4 => intro u hu; go_simp; try with_reducible rfl
            try simp only [Act.put, List.setIfInBounds_toArray, List.set_cons_zero, List.set_cons_succ]
            refine wpAnyH_take (i := 5) (v := ?b2v5) rfl (by kernel_rfl) (by kernel_rfl) (by kernel_rfl) (fun _ _ _ h => h) (Or.inl ⟨by kernel_rfl, ?b2y5⟩) hHeld ?_
            case b2y5 => intro u hu; go_simp; try with_reducible rfl
            try simp only [Act.put, List.setIfInBounds_toArray, List.set_cons_zero, List.set_cons_succ]
            refine wpAnyH_take (i := 6) (v := ?b2v6) rfl (by kernel_rfl) (by kernel_rfl) (by kernel_rfl) (fun _ _ _ h => h) (Or.inl ⟨by kernel_rfl, ?b2y6⟩) hHeld ?_
            case b2y6 => intro u hu; go_simp; try with_reducible rfl
            try simp only [Act.put, List.setIfInBounds_toArray, List.set_cons_zero, List.set_cons_succ]
            refine wpAnyH_take (i := 7) (v := undef) rfl (by kernel_rfl) (by kernel_rfl) (by kernel_rfl) (fun _ _ _ h => h) (Or.inr ⟨by kernel_rfl, rfl⟩) hHeld ?_
            try simp only [Act.put, List.setIfInBounds_toArray, List.set_cons_zero, List.set_cons_succ]
            refine wpAnyH_take (i := 8) (v := undef) rfl (by kernel_rfl) (by kernel_rfl) (by kernel_rfl) (fun _ _ _ h => h) (Or.inr ⟨by kernel_rfl, rfl⟩) hHeld ?_
            try simp only [Act.put, List.setIfInBounds_toArray, List.set_cons_zero, List.set_cons_succ]
            refine wpAnyH_take (i := 9) (v := undef) rfl (by kernel_rfl) (by kernel_rfl) (by kernel_rfl) (fun _ _ _ h => h) (Or.inr ⟨by kernel_rfl, rfl⟩) hHeld ?_
            try simp only [Act.put, List.setIfInBounds_toArray, List.set_cons_zero, List.set_cons_succ]
            refine wpAnyH_take (i := 10) (v := undef) rfl (by kernel_rfl) (by kernel_rfl) (by kernel_rfl) (fun _ _ _ h => h) (Or.inr ⟨by kernel_rfl, rfl⟩) hHeld ?_
            try simp only [Act.put, List.setIfInBounds_toArray, List.set_cons_zero, List.set_cons_succ]
            refine wpAnyH_take (i := 11) (v := undef) rfl (by kernel_rfl) (by kernel_rfl) (by kernel_rfl) (fun _ _ _ h => h) (Or.inr ⟨by kernel_rfl, rfl⟩) hHeld ?_
            try simp only [Act.put, List.setIfInBounds_toArray, List.set_cons_zero, List.set_cons_succ]
            refine wpAnyH_take (i := 12) (v := undef) rfl (by kernel_rfl) (by kernel_rfl) (by kernel_rfl) (fun _ _ _ h => h) (Or.inr ⟨by kernel_rfl, rfl⟩) hHeld ?_
            try simp only [Act.put, List.setIfInBounds_toArray, List.set_cons_zero, List.set_cons_succ]
            refine wpAnyH_take (i := 13) (v := undef) rfl (by kernel_rfl) (by kernel_rfl) (by kernel_rfl) (fun _ _ _ h => h) (Or.inr ⟨by kernel_rfl, rfl⟩) hHeld ?_
            try simp only [Act.put, List.setIfInBounds_toArray, List.set_cons_zero, List.set_cons_succ]
            refine wpAnyH_take (i := 14) (v := undef) rfl (by kernel_rfl) (by kernel_rfl) (by kernel_rfl) (fun _ _ _ h => h) (Or.inr ⟨by kernel_rfl, rfl⟩) hHeld ?_
            try simp only [Act.put, List.setIfInBounds_toArray, List.set_cons_zero, List.set_cons_succ]
            refine wpAnyH_take (i := 15) (v := ?b2v15) rfl (by kernel_rfl) (by kernel_rfl) (by kernel_rfl) (fun _ _ _ h => h) (Or.inl ⟨by kernel_rfl, ?b2y15⟩) hHeld ?_
            case b2y15 => intro u hu; go_simp; try with_reducible rfl
            try simp only [Act.put, List.setIfInBounds_toArray, List.set_cons_zero, List.set_cons_succ]
            refine wpAnyH_take (i := 16) (v := ?b2v16) rfl (by kernel_rfl) (by kernel_rfl) (by kernel_rfl) (fun _ _ _ h => h) (Or.inl ⟨by kernel_rfl, ?b2y16⟩) hHeld ?_
            case b2y16 => intro u hu; go_simp; try with_reducible rfl
            try simp only [Act.put, List.setIfInBounds_toArray, List.set_cons_zero, List.set_cons_succ]
            refine wpAnyH_done (by kernel_rfl) ?_ _
            refine ⟨?_, hH⟩
            kernel_rfl
          · have hp : i - 1 < l.length := by omega
            have hm : l[i - 1] ∈ l := List.getElem_mem _
            obtain ⟨p, hpi⟩ : ∃ p, p + 1 = i := ⟨i - 1, by omega⟩
            obtain ⟨y, hy⟩ : ∃ y, l[i - 1] = y := ⟨_, rfl⟩
            have hyp : l.getD (i - 1) noI = y := by rw [List.getD_eq_getElem?_getD, List.getElem?_eq_getElem hp]; exact hy
            rw [hy] at hm
            have hiy := HID.out y hm
            have hny := HNM.out y hm
            have hw : IntKind.i64.wrap ((i : Int) - 1) = (p : Int) := by rw [IntWalk.i64_in _ (by omega)]; omega
            have hpn : p < n := by omega
            have hry : ∀ u, Below W1.heap.size W1 u → u.rangeAt b (o + p * 22) (cellsI y) := fun u hu j v hv => ((HBW.out.trans (hu.mono HBW.out.size)).cell (p := ⟨b, o + p * 22 + j, none⟩) hbl).trans (HC.out p (by omega) j v (by rw [show l[p]'(by omega) = y by rw [← hy]; congr 1; omega]; exact hv))
            have ly : (Tryz.prog.info? 54).map (·.size) = some (cellsI y).length := by rw [cellsI_len y hiy]; exact infoItem
            have cB := fun u => pBefore_is y x hiy HIX.out hny HNXX.out u
            obtain ⟨r, hr⟩ : ∃ r, befI y x = r := ⟨_, rfl⟩
            rw [hr] at cB
            obtain ⟨cp, hcp⟩ : ∃ cp, cellsI y = cp := ⟨_, rfl⟩
            rw [HCX.out, hcp] at cB
            rw [hcp] at ly hry
            have LP := Lib.hid ly; have RP := Lib.hid hry
            have DB := Lib.hid (fun u (h : Below W1.heap.size W1 u) => ((cB u).mono (fun e u' ⟨he, hb⟩ => ⟨he, h.trans (hb.mono h.size)⟩) : Calls Tryz.prog 126 #[.agg cp.toArray, .agg cx.toArray] u fun e u' => e = .returned (.bool r) ∧ Below W1.heap.size W1 u'))
            have hi1 : (i == 0) = false := beq_false_of_ne hi0
            have HH := Lib.hid (And.intro hr hyp)
            have hpos : 0 < i := by omega
            clear ly hry cB hr hyp hiy hny hcp hy hm hp
            have HA := Lib.hid (show (!aheadI l i) = (!r) by rw [HAH.out]; rw [hi1, HH.out.2, HH.out.1]; cases r <;> rfl)
            obtain rfl : (!r) = ra := HA.out.symm.trans HRA.out
            refine wp_region_held_drew (S := fun u => Below W1.heap.size W1 u) (by kernel_rfl) (Below.refl _ _).drew (fun hHeld => ?_)
            refine wpAnyH_take (i := 0) rfl (by kernel_rfl) (by kernel_rfl) (by kernel_rfl) (fun _ _ _ h => h) (yieldsIf_load_mid (by kernel_rfl) 54 (.tmp 5) (by kernel_rfl) wr.heap.size 0 (by kernel_rfl) cx _ (fun u hu => RG.out u hu) Tryz.underlying54 rfl LX.out) hHeld ?_
            try simp only [Act.put, List.setIfInBounds_toArray, List.set_cons_zero, List.set_cons_succ]
            refine wpAnyH_ready (rs := [1]) (by kernel_rfl) (by simp) ?_
            refine AllReadyH.cons rfl (fun K hK => ?_) AllReadyH.nil
            go_simp
            refine (DS.out _ hHeld).mono ?_
            rintro e u1 ⟨rfl, hH⟩
            clear hHeld
            refine hK.out _ _ hH (fun hHeld => ?_)
            clear hK K
            try simp only [Act.put, List.setIfInBounds_toArray, List.set_cons_zero, List.set_cons_succ]
            refine wpAnyH_take (i := 2) (v := ?b3v2) rfl (by kernel_rfl) (by kernel_rfl) (by kernel_rfl) (fun _ _ _ h => h) (Or.inl ⟨by kernel_rfl, ?b3y2⟩) hHeld ?_
            case b3y2 => intro u hu; go_simp; try with_reducible rfl
            try simp only [Act.put, List.setIfInBounds_toArray, List.set_cons_zero, List.set_cons_succ]
            refine wpAnyH_take (i := 3) (v := ?b3v3) rfl (by kernel_rfl) (by kernel_rfl) (by kernel_rfl) (fun _ _ _ h => h) (Or.inl ⟨by kernel_rfl, ?b3y3⟩) hHeld ?_
            case b3y3 => intro u hu; go_simp; try with_reducible rfl
            try simp only [Act.put, List.setIfInBounds_toArray, List.set_cons_zero, List.set_cons_succ]
            refine wpAnyH_take (i := 4) (v := ?b3v4) rfl (by kernel_rfl) (by kernel_rfl) (by kernel_rfl) (fun _ _ _ h => h) (Or.inl ⟨by kernel_rfl, ?b3y4⟩) hHeld ?_
            case b3y4 => intro u hu; go_simp; try with_reducible rfl
            try simp only [Act.put, List.setIfInBounds_toArray, List.set_cons_zero, List.set_cons_succ]
            refine wpAnyH_take (i := 5) (v := ?b3v5) rfl (by kernel_rfl) (by kernel_rfl) (by kernel_rfl) (fun _ _ _ h => h) (Or.inl ⟨by kernel_rfl, ?b3y5⟩) hHeld ?_
            case b3y5 => intro u hu; go_simp; try with_reducible rfl
            try simp only [Act.put, List.setIfInBounds_toArray, List.set_cons_zero, List.set_cons_succ]
            refine wpAnyH_take (i := 6) (v := ?b3v6) rfl (by kernel_rfl) (by kernel_rfl) (by kernel_rfl) (fun _ _ _ h => h) (Or.inl ⟨by kernel_rfl, ?b3y6⟩) hHeld ?_
            case b3y6 => intro u hu; go_simp; try with_reducible rfl
            try simp only [Act.put, List.setIfInBounds_toArray, List.set_cons_zero, List.set_cons_succ]
            refine wpAnyH_take (i := 7) (v := ?b3v7) rfl (by kernel_rfl) (by kernel_rfl) (by kernel_rfl) (fun _ _ _ h => h) (Or.inl ⟨by kernel_rfl, ?b3y7⟩) hHeld ?_
            case b3y7 => intro u hu; go_simp; try with_reducible rfl
            try simp only [Act.put, List.setIfInBounds_toArray, List.set_cons_zero, List.set_cons_succ]
            refine wpAnyH_take (i := 8) (v := ?b3v8) rfl (by kernel_rfl) (by kernel_rfl) (by kernel_rfl) (fun _ _ _ h => h) (Or.inl ⟨by kernel_rfl, ?b3y8⟩) hHeld ?_
            case b3y8 => intro u hu; go_simp; try with_reducible rfl
            try simp only [Act.put, List.setIfInBounds_toArray, List.set_cons_zero, List.set_cons_succ]
            refine wpAnyH_take (i := 9) (v := ?b3v9) rfl (by kernel_rfl) (by kernel_rfl) (by kernel_rfl) (fun _ _ _ h => h) (Or.inl ⟨by kernel_rfl, ?b3y9⟩) hHeld ?_
            case b3y9 => intro u hu; go_simp; try with_reducible rfl
            try simp only [Act.put, List.setIfInBounds_toArray, List.set_cons_zero, List.set_cons_succ]
            refine wpAnyH_take (i := 10) (v := ?b3v10) rfl (by kernel_rfl) (by kernel_rfl) (by kernel_rfl) (fun _ _ _ h => h) (Or.inl ⟨by kernel_rfl, ?b3y10⟩) hHeld ?_
            case b3y10 => intro u hu; go_simp; try with_reducible rfl
            try simp only [Act.put, List.setIfInBounds_toArray, List.set_cons_zero, List.set_cons_succ]
            refine wpAnyH_take (i := 11) rfl (by kernel_rfl) (by kernel_rfl) (by kernel_rfl) (fun _ _ _ h => h) (yieldsIf_load_mid (by kernel_rfl) 54 (.tmp 36) (by kernel_rfl) b (o + p * 22) (by kernel_rfl) cp _ (fun u hu => RP.out u hu) Tryz.underlying54 rfl LP.out) hHeld ?_
            try simp only [Act.put, List.setIfInBounds_toArray, List.set_cons_zero, List.set_cons_succ]
            refine wpAnyH_take (i := 12) rfl (by kernel_rfl) (by kernel_rfl) (by kernel_rfl) (fun _ _ _ h => h) (yieldsIf_load_mid (by kernel_rfl) 54 (.tmp 5) (by kernel_rfl) wr.heap.size 0 (by kernel_rfl) cx _ (fun u hu => RG.out u hu) Tryz.underlying54 rfl LX.out) hHeld ?_
            try simp only [Act.put, List.setIfInBounds_toArray, List.set_cons_zero, List.set_cons_succ]
            refine wpAnyH_ready (rs := [13]) (by kernel_rfl) (by simp) ?_
            refine AllReadyH.cons rfl (fun K hK => ?_) AllReadyH.nil
            go_simp
            refine (DB.out _ hHeld).mono ?_
            rintro e u2 ⟨rfl, hH⟩
            clear hHeld
            refine hK.out _ _ hH (fun hHeld => ?_)
            clear hK K
            try simp only [Act.put, List.setIfInBounds_toArray, List.set_cons_zero, List.set_cons_succ]
            refine wpAnyH_take (i := 14) (v := ?b3v14) rfl (by kernel_rfl) (by kernel_rfl) (by kernel_rfl) (fun _ _ _ h => h) (Or.inl ⟨by kernel_rfl, ?b3y14⟩) hHeld ?_
            case b3y14 => intro u hu; go_simp; try with_reducible rfl
            try simp only [Act.put, List.setIfInBounds_toArray, List.set_cons_zero, List.set_cons_succ]
            refine wpAnyH_take (i := 15) (v := ?b3v15) rfl (by kernel_rfl) (by kernel_rfl) (by kernel_rfl) (fun _ _ _ h => h) (Or.inl ⟨by kernel_rfl, ?b3y15⟩) hHeld ?_
            case b3y15 => intro u hu; go_simp; try with_reducible rfl
            try simp only [Act.put, List.setIfInBounds_toArray, List.set_cons_zero, List.set_cons_succ]
            refine wpAnyH_take (i := 16) (v := ?b3v16) rfl (by kernel_rfl) (by kernel_rfl) (by kernel_rfl) (fun _ _ _ h => h) (Or.inl ⟨by kernel_rfl, ?b3y16⟩) hHeld ?_
            case b3y16 => intro u hu; go_simp; try with_reducible rfl
            try simp only [Act.put, List.setIfInBounds_toArray, List.set_cons_zero, List.set_cons_succ]
            refine wpAnyH_done (by kernel_rfl) ?_ _
            refine ⟨?_, hH⟩
            kernel_rfl
      · rintro a' u ⟨he, hbu⟩
        generalize a'.tmps.getD 26 undef = s26 at he
        generalize a'.tmps.getD 27 undef = s27 at he
        generalize a'.tmps.getD 28 undef = s28 at he
        generalize a'.tmps.getD 29 undef = s29 at he
        generalize a'.tmps.getD 30 undef = s30 at he
        generalize a'.tmps.getD 31 undef = s31 at he
        generalize a'.tmps.getD 32 undef = s32 at he
        generalize a'.tmps.getD 33 undef = s33 at he
        generalize a'.tmps.getD 34 undef = s34 at he
        generalize a'.tmps.getD 35 undef = s35 at he
        generalize a'.tmps.getD 36 undef = s36 at he
        generalize a'.tmps.getD 37 undef = s37 at he
        generalize a'.tmps.getD 38 undef = s38 at he
        generalize a'.tmps.getD 39 undef = s39 at he
        generalize a'.tmps.getD 40 undef = s40 at he
        generalize a'.tmps.getD 41 undef = s41 at he
        subst he
        have HB := Lib.hid hbu
        have HOU := Lib.hid (map_below HOW.out hbu)
        have HBU := Lib.hid (HBW.out.trans (hbu.mono HBW.out.size))
        have q1 : u.cell? ⟨wr.heap.size, 1, none⟩ = some (.string ⟨x.name.toArray⟩) := RG.out u hbu 1 _ (by rw [← HCX.out]; rfl)
        clear hbu
        obtain ⟨sx, hsx⟩ : ∃ sx : ByteArray, ⟨x.name.toArray⟩ = sx := ⟨_, rfl⟩
        have hky := HKY.out
        rw [hsx] at q1 hky
        have HK := Lib.hid hky
        clear hsx hky
        cases ra with
        | true =>
          have hR : false = R := by
            rw [← HR.out]
            exact (right_no_step l i (by rw [← HN.out]; exact hlt) (by unfold stepI; have := HRA.out; cases ha : aheadI l i with | false => rfl | true => rw [ha] at this; cases this)).symm
          subst hR
          go_wp2
          go_ret
          exact ⟨rfl, HBU.out⟩
        | false =>
          have HAH2 := Lib.hid (show aheadI l i = true by have := HRA.out; cases ha : aheadI l i with | true => rfl | false => rw [ha] at this; cases this)
          have hot := HOT.out
          obtain ⟨ht, hht⟩ : ∃ ht, Maps.has (namesD l i) (.string x.name) = ht := ⟨_, rfl⟩
          rw [hht] at hot
          have HOTT := Lib.hid hot
          have HHT := Lib.hid hht
          clear hot hht
          cases ht with
          | true =>
            have hR : false = R := by
              rw [← HR.out]
              exact (right_no_step l i (by rw [← HN.out]; exact hlt) (by unfold stepI; rw [HOTT.out]; simp)).symm
            subst hR
            go_wp2_with (first
              | (at_lookup; refine wpList_lookup_own_unit _ rfl _ _ 73 rfl 9 76 keyLaw Tryz.underlying73 (zero_unit _) w.heap.size i _ rfl HOU.out _ _ rfl HK.out ?_; rw [HHT.out])
              | fail)
            go_ret
            exact ⟨rfl, HBU.out.alloc HBU.out.size _⟩
          | false =>
            have HSTEP := Lib.hid (show stepI l i = true by unfold stepI; rw [HAH2.out, HOTT.out]; rfl)
            have u1 := (Below.refl u.heap.size u).alloc (Nat.le_refl _) (.cells #[] 76)
            have q1b := (u1.cell (p := ⟨wr.heap.size, 1, none⟩) (World.block_lt_of_cell? u _ q1)).trans q1
            have HOV := Lib.hid (map_below HOU.out u1)
            have HBV := Lib.hid (HBU.out.trans (u1.mono HBU.out.size))
            clear u1
            go_wp2_with (first
              | (at_lookup; refine wpList_lookup_own_unit _ rfl _ _ 73 rfl 9 76 keyLaw Tryz.underlying73 (zero_unit _) w.heap.size i _ rfl HOU.out _ _ rfl HK.out ?_; rw [HHT.out])
              | (at_mapUpdate; refine wpList_mapUpdate_own _ rfl _ _ _ 73 rfl 9 76 keyLaw Tryz.underlying73 (unitElem (H := Unit)) w.heap.size i _ rfl HOV.out (by unfold maxLen; omega) _ _ _ rfl rfl HK.out _ [] unitElem_mk ?_; intro w1 hown1 hgrow1)
              | fail)
            have hbn := HBV.out.grown hgrow1 HBV.out.size (fun j hj => by cases hj; exact Nat.le_refl _)
            have HON := Lib.hid hown1; have HBN := Lib.hid hbn
            clear hown1 hgrow1 hbn
            go_roundw
            case rel =>
              refine ⟨i + 1, by omega, by go_num, fun j hj => ?_, by rw [HNX.out]; exact HON.out, HBN.out⟩
              by_cases hji : j < i
              · exact HST.out j hji
              · obtain rfl : j = i := by omega
                exact HSTEP.out
            case measure => simp [intOf]; omega
    · have hR : true = R := by
        rw [← HR.out]
        exact (right_yes l (by rw [← HN.out]; exact h1) (by rw [← HN.out]; exact h5) (fun j hj => HST.out j (by rw [← HN.out] at hj; omega))).symm
      subst hR
      go_wp2
      go_ret
      exact ⟨rfl, HBR.out⟩
end Go.Proofs.YtnohonjjfjppoaaGreatDoor
