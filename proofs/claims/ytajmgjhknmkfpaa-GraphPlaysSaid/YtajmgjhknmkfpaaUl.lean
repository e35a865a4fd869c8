/-
  Layer 12, the program: a node's parents.
-/
import Derived.Test.YtajmgjhknmkfpaaUk
namespace Go.Proofs.Ytajmgjhknmkfpaa
set_option maxRecDepth 20000
open Go.RowKit Go.Maps
set_option linter.unusedVariables false
set_option linter.unusedSimpArgs false

set_option maxHeartbeats 4000000 in
theorem parentsP_none (p : Option Addr) (i : List UInt8) (hi : i.length = 20) (w : World) (hp : ∀ u, Below w.heap.size w u → Calls Try.prog 31 #[.pointer p, .agg (arrD i)] u fun e w' => e = .returned (.tuple #[.int .i64 0, .bool false]) ∧ Below u.heap.size u w') :
    Calls Try.prog 16 #[.pointer p, .agg (arrD i)] w fun e w' => e = .returned (.slice none 0 0) ∧ Below w.heap.size w w' := by
  have IA := Lib.hid (infoD_arr (arrD i) (arrD_size i hi))
  have b1 := (Below.refl w.heap.size w).alloc (Nat.le_refl _) (.cells (arrD i) 32)
  have H0 := Lib.hid (heap_alloc_new w (.cells (arrD i) 32))
  have CP := Lib.hid (hp _ b1)
  have B1 := Lib.hid b1
  generalize arrD i = A at *
  clear hp b1
  go_enter Try.func16, Try.ntmps16
  go_wp2_with (first
    | (with_reducible refine wpList_load_all 32 (.tmp 3) rfl (by kernel_rfl) w.heap.size A 32 (0, 0) rfl H0.out _ Try.underlying32 rfl IA.out ?_)
    | fail)
  refine CP.out.mono ?_
  rintro e w2 ⟨rfl, hb⟩
  have HB := Lib.hid (B1.out.trans (hb.mono B1.out.size))
  clear hb
  go_wp2
  go_ret
  exact ⟨rfl, HB.out⟩
theorem psOf_take (L : List Gn) (l : List Nat) (k : Nat) (hk : k < l.length) : psOf L (l.take (k + 1)) = psOf L (l.take k) ++ [idAt L l[k]] := by
  unfold psOf
  rw [List.take_add_one, List.getElem?_eq_getElem hk, List.map_append]
  rfl
set_option maxRecDepth 100000 in
set_option maxHeartbeats 16000000 in
theorem parentsP_some {S : Nat → Prop} {w : World} {g : Nat} {L : List Gn} (h : GraphP S w g L) (hL : L.length ≤ 1000000) (hfew : ∀ k, (plAt L k).length ≤ 1000) (i : List UInt8) (hi : i.length = 20) (k : Nat) (hk : atG L i = some k) :
    Calls Try.prog 16 #[.pointer (some ⟨g, 0, none⟩), .agg (arrD i)] w fun e w' => ∃ v, e = .returned v ∧ OwnD w.heap.size v (psOf L (plAt L k)) w' ∧ Below w.heap.size w w' := by
  obtain ⟨A, hA⟩ : ∃ A, arrD i = A := ⟨_, rfl⟩
  have SA := Lib.hid (show A.size = 20 by rw [← hA]; exact arrD_size i hi)
  have IA := Lib.hid (infoD_arr A SA.out)
  have b1 := (Below.refl w.heap.size w).alloc (Nat.le_refl _) (.cells A 32)
  have x1 := heap_alloc_new w (.cells A 32)
  have CPL := placeP_is (h.below b1) i hi
  unfold placeV at CPL
  rw [hk, hA] at CPL
  simp only [Option.isSome_some, Option.getD_some] at CPL
  have kL := (atG_some hk).1
  obtain ⟨hg, E, vv, mb, hin⟩ := h
  have HIN := Lib.hid (fun u (hu : Below w.heap.size w u) => hin.keep hg (StayB.of hu))
  have GD := Lib.hid hin.good
  obtain ⟨av, cv, hvv, hle, -⟩ := hin.shape
  subst hvv
  obtain ⟨n, hn⟩ : ∃ n, L.length = n := ⟨_, rfl⟩
  obtain ⟨m, hm⟩ : ∃ m, (plAt L k).length = m := ⟨_, rfl⟩
  have hm6 : m ≤ 1000000 := by rw [← hm]; exact Nat.le_trans (hfew k) (by decide)
  have hn6 : n ≤ 1000000 := by rw [← hn]; exact hL
  have CPL := Lib.hid CPL; have B1 := Lib.hid b1; have X1 := Lib.hid x1; have HN := Lib.hid hn; have HM := Lib.hid hm; have KL := Lib.hid kL
  rw [hA]
  rw [hn] at hle
  have knL : k < n := by rw [← hn]; exact kL
  clear b1 x1 hin hn hm hA hk hi hg kL hfew hL
  go_enter Try.func16, Try.ntmps16
  go_wp2_with (first
    | (with_reducible refine wpList_load_all 32 (.tmp 3) rfl (by kernel_rfl) w.heap.size A 32 (0, 0) rfl X1.out _ Try.underlying32 rfl IA.out ?_)
    | fail)
  refine CPL.out.mono ?_
  rintro e w2 ⟨rfl, hb⟩
  have B2 := Lib.hid (B1.out.trans (hb.mono B1.out.size))
  clear hb CPL X1 B1
  obtain ⟨c0, -, -⟩ := (HIN.out w2 B2.out).cells rfl
  obtain ⟨b, o, cc, x, hvv, hcc, hblt, hx, -, hred⟩ := (HIN.out w2 B2.out).parents KL.out
  simp only [Value.slice.injEq] at hvv
  obtain ⟨rfl, -, rfl⟩ := hvv
  obtain ⟨pa, pc, hxx, hpr, -, hple, -⟩ := hred
  subst hxx
  rw [HN.out] at c0
  rw [HM.out] at hx hple
  have PR := Lib.hid hpr
  have B2R := Lib.hid (Below.refl w2.heap.size w2)
  clear hpr hcc
  have g0 : (k : Int) < (n : Int) := by omega
  go_wp2_with fail
  go_loopw [7, 27] (fun v t wr => ∃ j : Nat, j ≤ m ∧ t = .int .i64 j ∧ OwnD w2.heap.size v (psOf L ((plAt L k).take j)) wr ∧ Below w2.heap.size w2 wr) (fun _ t _ => m - (intOf t).toNat)
  case atStart => exact ⟨0, Nat.zero_le _, rfl, ownD_nil _ _, Below.refl _ _⟩
  case round =>
    clear c0 hx
    obtain ⟨j, hj, rfl, how, hbr⟩ := hrel
    have HO := Lib.hid how; have HBR := Lib.hid hbr
    clear how hbr
    by_cases hlt : j < m
    · have hjl : j < (plAt L k).length := by rw [HM.out]; exact hlt
      obtain ⟨pb, po, rfl, hpb⟩ := PR.out.some (by rw [HM.out]; omega)
      obtain ⟨p, hp⟩ : ∃ p, (plAt L k)[j] = p := ⟨_, rfl⟩
      have hpL : p < L.length := low_lt GD.out (k := k) p (by rw [← hp]; exact List.getElem_mem _)
      have d0 := rowN_cell PR.out j hjl
      rw [hp] at d0
      have c1 : wr.cell? ⟨pb, po + j, none⟩ = some (.int .i64 p) := (HBR.out.cell (p := ⟨pb, po + j, none⟩) hpb).trans d0
      have B3 := Lib.hid (B2.out.trans (HBR.out.mono B2.out.size))
      obtain ⟨c2, -, -⟩ := (HIN.out wr B3.out).cells rfl
      obtain ⟨b', o', cc', e, hv', -, hb', hrow, hok, hen, -⟩ := (HIN.out wr B3.out).node hpL
      simp only [Value.slice.injEq, Option.some.injEq, Addr.mk.injEq, and_true] at hv'
      obtain ⟨⟨rfl, rfl⟩, -, rfl⟩ := hv'
      rw [HN.out] at c2
      obtain ⟨y, hy⟩ : ∃ y, e.n.id = y := ⟨_, rfl⟩
      have HY20 := Lib.hid (show y.length = 20 by rw [← hy]; exact hok.1)
      have RY := node_id hrow
      rw [hy] at RY
      have RY := Lib.hid RY
      have PS := Lib.hid (show psOf L ((plAt L k).take (j + 1)) = psOf L ((plAt L k).take j) ++ [y] by rw [psOf_take L _ j hjl, hp, idAt_lt hpL, ← hen, hy])
      obtain ⟨Y, hY⟩ : ∃ Y, arrD y = Y := ⟨_, rfl⟩
      have HY := Lib.hid hY
      have HYS := Lib.hid (show Y.size = 20 by rw [← hY]; exact arrD_size y HY20.out)
      have LY := Lib.hid (show (Try.prog.info? 32).map (·.size) = some (cellsD y).length by rw [cellsD_len y HY20.out]; exact infoD_n)
      have LL := Lib.hid (show (psOf L ((plAt L k).take j)).length ≤ 1000000000 by unfold psOf; rw [List.length_map, List.length_take, HM.out]; omega)
      have ea : (cellsD y).toArray = Y := hY
      have b4 := (Below.refl wr.heap.size wr).alloc (Nat.le_refl _) (.cells Y 32)
      have HO4 := Lib.hid (ownD_below HO.out b4)
      have B4 := Lib.hid (HBR.out.trans (b4.mono HBR.out.size))
      have g1 : (p : Int) < (n : Int) := by have := HN.out; omega
      clear d0 hrow hok hen hy hY b4 hp hpL hb'
      generalize cellsD y = cy at *
      go_wp2_with (first
        | (with_reducible refine wpList_load_midD 32 (.tmp 38) rfl (by kernel_rfl) b (o + p * 21) rfl cy _ RY.out Try.underlying32 rfl LY.out ?_; rw [ea])
        | (with_reducible refine wpList_build_idD rfl (.tmp 39) rfl Y HYS.out rfl ?_)
        | (at_builtin; refine wpList_append_idD rfl _ _ rfl w2.heap.size _ (psOf L ((plAt L k).take j)) y wr.heap.size Y HY.out.symm rfl rfl (heap_alloc_new wr _) HY20.out HO4.out LL.out B4.out.size ?_)
        | fail)
      intro v6 w6 o6 g6
      have HB6 := Lib.hid (B4.out.trans ((Below.refl w2.heap.size _).grown g6 B4.out.size (fun j hj => (HO4.out.lt j hj).1)))
      have HW6 := Lib.hid (show OwnD w2.heap.size v6 (psOf L ((plAt L k).take (j + 1))) w6 by rw [PS.out]; exact o6)
      clear o6 g6
      go_wp2
      go_roundw
      case rel => exact ⟨j + 1, by omega, by go_num, HW6.out, HB6.out⟩
      case measure => simp [intOf]; omega
    · obtain rfl : j = m := by omega
      have HE := Lib.hid (show OwnD w.heap.size _ (psOf L (plAt L k)) wr from ownR_mono (R := rowI) (by have q := HO.out; rwa [List.take_of_length_le (by rw [HM.out]; exact Nat.le_refl _)] at q) B2.out.size)
      have HB := Lib.hid (B2.out.trans (HBR.out.mono B2.out.size))
      go_wp2
      go_ret
      exact ⟨_, rfl, HE.out, HB.out⟩
theorem parentsP_is {S : Nat → Prop} {w : World} {g : Nat} {L : List Gn} (h : GraphP S w g L) (hL : L.length ≤ 1000000) (hfew : ∀ k, (plAt L k).length ≤ 1000) (i : List UInt8) (hi : i.length = 20) :
    Calls Try.prog 16 #[.pointer (some ⟨g, 0, none⟩), .agg (arrD i)] w fun e w' => ∃ v, e = .returned v ∧ OwnD w.heap.size v (parG L i) w' ∧ Below w.heap.size w w' := by
  unfold parG
  cases hk : atG L i with
  | none =>
    refine (parentsP_none _ i hi w (fun u hu => by
      have q := placeP_is (h.below hu) i hi
      unfold placeV at q
      rw [hk] at q
      exact q)).mono ?_
    rintro e w' ⟨rfl, hb⟩
    exact ⟨_, rfl, ownD_nil _ _, hb⟩
  | some k => exact parentsP_some h hL hfew i hi k hk
theorem parentsP_nil (i : List UInt8) (hi : i.length = 20) (w : World) :
    Calls Try.prog 16 #[.pointer none, .agg (arrD i)] w fun e w' => e = .returned (.slice none 0 0) ∧ Below w.heap.size w w' :=
  parentsP_none none i hi w (fun u hu => placeP_nil i u)
end Go.Proofs.Ytajmgjhknmkfpaa
