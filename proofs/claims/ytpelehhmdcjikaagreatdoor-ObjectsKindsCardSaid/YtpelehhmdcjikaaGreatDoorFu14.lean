/-
  Texts that belong together, one behind the other.
-/
import Derived.Test.YtpelehhmdcjikaaGreatDoorFu13
import Derived.Test.YtpelehhmdcjikaaGreatDoorFu01
import Derived.Test.YtpelehhmdcjikaaGreatDoorFu02
import Derived.IntWalk
import Derived.WalkSmall
import Derived.Shelf.Strings.Builder1
import Derived.Shelf.Strings.BuilderF
import Derived.Shelf.Strings.BuilderK
import Derived.Test.YtpelehhmdcjikaaGreatDoorProg
import Derived.Shelf.Strings.BuilderRune
import Derived.Shelf.Strings.BuilderCap
/-
  Layer 9, the program: which parents a record may have.
-/
namespace Go.Proofs.YtpelehhmdcjikaaGreatDoor
set_option maxRecDepth 20000
open Go.RowKit
set_option linter.unusedVariables false
set_option linter.unusedSimpArgs false
set_option maxHeartbeats 16000000 in
theorem rightParents9_is (a1 : Option Addr) (n c1 : Nat) (l : List (List UInt8)) (w : World) (hit : IdsAt w a1 l) (hn : n = l.length) (hm : n ≤ 1000000) (hnc : n ≤ c1) (hid : ∀ i ∈ l, i.length = 20) :
    Calls Tryz.prog 105 #[.slice a1 n c1] w fun e w' => e = .returned (.bool (decide (n ≤ 16) && parentsR l)) ∧ Below w.heap.size w w' := by
  by_cases k1 : n ≤ 16
  case neg =>
    have g1 : (n : Int) > 16 := by omega
    rw [decide_eq_false k1, Bool.false_and]
    clear k1 hit hn hm hnc hid
    go_enter Tryz.func105, Tryz.ntmps105
    go_wp2
    go_ret
    exact ⟨rfl, Below.refl _ _⟩
  have g1 : decide ((n : Int) > 16) = false := decide_eq_false (by omega)
  have g1b : decide (16 < (n : Int)) = false := decide_eq_false (by omega)
  have g1c : ¬ (n : Int) > 16 := by omega
  rw [decide_eq_true k1, Bool.true_and]
  obtain ⟨z, hz, hzs, hzv, hzb, hz1⟩ := zId_any
  have HZS := Lib.hid hzs; have HZB := Lib.hid hzb; have HZ := Lib.hid hz
  have HN := Lib.hid hn; have HIT := Lib.hid hit; have HID := Lib.hid hid; have HNC := Lib.hid hnc
  have BAD := Lib.hid (fun (k : Nat) (hk : k < l.length) h => parents_bad (ps := l) k hk h)
  have GOOD := Lib.hid (fun h => (parentsR_iff l).2 h)
  obtain ⟨R, hR⟩ : ∃ R, parentsR l = R := ⟨_, rfl⟩
  rw [hR] at BAD GOOD ⊢
  clear hit hid hnc hn hz hzs hz1 hzb hR
  go_enter Tryz.func105, Tryz.ntmps105
  go_wp2_with fail
  go_loopw [10] (fun i wr => ∃ k : Nat, k ≤ n ∧ i = .int .i64 k ∧ (∀ j (hj : j < l.length), j < k → l[j] ≠ idZ ∧ l[j] ∉ l.take j) ∧ Below w.heap.size w wr) (fun i _ => n - (intOf i).toNat)
  case atStart => exact ⟨0, Nat.zero_le _, rfl, fun j _ h => absurd h (Nat.not_lt_zero _), Below.refl _ _⟩
  case round =>
    obtain ⟨k, hk, rfl, hok, hbr⟩ := hrel
    have HBR := Lib.hid hbr; have HOK := Lib.hid hok
    clear hbr hok
    by_cases hlt : k < n
    · have hkl : k < l.length := by rw [← HN.out]; exact hlt
      obtain ⟨b, o, rfl, hbl, hc⟩ := HIT.out (by omega)
      have HC := Lib.hid hc
      have HBL := Lib.hid hbl
      clear hc hbl
      obtain ⟨y, hy⟩ : ∃ y, l[k] = y := ⟨_, rfl⟩
      have hidy := HID.out y (by rw [← hy]; exact List.getElem_mem _)
      have RY := Lib.hid (show wr.rangeAt b (o + k * 20) (cellsD y) from fun j v hv => (HBR.out.cell (p := ⟨b, o + k * 20 + j, none⟩) HBL.out).trans (HC.out k hkl j v (by rw [hy]; exact hv)))
      have LX := Lib.hid (show (Tryz.prog.info? 24).map (·.size) = some (cellsD y).length by rw [cellsD_len y hidy]; exact infoD_n)
      have LXA := Lib.hid (show (Tryz.prog.info? 24).map (·.size) = some (cellsD y).toArray.size by rw [List.size_toArray, cellsD_len y hidy]; exact infoD_n)
      have SXA := Lib.hid (show (cellsD y).toArray.size = z.size by rw [List.size_toArray, cellsD_len y hidy, HZS.out])
      have OXA := Lib.hid (cellsD_one y)
      have EY := fun u => eql_arrD y idZ hidy rfl u
      rw [← HZ.out] at EY
      unfold arrD at EY
      have gk : (k : Int) ≤ (c1 : Int) := by have := HNC.out; omega
      have CI0 := Lib.hid (fun u (hu : Below w.heap.size w u) => Contains_some b o c1 k (l.take k) y u (by rw [List.length_take]; omega) (by omega) (Nat.lt_of_lt_of_le HBL.out hu.size) (fun q hq j v hv => (hu.cell (p := ⟨b, o + q * 20 + j, none⟩) HBL.out).trans (HC.out q (by rw [List.length_take] at hq; omega) j v (by rw [List.getElem_take] at hv; exact hv))) (fun i hi => HID.out i (List.mem_of_mem_take hi)) hidy)
      unfold arrD at CI0
      cases hyz : eqD y idZ with
      | true =>
        rw [hyz] at EY
        have hr := BAD.out k hkl (.inl (by rw [hy]; exact (eqD_iff _ _).1 hyz))
        subst hr
        clear hyz BAD GOOD CI0 hy hidy
        generalize cellsD y = cy at *
        go_wp2_with (first
          | (with_reducible refine wpList_load_mid rfl 24 (.tmp 13) rfl b (o + k * 20) rfl cy _ RY.out Tryz.underlying24 rfl LX.out ?_)
          | (with_reducible refine wpList_store_all rfl 24 (.tmp 4) (.tmp 14) rfl wr.heap.size cy.toArray rfl rfl 24 z (heap_alloc_new wr _) LXA.out SXA.out OXA.out ?_)
          | fail)
        intro w2 hg2 ho2 hs2
        have HB2 := Lib.hid (((Below.refl wr.heap.size wr).alloc (Nat.le_refl _) (.cells z 24)).trans (ho2.below (Nat.le_refl _) (by simp)))
        have HP := Lib.hid (fun u (hu : Below w2.heap.size w2 u) => row_keepD (cs := cy) (row_arrD hg2) (lt_of_heap hg2) hu)
        clear ho2 hs2 hg2
        go_wp2_with fail
        refine wp_region_held_drew (S := fun u => Below w2.heap.size w2 u) (by kernel_rfl) (Below.refl _ _).drew (fun hHeld => ?_)
        refine wpAnyH_take (i := 0) rfl (by kernel_rfl) (by kernel_rfl) (by kernel_rfl) (fun _ _ _ h => h) (yieldsIf_load_mid (by kernel_rfl) 24 (.tmp 4) (by kernel_rfl) wr.heap.size 0 (by kernel_rfl) cy _ (fun u hu => HP.out u hu) Tryz.underlying24 rfl LX.out) hHeld ?_
        try simp only [Act.put, List.setIfInBounds_toArray, List.set_cons_zero, List.set_cons_succ]
        refine wpAnyH_take (i := 1) rfl (by kernel_rfl) (by kernel_rfl) (by kernel_rfl) (fun _ _ _ h => h) (yields_build0 (by kernel_rfl) 24 rfl _ HZB.out) hHeld ?_
        try simp only [Act.put, List.setIfInBounds_toArray, List.set_cons_zero, List.set_cons_succ]
        refine wpAnyH_take (i := 2) (v := ?tv2) rfl (by kernel_rfl) (by kernel_rfl) (by kernel_rfl) (fun _ _ _ h => h) (Or.inl ⟨by kernel_rfl, ?ty2⟩) hHeld ?_
        case ty2 => intro u hu; go_simp; try with_reducible rfl
        try simp only [Act.put, List.setIfInBounds_toArray, List.set_cons_zero, List.set_cons_succ]
        refine wpAnyH_take (i := 3) (v := ?tv3) rfl (by kernel_rfl) (by kernel_rfl) (by kernel_rfl) (fun _ _ _ h => h) (Or.inl ⟨by kernel_rfl, ?ty3⟩) hHeld ?_
        case ty3 => intro u hu; go_simp; try with_reducible rfl
        try simp only [Act.put, List.setIfInBounds_toArray, List.set_cons_zero, List.set_cons_succ]
        refine wpAnyH_take (i := 4) (v := undef) rfl (by kernel_rfl) (by kernel_rfl) (by kernel_rfl) (fun _ _ _ h => h) (Or.inr ⟨by kernel_rfl, rfl⟩) hHeld ?_
        try simp only [Act.put, List.setIfInBounds_toArray, List.set_cons_zero, List.set_cons_succ]
        refine wpAnyH_take (i := 5) (v := undef) rfl (by kernel_rfl) (by kernel_rfl) (by kernel_rfl) (fun _ _ _ h => h) (Or.inr ⟨by kernel_rfl, rfl⟩) hHeld ?_
        try simp only [Act.put, List.setIfInBounds_toArray, List.set_cons_zero, List.set_cons_succ]
        refine wpAnyH_take (i := 6) (v := undef) rfl (by kernel_rfl) (by kernel_rfl) (by kernel_rfl) (fun _ _ _ h => h) (Or.inr ⟨by kernel_rfl, rfl⟩) hHeld ?_
        try simp only [Act.put, List.setIfInBounds_toArray, List.set_cons_zero, List.set_cons_succ]
        refine wpAnyH_take (i := 7) (v := undef) rfl (by kernel_rfl) (by kernel_rfl) (by kernel_rfl) (fun _ _ _ h => h) (Or.inr ⟨by kernel_rfl, rfl⟩) hHeld ?_
        try simp only [Act.put, List.setIfInBounds_toArray, List.set_cons_zero, List.set_cons_succ]
        refine wpAnyH_take (i := 8) (v := undef) rfl (by kernel_rfl) (by kernel_rfl) (by kernel_rfl) (fun _ _ _ h => h) (Or.inr ⟨by kernel_rfl, rfl⟩) hHeld ?_
        try simp only [Act.put, List.setIfInBounds_toArray, List.set_cons_zero, List.set_cons_succ]
        refine wpAnyH_take (i := 9) (v := ?tv9) rfl (by kernel_rfl) (by kernel_rfl) (by kernel_rfl) (fun _ _ _ h => h) (Or.inl ⟨by kernel_rfl, ?ty9⟩) hHeld ?_
        case ty9 => intro u hu; go_simp; try with_reducible rfl
        try simp only [Act.put, List.getElem_toArray, List.getElem_cons_succ, List.getElem_cons_zero, List.setIfInBounds_toArray, List.set_cons_zero, List.set_cons_succ]
        refine wpAnyH_done (by kernel_rfl) ?_ _
        have HB5 := Lib.hid (HBR.out.trans ((HB2.out.trans (hHeld.mono HB2.out.size)).mono HBR.out.size))
        clear hHeld
        go_wp2
        go_ret
        exact ⟨rfl, HB5.out⟩
      | false =>
        rw [hyz] at EY
        cases hin : amongD (l.take k) y with
        | true =>
          rw [hin] at CI0
          have hr := BAD.out k hkl (.inr (by rw [hy]; exact (among_iff _ _).1 hin))
          subst hr
          clear hyz hin BAD GOOD hy hidy
          generalize cellsD y = cy at *
          go_wp2_with (first
            | (with_reducible refine wpList_load_mid rfl 24 (.tmp 13) rfl b (o + k * 20) rfl cy _ RY.out Tryz.underlying24 rfl LX.out ?_)
            | (with_reducible refine wpList_store_all rfl 24 (.tmp 4) (.tmp 14) rfl wr.heap.size cy.toArray rfl rfl 24 z (heap_alloc_new wr _) LXA.out SXA.out OXA.out ?_)
            | fail)
          intro w2 hg2 ho2 hs2
          have HB2 := Lib.hid (((Below.refl wr.heap.size wr).alloc (Nat.le_refl _) (.cells z 24)).trans (ho2.below (Nat.le_refl _) (by simp)))
          have HP := Lib.hid (fun u (hu : Below w2.heap.size w2 u) => row_keepD (cs := cy) (row_arrD hg2) (lt_of_heap hg2) hu)
          have CI := Lib.hid (fun u (hu : Below w2.heap.size w2 u) => CI0.out u (HBR.out.trans ((HB2.out.trans (hu.mono HB2.out.size)).mono HBR.out.size)))
          clear ho2 hs2 hg2 CI0
          go_wp2_with fail
          refine wp_region_held_drew (S := fun u => Below w2.heap.size w2 u) (by kernel_rfl) (Below.refl _ _).drew (fun hHeld => ?_)
          refine wpAnyH_take (i := 0) rfl (by kernel_rfl) (by kernel_rfl) (by kernel_rfl) (fun _ _ _ h => h) (yieldsIf_load_mid (by kernel_rfl) 24 (.tmp 4) (by kernel_rfl) wr.heap.size 0 (by kernel_rfl) cy _ (fun u hu => HP.out u hu) Tryz.underlying24 rfl LX.out) hHeld ?_
          try simp only [Act.put, List.setIfInBounds_toArray, List.set_cons_zero, List.set_cons_succ]
          refine wpAnyH_take (i := 1) rfl (by kernel_rfl) (by kernel_rfl) (by kernel_rfl) (fun _ _ _ h => h) (yields_build0 (by kernel_rfl) 24 rfl _ HZB.out) hHeld ?_
          try simp only [Act.put, List.setIfInBounds_toArray, List.set_cons_zero, List.set_cons_succ]
          refine wpAnyH_take (i := 2) (v := ?fv2) rfl (by kernel_rfl) (by kernel_rfl) (by kernel_rfl) (fun _ _ _ h => h) (Or.inl ⟨by kernel_rfl, ?fy2⟩) hHeld ?_
          case fy2 => intro u hu; go_simp; try with_reducible rfl
          try simp only [Act.put, List.setIfInBounds_toArray, List.set_cons_zero, List.set_cons_succ]
          refine wpAnyH_take (i := 3) (v := ?fv3) rfl (by kernel_rfl) (by kernel_rfl) (by kernel_rfl) (fun _ _ _ h => h) (Or.inl ⟨by kernel_rfl, ?fy3⟩) hHeld ?_
          case fy3 => intro u hu; go_simp; try with_reducible rfl
          try simp only [Act.put, List.setIfInBounds_toArray, List.set_cons_zero, List.set_cons_succ]
          refine wpAnyH_take (i := 4) (v := ?fv4) rfl (by kernel_rfl) (by kernel_rfl) (by kernel_rfl) (fun _ _ _ h => h) (Or.inl ⟨by kernel_rfl, ?fy4⟩) hHeld ?_
          case fy4 => intro u hu; go_simp; try with_reducible rfl
          try simp only [Act.put, List.setIfInBounds_toArray, List.set_cons_zero, List.set_cons_succ]
          refine wpAnyH_take (i := 5) (v := ?fv5) rfl (by kernel_rfl) (by kernel_rfl) (by kernel_rfl) (fun _ _ _ h => h) (Or.inl ⟨by kernel_rfl, ?fy5⟩) hHeld ?_
          case fy5 => intro u hu; go_simp; try with_reducible rfl
          try simp only [Act.put, List.setIfInBounds_toArray, List.set_cons_zero, List.set_cons_succ]
          refine wpAnyH_take (i := 6) (v := ?fv6) rfl (by kernel_rfl) (by kernel_rfl) (by kernel_rfl) (fun _ _ _ h => h) (Or.inl ⟨by kernel_rfl, ?fy6⟩) hHeld ?_
          case fy6 => intro u hu; go_simp; try with_reducible rfl
          try simp only [Act.put, List.setIfInBounds_toArray, List.set_cons_zero, List.set_cons_succ]
          refine wpAnyH_take (i := 7) rfl (by kernel_rfl) (by kernel_rfl) (by kernel_rfl) (fun _ _ _ h => h) (yieldsIf_load_mid (by kernel_rfl) 24 (.tmp 4) (by kernel_rfl) wr.heap.size 0 (by kernel_rfl) cy _ (fun u hu => HP.out u hu) Tryz.underlying24 rfl LX.out) hHeld ?_
          try simp only [Act.put, List.setIfInBounds_toArray, List.set_cons_zero, List.set_cons_succ]
          refine wpAnyH_ready (rs := [8]) (by kernel_rfl) (by simp) ?_
          refine AllReadyH.cons rfl (fun K hK => ?_) AllReadyH.nil
          go_simp
          refine (CI.out _ hHeld).mono ?_
          rintro e u1 ⟨rfl, hI⟩
          have hH := hHeld.trans (hI.mono hHeld.size)
          clear hHeld hI
          refine hK.out _ _ hH (fun hHeld => ?_)
          clear hK K
          try simp only [Act.put, List.setIfInBounds_toArray, List.set_cons_zero, List.set_cons_succ]
          refine wpAnyH_take (i := 9) (v := ?fv9) rfl (by kernel_rfl) (by kernel_rfl) (by kernel_rfl) (fun _ _ _ h => h) (Or.inl ⟨by kernel_rfl, ?fy9⟩) hHeld ?_
          case fy9 => intro u hu; go_simp; try with_reducible rfl
          try simp only [Act.put, List.getElem_toArray, List.getElem_cons_succ, List.getElem_cons_zero, List.setIfInBounds_toArray, List.set_cons_zero, List.set_cons_succ]
          refine wpAnyH_done (by kernel_rfl) ?_ _
          have HB5 := Lib.hid (HBR.out.trans ((HB2.out.trans (hHeld.mono HB2.out.size)).mono HBR.out.size))
          clear hHeld
          go_wp2
          go_ret
          exact ⟨rfl, HB5.out⟩
        | false =>
          rw [hin] at CI0
          have HOK1 := Lib.hid (fun (j : Nat) (hj : j < l.length) (hjk : j < k + 1) => (show l[j] ≠ idZ ∧ l[j] ∉ l.take j from if h : j < k then HOK.out j hj h else by
            obtain rfl : j = k := by omega
            rw [hy]
            exact ⟨fun e => (by rw [e, eqD_same] at hyz; cases hyz), fun e => (by rw [(among_iff _ _).2 e] at hin; cases hin)⟩))
          clear hyz hin BAD GOOD hy hidy
          generalize cellsD y = cy at *
          go_wp2_with (first
            | (with_reducible refine wpList_load_mid rfl 24 (.tmp 13) rfl b (o + k * 20) rfl cy _ RY.out Tryz.underlying24 rfl LX.out ?_)
            | (with_reducible refine wpList_store_all rfl 24 (.tmp 4) (.tmp 14) rfl wr.heap.size cy.toArray rfl rfl 24 z (heap_alloc_new wr _) LXA.out SXA.out OXA.out ?_)
            | fail)
          intro w2 hg2 ho2 hs2
          have HB2 := Lib.hid (((Below.refl wr.heap.size wr).alloc (Nat.le_refl _) (.cells z 24)).trans (ho2.below (Nat.le_refl _) (by simp)))
          have HP := Lib.hid (fun u (hu : Below w2.heap.size w2 u) => row_keepD (cs := cy) (row_arrD hg2) (lt_of_heap hg2) hu)
          have CI := Lib.hid (fun u (hu : Below w2.heap.size w2 u) => CI0.out u (HBR.out.trans ((HB2.out.trans (hu.mono HB2.out.size)).mono HBR.out.size)))
          clear ho2 hs2 hg2 CI0
          go_wp2_with fail
          refine wp_region_held_drew (S := fun u => Below w2.heap.size w2 u) (by kernel_rfl) (Below.refl _ _).drew (fun hHeld => ?_)
          refine wpAnyH_take (i := 0) rfl (by kernel_rfl) (by kernel_rfl) (by kernel_rfl) (fun _ _ _ h => h) (yieldsIf_load_mid (by kernel_rfl) 24 (.tmp 4) (by kernel_rfl) wr.heap.size 0 (by kernel_rfl) cy _ (fun u hu => HP.out u hu) Tryz.underlying24 rfl LX.out) hHeld ?_
          try simp only [Act.put, List.setIfInBounds_toArray, List.set_cons_zero, List.set_cons_succ]
          refine wpAnyH_take (i := 1) rfl (by kernel_rfl) (by kernel_rfl) (by kernel_rfl) (fun _ _ _ h => h) (yields_build0 (by kernel_rfl) 24 rfl _ HZB.out) hHeld ?_
          try simp only [Act.put, List.setIfInBounds_toArray, List.set_cons_zero, List.set_cons_succ]
          refine wpAnyH_take (i := 2) (v := ?gv2) rfl (by kernel_rfl) (by kernel_rfl) (by kernel_rfl) (fun _ _ _ h => h) (Or.inl ⟨by kernel_rfl, ?gy2⟩) hHeld ?_
          case gy2 => intro u hu; go_simp; try with_reducible rfl
          try simp only [Act.put, List.setIfInBounds_toArray, List.set_cons_zero, List.set_cons_succ]
          refine wpAnyH_take (i := 3) (v := ?gv3) rfl (by kernel_rfl) (by kernel_rfl) (by kernel_rfl) (fun _ _ _ h => h) (Or.inl ⟨by kernel_rfl, ?gy3⟩) hHeld ?_
          case gy3 => intro u hu; go_simp; try with_reducible rfl
          try simp only [Act.put, List.setIfInBounds_toArray, List.set_cons_zero, List.set_cons_succ]
          refine wpAnyH_take (i := 4) (v := ?gv4) rfl (by kernel_rfl) (by kernel_rfl) (by kernel_rfl) (fun _ _ _ h => h) (Or.inl ⟨by kernel_rfl, ?gy4⟩) hHeld ?_
          case gy4 => intro u hu; go_simp; try with_reducible rfl
          try simp only [Act.put, List.setIfInBounds_toArray, List.set_cons_zero, List.set_cons_succ]
          refine wpAnyH_take (i := 5) (v := ?gv5) rfl (by kernel_rfl) (by kernel_rfl) (by kernel_rfl) (fun _ _ _ h => h) (Or.inl ⟨by kernel_rfl, ?gy5⟩) hHeld ?_
          case gy5 => intro u hu; go_simp; try with_reducible rfl
          try simp only [Act.put, List.setIfInBounds_toArray, List.set_cons_zero, List.set_cons_succ]
          refine wpAnyH_take (i := 6) (v := ?gv6) rfl (by kernel_rfl) (by kernel_rfl) (by kernel_rfl) (fun _ _ _ h => h) (Or.inl ⟨by kernel_rfl, ?gy6⟩) hHeld ?_
          case gy6 => intro u hu; go_simp; try with_reducible rfl
          try simp only [Act.put, List.setIfInBounds_toArray, List.set_cons_zero, List.set_cons_succ]
          refine wpAnyH_take (i := 7) rfl (by kernel_rfl) (by kernel_rfl) (by kernel_rfl) (fun _ _ _ h => h) (yieldsIf_load_mid (by kernel_rfl) 24 (.tmp 4) (by kernel_rfl) wr.heap.size 0 (by kernel_rfl) cy _ (fun u hu => HP.out u hu) Tryz.underlying24 rfl LX.out) hHeld ?_
          try simp only [Act.put, List.setIfInBounds_toArray, List.set_cons_zero, List.set_cons_succ]
          refine wpAnyH_ready (rs := [8]) (by kernel_rfl) (by simp) ?_
          refine AllReadyH.cons rfl (fun K hK => ?_) AllReadyH.nil
          go_simp
          refine (CI.out _ hHeld).mono ?_
          rintro e u1 ⟨rfl, hI⟩
          have hH := hHeld.trans (hI.mono hHeld.size)
          clear hHeld hI
          refine hK.out _ _ hH (fun hHeld => ?_)
          clear hK K
          try simp only [Act.put, List.setIfInBounds_toArray, List.set_cons_zero, List.set_cons_succ]
          refine wpAnyH_take (i := 9) (v := ?gv9) rfl (by kernel_rfl) (by kernel_rfl) (by kernel_rfl) (fun _ _ _ h => h) (Or.inl ⟨by kernel_rfl, ?gy9⟩) hHeld ?_
          case gy9 => intro u hu; go_simp; try with_reducible rfl
          try simp only [Act.put, List.getElem_toArray, List.getElem_cons_succ, List.getElem_cons_zero, List.setIfInBounds_toArray, List.set_cons_zero, List.set_cons_succ]
          refine wpAnyH_done (by kernel_rfl) ?_ _
          have HB5 := Lib.hid (HBR.out.trans ((HB2.out.trans (hHeld.mono HB2.out.size)).mono HBR.out.size))
          clear hHeld
          go_wp2
          go_roundw
          case rel => exact ⟨k + 1, by omega, by go_num, HOK1.out, HB5.out⟩
          case measure => simp [intOf]; omega
    · obtain rfl : k = n := by omega
      have hr := GOOD.out (fun j hj => HOK.out j hj (by rw [HN.out]; exact hj))
      subst hr
      clear BAD GOOD
      go_wp2
      go_ret
      exact ⟨rfl, HBR.out⟩
end Go.Proofs.YtpelehhmdcjikaaGreatDoor

/-
  The rune at a place, as a number, and its width.
-/
namespace Go.Proofs.YtpelehhmdcjikaaGreatDoor
open Go.RowKit
set_option linter.unusedVariables false
/-- The rune at a place, as a number, and its width. -/
theorem rune_int (l : List UInt8) (i : Nat) (hi : i < l.length) : ∃ (r : Int) (k : Nat), r = ((Utf8.decode ⟨l.toArray⟩ i).1 : Int) ∧ k = (Utf8.decode ⟨l.toArray⟩ i).2 ∧ 0 ≤ r ∧ r ≤ 2147483647 ∧ 1 ≤ k ∧ i + k ≤ l.length ∧
    ((r < 128 ∧ r = ((l.getD i 0).toNat : Int) ∧ k = 1) ∨ (128 ≤ r ∧ k ≤ 4 ∧ ∀ j, i ≤ j → j < i + k → 128 ≤ (l.getD j 0).toNat)) := by
  refine ⟨_, _, rfl, rfl, ?_⟩
  rcases rune_at l i hi with ⟨h1, h2⟩ | ⟨h1, h2, h3, h4, h5, h6, h7⟩
  · rw [h2]
    exact ⟨by omega, by simp only; omega, Nat.le_refl _, by simp only; omega, .inl ⟨by simp only; omega, rfl, rfl⟩⟩
  · exact ⟨by omega, by omega, h4, h6, .inr ⟨by omega, h5, h7⟩⟩
end Go.Proofs.YtpelehhmdcjikaaGreatDoor

/-
  Layer 6: barred, rightZone and prefix of the program; barred of the reference.
-/
namespace Go.Proofs.YtpelehhmdcjikaaGreatDoor
open Go.RowKit
set_option linter.unusedVariables false
set_option linter.unusedSimpArgs false
theorem ext_upto (l : List UInt8) (k : Nat) : (⟨l.toArray⟩ : ByteArray).extract 0 k = ⟨(l.take k).toArray⟩ := Lib.extract_upto _ k
theorem ext_from (l : List UInt8) (k n : Nat) (hn : n = l.length) : (⟨l.toArray⟩ : ByteArray).extract k n = ⟨(l.drop k).toArray⟩ := by
  have := Lib.extract_from ⟨l.toArray⟩ k
  rw [size_toArray] at this
  rw [hn, this]
set_option maxHeartbeats 1000000 in
theorem barred_is (r : Nat) (hr : r ≤ 2147483647) (w : World) :
    Calls Tryz.prog 204 #[.int .i32 r] w fun e w' => e = .returned (.bool (barR r)) ∧ w = w' := by
  by_cases h0 : r = 0
  · subst h0
    go_enter Tryz.func204, Tryz.ntmps204
    go_wp2
    go_ret
    exact ⟨rfl, rfl⟩
  have f0 : ((r : Int) == 0) = false := by simp; omega
  by_cases h1 : r = 10
  · subst h1
    go_enter Tryz.func204, Tryz.ntmps204
    go_wp2
    go_ret
    exact ⟨rfl, rfl⟩
  have f1 : ((r : Int) == 10) = false := by simp; omega
  by_cases h2 : r = 60
  · subst h2
    go_enter Tryz.func204, Tryz.ntmps204
    go_wp2
    go_ret
    exact ⟨rfl, rfl⟩
  have f2 : ((r : Int) == 60) = false := by simp; omega
  by_cases h3 : r = 62
  · subst h3
    go_enter Tryz.func204, Tryz.ntmps204
    go_wp2
    go_ret
    exact ⟨rfl, rfl⟩
  have f3 : ((r : Int) == 62) = false := by simp; omega
  have e : barR r = false := by unfold barR; simp; omega
  rw [e]
  clear h0 h1 h2 h3 e
  go_enter Tryz.func204, Tryz.ntmps204
  go_wp2
  go_ret
  exact ⟨rfl, rfl⟩
set_option maxHeartbeats 400000 in
theorem rightZone_is (z : Int) (w : World) :
    Calls Tryz.prog 138 #[.int .i64 z] w fun e w' => e = .returned (.bool (decide (-840 ≤ z) && decide (z ≤ 840))) ∧ w = w' := by
  by_cases h0 : -840 ≤ z
  · by_cases h1 : z ≤ 840
    · go_enter Tryz.func138, Tryz.ntmps138
      go_wp2
      go_ret
      exact ⟨ret_bool (by simp [h0, h1]), rfl⟩
    · go_enter Tryz.func138, Tryz.ntmps138
      go_wp2
      go_ret
      exact ⟨ret_bool (by simp [h0, h1]), rfl⟩
  · go_enter Tryz.func138, Tryz.ntmps138
    go_wp2
    go_ret
    exact ⟨ret_bool (by rw [decide_eq_false (show ¬ -840 ≤ z by omega)]; rfl), rfl⟩
set_option maxHeartbeats 4000000 in
set_option maxRecDepth 100000 in
theorem prefix_long (l : List UInt8) (gs : List (List UInt8)) (hl : l = gs.flatten) (hr : ∀ g ∈ gs, Rune g) (hn : l.length ≤ 1000000) (h200 : 200 < l.length) (w : World) :
    Calls Tryz.prog 183 #[.string ⟨l.toArray⟩, .int .i64 200] w fun e w' => e = .returned (.string ⟨(fitL 200 gs).flatten.toArray⟩) ∧ Below w.heap.size w w' := by
  have RI := Lib.hid (rune_int l)
  have hsz := size_toArray l
  have DD := Lib.hid (dec_drop l)
  have EX := Lib.hid (ext_upto l)
  obtain ⟨s, hs⟩ : ∃ s : ByteArray, s = ⟨l.toArray⟩ := ⟨_, rfl⟩
  rw [← hs] at RI hsz DD EX ⊢
  clear hs
  have FIT := Lib.hid (fun i e h => @Edge.fit gs i e 200 h)
  have NX := Lib.hid (fun i e h => @Edge.next gs hr i e h)
  have LE := Lib.hid (fun i e h => @Edge.le gs i e h)
  rw [← hl] at FIT NX LE
  have hlong : ((s.size : Int) ≤ 200) = False := by simp; omega
  have it0 := World.iter_heap w s 0
  have b0 := (Below.refl w.heap.size w).alloc (Nat.le_refl _) (.stringIter s 0)
  have E0 := Lib.hid (Edge.start gs)
  clear hl hr
  go_enter Tryz.func183, Tryz.ntmps183
  go_wp2_with fail
  go_loopw [5] (fun ve wr => ∃ i e : Nat, Edge gs i e ∧ e ≤ 200 ∧ ve = .int .i64 e ∧ wr.heap[w.heap.size]? = some (.stringIter s i) ∧ Below w.heap.size w wr) (fun _ wr => l.length - wr.iterPos w.heap.size)
  case atStart => exact ⟨0, 0, E0.out, by omega, rfl, it0, b0⟩
  case round =>
    clear it0 b0 E0
    obtain ⟨i, e, hed, he, rfl, hit, hbr⟩ := hrel
    obtain ⟨hle1, hle2⟩ := LE.out i e hed
    have ED := Lib.hid hed
    clear hed
    have hes : (e : Int) ≤ (s.size : Int) := by omega
    have hes2 : (e : Int) ≤ (l.length : Int) := by omega
    by_cases hlt : i < l.length
    · have hnx := fun ty => Lib.run_next_any_at (P := Tryz.prog) wr w.heap.size s i ty hit (by omega)
      obtain ⟨r, k, hr, hk, hr0, hr1, hk1, hkl, hw⟩ := RI.out i hlt
      have HK := Lib.hid (show k = widL (l.drop i) by rw [hk, DD.out]; rfl)
      rw [← hr, ← hk] at hnx
      clear hr hk hw
      have HP := Lib.hid (show wr.iterPos w.heap.size = i by simp [World.iterPos, hit])
      have hit2 := Lib.iterAt_heap wr w.heap.size s i (i + k) hit
      have hbr2 := Lib.below_iterAt hbr (k := w.heap.size) (Nat.le_refl _) s (i + k)
      generalize wr.iterAt w.heap.size s (i + k) = w3 at hnx hit2 hbr2
      clear hit hbr
      by_cases c1 : 200 < i
      · have hc1 : ((i : Int) > 200) = True := by simp; omega
        go_wp2
        go_ret
        exact ⟨by rw [EX.out, FIT.out i e ED.out he c1]; rfl, hbr2⟩
      · have hc1 : ((i : Int) > 200) = False := by simp; omega
        go_wp2
        go_roundw
        case rel => exact ⟨i + k, i, by rw [HK.out]; exact NX.out i e ED.out hlt, by omega, rfl, hit2, hbr2⟩
        case measure =>
          rw [HP.out, show World.iterPos _ w.heap.size = i + k by simp [World.iterPos, hit2]]
          omega
    · obtain rfl : i = l.length := by omega
      have hnx := fun ty => Lib.run_next_end_at (P := Tryz.prog) wr w.heap.size s l.length ty hit (by omega)
      go_wp2
      go_ret
      exact ⟨by rw [EX.out, FIT.out l.length e ED.out he h200]; rfl, hbr⟩
theorem prefix_is (l : List UInt8) (gs : List (List UInt8)) (hl : l = gs.flatten) (hr : ∀ g ∈ gs, Rune g) (hn : l.length ≤ 1000000) (w : World) :
    Calls Tryz.prog 183 #[.string ⟨l.toArray⟩, .int .i64 200] w fun e w' => e = .returned (.string ⟨(fitL 200 gs).flatten.toArray⟩) ∧ Below w.heap.size w w' := by
  by_cases h200 : 200 < l.length
  · exact prefix_long l gs hl hr hn h200 w
  · have hsz := size_toArray l
    have key : (fitL 200 gs).flatten = l := by rw [fit_all gs 200 (by rw [← hl]; omega), ← hl]
    rw [key]
    clear hl hr key
    obtain ⟨s, hs⟩ : ∃ s : ByteArray, s = ⟨l.toArray⟩ := ⟨_, rfl⟩
    rw [← hs] at hsz ⊢
    clear hs
    have hshort : (s.size : Int) ≤ 200 := by omega
    have hshort2 : (l.length : Int) ≤ 200 := by omega
    go_enter Tryz.func183, Tryz.ntmps183
    go_wp2
    go_ret
    exact ⟨rfl, Below.refl _ _⟩
end Go.Proofs.YtpelehhmdcjikaaGreatDoor

/-
  The contracts of strings.Builder's WriteByte and copyCheck at this program: the shelf's own, laid by hand (its command misses two types that no body names).
-/
namespace Go.Proofs
set_option maxRecDepth 20000
open Go.Shelf Go.RowKit
def Tryz.bwRen : Go.Shelf.Ren := ⟨fun | 167 => 225 | 240 => 226 | 276 => 237 | n => n, fun | 0 => 0 | 4 => 4 | 5 => 5 | 9 => 9 | 20 => 20 | 37 => 32 | 70 => 253 | 72 => 255 | 75 => 258 | 80 => 261 | 164 => 286 | n => n, fun | n => n⟩
theorem Tryz.bw240 : Go.Proofs.Lays.n240 Tryz.prog Tryz.bwRen := {
  mixed := by kernel_rfl
  f240 := Tryz.func226.trans (congrArg some (by kernel_rfl))
  f276 := Tryz.func237.trans (congrArg some (by kernel_rfl))
  t0 := Tryz.underlying0
  a0 := Tryz.isAgg0
  z0 := Tryz.sizeOf0
  v0 := Tryz.zeroValue0
  t4 := Tryz.underlying4
  a4 := Tryz.isAgg4
  z4 := Tryz.sizeOf4
  v4 := Tryz.zeroValue4
  t9 := Tryz.underlying9
  a9 := Tryz.isAgg9
  z9 := Tryz.sizeOf9
  v9 := Tryz.zeroValue9
  t20 := Tryz.underlying20
  a20 := Tryz.isAgg20
  z20 := Tryz.sizeOf20
  v20 := Tryz.zeroValue20
  t70 := Tryz.underlying253
  a70 := Tryz.isAgg253
  z70 := Tryz.sizeOf253
  v70 := Tryz.zeroValue253
  t72 := Tryz.underlying255
  a72 := Tryz.isAgg255
  z72 := Tryz.sizeOf255
  v72 := Tryz.zeroValue255
  t164 := Tryz.underlying286
  a164 := Tryz.isAgg286
  z164 := Tryz.sizeOf286
  v164 := Tryz.zeroValue286 }
theorem Tryz.bw167 : Go.Proofs.Lays.n167 Tryz.prog Tryz.bwRen := {
  mixed := by kernel_rfl
  f167 := Tryz.func225.trans (congrArg some (by kernel_rfl))
  f240 := Tryz.bw240.f240
  f276 := Tryz.bw240.f276
  t0 := Tryz.underlying0
  a0 := Tryz.isAgg0
  z0 := Tryz.sizeOf0
  v0 := Tryz.zeroValue0
  t4 := Tryz.underlying4
  a4 := Tryz.isAgg4
  z4 := Tryz.sizeOf4
  v4 := Tryz.zeroValue4
  t5 := Tryz.underlying5
  a5 := Tryz.isAgg5
  z5 := Tryz.sizeOf5
  v5 := Tryz.zeroValue5
  t9 := Tryz.underlying9
  a9 := Tryz.isAgg9
  z9 := Tryz.sizeOf9
  v9 := Tryz.zeroValue9
  t20 := Tryz.underlying20
  a20 := Tryz.isAgg20
  z20 := Tryz.sizeOf20
  v20 := Tryz.zeroValue20
  t37 := Tryz.underlying32
  a37 := Tryz.isAgg32
  z37 := Tryz.sizeOf32
  v37 := Tryz.zeroValue32
  t70 := Tryz.underlying253
  a70 := Tryz.isAgg253
  z70 := Tryz.sizeOf253
  v70 := Tryz.zeroValue253
  t72 := Tryz.underlying255
  a72 := Tryz.isAgg255
  z72 := Tryz.sizeOf255
  v72 := Tryz.zeroValue255
  t75 := Tryz.underlying258
  a75 := Tryz.isAgg258
  z75 := Tryz.sizeOf258
  v75 := Tryz.zeroValue258
  t164 := Tryz.underlying286
  a164 := Tryz.isAgg286
  z164 := Tryz.sizeOf286
  v164 := Tryz.zeroValue286 }
theorem Tryz.bwExtra : Builder.Extra Tryz.prog Tryz.bwRen := {
  sizeBuilder := by kernel_rfl
  liesBuilder := by kernel_rfl
  t5 := Tryz.underlying5
  a5 := Tryz.isAgg5
  z5 := Tryz.sizeOf5
  v5 := Tryz.zeroValue5
  infoByte := by kernel_rfl
  cellsByte := by kernel_rfl
  sizeByte := by kernel_rfl
  neB5 := by decide }
theorem Tryz.Builder_WriteByte_k (B b : Nat) (bs : List Value) (c : Int) (w : World) (h : Lib.IsBuilderF 255 5 B b bs w) (hlen : bs.length + 1 ≤ 140737488355328) (hBw : B ≤ w.heap.size) :
    Calls Tryz.prog 225 #[.pointer (some ⟨b, 0, none⟩), .int .u8 c] w fun e w' => e = .returned .nilIface ∧ (Lib.BuilderAtF 255 5 B b (.pointer (some ⟨b, 0, none⟩)) (bs ++ [.int .u8 c]) w' ∧ Below B w w' ∧ Lib.OthersKept 5 (some b) w w') := Any.Builder_WriteByte_k Tryz.bw167 Tryz.bwExtra B b bs c w h hlen hBw
end Go.Proofs

/-
  The contract of strings.Builder's WriteString at this program: the shelf's own, laid by hand (its command misses two types that no body names).
-/
namespace Go.Proofs
open Go.Shelf Go.RowKit
def Tryz.bsRen : Go.Shelf.Ren := ⟨fun | 166 => 223 | 240 => 226 | 276 => 237 | n => n, fun | 0 => 0 | 3 => 3 | 4 => 4 | 5 => 5 | 9 => 9 | 20 => 20 | 37 => 32 | 70 => 253 | 72 => 255 | 75 => 258 | 80 => 261 | 164 => 286 | n => n, fun | n => n⟩
theorem Tryz.bs166 : Go.Proofs.Lays.n166 Tryz.prog Tryz.bsRen := {
  mixed := by kernel_rfl
  f166 := Tryz.func223.trans (congrArg some (by kernel_rfl))
  f240 := Tryz.func226.trans (congrArg some (by kernel_rfl))
  f276 := Tryz.func237.trans (congrArg some (by kernel_rfl))
  t0 := Tryz.underlying0
  a0 := Tryz.isAgg0
  z0 := Tryz.sizeOf0
  v0 := Tryz.zeroValue0
  t3 := Tryz.underlying3
  a3 := Tryz.isAgg3
  z3 := Tryz.sizeOf3
  v3 := Tryz.zeroValue3
  t4 := Tryz.underlying4
  a4 := Tryz.isAgg4
  z4 := Tryz.sizeOf4
  v4 := Tryz.zeroValue4
  t9 := Tryz.underlying9
  a9 := Tryz.isAgg9
  z9 := Tryz.sizeOf9
  v9 := Tryz.zeroValue9
  t20 := Tryz.underlying20
  a20 := Tryz.isAgg20
  z20 := Tryz.sizeOf20
  v20 := Tryz.zeroValue20
  t37 := Tryz.underlying32
  a37 := Tryz.isAgg32
  z37 := Tryz.sizeOf32
  v37 := Tryz.zeroValue32
  t70 := Tryz.underlying253
  a70 := Tryz.isAgg253
  z70 := Tryz.sizeOf253
  v70 := Tryz.zeroValue253
  t72 := Tryz.underlying255
  a72 := Tryz.isAgg255
  z72 := Tryz.sizeOf255
  v72 := Tryz.zeroValue255
  t75 := Tryz.underlying258
  a75 := Tryz.isAgg258
  z75 := Tryz.sizeOf258
  v75 := Tryz.zeroValue258
  t164 := Tryz.underlying286
  a164 := Tryz.isAgg286
  z164 := Tryz.sizeOf286
  v164 := Tryz.zeroValue286 }
theorem Tryz.bsExtra : Builder.Extra Tryz.prog Tryz.bsRen := {
  sizeBuilder := by kernel_rfl
  liesBuilder := by kernel_rfl
  t5 := Tryz.underlying5
  a5 := Tryz.isAgg5
  z5 := Tryz.sizeOf5
  v5 := Tryz.zeroValue5
  infoByte := by kernel_rfl
  cellsByte := by kernel_rfl
  sizeByte := by kernel_rfl
  neB5 := by decide }
theorem Tryz.Builder_WriteString_k (B b : Nat) (bs : List Value) (s : ByteArray) (w : World) (h : Lib.IsBuilderF 255 5 B b bs w) (hlen : bs.length + s.size ≤ 140737488355328) (hBw : B ≤ w.heap.size) :
    Calls Tryz.prog 223 #[.pointer (some ⟨b, 0, none⟩), .string s] w fun e w' => e = .returned (.tuple #[.int .i64 s.size, .nilIface]) ∧ (Lib.BuilderAtF 255 5 B b (.pointer (some ⟨b, 0, none⟩)) (bs ++ Lib.strCells s) w' ∧ Below B w w' ∧ Lib.OthersKept 5 (some b) w w') := Any.Builder_WriteString_k Tryz.bs166 Tryz.bsExtra B b bs s w h hlen hBw
end Go.Proofs

/-
  The contracts of strings.Builder's WriteRune, and of WriteString with the room it keeps, at this program: the shelf's own, laid by hand (its command misses types that no body names); Cap by its walk.
-/
namespace Go.Proofs
open Go.Shelf Go.RowKit
def Tryz.brRen : Go.Shelf.Ren := ⟨fun | 168 => 205 | 240 => 226 | 242 => 227 | 276 => 237 | 278 => 238 | n => n, fun | 0 => 0 | 3 => 3 | 4 => 4 | 5 => 5 | 9 => 9 | 20 => 20 | 21 => 21 | 37 => 32 | 46 => 62 | 51 => 140 | 70 => 253 | 72 => 255 | 75 => 258 | 80 => 261 | 164 => 286 | n => n, fun | n => n⟩
theorem Tryz.br168 : Go.Proofs.Lays.n168 Tryz.prog Tryz.brRen := {
  mixed := by kernel_rfl
  f168 := Tryz.func205.trans (congrArg some (by kernel_rfl))
  f240 := Tryz.func226.trans (congrArg some (by kernel_rfl))
  f242 := Tryz.func227.trans (congrArg some (by kernel_rfl))
  f276 := Tryz.func237.trans (congrArg some (by kernel_rfl))
  f278 := Tryz.func238.trans (congrArg some (by kernel_rfl))
  t0 := Tryz.underlying0
  a0 := Tryz.isAgg0
  z0 := Tryz.sizeOf0
  v0 := Tryz.zeroValue0
  t3 := Tryz.underlying3
  a3 := Tryz.isAgg3
  z3 := Tryz.sizeOf3
  v3 := Tryz.zeroValue3
  t4 := Tryz.underlying4
  a4 := Tryz.isAgg4
  z4 := Tryz.sizeOf4
  v4 := Tryz.zeroValue4
  t5 := Tryz.underlying5
  a5 := Tryz.isAgg5
  z5 := Tryz.sizeOf5
  v5 := Tryz.zeroValue5
  t9 := Tryz.underlying9
  a9 := Tryz.isAgg9
  z9 := Tryz.sizeOf9
  v9 := Tryz.zeroValue9
  t20 := Tryz.underlying20
  a20 := Tryz.isAgg20
  z20 := Tryz.sizeOf20
  v20 := Tryz.zeroValue20
  t21 := Tryz.underlying21
  a21 := Tryz.isAgg21
  z21 := Tryz.sizeOf21
  v21 := Tryz.zeroValue21
  t37 := Tryz.underlying32
  a37 := Tryz.isAgg32
  z37 := Tryz.sizeOf32
  v37 := Tryz.zeroValue32
  t46 := Tryz.underlying62
  a46 := Tryz.isAgg62
  z46 := Tryz.sizeOf62
  v46 := Tryz.zeroValue62
  t51 := Tryz.underlying140
  a51 := Tryz.isAgg140
  z51 := Tryz.sizeOf140
  v51 := Tryz.zeroValue140
  t70 := Tryz.underlying253
  a70 := Tryz.isAgg253
  z70 := Tryz.sizeOf253
  v70 := Tryz.zeroValue253
  t72 := Tryz.underlying255
  a72 := Tryz.isAgg255
  z72 := Tryz.sizeOf255
  v72 := Tryz.zeroValue255
  t75 := Tryz.underlying258
  a75 := Tryz.isAgg258
  z75 := Tryz.sizeOf258
  v75 := Tryz.zeroValue258
  t164 := Tryz.underlying286
  a164 := Tryz.isAgg286
  z164 := Tryz.sizeOf286
  v164 := Tryz.zeroValue286 }
theorem Tryz.brExtra : Builder.Extra Tryz.prog Tryz.brRen := {
  sizeBuilder := by kernel_rfl
  liesBuilder := by kernel_rfl
  t5 := Tryz.underlying5
  a5 := Tryz.isAgg5
  z5 := Tryz.sizeOf5
  v5 := Tryz.zeroValue5
  infoByte := by kernel_rfl
  cellsByte := by kernel_rfl
  sizeByte := by kernel_rfl
  neB5 := by decide }
theorem Tryz.Builder_WriteRune_k (B b : Nat) (bs : List Value) (r : Int) (hr0 : -2147483648 ≤ r) (hr1 : r ≤ 2147483647) (w : World) (h : Lib.IsBuilderF 255 5 B b bs w) (hlen : bs.length + 4 ≤ 140737488355328) (hBw : B ≤ w.heap.size) :
    Calls Tryz.prog 205 #[.pointer (some ⟨b, 0, none⟩), .int .i32 r] w fun e w' => e = .returned (.tuple #[.int .i64 (Lib.runeCells r).length, .nilIface]) ∧ (Lib.BuilderAtF 255 5 B b (.pointer (some ⟨b, 0, none⟩)) (bs ++ Lib.runeCells r) w' ∧ Below B w w' ∧ Lib.OthersKept 5 (some b) w w') := Any.Builder_WriteRune_k Tryz.br168 Tryz.brExtra B b bs r hr0 hr1 w h hlen hBw
theorem Tryz.Builder_WriteString_kc (B b : Nat) (bs : List Value) (s : ByteArray) (w : World) (h : Lib.IsBuilderF 255 5 B b bs w) (hlen : bs.length + s.size ≤ 140737488355328) (hBw : B ≤ w.heap.size) :
    Calls Tryz.prog 223 #[.pointer (some ⟨b, 0, none⟩), .string s] w fun e w' => e = .returned (.tuple #[.int .i64 s.size, .nilIface]) ∧ (Lib.BuilderAtF 255 5 B b (.pointer (some ⟨b, 0, none⟩)) (bs ++ Lib.strCells s) w' ∧ Below B w w' ∧ Lib.OthersKept 5 (some b) w w') ∧ ∀ v0, w.cell? ⟨b, 1, none⟩ = some v0 → ∃ v1, w'.cell? ⟨b, 1, none⟩ = some v1 ∧ v0.capOf ≤ v1.capOf := Any.Builder_WriteString_kc Tryz.bs166 Tryz.bsExtra B b bs s w h hlen hBw
namespace YtpelehhmdcjikaaGreatDoor
set_option linter.unusedVariables false
set_option maxHeartbeats 1000000 in
theorem Cap_cell (b : Nat) (p : Option Addr) (n cap : Nat) (w : World) (c1 : w.cell? ⟨b, 1, none⟩ = some (.slice p n cap)) :
    Calls Tryz.prog 224 #[.pointer (some ⟨b, 0, none⟩)] w fun e w' => e = .returned (.int .i64 cap) ∧ w = w' := by
  go_enter Tryz.func224, Tryz.ntmps224
  go_wp2
  go_ret
  exact ⟨rfl, rfl⟩
end YtpelehhmdcjikaaGreatDoor
end Go.Proofs
