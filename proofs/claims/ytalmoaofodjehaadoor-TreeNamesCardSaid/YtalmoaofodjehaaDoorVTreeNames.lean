/-
  The law TreeNames: its walk.
-/
import Derived.Test.YtalmoaofodjehaaDoorFu18
import Derived.Test.YtalmoaofodjehaaDoorFu19
import Derived.Test.YtalmoaofodjehaaDoorFu10
namespace Go.Proofs.YtalmoaofodjehaaDoor.treeNames
set_option maxRecDepth 200000
open Go.RowKit
set_option linter.unusedVariables false
set_option linter.unusedSimpArgs false

/-- Both items that came in, and two more in blocks of their own. -/
def N4 (w : World) (i j x y : Itm) (g5 g6 : Nat) (u : World) : Prop := RestB w i j u ∧ GI u g5 x ∧ GI u g6 y
theorem n4_keep {w u u' : World} {i j x y : Itm} {g5 g6 : Nat} (h : N4 w i j x y g5 g6 u) (b : Below u.heap.size u u') : N4 w i j x y g5 g6 u' :=
  ⟨restB_keep h.1 b, heap_keep h.2.1 b, heap_keep h.2.2 b⟩
theorem restB_start (w : World) (i j : Itm) : RestB w i j ((w.alloc (.cells (cellsI i).toArray 30)).alloc (.cells (cellsI j).toArray 30)) := by
  have b1 := (Below.refl w.heap.size w).alloc (Nat.le_refl _) (.cells (cellsI i).toArray 30)
  have b2 := b1.alloc b1.size (.cells (cellsI j).toArray 30)
  have e1 : (w.alloc (.cells (cellsI i).toArray 30)).heap.size = w.heap.size + 1 := by simp
  have h1 := (((Below.refl (w.alloc (.cells (cellsI i).toArray 30)).heap.size (w.alloc (.cells (cellsI i).toArray 30))).alloc (Nat.le_refl _) (.cells (cellsI j).toArray 30)).block w.heap.size (by simp)).trans (heap_alloc_new w _)
  have h2 := heap_alloc_new (w.alloc (.cells (cellsI i).toArray 30)) (.cells (cellsI j).toArray 30)
  rw [e1] at h2
  exact ⟨h1, h2, b2⟩
/-- A tree's item, a file's item, of the same names and ids. -/
def dirI (i : Itm) : Itm := ⟨4, i.name, i.id⟩
def fileI (i : Itm) : Itm := ⟨1, i.name, i.id⟩
theorem restB_setCell {w u : World} {i j : Itm} {g : Nat} (h : RestB w i j u) (hg : w.heap.size + 1 < g) (k : Nat) (v : Value) : RestB w i j (u.setCell ⟨g, k, none⟩ v) :=
  ⟨(heap_setCell_other u ⟨g, k, none⟩ _ v (by show w.heap.size ≠ g; omega)).trans h.1, (heap_setCell_other u ⟨g, k, none⟩ _ v (by show w.heap.size + 1 ≠ g; omega)).trans h.2.1, h.2.2.setCell (by show w.heap.size ≤ g; omega) _⟩
theorem n4_modes {w u : World} {i j : Itm} {g5 g6 : Nat} (h : N4 w i j i j g5 g6 u) (hne : g5 ≠ g6) (h5 : w.heap.size + 1 < g5) (h6 : w.heap.size + 1 < g6) :
    N4 w i j (dirI i) (fileI j) g5 g6 ((u.setCell ⟨g5, 0, none⟩ (.int .i64 4)).setCell ⟨g6, 0, none⟩ (.int .i64 1)) := by
  refine ⟨restB_setCell (restB_setCell h.1 h5 0 _) h6 0 _, ?_, ?_⟩
  · have h1 := GI.mode (m := 4) (show GI u g5 ⟨i.mode, i.name, i.id⟩ from h.2.1)
    exact (heap_setCell_other _ ⟨g6, 0, none⟩ _ _ hne).trans h1
  · refine GI.mode (m := 1) (show GI (u.setCell ⟨g5, 0, none⟩ (.int .i64 4)) g6 ⟨j.mode, j.name, j.id⟩ from ?_)
    exact (heap_setCell_other u ⟨g5, 0, none⟩ _ _ (fun e => hne e.symm)).trans h.2.2
theorem bef_dir (i j : Itm) : befI (dirI i) (fileI j) = decide (i.name ++ [47] < j.name) := by
  unfold befI fullI dirI fileI
  rw [if_pos rfl, if_neg (by show ¬ (1 : Int) = 4; decide)]
theorem restB_setRow {w u : World} {i j : Itm} {g : Nat} (h : RestB w i j u) (hg : w.heap.size + 1 < g) (A : Array Value) : RestB w i j (u.setRow g A) :=
  ⟨(setRow_other u g _ A (by omega)).trans h.1, (setRow_other u g _ A (by omega)).trans h.2.1, below_setRow h.2.2 (by omega) A⟩
theorem two_fresh (w : World) (i j : Itm) (z : Array Value) : RestB w i j ((((w.alloc (.cells (cellsI i).toArray 30)).alloc (.cells (cellsI j).toArray 30)).alloc (.cells z 30)).alloc (.cells z 30)).drew ∧
    (((((w.alloc (.cells (cellsI i).toArray 30)).alloc (.cells (cellsI j).toArray 30)).alloc (.cells z 30)).alloc (.cells z 30)).drew).heap[w.heap.size + 1 + 1]? = some (.cells z 30 (0, 0)) ∧
    (((((w.alloc (.cells (cellsI i).toArray 30)).alloc (.cells (cellsI j).toArray 30)).alloc (.cells z 30)).alloc (.cells z 30)).drew).heap[w.heap.size + 1 + 1 + 1]? = some (.cells z 30 (0, 0)) := by
  have k := restB_start w i j
  have s0 : ((w.alloc (.cells (cellsI i).toArray 30)).alloc (.cells (cellsI j).toArray 30)).heap.size = w.heap.size + 1 + 1 := by simp
  generalize (w.alloc (.cells (cellsI i).toArray 30)).alloc (.cells (cellsI j).toArray 30) = W at *
  have b1 := (Below.refl W.heap.size W).alloc (Nat.le_refl _) (.cells z 30)
  have b2 := b1.alloc b1.size (.cells z 30)
  have s1 : (W.alloc (.cells z 30)).heap.size = w.heap.size + 1 + 1 + 1 := by simp [s0]
  have h1 := heap_alloc_new W (.cells z 30)
  have h2 := heap_alloc_new (W.alloc (.cells z 30)) (.cells z 30)
  rw [s1] at h2
  rw [s0] at h1
  refine ⟨restB_keep k b2.drew, ?_, h2⟩
  exact (((Below.refl _ (W.alloc (.cells z 30))).alloc (Nat.le_refl _) (.cells z 30)).block (w.heap.size + 1 + 1) (by rw [s1]; omega)).trans h1
set_option maxHeartbeats 16000000 in
theorem walk_small (w : World) (i j : Itm) (hi : i.id.length = 20) (hj : j.id.length = 20) (ni : i.name.length ≤ 600) (nj : j.name.length ≤ 600) (tab : QTab w) :
    Calls Tryd.prog 5 #[.agg (cellsI i).toArray, .agg (cellsI j).toArray] w fun e w' => e = .returned (.bool true) ∧ Below w.heap.size w w' := by
  have K0 := Lib.hid (restB_start w i j)
  have s0 : ((w.alloc (.cells (cellsI i).toArray 30)).alloc (.cells (cellsI j).toArray 30)).heap.size = w.heap.size + 1 + 1 := by simp
  have S0 := Lib.hid s0
  have q1 := GI.cell1 (w := (w.alloc (.cells (cellsI i).toArray 30)).alloc (.cells (cellsI j).toArray 30)) (i := i) K0.out.1
  have q2 := GI.cell1 (w := (w.alloc (.cells (cellsI i).toArray 30)).alloc (.cells (cellsI j).toArray 30)) (i := j) K0.out.2.1
  have z1 := size_toArray i.name
  have z2 := size_toArray j.name
  obtain ⟨mi, hmi⟩ : ∃ m, i.name.length = m := ⟨_, rfl⟩
  obtain ⟨mj, hmj⟩ : ∃ m, j.name.length = m := ⟨_, rfl⟩
  rw [hmi] at z1 ni
  rw [hmj] at z2 nj
  have g1 : ¬ (mi : Int) > 600 := by omega
  have g2 : ¬ (mj : Int) > 600 := by omega
  have LI := Lib.hid (show (Tryd.prog.info? 30).map (·.size) = some (cellsI i).length by rw [cellsI_len i hi]; exact infoItem)
  have LJ := Lib.hid (show (Tryd.prog.info? 30).map (·.size) = some (cellsI j).length by rw [cellsI_len j hj]; exact infoItem)
  have HI := Lib.hid hi; have HJ := Lib.hid hj; have HMI := Lib.hid hmi; have HMJ := Lib.hid hmj; have NI := Lib.hid ni; have NJ := Lib.hid nj; have TB := Lib.hid tab
  obtain ⟨si, hsi⟩ : ∃ s : ByteArray, ⟨i.name.toArray⟩ = s := ⟨_, rfl⟩
  obtain ⟨sj, hsj⟩ : ∃ s : ByteArray, ⟨j.name.toArray⟩ = s := ⟨_, rfl⟩
  rw [hsi] at z1 q1
  rw [hsj] at z2 q2
  have HSI := Lib.hid hsi; have HSJ := Lib.hid hsj
  obtain ⟨cx, hcx⟩ : ∃ c, cellsI i = c := ⟨_, rfl⟩
  obtain ⟨cy, hcy⟩ : ∃ c, cellsI j = c := ⟨_, rfl⟩
  rw [hcx] at K0 S0 q1 q2 LI s0 ⊢
  rw [hcy] at K0 S0 q1 q2 LJ s0 ⊢
  have HCX := Lib.hid hcx; have HCY := Lib.hid hcy
  obtain ⟨z, hz, hzs, hzv, hzb, hz1⟩ := zItem_any
  have HZS := Lib.hid hzs
  have HXS := Lib.hid (show cx.toArray.size = 22 by rw [← hcx]; exact arrI_size i hi)
  have HYS := Lib.hid (show cy.toArray.size = 22 by rw [← hcy]; exact arrI_size j hj)
  have HX1 := Lib.hid (show cx.toArray.all (·.oneCell') = true by rw [← hcx]; exact cellsI_one i)
  have HY1 := Lib.hid (show cy.toArray.all (·.oneCell') = true by rw [← hcy]; exact cellsI_one j)
  have ht := two_fresh w i j z
  rw [hcx, hcy] at ht
  obtain ⟨T2, hT2⟩ : ∃ T2, ((((w.alloc (.cells cx.toArray 30)).alloc (.cells cy.toArray 30)).alloc (.cells z 30)).alloc (.cells z 30)).drew = T2 := ⟨_, rfl⟩
  rw [hT2] at ht
  have HT := Lib.hid ht; have HT2 := Lib.hid hT2
  clear hi hj ni nj hmi hmj hsi hsj tab hcx hcy hz hzs hzb hz1 ht hT2
  go_enter Tryd.func5, Tryd.ntmps5
  go_wp2_with fail
  refine region_cut (fun a0 a' u => ∃ g5 g6, a' = ((((a0.put (some 18) (.agg cx.toArray)).put (some 19) (.agg cy.toArray)).put (some 5) (.pointer (some ⟨g5, 0, none⟩))).put (some 6) (.pointer (some ⟨g6, 0, none⟩)))
    ∧ g5 ≠ g6 ∧ w.heap.size + 1 < g5 ∧ w.heap.size + 1 < g6 ∧ N4 w i j i j g5 g6 u) ?_ ?_
  · refine wp_region_held_drew (S := fun u => RestB w i j u) (by kernel_rfl) (restB_keep K0.out (Below.refl _ _).drew) (fun hHeld => ?_)
    refine wpAnyH_take (i := 0) rfl (by kernel_rfl) (by kernel_rfl) (by kernel_rfl) (fun _ _ _ h => h) (yieldsIf_load_mid (by kernel_rfl) 30 (.tmp 2) (by kernel_rfl) w.heap.size 0 (by kernel_rfl) cx _ (fun u h => by rw [← HCX.out]; exact row_range h.1) Tryd.underlying30 rfl LI.out) hHeld ?_
    try simp only [Act.put, List.setIfInBounds_toArray, List.set_cons_zero, List.set_cons_succ]
    refine wpAnyH_take (i := 1) rfl (by kernel_rfl) (by kernel_rfl) (by kernel_rfl) (fun _ _ _ h => h) (yieldsIf_load_mid (by kernel_rfl) 30 (.tmp 3) (by kernel_rfl) (w.heap.size + 1) 0 (by kernel_rfl) cy _ (fun u h => by rw [← HCY.out]; exact row_range h.2.1) Tryd.underlying30 rfl LJ.out) hHeld ?_
    try simp only [Act.put, List.setIfInBounds_toArray, List.set_cons_zero, List.set_cons_succ]
    refine wpAnyH_ready (rs := [2, 3]) (by kernel_rfl) (by simp) ?_
    refine AllReadyH.cons rfl (fun K hK => ?_) (AllReadyH.cons rfl (fun K hK => ?_) AllReadyH.nil)
    · go_simp
      refine hK.out _ _ (restB_keep K0.out (((Below.refl _ _).alloc (Nat.le_refl _) (.cells z 30)).drew)) (fun hHeld => ?_)
      refine wpAnyH_ready (rs := [3]) (by kernel_rfl) (by simp) ?_
      refine AllReadyH.cons rfl (fun K hK => ?_) AllReadyH.nil
      go_simp
      rw [HT2.out]
      refine hK.out _ _ HT.out.1 (fun hHeld => ?_)
      refine wpAnyH_ready (rs := [4]) (by kernel_rfl) (by simp) ?_
      refine AllReadyH.cons rfl (fun K hK => ?_) AllReadyH.nil
      rw [if_pos (by kernel_rfl)]
      refine wp_store_row 30 (.tmp 5) (.tmp 18) (by kernel_rfl) (w.heap.size + 1 + 1) cx.toArray (by kernel_rfl) (by kernel_rfl) 30 z HT.out.2.1 (info_arr _ HXS.out) (HZS.out.trans HXS.out.symm) HX1.out ?_
      have hS := restB_setRow (g := w.heap.size + 1 + 1) HT.out.1 (by omega) cx.toArray
      refine hK.out _ _ hS (fun hHeld => ?_)
      refine wpAnyH_ready (rs := [5]) (by kernel_rfl) (by simp) ?_
      refine AllReadyH.cons rfl (fun K hK => ?_) AllReadyH.nil
      rw [if_pos (by kernel_rfl)]
      refine wp_store_row 30 (.tmp 6) (.tmp 19) (by kernel_rfl) (w.heap.size + 1 + 1 + 1) cy.toArray (by kernel_rfl) (by kernel_rfl) 30 z ((setRow_other T2 _ _ _ (by omega)).trans HT.out.2.2) (info_arr _ HYS.out) (HZS.out.trans HYS.out.symm) HY1.out ?_
      have hS2 := restB_setRow (g := w.heap.size + 1 + 1 + 1) hS (by omega) cy.toArray
      refine hK.out _ _ hS2 (fun hHeld => ?_)
      refine wpAnyH_done (by kernel_rfl) ?_ _
      refine ⟨w.heap.size + 1 + 1, w.heap.size + 1 + 1 + 1, by kernel_rfl, by omega, by omega, by omega, hS2, ?_, ?_⟩
      · refine (setRow_other _ _ _ _ (by omega)).trans (Eq.trans (setRow_heap _ _ _ _ _ _ HT.out.2.1) ?_)
        rw [← HCX.out]; rfl
      · refine (setRow_heap _ _ _ _ _ _ ((setRow_other T2 _ _ _ (by omega)).trans HT.out.2.2)).trans ?_
        rw [← HCY.out]; rfl
    · go_simp
      refine hK.out _ _ (restB_keep K0.out (((Below.refl _ _).alloc (Nat.le_refl _) (.cells z 30)).drew)) (fun hHeld => ?_)
      refine wpAnyH_ready (rs := [2]) (by kernel_rfl) (by simp) ?_
      refine AllReadyH.cons rfl (fun K hK => ?_) AllReadyH.nil
      go_simp
      rw [HT2.out]
      refine hK.out _ _ HT.out.1 (fun hHeld => ?_)
      refine wpAnyH_ready (rs := [4]) (by kernel_rfl) (by simp) ?_
      refine AllReadyH.cons rfl (fun K hK => ?_) AllReadyH.nil
      rw [if_pos (by kernel_rfl)]
      refine wp_store_row 30 (.tmp 5) (.tmp 18) (by kernel_rfl) (w.heap.size + 1 + 1 + 1) cx.toArray (by kernel_rfl) (by kernel_rfl) 30 z HT.out.2.2 (info_arr _ HXS.out) (HZS.out.trans HXS.out.symm) HX1.out ?_
      have hS := restB_setRow (g := w.heap.size + 1 + 1 + 1) HT.out.1 (by omega) cx.toArray
      refine hK.out _ _ hS (fun hHeld => ?_)
      refine wpAnyH_ready (rs := [5]) (by kernel_rfl) (by simp) ?_
      refine AllReadyH.cons rfl (fun K hK => ?_) AllReadyH.nil
      rw [if_pos (by kernel_rfl)]
      refine wp_store_row 30 (.tmp 6) (.tmp 19) (by kernel_rfl) (w.heap.size + 1 + 1) cy.toArray (by kernel_rfl) (by kernel_rfl) 30 z ((setRow_other T2 _ _ _ (by omega)).trans HT.out.2.1) (info_arr _ HYS.out) (HZS.out.trans HYS.out.symm) HY1.out ?_
      have hS2 := restB_setRow (g := w.heap.size + 1 + 1) hS (by omega) cy.toArray
      refine hK.out _ _ hS2 (fun hHeld => ?_)
      refine wpAnyH_done (by kernel_rfl) ?_ _
      refine ⟨w.heap.size + 1 + 1 + 1, w.heap.size + 1 + 1, by kernel_rfl, by omega, by omega, by omega, hS2, ?_, ?_⟩
      · refine (setRow_other _ _ _ _ (by omega)).trans (Eq.trans (setRow_heap _ _ _ _ _ _ HT.out.2.2) ?_)
        rw [← HCX.out]; rfl
      · refine (setRow_heap _ _ _ _ _ _ ((setRow_other T2 _ _ _ (by omega)).trans HT.out.2.1)).trans ?_
        rw [← HCY.out]; rfl
  · rintro a' u ⟨g5, g6, rfl, hne, h5, h6, hn⟩
    have q5 := GI.cell0 hn.2.1
    have z5 := not_frozen hn.2.1 0
    have hn6 : GI (u.setCell ⟨g5, 0, none⟩ (.int .i64 4)) g6 j := (heap_setCell_other u ⟨g5, 0, none⟩ _ _ (fun e => hne e.symm)).trans hn.2.2
    have q6 := GI.cell0 hn6
    have z6 := not_frozen hn6 0
    have nv := n4_modes hn hne h5 h6
    clear hn hn6 HT HT2 q1 q2 K0 S0 s0 g1 g2 z1 z2
    go_wp2_with fail
    obtain ⟨V, hV⟩ : ∃ V, (u.setCell ⟨g5, 0, none⟩ (.int .i64 4)).setCell ⟨g6, 0, none⟩ (.int .i64 1) = V := ⟨_, rfl⟩
    rw [hV] at nv ⊢
    have NV := Lib.hid nv
    clear hV nv q5 q6 z5 z6 h5 h6 hne
    have ni : i.name.length ≤ 1000000 := by have := HMI.out; have := NI.out; omega
    have nj : j.name.length ≤ 1000000 := by have := HMJ.out; have := NJ.out; omega
    have hi := HI.out; have hj := HJ.out
    obtain ⟨dx, hdx⟩ : ∃ c, cellsI (dirI i) = c := ⟨_, rfl⟩
    obtain ⟨dy, hdy⟩ : ∃ c, cellsI (fileI j) = c := ⟨_, rfl⟩
    have HDX := Lib.hid hdx; have HDY := Lib.hid hdy
    have LD := Lib.hid (show (Tryd.prog.info? 30).map (·.size) = some dx.length by rw [← hdx, cellsI_len (dirI i) hi]; exact infoItem)
    have LF := Lib.hid (show (Tryd.prog.info? 30).map (·.size) = some dy.length by rw [← hdy, cellsI_len (fileI j) hj]; exact infoItem)
    have QI := Lib.hid (fun u (h : N4 w i j (dirI i) (fileI j) g5 g6 u) => (by have := GI.cell1 (i := i) h.1.1; rwa [HSI.out] at this : u.cell? ⟨w.heap.size, 1, none⟩ = some (.string si)))
    have QJ := Lib.hid (fun u (h : N4 w i j (dirI i) (fileI j) g5 g6 u) => (by have := GI.cell1 (i := j) h.1.2.1; rwa [HSJ.out] at this : u.cell? ⟨w.heap.size + 1, 1, none⟩ = some (.string sj)))
    obtain ⟨nm, hnm⟩ : ∃ x, nameI i.name = x := ⟨_, rfl⟩
    obtain ⟨r, hr⟩ : ∃ x, befI i j = x := ⟨_, rfl⟩
    obtain ⟨rd, hrd⟩ : ∃ x, befI (dirI i) (fileI j) = x := ⟨_, rfl⟩
    have hlt := less_mk (i.name ++ [47]) j.name
    rw [← bef_dir, hrd, HSJ.out] at hlt
    have ad := fun u => add_lists (P := Tryd.prog) u i.name [47] (by simp; omega)
    rw [HSI.out] at ad
    generalize (⟨(i.name ++ [47]).toArray⟩ : ByteArray) = s3 at ad hlt
    have LT := Lib.hid hlt
    have TBV := Lib.hid (fun u (h : N4 w i j (dirI i) (fileI j) g5 g6 u) => TB.out.below h.1.2.2)
    have DA := Lib.hid (fun u (h : N4 w i j (dirI i) (fileI j) g5 g6 u) => ((awake_is u (TBV.out u h)).mono (fun e u' he => ⟨he.1, n4_keep h he.2⟩) : Calls Tryd.prog 10 #[] u fun e u' => e = .returned (.bool true) ∧ N4 w i j (dirI i) (fileI j) g5 g6 u'))
    have DN := Lib.hid (fun u (h : N4 w i j (dirI i) (fileI j) g5 g6 u) => (by have c := pName_is i.name u ni (TBV.out u h); rw [hnm, HSI.out] at c; exact c.mono (fun e u' he => ⟨he.1, n4_keep h he.2⟩) : Calls Tryd.prog 23 #[.string si] u fun e u' => e = .returned (.bool nm) ∧ N4 w i j (dirI i) (fileI j) g5 g6 u'))
    have RN := Lib.hid (fun u (h : N4 w i j (dirI i) (fileI j) g5 g6 u) => (by have c := rName_is i.name u ni (TBV.out u h); rw [hnm, HSI.out] at c; exact c.mono (fun e u' he => ⟨he.1, n4_keep h he.2⟩) : Calls Tryd.prog 24 #[.string si] u fun e u' => e = .returned (.bool nm) ∧ N4 w i j (dirI i) (fileI j) g5 g6 u'))
    have DB := Lib.hid (fun u (h : N4 w i j (dirI i) (fileI j) g5 g6 u) => (by have c := pBefore_is i j hi hj ni nj u; rw [hr, HCX.out, HCY.out] at c; exact c.mono (fun e u' he => ⟨he.1, n4_keep h he.2⟩) : Calls Tryd.prog 25 #[.agg cx.toArray, .agg cy.toArray] u fun e u' => e = .returned (.bool r) ∧ N4 w i j (dirI i) (fileI j) g5 g6 u'))
    have RB := Lib.hid (fun u (h : N4 w i j (dirI i) (fileI j) g5 g6 u) => (by have c := Before_is i j hi hj ni nj u; rw [hr, HCX.out, HCY.out] at c; exact c.mono (fun e u' he => ⟨he.1, n4_keep h he.2⟩) : Calls Tryd.prog 26 #[.agg cx.toArray, .agg cy.toArray] u fun e u' => e = .returned (.bool r) ∧ N4 w i j (dirI i) (fileI j) g5 g6 u'))
    have DD := Lib.hid (fun u (h : N4 w i j (dirI i) (fileI j) g5 g6 u) => (by have c := pBefore_is (dirI i) (fileI j) hi hj ni nj u; rw [hrd, hdx, hdy] at c; exact c.mono (fun e u' he => ⟨he.1, n4_keep h he.2⟩) : Calls Tryd.prog 25 #[.agg dx.toArray, .agg dy.toArray] u fun e u' => e = .returned (.bool rd) ∧ N4 w i j (dirI i) (fileI j) g5 g6 u'))
    have DC := Lib.hid (fun u (h : N4 w i j (dirI i) (fileI j) g5 g6 u) (ht : r = true) => (by have c := pBefore_is j i hj hi nj ni u; rw [bef_not (by rw [hr]; exact ht), HCX.out, HCY.out] at c; exact c.mono (fun e u' he => ⟨he.1, n4_keep h he.2⟩) : Calls Tryd.prog 25 #[.agg cy.toArray, .agg cx.toArray] u fun e u' => e = .returned (.bool false) ∧ N4 w i j (dirI i) (fileI j) g5 g6 u'))
    clear hdx hdy hnm hr hrd hi hj ni nj hlt
    go_wp2_with fail
    cases r with
    | true =>
      have DC := Lib.hid (fun u h => DC.out u h (by first | rfl | trivial))
      refine wp_region_held_drew (S := fun u => N4 w i j (dirI i) (fileI j) g5 g6 u) (by kernel_rfl) (n4_keep NV.out (Below.refl _ _).drew) (fun hHeld => ?_)
      refine wpAnyH_ready (rs := [0]) (by kernel_rfl) (by simp) ?_
      refine AllReadyH.cons rfl (fun K hK => ?_) AllReadyH.nil
      go_simp
      refine (DA.out _ hHeld).mono ?_
      rintro e u1 ⟨rfl, hH⟩
      clear hHeld
      refine hK.out _ _ hH (fun hHeld => ?_)
      clear hK K
      try simp only [Act.put, List.setIfInBounds_toArray, List.set_cons_zero, List.set_cons_succ]
      refine wpAnyH_take (i := 1) (v := ?tv1) rfl (by kernel_rfl) (by kernel_rfl) (by kernel_rfl) (fun _ _ _ h => h) (Or.inl ⟨by kernel_rfl, ?ty1⟩) hHeld ?_
      case ty1 => intro u hu; go_simp; try with_reducible rfl
      try simp only [Act.put, List.setIfInBounds_toArray, List.set_cons_zero, List.set_cons_succ]
      refine wpAnyH_take (i := 2) (v := ?tv2) rfl (by kernel_rfl) (by kernel_rfl) (by kernel_rfl) (fun _ _ _ h => h) (Or.inl ⟨by kernel_rfl, ?ty2⟩) hHeld ?_
      case ty2 => intro u hu; go_simp; try with_reducible rfl
      try simp only [Act.put, List.setIfInBounds_toArray, List.set_cons_zero, List.set_cons_succ]
      refine wpAnyH_take (i := 3) (v := .string si) rfl (by kernel_rfl) (by kernel_rfl) (by kernel_rfl) (fun _ _ _ h => h) (Or.inl ⟨by kernel_rfl, fun u hu => by have := QI.out u hu; go_simp⟩) hHeld ?_
      try simp only [Act.put, List.setIfInBounds_toArray, List.set_cons_zero, List.set_cons_succ]
      refine wpAnyH_take (i := 5) (v := ?tv5) rfl (by kernel_rfl) (by kernel_rfl) (by kernel_rfl) (fun _ _ _ h => h) (Or.inl ⟨by kernel_rfl, ?ty5⟩) hHeld ?_
      case ty5 => intro u hu; go_simp; try with_reducible rfl
      try simp only [Act.put, List.setIfInBounds_toArray, List.set_cons_zero, List.set_cons_succ]
      refine wpAnyH_take (i := 6) (v := .string si) rfl (by kernel_rfl) (by kernel_rfl) (by kernel_rfl) (fun _ _ _ h => h) (Or.inl ⟨by kernel_rfl, fun u hu => by have := QI.out u hu; go_simp⟩) hHeld ?_
      try simp only [Act.put, List.setIfInBounds_toArray, List.set_cons_zero, List.set_cons_succ]
      refine wpAnyH_ready (rs := [4]) (by kernel_rfl) (by simp) ?_
      refine AllReadyH.cons rfl (fun K hK => ?_) AllReadyH.nil
      go_simp
      refine (DN.out _ hHeld).mono ?_
      rintro e u2 ⟨rfl, hH⟩
      clear hHeld
      refine hK.out _ _ hH (fun hHeld => ?_)
      clear hK K
      try simp only [Act.put, List.setIfInBounds_toArray, List.set_cons_zero, List.set_cons_succ]
      refine wpAnyH_ready (rs := [7]) (by kernel_rfl) (by simp) ?_
      refine AllReadyH.cons rfl (fun K hK => ?_) AllReadyH.nil
      go_simp
      refine (RN.out _ hHeld).mono ?_
      rintro e u3 ⟨rfl, hH⟩
      clear hHeld
      refine hK.out _ _ hH (fun hHeld => ?_)
      clear hK K
      try simp only [Act.put, List.setIfInBounds_toArray, List.set_cons_zero, List.set_cons_succ]
      refine wpAnyH_take (i := 8) (v := ?tv8) rfl (by kernel_rfl) (by kernel_rfl) (by kernel_rfl) (fun _ _ _ h => h) (Or.inl ⟨by kernel_rfl, ?ty8⟩) hHeld ?_
      case ty8 => intro u hu; go_simp; try with_reducible rfl
      try simp only [Act.put, List.setIfInBounds_toArray, List.set_cons_zero, List.set_cons_succ]
      refine wpAnyH_take (i := 9) (v := ?tv9) rfl (by kernel_rfl) (by kernel_rfl) (by kernel_rfl) (fun _ _ _ h => h) (Or.inl ⟨by kernel_rfl, ?ty9⟩) hHeld ?_
      case ty9 => intro u hu; go_simp; try with_reducible rfl
      try simp only [Act.put, List.setIfInBounds_toArray, List.set_cons_zero, List.set_cons_succ]
      refine wpAnyH_take (i := 10) (v := ?tv10) rfl (by kernel_rfl) (by kernel_rfl) (by kernel_rfl) (fun _ _ _ h => h) (Or.inl ⟨by kernel_rfl, ?ty10⟩) hHeld ?_
      case ty10 => intro u hu; go_simp; try with_reducible rfl
      try simp only [Act.put, List.setIfInBounds_toArray, List.set_cons_zero, List.set_cons_succ]
      refine wpAnyH_take (i := 11) rfl (by kernel_rfl) (by kernel_rfl) (by kernel_rfl) (fun _ _ _ h => h) (yieldsIf_load_mid (by kernel_rfl) 30 (.tmp 2) (by kernel_rfl) w.heap.size 0 (by kernel_rfl) cx _ (fun u hu => by rw [← HCX.out]; exact row_range hu.1.1) Tryd.underlying30 rfl LI.out) hHeld ?_
      try simp only [Act.put, List.setIfInBounds_toArray, List.set_cons_zero, List.set_cons_succ]
      refine wpAnyH_take (i := 12) rfl (by kernel_rfl) (by kernel_rfl) (by kernel_rfl) (fun _ _ _ h => h) (yieldsIf_load_mid (by kernel_rfl) 30 (.tmp 3) (by kernel_rfl) (w.heap.size + 1) 0 (by kernel_rfl) cy _ (fun u hu => by rw [← HCY.out]; exact row_range hu.1.2.1) Tryd.underlying30 rfl LJ.out) hHeld ?_
      try simp only [Act.put, List.setIfInBounds_toArray, List.set_cons_zero, List.set_cons_succ]
      refine wpAnyH_take (i := 14) rfl (by kernel_rfl) (by kernel_rfl) (by kernel_rfl) (fun _ _ _ h => h) (yieldsIf_load_mid (by kernel_rfl) 30 (.tmp 2) (by kernel_rfl) w.heap.size 0 (by kernel_rfl) cx _ (fun u hu => by rw [← HCX.out]; exact row_range hu.1.1) Tryd.underlying30 rfl LI.out) hHeld ?_
      try simp only [Act.put, List.setIfInBounds_toArray, List.set_cons_zero, List.set_cons_succ]
      refine wpAnyH_take (i := 15) rfl (by kernel_rfl) (by kernel_rfl) (by kernel_rfl) (fun _ _ _ h => h) (yieldsIf_load_mid (by kernel_rfl) 30 (.tmp 3) (by kernel_rfl) (w.heap.size + 1) 0 (by kernel_rfl) cy _ (fun u hu => by rw [← HCY.out]; exact row_range hu.1.2.1) Tryd.underlying30 rfl LJ.out) hHeld ?_
      try simp only [Act.put, List.setIfInBounds_toArray, List.set_cons_zero, List.set_cons_succ]
      refine wpAnyH_ready (rs := [13]) (by kernel_rfl) (by simp) ?_
      refine AllReadyH.cons rfl (fun K hK => ?_) AllReadyH.nil
      go_simp
      refine (DB.out _ hHeld).mono ?_
      rintro e u4 ⟨rfl, hH⟩
      clear hHeld
      refine hK.out _ _ hH (fun hHeld => ?_)
      clear hK K
      try simp only [Act.put, List.setIfInBounds_toArray, List.set_cons_zero, List.set_cons_succ]
      refine wpAnyH_ready (rs := [16]) (by kernel_rfl) (by simp) ?_
      refine AllReadyH.cons rfl (fun K hK => ?_) AllReadyH.nil
      go_simp
      refine (RB.out _ hHeld).mono ?_
      rintro e u5 ⟨rfl, hH⟩
      clear hHeld
      refine hK.out _ _ hH (fun hHeld => ?_)
      clear hK K
      try simp only [Act.put, List.setIfInBounds_toArray, List.set_cons_zero, List.set_cons_succ]
      refine wpAnyH_take (i := 17) (v := ?tv17) rfl (by kernel_rfl) (by kernel_rfl) (by kernel_rfl) (fun _ _ _ h => h) (Or.inl ⟨by kernel_rfl, ?ty17⟩) hHeld ?_
      case ty17 => intro u hu; go_simp; try with_reducible rfl
      try simp only [Act.put, List.setIfInBounds_toArray, List.set_cons_zero, List.set_cons_succ]
      refine wpAnyH_take (i := 18) (v := ?tv18) rfl (by kernel_rfl) (by kernel_rfl) (by kernel_rfl) (fun _ _ _ h => h) (Or.inl ⟨by kernel_rfl, ?ty18⟩) hHeld ?_
      case ty18 => intro u hu; go_simp; try with_reducible rfl
      try simp only [Act.put, List.setIfInBounds_toArray, List.set_cons_zero, List.set_cons_succ]
      refine wpAnyH_take (i := 19) (v := ?tv19) rfl (by kernel_rfl) (by kernel_rfl) (by kernel_rfl) (fun _ _ _ h => h) (Or.inl ⟨by kernel_rfl, ?ty19⟩) hHeld ?_
      case ty19 => intro u hu; go_simp; try with_reducible rfl
      try simp only [Act.put, List.setIfInBounds_toArray, List.set_cons_zero, List.set_cons_succ]
      refine wpAnyH_take (i := 20) rfl (by kernel_rfl) (by kernel_rfl) (by kernel_rfl) (fun _ _ _ h => h) (yieldsIf_load_mid (by kernel_rfl) 30 (.tmp 5) (by kernel_rfl) g5 0 (by kernel_rfl) dx _ (fun u hu => by rw [← HDX.out]; exact row_range hu.2.1) Tryd.underlying30 rfl LD.out) hHeld ?_
      try simp only [Act.put, List.setIfInBounds_toArray, List.set_cons_zero, List.set_cons_succ]
      refine wpAnyH_take (i := 21) rfl (by kernel_rfl) (by kernel_rfl) (by kernel_rfl) (fun _ _ _ h => h) (yieldsIf_load_mid (by kernel_rfl) 30 (.tmp 6) (by kernel_rfl) g6 0 (by kernel_rfl) dy _ (fun u hu => by rw [← HDY.out]; exact row_range hu.2.2) Tryd.underlying30 rfl LF.out) hHeld ?_
      try simp only [Act.put, List.setIfInBounds_toArray, List.set_cons_zero, List.set_cons_succ]
      refine wpAnyH_take (i := 23) (v := ?tv23) rfl (by kernel_rfl) (by kernel_rfl) (by kernel_rfl) (fun _ _ _ h => h) (Or.inl ⟨by kernel_rfl, ?ty23⟩) hHeld ?_
      case ty23 => intro u hu; go_simp; try with_reducible rfl
      try simp only [Act.put, List.setIfInBounds_toArray, List.set_cons_zero, List.set_cons_succ]
      refine wpAnyH_take (i := 24) (v := .string si) rfl (by kernel_rfl) (by kernel_rfl) (by kernel_rfl) (fun _ _ _ h => h) (Or.inl ⟨by kernel_rfl, fun u hu => by have := QI.out u hu; go_simp⟩) hHeld ?_
      try simp only [Act.put, List.setIfInBounds_toArray, List.set_cons_zero, List.set_cons_succ]
      refine wpAnyH_take (i := 25) (v := ?tv25) rfl (by kernel_rfl) (by kernel_rfl) (by kernel_rfl) (fun _ _ _ h => h) (Or.inl ⟨by kernel_rfl, ?ty25⟩) hHeld ?_
      case ty25 => intro u hu; go_simp; try with_reducible rfl
      try simp only [Act.put, List.setIfInBounds_toArray, List.set_cons_zero, List.set_cons_succ]
      refine wpAnyH_take (i := 26) (v := ?tv26) rfl (by kernel_rfl) (by kernel_rfl) (by kernel_rfl) (fun _ _ _ h => h) (Or.inl ⟨by kernel_rfl, ?ty26⟩) hHeld ?_
      case ty26 => intro u hu; go_simp; try with_reducible rfl
      try simp only [Act.put, List.setIfInBounds_toArray, List.set_cons_zero, List.set_cons_succ]
      refine wpAnyH_take (i := 27) (v := .string sj) rfl (by kernel_rfl) (by kernel_rfl) (by kernel_rfl) (fun _ _ _ h => h) (Or.inl ⟨by kernel_rfl, fun u hu => by have := QJ.out u hu; go_simp⟩) hHeld ?_
      try simp only [Act.put, List.setIfInBounds_toArray, List.set_cons_zero, List.set_cons_succ]
      refine wpAnyH_take (i := 28) (v := .bool rd) rfl (by kernel_rfl) (by kernel_rfl) (by kernel_rfl) (fun _ _ _ h => h) (Or.inl ⟨by kernel_rfl, fun u hu => by have := LT.out; go_simp⟩) hHeld ?_
      try simp only [Act.put, List.setIfInBounds_toArray, List.set_cons_zero, List.set_cons_succ]
      refine wpAnyH_ready (rs := [22]) (by kernel_rfl) (by simp) ?_
      refine AllReadyH.cons rfl (fun K hK => ?_) AllReadyH.nil
      go_simp
      refine (DD.out _ hHeld).mono ?_
      rintro e u6 ⟨rfl, hH⟩
      clear hHeld
      refine hK.out _ _ hH (fun hHeld => ?_)
      clear hK K
      try simp only [Act.put, List.setIfInBounds_toArray, List.set_cons_zero, List.set_cons_succ]
      refine wpAnyH_take (i := 29) (v := ?tv29) rfl (by kernel_rfl) (by kernel_rfl) (by kernel_rfl) (fun _ _ _ h => h) (Or.inl ⟨by kernel_rfl, ?ty29⟩) hHeld ?_
      case ty29 => intro u hu; go_simp; try with_reducible rfl
      try simp only [Act.put, List.setIfInBounds_toArray, List.set_cons_zero, List.set_cons_succ]
      refine wpAnyH_take (i := 30) (v := ?tv30) rfl (by kernel_rfl) (by kernel_rfl) (by kernel_rfl) (fun _ _ _ h => h) (Or.inl ⟨by kernel_rfl, ?ty30⟩) hHeld ?_
      case ty30 => intro u hu; go_simp; try with_reducible rfl
      try simp only [Act.put, List.setIfInBounds_toArray, List.set_cons_zero, List.set_cons_succ]
      refine wpAnyH_take (i := 31) (v := ?tv31) rfl (by kernel_rfl) (by kernel_rfl) (by kernel_rfl) (fun _ _ _ h => h) (Or.inl ⟨by kernel_rfl, ?ty31⟩) hHeld ?_
      case ty31 => intro u hu; go_simp; try with_reducible rfl
      try simp only [Act.put, List.setIfInBounds_toArray, List.set_cons_zero, List.set_cons_succ]
      refine wpAnyH_take (i := 32) rfl (by kernel_rfl) (by kernel_rfl) (by kernel_rfl) (fun _ _ _ h => h) (yieldsIf_load_mid (by kernel_rfl) 30 (.tmp 2) (by kernel_rfl) w.heap.size 0 (by kernel_rfl) cx _ (fun u hu => by rw [← HCX.out]; exact row_range hu.1.1) Tryd.underlying30 rfl LI.out) hHeld ?_
      try simp only [Act.put, List.setIfInBounds_toArray, List.set_cons_zero, List.set_cons_succ]
      refine wpAnyH_take (i := 33) rfl (by kernel_rfl) (by kernel_rfl) (by kernel_rfl) (fun _ _ _ h => h) (yieldsIf_load_mid (by kernel_rfl) 30 (.tmp 3) (by kernel_rfl) (w.heap.size + 1) 0 (by kernel_rfl) cy _ (fun u hu => by rw [← HCY.out]; exact row_range hu.1.2.1) Tryd.underlying30 rfl LJ.out) hHeld ?_
      try simp only [Act.put, List.setIfInBounds_toArray, List.set_cons_zero, List.set_cons_succ]
      refine wpAnyH_ready (rs := [34]) (by kernel_rfl) (by simp) ?_
      refine AllReadyH.cons rfl (fun K hK => ?_) AllReadyH.nil
      go_simp
      refine (DB.out _ hHeld).mono ?_
      rintro e u7 ⟨rfl, hH⟩
      clear hHeld
      refine hK.out _ _ hH (fun hHeld => ?_)
      clear hK K
      try simp only [Act.put, List.setIfInBounds_toArray, List.set_cons_zero, List.set_cons_succ]
      refine wpAnyH_take (i := 35) (v := ?tv35) rfl (by kernel_rfl) (by kernel_rfl) (by kernel_rfl) (fun _ _ _ h => h) (Or.inl ⟨by kernel_rfl, ?ty35⟩) hHeld ?_
      case ty35 => intro u hu; go_simp; try with_reducible rfl
      try simp only [Act.put, List.setIfInBounds_toArray, List.set_cons_zero, List.set_cons_succ]
      refine wpAnyH_take (i := 36) rfl (by kernel_rfl) (by kernel_rfl) (by kernel_rfl) (fun _ _ _ h => h) (yieldsIf_load_mid (by kernel_rfl) 30 (.tmp 3) (by kernel_rfl) (w.heap.size + 1) 0 (by kernel_rfl) cy _ (fun u hu => by rw [← HCY.out]; exact row_range hu.1.2.1) Tryd.underlying30 rfl LJ.out) hHeld ?_
      try simp only [Act.put, List.setIfInBounds_toArray, List.set_cons_zero, List.set_cons_succ]
      refine wpAnyH_take (i := 37) rfl (by kernel_rfl) (by kernel_rfl) (by kernel_rfl) (fun _ _ _ h => h) (yieldsIf_load_mid (by kernel_rfl) 30 (.tmp 2) (by kernel_rfl) w.heap.size 0 (by kernel_rfl) cx _ (fun u hu => by rw [← HCX.out]; exact row_range hu.1.1) Tryd.underlying30 rfl LI.out) hHeld ?_
      try simp only [Act.put, List.setIfInBounds_toArray, List.set_cons_zero, List.set_cons_succ]
      refine wpAnyH_ready (rs := [38]) (by kernel_rfl) (by simp) ?_
      refine AllReadyH.cons rfl (fun K hK => ?_) AllReadyH.nil
      go_simp
      refine (DC.out _ hHeld).mono ?_
      rintro e u8 ⟨rfl, hH⟩
      clear hHeld
      refine hK.out _ _ hH (fun hHeld => ?_)
      clear hK K
      try simp only [Act.put, List.setIfInBounds_toArray, List.set_cons_zero, List.set_cons_succ]
      refine wpAnyH_take (i := 39) (v := ?tv39) rfl (by kernel_rfl) (by kernel_rfl) (by kernel_rfl) (fun _ _ _ h => h) (Or.inl ⟨by kernel_rfl, ?ty39⟩) hHeld ?_
      case ty39 => intro u hu; go_simp; try with_reducible rfl
      try simp only [Act.put, List.setIfInBounds_toArray, List.set_cons_zero, List.set_cons_succ]
      refine wpAnyH_take (i := 40) (v := ?tv40) rfl (by kernel_rfl) (by kernel_rfl) (by kernel_rfl) (fun _ _ _ h => h) (Or.inl ⟨by kernel_rfl, ?ty40⟩) hHeld ?_
      case ty40 => intro u hu; go_simp; try with_reducible rfl
      try simp only [Act.put, List.setIfInBounds_toArray, List.set_cons_zero, List.set_cons_succ]
      refine wpAnyH_take (i := 41) (v := ?tv41) rfl (by kernel_rfl) (by kernel_rfl) (by kernel_rfl) (fun _ _ _ h => h) (Or.inl ⟨by kernel_rfl, ?ty41⟩) hHeld ?_
      case ty41 => intro u hu; go_simp; try with_reducible rfl
      try simp only [Act.put, List.setIfInBounds_toArray, List.set_cons_zero, List.set_cons_succ]
      refine wpAnyH_take (i := 42) (v := ?tv42) rfl (by kernel_rfl) (by kernel_rfl) (by kernel_rfl) (fun _ _ _ h => h) (Or.inl ⟨by kernel_rfl, ?ty42⟩) hHeld ?_
      case ty42 => intro u hu; go_simp; try with_reducible rfl
      try simp only [Act.put, List.getElem_toArray, List.getElem_cons_succ, List.getElem_cons_zero, List.setIfInBounds_toArray, List.set_cons_zero, List.set_cons_succ]
      refine wpAnyH_done (by kernel_rfl) ?_ _
      have B9 := Lib.hid hHeld.1.2.2
      clear hHeld
      go_wp2
      go_ret
      exact ⟨by kernel_rfl, B9.out⟩
    | false =>
      refine wp_region_held_drew (S := fun u => N4 w i j (dirI i) (fileI j) g5 g6 u) (by kernel_rfl) (n4_keep NV.out (Below.refl _ _).drew) (fun hHeld => ?_)
      refine wpAnyH_ready (rs := [0]) (by kernel_rfl) (by simp) ?_
      refine AllReadyH.cons rfl (fun K hK => ?_) AllReadyH.nil
      go_simp
      refine (DA.out _ hHeld).mono ?_
      rintro e u1 ⟨rfl, hH⟩
      clear hHeld
      refine hK.out _ _ hH (fun hHeld => ?_)
      clear hK K
      try simp only [Act.put, List.setIfInBounds_toArray, List.set_cons_zero, List.set_cons_succ]
      refine wpAnyH_take (i := 1) (v := ?fv1) rfl (by kernel_rfl) (by kernel_rfl) (by kernel_rfl) (fun _ _ _ h => h) (Or.inl ⟨by kernel_rfl, ?fy1⟩) hHeld ?_
      case fy1 => intro u hu; go_simp; try with_reducible rfl
      try simp only [Act.put, List.setIfInBounds_toArray, List.set_cons_zero, List.set_cons_succ]
      refine wpAnyH_take (i := 2) (v := ?fv2) rfl (by kernel_rfl) (by kernel_rfl) (by kernel_rfl) (fun _ _ _ h => h) (Or.inl ⟨by kernel_rfl, ?fy2⟩) hHeld ?_
      case fy2 => intro u hu; go_simp; try with_reducible rfl
      try simp only [Act.put, List.setIfInBounds_toArray, List.set_cons_zero, List.set_cons_succ]
      refine wpAnyH_take (i := 3) (v := .string si) rfl (by kernel_rfl) (by kernel_rfl) (by kernel_rfl) (fun _ _ _ h => h) (Or.inl ⟨by kernel_rfl, fun u hu => by have := QI.out u hu; go_simp⟩) hHeld ?_
      try simp only [Act.put, List.setIfInBounds_toArray, List.set_cons_zero, List.set_cons_succ]
      refine wpAnyH_take (i := 5) (v := ?fv5) rfl (by kernel_rfl) (by kernel_rfl) (by kernel_rfl) (fun _ _ _ h => h) (Or.inl ⟨by kernel_rfl, ?fy5⟩) hHeld ?_
      case fy5 => intro u hu; go_simp; try with_reducible rfl
      try simp only [Act.put, List.setIfInBounds_toArray, List.set_cons_zero, List.set_cons_succ]
      refine wpAnyH_take (i := 6) (v := .string si) rfl (by kernel_rfl) (by kernel_rfl) (by kernel_rfl) (fun _ _ _ h => h) (Or.inl ⟨by kernel_rfl, fun u hu => by have := QI.out u hu; go_simp⟩) hHeld ?_
      try simp only [Act.put, List.setIfInBounds_toArray, List.set_cons_zero, List.set_cons_succ]
      refine wpAnyH_ready (rs := [4]) (by kernel_rfl) (by simp) ?_
      refine AllReadyH.cons rfl (fun K hK => ?_) AllReadyH.nil
      go_simp
      refine (DN.out _ hHeld).mono ?_
      rintro e u2 ⟨rfl, hH⟩
      clear hHeld
      refine hK.out _ _ hH (fun hHeld => ?_)
      clear hK K
      try simp only [Act.put, List.setIfInBounds_toArray, List.set_cons_zero, List.set_cons_succ]
      refine wpAnyH_ready (rs := [7]) (by kernel_rfl) (by simp) ?_
      refine AllReadyH.cons rfl (fun K hK => ?_) AllReadyH.nil
      go_simp
      refine (RN.out _ hHeld).mono ?_
      rintro e u3 ⟨rfl, hH⟩
      clear hHeld
      refine hK.out _ _ hH (fun hHeld => ?_)
      clear hK K
      try simp only [Act.put, List.setIfInBounds_toArray, List.set_cons_zero, List.set_cons_succ]
      refine wpAnyH_take (i := 8) (v := ?fv8) rfl (by kernel_rfl) (by kernel_rfl) (by kernel_rfl) (fun _ _ _ h => h) (Or.inl ⟨by kernel_rfl, ?fy8⟩) hHeld ?_
      case fy8 => intro u hu; go_simp; try with_reducible rfl
      try simp only [Act.put, List.setIfInBounds_toArray, List.set_cons_zero, List.set_cons_succ]
      refine wpAnyH_take (i := 9) (v := ?fv9) rfl (by kernel_rfl) (by kernel_rfl) (by kernel_rfl) (fun _ _ _ h => h) (Or.inl ⟨by kernel_rfl, ?fy9⟩) hHeld ?_
      case fy9 => intro u hu; go_simp; try with_reducible rfl
      try simp only [Act.put, List.setIfInBounds_toArray, List.set_cons_zero, List.set_cons_succ]
      refine wpAnyH_take (i := 10) (v := ?fv10) rfl (by kernel_rfl) (by kernel_rfl) (by kernel_rfl) (fun _ _ _ h => h) (Or.inl ⟨by kernel_rfl, ?fy10⟩) hHeld ?_
      case fy10 => intro u hu; go_simp; try with_reducible rfl
      try simp only [Act.put, List.setIfInBounds_toArray, List.set_cons_zero, List.set_cons_succ]
      refine wpAnyH_take (i := 11) rfl (by kernel_rfl) (by kernel_rfl) (by kernel_rfl) (fun _ _ _ h => h) (yieldsIf_load_mid (by kernel_rfl) 30 (.tmp 2) (by kernel_rfl) w.heap.size 0 (by kernel_rfl) cx _ (fun u hu => by rw [← HCX.out]; exact row_range hu.1.1) Tryd.underlying30 rfl LI.out) hHeld ?_
      try simp only [Act.put, List.setIfInBounds_toArray, List.set_cons_zero, List.set_cons_succ]
      refine wpAnyH_take (i := 12) rfl (by kernel_rfl) (by kernel_rfl) (by kernel_rfl) (fun _ _ _ h => h) (yieldsIf_load_mid (by kernel_rfl) 30 (.tmp 3) (by kernel_rfl) (w.heap.size + 1) 0 (by kernel_rfl) cy _ (fun u hu => by rw [← HCY.out]; exact row_range hu.1.2.1) Tryd.underlying30 rfl LJ.out) hHeld ?_
      try simp only [Act.put, List.setIfInBounds_toArray, List.set_cons_zero, List.set_cons_succ]
      refine wpAnyH_take (i := 14) rfl (by kernel_rfl) (by kernel_rfl) (by kernel_rfl) (fun _ _ _ h => h) (yieldsIf_load_mid (by kernel_rfl) 30 (.tmp 2) (by kernel_rfl) w.heap.size 0 (by kernel_rfl) cx _ (fun u hu => by rw [← HCX.out]; exact row_range hu.1.1) Tryd.underlying30 rfl LI.out) hHeld ?_
      try simp only [Act.put, List.setIfInBounds_toArray, List.set_cons_zero, List.set_cons_succ]
      refine wpAnyH_take (i := 15) rfl (by kernel_rfl) (by kernel_rfl) (by kernel_rfl) (fun _ _ _ h => h) (yieldsIf_load_mid (by kernel_rfl) 30 (.tmp 3) (by kernel_rfl) (w.heap.size + 1) 0 (by kernel_rfl) cy _ (fun u hu => by rw [← HCY.out]; exact row_range hu.1.2.1) Tryd.underlying30 rfl LJ.out) hHeld ?_
      try simp only [Act.put, List.setIfInBounds_toArray, List.set_cons_zero, List.set_cons_succ]
      refine wpAnyH_ready (rs := [13]) (by kernel_rfl) (by simp) ?_
      refine AllReadyH.cons rfl (fun K hK => ?_) AllReadyH.nil
      go_simp
      refine (DB.out _ hHeld).mono ?_
      rintro e u4 ⟨rfl, hH⟩
      clear hHeld
      refine hK.out _ _ hH (fun hHeld => ?_)
      clear hK K
      try simp only [Act.put, List.setIfInBounds_toArray, List.set_cons_zero, List.set_cons_succ]
      refine wpAnyH_ready (rs := [16]) (by kernel_rfl) (by simp) ?_
      refine AllReadyH.cons rfl (fun K hK => ?_) AllReadyH.nil
      go_simp
      refine (RB.out _ hHeld).mono ?_
      rintro e u5 ⟨rfl, hH⟩
      clear hHeld
      refine hK.out _ _ hH (fun hHeld => ?_)
      clear hK K
      try simp only [Act.put, List.setIfInBounds_toArray, List.set_cons_zero, List.set_cons_succ]
      refine wpAnyH_take (i := 17) (v := ?fv17) rfl (by kernel_rfl) (by kernel_rfl) (by kernel_rfl) (fun _ _ _ h => h) (Or.inl ⟨by kernel_rfl, ?fy17⟩) hHeld ?_
      case fy17 => intro u hu; go_simp; try with_reducible rfl
      try simp only [Act.put, List.setIfInBounds_toArray, List.set_cons_zero, List.set_cons_succ]
      refine wpAnyH_take (i := 18) (v := ?fv18) rfl (by kernel_rfl) (by kernel_rfl) (by kernel_rfl) (fun _ _ _ h => h) (Or.inl ⟨by kernel_rfl, ?fy18⟩) hHeld ?_
      case fy18 => intro u hu; go_simp; try with_reducible rfl
      try simp only [Act.put, List.setIfInBounds_toArray, List.set_cons_zero, List.set_cons_succ]
      refine wpAnyH_take (i := 19) (v := ?fv19) rfl (by kernel_rfl) (by kernel_rfl) (by kernel_rfl) (fun _ _ _ h => h) (Or.inl ⟨by kernel_rfl, ?fy19⟩) hHeld ?_
      case fy19 => intro u hu; go_simp; try with_reducible rfl
      try simp only [Act.put, List.setIfInBounds_toArray, List.set_cons_zero, List.set_cons_succ]
      refine wpAnyH_take (i := 20) rfl (by kernel_rfl) (by kernel_rfl) (by kernel_rfl) (fun _ _ _ h => h) (yieldsIf_load_mid (by kernel_rfl) 30 (.tmp 5) (by kernel_rfl) g5 0 (by kernel_rfl) dx _ (fun u hu => by rw [← HDX.out]; exact row_range hu.2.1) Tryd.underlying30 rfl LD.out) hHeld ?_
      try simp only [Act.put, List.setIfInBounds_toArray, List.set_cons_zero, List.set_cons_succ]
      refine wpAnyH_take (i := 21) rfl (by kernel_rfl) (by kernel_rfl) (by kernel_rfl) (fun _ _ _ h => h) (yieldsIf_load_mid (by kernel_rfl) 30 (.tmp 6) (by kernel_rfl) g6 0 (by kernel_rfl) dy _ (fun u hu => by rw [← HDY.out]; exact row_range hu.2.2) Tryd.underlying30 rfl LF.out) hHeld ?_
      try simp only [Act.put, List.setIfInBounds_toArray, List.set_cons_zero, List.set_cons_succ]
      refine wpAnyH_take (i := 23) (v := ?fv23) rfl (by kernel_rfl) (by kernel_rfl) (by kernel_rfl) (fun _ _ _ h => h) (Or.inl ⟨by kernel_rfl, ?fy23⟩) hHeld ?_
      case fy23 => intro u hu; go_simp; try with_reducible rfl
      try simp only [Act.put, List.setIfInBounds_toArray, List.set_cons_zero, List.set_cons_succ]
      refine wpAnyH_take (i := 24) (v := .string si) rfl (by kernel_rfl) (by kernel_rfl) (by kernel_rfl) (fun _ _ _ h => h) (Or.inl ⟨by kernel_rfl, fun u hu => by have := QI.out u hu; go_simp⟩) hHeld ?_
      try simp only [Act.put, List.setIfInBounds_toArray, List.set_cons_zero, List.set_cons_succ]
      refine wpAnyH_take (i := 25) (v := ?fv25) rfl (by kernel_rfl) (by kernel_rfl) (by kernel_rfl) (fun _ _ _ h => h) (Or.inl ⟨by kernel_rfl, ?fy25⟩) hHeld ?_
      case fy25 => intro u hu; go_simp; try with_reducible rfl
      try simp only [Act.put, List.setIfInBounds_toArray, List.set_cons_zero, List.set_cons_succ]
      refine wpAnyH_take (i := 26) (v := ?fv26) rfl (by kernel_rfl) (by kernel_rfl) (by kernel_rfl) (fun _ _ _ h => h) (Or.inl ⟨by kernel_rfl, ?fy26⟩) hHeld ?_
      case fy26 => intro u hu; go_simp; try with_reducible rfl
      try simp only [Act.put, List.setIfInBounds_toArray, List.set_cons_zero, List.set_cons_succ]
      refine wpAnyH_take (i := 27) (v := .string sj) rfl (by kernel_rfl) (by kernel_rfl) (by kernel_rfl) (fun _ _ _ h => h) (Or.inl ⟨by kernel_rfl, fun u hu => by have := QJ.out u hu; go_simp⟩) hHeld ?_
      try simp only [Act.put, List.setIfInBounds_toArray, List.set_cons_zero, List.set_cons_succ]
      refine wpAnyH_take (i := 28) (v := .bool rd) rfl (by kernel_rfl) (by kernel_rfl) (by kernel_rfl) (fun _ _ _ h => h) (Or.inl ⟨by kernel_rfl, fun u hu => by have := LT.out; go_simp⟩) hHeld ?_
      try simp only [Act.put, List.setIfInBounds_toArray, List.set_cons_zero, List.set_cons_succ]
      refine wpAnyH_ready (rs := [22]) (by kernel_rfl) (by simp) ?_
      refine AllReadyH.cons rfl (fun K hK => ?_) AllReadyH.nil
      go_simp
      refine (DD.out _ hHeld).mono ?_
      rintro e u6 ⟨rfl, hH⟩
      clear hHeld
      refine hK.out _ _ hH (fun hHeld => ?_)
      clear hK K
      try simp only [Act.put, List.setIfInBounds_toArray, List.set_cons_zero, List.set_cons_succ]
      refine wpAnyH_take (i := 29) (v := ?fv29) rfl (by kernel_rfl) (by kernel_rfl) (by kernel_rfl) (fun _ _ _ h => h) (Or.inl ⟨by kernel_rfl, ?fy29⟩) hHeld ?_
      case fy29 => intro u hu; go_simp; try with_reducible rfl
      try simp only [Act.put, List.setIfInBounds_toArray, List.set_cons_zero, List.set_cons_succ]
      refine wpAnyH_take (i := 30) (v := ?fv30) rfl (by kernel_rfl) (by kernel_rfl) (by kernel_rfl) (fun _ _ _ h => h) (Or.inl ⟨by kernel_rfl, ?fy30⟩) hHeld ?_
      case fy30 => intro u hu; go_simp; try with_reducible rfl
      try simp only [Act.put, List.setIfInBounds_toArray, List.set_cons_zero, List.set_cons_succ]
      refine wpAnyH_take (i := 31) (v := ?fv31) rfl (by kernel_rfl) (by kernel_rfl) (by kernel_rfl) (fun _ _ _ h => h) (Or.inl ⟨by kernel_rfl, ?fy31⟩) hHeld ?_
      case fy31 => intro u hu; go_simp; try with_reducible rfl
      try simp only [Act.put, List.setIfInBounds_toArray, List.set_cons_zero, List.set_cons_succ]
      refine wpAnyH_take (i := 32) rfl (by kernel_rfl) (by kernel_rfl) (by kernel_rfl) (fun _ _ _ h => h) (yieldsIf_load_mid (by kernel_rfl) 30 (.tmp 2) (by kernel_rfl) w.heap.size 0 (by kernel_rfl) cx _ (fun u hu => by rw [← HCX.out]; exact row_range hu.1.1) Tryd.underlying30 rfl LI.out) hHeld ?_
      try simp only [Act.put, List.setIfInBounds_toArray, List.set_cons_zero, List.set_cons_succ]
      refine wpAnyH_take (i := 33) rfl (by kernel_rfl) (by kernel_rfl) (by kernel_rfl) (fun _ _ _ h => h) (yieldsIf_load_mid (by kernel_rfl) 30 (.tmp 3) (by kernel_rfl) (w.heap.size + 1) 0 (by kernel_rfl) cy _ (fun u hu => by rw [← HCY.out]; exact row_range hu.1.2.1) Tryd.underlying30 rfl LJ.out) hHeld ?_
      try simp only [Act.put, List.setIfInBounds_toArray, List.set_cons_zero, List.set_cons_succ]
      refine wpAnyH_ready (rs := [34]) (by kernel_rfl) (by simp) ?_
      refine AllReadyH.cons rfl (fun K hK => ?_) AllReadyH.nil
      go_simp
      refine (DB.out _ hHeld).mono ?_
      rintro e u7 ⟨rfl, hH⟩
      clear hHeld
      refine hK.out _ _ hH (fun hHeld => ?_)
      clear hK K
      try simp only [Act.put, List.setIfInBounds_toArray, List.set_cons_zero, List.set_cons_succ]
      refine wpAnyH_take (i := 35) (v := ?fv35) rfl (by kernel_rfl) (by kernel_rfl) (by kernel_rfl) (fun _ _ _ h => h) (Or.inl ⟨by kernel_rfl, ?fy35⟩) hHeld ?_
      case fy35 => intro u hu; go_simp; try with_reducible rfl
      try simp only [Act.put, List.setIfInBounds_toArray, List.set_cons_zero, List.set_cons_succ]
      refine wpAnyH_take (i := 36) (v := undef) rfl (by kernel_rfl) (by kernel_rfl) (by kernel_rfl) (fun _ _ _ h => h) (Or.inr ⟨by kernel_rfl, rfl⟩) hHeld ?_
      try simp only [Act.put, List.setIfInBounds_toArray, List.set_cons_zero, List.set_cons_succ]
      refine wpAnyH_take (i := 37) (v := undef) rfl (by kernel_rfl) (by kernel_rfl) (by kernel_rfl) (fun _ _ _ h => h) (Or.inr ⟨by kernel_rfl, rfl⟩) hHeld ?_
      try simp only [Act.put, List.setIfInBounds_toArray, List.set_cons_zero, List.set_cons_succ]
      refine wpAnyH_take (i := 38) (v := undef) rfl (by kernel_rfl) (by kernel_rfl) (by kernel_rfl) (fun _ _ _ h => h) (Or.inr ⟨by kernel_rfl, rfl⟩) hHeld ?_
      try simp only [Act.put, List.setIfInBounds_toArray, List.set_cons_zero, List.set_cons_succ]
      refine wpAnyH_take (i := 39) (v := ?fv39) rfl (by kernel_rfl) (by kernel_rfl) (by kernel_rfl) (fun _ _ _ h => h) (Or.inl ⟨by kernel_rfl, ?fy39⟩) hHeld ?_
      case fy39 => intro u hu; go_simp; try with_reducible rfl
      try simp only [Act.put, List.setIfInBounds_toArray, List.set_cons_zero, List.set_cons_succ]
      refine wpAnyH_take (i := 40) (v := ?fv40) rfl (by kernel_rfl) (by kernel_rfl) (by kernel_rfl) (fun _ _ _ h => h) (Or.inl ⟨by kernel_rfl, ?fy40⟩) hHeld ?_
      case fy40 => intro u hu; go_simp; try with_reducible rfl
      try simp only [Act.put, List.setIfInBounds_toArray, List.set_cons_zero, List.set_cons_succ]
      refine wpAnyH_take (i := 41) (v := ?fv41) rfl (by kernel_rfl) (by kernel_rfl) (by kernel_rfl) (fun _ _ _ h => h) (Or.inl ⟨by kernel_rfl, ?fy41⟩) hHeld ?_
      case fy41 => intro u hu; go_simp; try with_reducible rfl
      try simp only [Act.put, List.setIfInBounds_toArray, List.set_cons_zero, List.set_cons_succ]
      refine wpAnyH_take (i := 42) (v := ?fv42) rfl (by kernel_rfl) (by kernel_rfl) (by kernel_rfl) (fun _ _ _ h => h) (Or.inl ⟨by kernel_rfl, ?fy42⟩) hHeld ?_
      case fy42 => intro u hu; go_simp; try with_reducible rfl
      try simp only [Act.put, List.getElem_toArray, List.getElem_cons_succ, List.getElem_cons_zero, List.setIfInBounds_toArray, List.set_cons_zero, List.set_cons_succ]
      refine wpAnyH_done (by kernel_rfl) ?_ _
      have B9 := Lib.hid hHeld.1.2.2
      clear hHeld
      go_wp2
      go_ret
      exact ⟨by kernel_rfl, B9.out⟩
set_option maxHeartbeats 2000000 in
theorem walk_long1 (w : World) (i j : Itm) (tab : QTab w) (ni : 600 < i.name.length) :
    Calls Tryd.prog 5 #[.agg (cellsI i).toArray, .agg (cellsI j).toArray] w fun e w' => e = .returned (.bool true) ∧ Below w.heap.size w w' := by
  have K0 := Lib.hid (restB_start w i j)
  have q1 := GI.cell1 (w := (w.alloc (.cells (cellsI i).toArray 30)).alloc (.cells (cellsI j).toArray 30)) (i := i) K0.out.1
  have q2 := GI.cell1 (w := (w.alloc (.cells (cellsI i).toArray 30)).alloc (.cells (cellsI j).toArray 30)) (i := j) K0.out.2.1
  have z1 := size_toArray i.name
  have z2 := size_toArray j.name
  obtain ⟨mi, hmi⟩ : ∃ m, i.name.length = m := ⟨_, rfl⟩
  obtain ⟨mj, hmj⟩ : ∃ m, j.name.length = m := ⟨_, rfl⟩
  rw [hmi] at z1 ni
  rw [hmj] at z2 
  have g1 : (mi : Int) > 600 := by omega
  have CA := Lib.hid (fun u (h : Below w.heap.size w u) => awake_is u (tab.below h))
  have B0 := Lib.hid K0.out.2.2
  generalize (⟨i.name.toArray⟩ : ByteArray) = si at *
  generalize (⟨j.name.toArray⟩ : ByteArray) = sj at *
  generalize (cellsI i) = cx at *
  generalize (cellsI j) = cy at *
  clear K0 hmi hmj tab ni
  go_enter Tryd.func5, Tryd.ntmps5
  go_wp2_with fail
  refine (CA.out _ B0.out).mono ?_
  rintro e w1 ⟨rfl, b1⟩
  have B1 := Lib.hid (B0.out.trans (b1.mono B0.out.size))
  clear b1
  go_wp2
  go_ret
  exact ⟨rfl, B1.out⟩
set_option maxHeartbeats 2000000 in
theorem walk_long2 (w : World) (i j : Itm) (tab : QTab w) (ni : i.name.length ≤ 600 ∧ 600 < j.name.length) :
    Calls Tryd.prog 5 #[.agg (cellsI i).toArray, .agg (cellsI j).toArray] w fun e w' => e = .returned (.bool true) ∧ Below w.heap.size w w' := by
  have K0 := Lib.hid (restB_start w i j)
  have q1 := GI.cell1 (w := (w.alloc (.cells (cellsI i).toArray 30)).alloc (.cells (cellsI j).toArray 30)) (i := i) K0.out.1
  have q2 := GI.cell1 (w := (w.alloc (.cells (cellsI i).toArray 30)).alloc (.cells (cellsI j).toArray 30)) (i := j) K0.out.2.1
  have z1 := size_toArray i.name
  have z2 := size_toArray j.name
  obtain ⟨mi, hmi⟩ : ∃ m, i.name.length = m := ⟨_, rfl⟩
  obtain ⟨mj, hmj⟩ : ∃ m, j.name.length = m := ⟨_, rfl⟩
  rw [hmi] at z1 ni
  rw [hmj] at z2 ni
  have g1 : ¬ (mi : Int) > 600 := by omega
  have g2 : (mj : Int) > 600 := by omega
  have CA := Lib.hid (fun u (h : Below w.heap.size w u) => awake_is u (tab.below h))
  have B0 := Lib.hid K0.out.2.2
  generalize (⟨i.name.toArray⟩ : ByteArray) = si at *
  generalize (⟨j.name.toArray⟩ : ByteArray) = sj at *
  generalize (cellsI i) = cx at *
  generalize (cellsI j) = cy at *
  clear K0 hmi hmj tab ni
  go_enter Tryd.func5, Tryd.ntmps5
  go_wp2_with fail
  refine (CA.out _ B0.out).mono ?_
  rintro e w1 ⟨rfl, b1⟩
  have B1 := Lib.hid (B0.out.trans (b1.mono B0.out.size))
  clear b1
  go_wp2
  go_ret
  exact ⟨rfl, B1.out⟩
theorem walk (w : World) (i : Itm) (hi : i.id.length = 20) (ni : i.name.length ≤ maxLen) (j : Itm) (hj : j.id.length = 20) (nj : j.name.length ≤ maxLen) (tab : QTab w) :
    Calls Tryd.prog 5 #[.agg (cellsI i).toArray, .agg (cellsI j).toArray] w fun e w' => e = .returned (.bool true) ∧ Below w.heap.size w w' := by
  by_cases h1 : i.name.length ≤ 600
  · by_cases h2 : j.name.length ≤ 600
    · exact walk_small w i j hi hj h1 h2 tab
    · exact walk_long2 w i j tab ⟨h1, by omega⟩
  · exact walk_long1 w i j tab (by omega)
end Go.Proofs.YtalmoaofodjehaaDoor.treeNames
