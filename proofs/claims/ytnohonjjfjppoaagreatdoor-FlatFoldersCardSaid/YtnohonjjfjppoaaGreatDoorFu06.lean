/-
  Texts that belong together, one behind the other.
-/
import Derived.Test.YtnohonjjfjppoaaGreatDoorFu05
import Derived.Test.YtnohonjjfjppoaaGreatDoorFu04
import Derived.Test.YtnohonjjfjppoaaGreatDoorFu02
import Derived.Great.BuildSlice
import Derived.OrdersHeld
import Derived.Laws.Tables
import Derived.Laws.StructEq
/-
  The rune at a place, as a number, and its width.
-/
namespace Go.Proofs.YtnohonjjfjppoaaGreatDoor
open Go.RowKit
set_option linter.unusedVariables false
/-- The rune at a place, as a number, and its width. -/
theorem rune_int (l : List UInt8) (i : Nat) (hi : i < l.length) : ∃ (r : Int) (k : Nat), r = ((Utf8.decode ⟨l.toArray⟩ i).1 : Int) ∧ k = (Utf8.decode ⟨l.toArray⟩ i).2 ∧ 0 ≤ r ∧ r ≤ 2147483647 ∧ 1 ≤ k ∧ i + k ≤ l.length ∧
    ((r < 128 ∧ r = ((l.getD i 0).toNat : Int) ∧ k = 1) ∨ (128 ≤ r ∧ k ≤ 4 ∧ ∀ j, i ≤ j → j < i + k → 128 ≤ (l.getD j 0).toNat)) := by
  refine ⟨_, _, rfl, rfl, ?_⟩
  rcases rune_at l i hi with ⟨h1, h2⟩ | ⟨h1, h2, h3, h4, h5, h6, h7⟩
  · rw [h2]
    exact ⟨by omega, by simp only; omega, Nat.le_refl _, by simp only; omega, .inl ⟨by simp only; omega, rfl, rfl⟩⟩
  · exact ⟨by omega, by omega, h4, h6, .inr ⟨by omega, h5, h7⟩⟩
end Go.Proofs.YtnohonjjfjppoaaGreatDoor

/-
  Layer 8, the program: where a byte stands first; word, place, Before.
-/
namespace Go.Proofs.YtnohonjjfjppoaaGreatDoor
set_option maxRecDepth 20000
open Go.RowKit
set_option linter.unusedVariables false
set_option linter.unusedSimpArgs false
/-- Where a byte stands first, and whether it does. -/
def seekI (s : List UInt8) (c : UInt8) : Nat × Bool := if s.findIdx (· == c) < s.length then (s.findIdx (· == c), true) else (0, false)
theorem seek_here (s : List UInt8) (c : UInt8) (i : Nat) (hi : i < s.length) (h : s.getD i 0 = c) (hn : ∀ j, j < i → s.getD j 0 ≠ c) : seekI s c = (i, true) := by
  have e : s.findIdx (· == c) = i := by
    rw [List.findIdx_eq hi]
    refine ⟨?_, fun j hj => ?_⟩
    · rw [List.getD_eq_getElem?_getD, List.getElem?_eq_getElem hi] at h
      simp only [Option.getD_some] at h
      rw [h]; simp
    · have := hn j hj
      rw [List.getD_eq_getElem?_getD, List.getElem?_eq_getElem (by omega)] at this
      simp only [Option.getD_some] at this
      exact beq_false_of_ne this
  unfold seekI
  rw [e, if_pos hi]
theorem seek_none (s : List UInt8) (c : UInt8) (hn : ∀ j, j < s.length → s.getD j 0 ≠ c) : seekI s c = (0, false) := by
  unfold seekI
  rw [if_neg]
  intro h
  have h2 := List.findIdx_getElem (p := (· == c)) (w := h)
  have := hn (s.findIdx (· == c)) h
  rw [List.getD_eq_getElem?_getD, List.getElem?_eq_getElem h] at this
  simp only [Option.getD_some] at this
  exact this (eq_of_beq h2)
theorem seek_any (s : List UInt8) (c : UInt8) : (seekI s c).2 = s.any (fun x => x == c) := by
  unfold seekI
  by_cases h : s.findIdx (· == c) < s.length
  · rw [if_pos h]
    have h2 : s.any (fun x => x == c) = true := by
      rw [List.any_eq_true]
      exact ⟨s[s.findIdx (· == c)], List.getElem_mem h, List.findIdx_getElem (p := (· == c)) (w := h)⟩
    rw [h2]
  · rw [if_neg h]
    have h2 : s.any (fun x => x == c) = false := by
      rw [List.any_eq_false]
      intro x hx hc
      exact h (List.findIdx_lt_length.2 ⟨x, hx, hc⟩)
    rw [h2]
/-- A rune that is no such byte. -/
theorem seek_go {l : List UInt8} {c : UInt8} (h7 : c.toNat < 128) {i k : Nat} {r : Int} (h : (r < 128 ∧ r = ((l.getD i 0).toNat : Int) ∧ k = 1) ∨ (128 ≤ r ∧ k ≤ 4 ∧ ∀ j, i ≤ j → j < i + k → 128 ≤ (l.getD j 0).toNat)) (hr : r ≠ (c.toNat : Int))
    (hall : ∀ j, j < i → l.getD j 0 ≠ c) : ∀ j, j < i + k → l.getD j 0 ≠ c := by
  intro j hj e
  by_cases hji : j < i
  · exact hall j hji e
  · rcases h with ⟨_, h, hk⟩ | ⟨_, _, h⟩
    · obtain rfl : j = i := by omega
      rw [e] at h
      exact hr h
    · have := h j (by omega) hj
      rw [e] at this
      omega
theorem seek_stop {l : List UInt8} {c : UInt8} (h7 : c.toNat < 128) {i k : Nat} {r : Int} (h : (r < 128 ∧ r = ((l.getD i 0).toNat : Int) ∧ k = 1) ∨ (128 ≤ r ∧ k ≤ 4 ∧ ∀ j, i ≤ j → j < i + k → 128 ≤ (l.getD j 0).toNat)) (hr : r = (c.toNat : Int)) : l.getD i 0 = c := by
  rcases h with ⟨_, h, _⟩ | ⟨h, _, _⟩
  · exact UInt8.toNat_inj.1 (by omega)
  · omega
set_option maxHeartbeats 4000000 in
theorem indexOf_is (c : UInt8) (h7 : c.toNat < 128) (l : List UInt8) (cc : Int) (hcc : cc = c.toNat) (w : World) (hn : l.length ≤ 1000000) :
    Calls Tryz.prog 160 #[.string ⟨l.toArray⟩, .int .i32 cc] w fun e w' => e = .returned (.tuple #[.int .i64 (seekI l c).1, .bool (seekI l c).2]) ∧ Below w.heap.size w w' := by
  have SH := Lib.hid (seek_here l c)
  have SN := Lib.hid (seek_none l c)
  have GO := Lib.hid (fun i k r h hr ha => @seek_go l c h7 i k r h hr ha)
  have ST := Lib.hid (fun i k r h hr => @seek_stop l c h7 i k r h hr)
  have HC := Lib.hid hcc
  clear h7 hcc
  obtain ⟨R, hR⟩ : ∃ R, seekI l c = R := ⟨_, rfl⟩
  rw [hR] at SH SN ⊢
  clear hR
  go_enter Tryz.func160, Tryz.ntmps160
  go_wp2_with fail
  go_loopw [6, 7] (fun _ _ wr => ∃ i : Nat, i ≤ l.length ∧ wr = w.iter ⟨l.toArray⟩ i ∧ (∀ j, j < i → l.getD j 0 ≠ c)) (fun _ _ wr => l.length - wr.iterPos w.heap.size)
  case atStart => exact ⟨0, Nat.zero_le _, rfl, fun j h => absurd h (Nat.not_lt_zero _)⟩
  case round =>
    obtain ⟨i, hi, rfl, hall⟩ := hrel
    have HALL := Lib.hid hall; clear hall
    by_cases hlt : i < l.length
    · have hnx := fun ty => run_next_any (P := Tryz.prog) w ⟨l.toArray⟩ i ty (by rw [size_toArray]; exact hlt)
      obtain ⟨r, k, hr, hk, hr0, hr1, hk1, hkl, hw⟩ := rune_int l i hlt
      rw [← hr, ← hk] at hnx
      have HW := Lib.hid hw
      clear hr hk hw
      by_cases c1 : r = cc
      · have f1 : (r == cc) = true := by simp [c1]
        have hs := SH.out i hlt (ST.out i k r HW.out (by rw [c1, HC.out])) HALL.out
        subst hs
        clear c1
        go_wp2
        go_ret2
        exact ⟨rfl, (Below.refl _ _).alloc (Nat.le_refl _) _⟩
      · have f1 : (r == cc) = false := by simp [c1]
        have nx := GO.out i k r HW.out (by rw [← HC.out]; exact c1) HALL.out
        have NX := Lib.hid nx
        clear c1 nx
        go_wp2
        go_roundw
        case rel => exact ⟨i + k, hkl, rfl, NX.out⟩
        case measure => simp; omega
    · obtain rfl : i = l.length := by omega
      have hnx := fun ty => run_next_end (P := Tryz.prog) w ⟨l.toArray⟩ l.length ty (by rw [size_toArray]; omega)
      have hs := SN.out HALL.out
      subst hs
      go_wp2
      go_ret2
      exact ⟨rfl, (Below.refl _ _).alloc (Nat.le_refl _) _⟩
/-- A mode's digits; none for what is no mode. -/
def wordI (m : Int) : List UInt8 := if 1 ≤ m ∧ m ≤ 4 then modeL m else []
theorem word_yes (m : Int) (h : 1 ≤ m ∧ m ≤ 4) : wordI m = modeL m := if_pos h
theorem tword_is (m : Int) (w : World) : Calls Tryz.prog 95 #[.int .i64 m] w fun e w' => e = .returned (.string ⟨(wordI m).toArray⟩) ∧ w = w' := by
  unfold wordI modeL
  by_cases h1 : m = 1
  · subst h1
    go_enter Tryz.func95, Tryz.ntmps95
    go_wp2
    go_ret
    exact ⟨rfl, rfl⟩
  · by_cases h2 : m = 2
    · subst h2
      go_enter Tryz.func95, Tryz.ntmps95
      go_wp2
      go_ret
      exact ⟨rfl, rfl⟩
    · by_cases h3 : m = 3
      · subst h3
        go_enter Tryz.func95, Tryz.ntmps95
        go_wp2
        go_ret
        exact ⟨rfl, rfl⟩
      · by_cases h4 : m = 4
        · subst h4
          go_enter Tryz.func95, Tryz.ntmps95
          go_wp2
          go_ret
          exact ⟨rfl, rfl⟩
        · have e : ¬ (1 ≤ m ∧ m ≤ 4) := by omega
          rw [if_neg e]
          have f1 : (m == 1) = false := beq_false_of_ne h1
          have f2 : (m == 2) = false := beq_false_of_ne h2
          have f3 : (m == 3) = false := beq_false_of_ne h3
          have f4 : (m == 4) = false := beq_false_of_ne h4
          clear h1 h2 h3 h4 e
          go_enter Tryz.func95, Tryz.ntmps95
          go_wp2
          go_ret
          exact ⟨rfl, rfl⟩
set_option maxHeartbeats 2000000 in
theorem place_is (i : Itm) (hn : i.name.length ≤ 1000000) (w : World) :
    Calls Tryz.prog 148 #[.agg (cellsI i).toArray] w fun e w' => e = .returned (.string ⟨(fullI i).toArray⟩) ∧ Below w.heap.size w w' := by
  have h0 := heap_alloc_new w (.cells (cellsI i).toArray 54)
  have q0 : (w.alloc (.cells (cellsI i).toArray 54)).cell? ⟨w.heap.size, 0, none⟩ = some (.int .i64 i.mode) := (Lib.cell_of_heap h0 0).trans rfl
  have q1 : (w.alloc (.cells (cellsI i).toArray 54)).cell? ⟨w.heap.size, 1, none⟩ = some (.string ⟨i.name.toArray⟩) := (Lib.cell_of_heap h0 1).trans rfl
  have B0 := Lib.hid ((Below.refl w.heap.size w).alloc (Nat.le_refl _) (.cells (cellsI i).toArray 54))
  have ad := fun w => add_lists (P := Tryz.prog) w i.name [47] (by simp; omega)
  unfold fullI
  clear h0
  obtain ⟨m, hm⟩ : ∃ m, i.mode = m := ⟨_, rfl⟩
  rw [hm] at q0 ⊢
  by_cases h4 : m = 4
  · rw [if_pos h4]
    subst h4
    clear hm
    generalize (⟨(i.name ++ [47]).toArray⟩ : ByteArray) = s1 at ad ⊢
    generalize (⟨i.name.toArray⟩ : ByteArray) = s0 at ad q1
    generalize (cellsI i).toArray = arr at *
    go_enter Tryz.func148, Tryz.ntmps148
    go_wp2
    go_ret
    exact ⟨rfl, B0.out⟩
  · rw [if_neg h4]
    have hf : (m == 4) = false := beq_false_of_ne h4
    clear hm ad h4
    generalize (⟨i.name.toArray⟩ : ByteArray) = s0 at *
    generalize (cellsI i).toArray = arr at *
    go_enter Tryz.func148, Tryz.ntmps148
    go_wp2
    go_ret
    exact ⟨rfl, B0.out⟩
set_option maxHeartbeats 8000000 in
theorem pBefore_is (i j : Itm) (hi : i.id.length = 20) (hj : j.id.length = 20) (ni : i.name.length ≤ 1000000) (nj : j.name.length ≤ 1000000) (w : World) :
    Calls Tryz.prog 126 #[.agg (cellsI i).toArray, .agg (cellsI j).toArray] w fun e w' => e = .returned (.bool (befI i j)) ∧ Below w.heap.size w w' := by
  have c1 := fun w => place_is i ni w
  have c2 := fun w => place_is j nj w
  have hr := less_mk (fullI i) (fullI j)
  rw [show befI i j = decide (fullI i < fullI j) from rfl]
  generalize decide (fullI i < fullI j) = r at hr ⊢
  generalize (⟨(fullI i).toArray⟩ : ByteArray) = s1 at c1 hr
  generalize (⟨(fullI j).toArray⟩ : ByteArray) = s2 at c2 hr
  have b1 := (Below.refl w.heap.size w).alloc (Nat.le_refl _) (.cells (cellsI i).toArray 54)
  have b2 := b1.alloc b1.size (.cells (cellsI j).toArray 54)
  have e1 : (w.alloc (.cells (cellsI i).toArray 54)).heap.size = w.heap.size + 1 := by simp
  have h1 := (((Below.refl (w.alloc (.cells (cellsI i).toArray 54)).heap.size (w.alloc (.cells (cellsI i).toArray 54))).alloc (Nat.le_refl _) (.cells (cellsI j).toArray 54)).block w.heap.size (by simp)).trans (heap_alloc_new w _)
  have h2 := heap_alloc_new (w.alloc (.cells (cellsI i).toArray 54)) (.cells (cellsI j).toArray 54)
  rw [e1] at h2
  have K0 := restB_keep (show RestB w i j ((w.alloc (.cells (cellsI i).toArray 54)).alloc (.cells (cellsI j).toArray 54)) from ⟨h1, h2, b2⟩) ((Below.refl _ _).drew)
  have D1 := Lib.hid (fun u (h : RestB w i j u) => ((c1 u).mono (fun e u' ⟨he, hb⟩ => ⟨he, restB_keep h hb⟩) : Calls Tryz.prog 148 #[.agg (cellsI i).toArray] u fun e u' => e = .returned (.string s1) ∧ RestB w i j u'))
  have D2 := Lib.hid (fun u (h : RestB w i j u) => ((c2 u).mono (fun e u' ⟨he, hb⟩ => ⟨he, restB_keep h hb⟩) : Calls Tryz.prog 148 #[.agg (cellsI j).toArray] u fun e u' => e = .returned (.string s2) ∧ RestB w i j u'))
  have li : (Tryz.prog.info? 54).map (·.size) = some (cellsI i).length := by rw [cellsI_len i hi]; exact infoItem
  have lj : (Tryz.prog.info? 54).map (·.size) = some (cellsI j).length := by rw [cellsI_len j hj]; exact infoItem
  have KK := Lib.hid K0
  have LI := Lib.hid li; have LJ := Lib.hid lj
  clear c1 c2 b1 b2 e1 h1 h2 hi hj ni nj K0 li lj
  go_enter Tryz.func126, Tryz.ntmps126
  go_wp2_with fail
  refine wp_region_held_drew (S := RestB w i j) (by kernel_rfl) KK.out (fun hHeld => ?_)
  refine wpAnyH_take (i := 0) (v := .agg (cellsI i).toArray) rfl (by kernel_rfl) (by kernel_rfl) (by kernel_rfl) (fun _ _ _ h => h) (yieldsIf_load_mid (by rfl) 54 (.tmp 2) rfl w.heap.size 0 rfl (cellsI i) _ (fun u h => row_range h.1) Tryz.underlying54 rfl LI.out) hHeld ?_
  refine wpAnyH_take (i := 2) (v := .agg (cellsI j).toArray) rfl (by kernel_rfl) (by kernel_rfl) (by kernel_rfl) (fun _ _ _ h => h) (yieldsIf_load_mid (by rfl) 54 (.tmp 3) rfl (w.heap.size + 1) 0 rfl (cellsI j) _ (fun u h => row_range h.2.1) Tryz.underlying54 rfl LJ.out) hHeld ?_
  refine wpAnyH_ready (rs := [1]) (by kernel_rfl) (by simp) ?_
  refine AllReadyH.cons rfl (fun K hK => ?_) AllReadyH.nil
  go_simp
  refine (D1.out _ hHeld).mono ?_
  rintro e u1 ⟨rfl, hH1⟩
  refine hK.out _ _ hH1 (fun _ => ?_)
  clear hK K hHeld
  refine wpAnyH_ready (rs := [3]) (by kernel_rfl) (by simp) ?_
  refine AllReadyH.cons rfl (fun K hK => ?_) AllReadyH.nil
  go_simp
  refine (D2.out _ hH1).mono ?_
  rintro e u2 ⟨rfl, hH2⟩
  refine hK.out _ _ hH2 (fun _ => ?_)
  clear hK K
  refine wpAnyH_take (i := 4) (v := .bool r) rfl (by kernel_rfl) (by kernel_rfl) (by kernel_rfl) (fun _ _ _ h => h) (Or.inl ⟨by rfl, fun w _ => by go_simp⟩) hH2 ?_
  refine wpAnyH_take (i := 5) (v := .bool r) rfl (by kernel_rfl) (by kernel_rfl) (by kernel_rfl) (fun _ _ _ h => h) (Or.inl ⟨by rfl, fun w _ => by go_simp⟩) hH2 ?_
  refine wpAnyH_done (by kernel_rfl) ?_ _
  have H2 := Lib.hid hH2
  clear hH1 hH2
  go_wp2
  go_ret
  exact ⟨rfl, H2.out.2.2⟩
end Go.Proofs.YtnohonjjfjppoaaGreatDoor

/-
  Layer 13, the program: the name that a path begins with.
-/
namespace Go.Proofs.YtnohonjjfjppoaaGreatDoor
set_option maxRecDepth 20000
open Go.RowKit
set_option linter.unusedVariables false
set_option linter.unusedSimpArgs false
/-- The first name, and whether others follow. -/
def fstF (p : List UInt8) : List UInt8 × Bool := if slashF p < p.length then (headF p, true) else (p, false)
theorem seek_slash (p : List UInt8) : seekI p 47 = if slashF p < p.length then (slashF p, true) else (0, false) := rfl
theorem fst_here (p : List UInt8) (i : Nat) (h : seekI p 47 = (i, true)) : fstF p = (p.take i, true) := by
  rw [seek_slash] at h
  unfold fstF headF
  by_cases hs : slashF p < p.length
  · rw [if_pos hs] at h ⊢
    rw [(Prod.mk.inj h).1]
  · rw [if_neg hs] at h
    cases (Prod.mk.inj h).2
theorem fst_none (p : List UInt8) (h : seekI p 47 = (0, false)) : fstF p = (p, false) := by
  rw [seek_slash] at h
  unfold fstF
  by_cases hs : slashF p < p.length
  · rw [if_pos hs] at h
    cases (Prod.mk.inj h).2
  · rw [if_neg hs]
set_option maxHeartbeats 4000000 in
theorem firstName_is (l : List UInt8) (w : World) (hn : l.length ≤ 1000000) :
    Calls Tryz.prog 92 #[.string ⟨l.toArray⟩] w fun e w' => e = .returned (.tuple #[.string ⟨(fstF l).1.toArray⟩, .bool (fstF l).2]) ∧ Below w.heap.size w w' := by
  have SH := Lib.hid (fun i hi h1 h2 => fst_here l i (seek_here l 47 i hi h1 h2))
  have SN := Lib.hid (fun h => fst_none l (seek_none l 47 h))
  have GO := Lib.hid (fun i k r h hr ha => @seek_go l 47 (by decide) i k r h hr ha)
  have ST := Lib.hid (fun i k r h hr => @seek_stop l 47 (by decide) i k r h hr)
  have EX := Lib.hid (fun i => ext_take l i)
  obtain ⟨R, hR⟩ : ∃ R, fstF l = R := ⟨_, rfl⟩
  rw [hR] at SH SN ⊢
  clear hR
  go_enter Tryz.func92, Tryz.ntmps92
  go_wp2_with fail
  go_loopw [4, 5] (fun _ _ wr => ∃ i : Nat, i ≤ l.length ∧ wr = w.iter ⟨l.toArray⟩ i ∧ (∀ j, j < i → l.getD j 0 ≠ 47)) (fun _ _ wr => l.length - wr.iterPos w.heap.size)
  case atStart => exact ⟨0, Nat.zero_le _, rfl, fun j h => absurd h (Nat.not_lt_zero _)⟩
  case round =>
    obtain ⟨i, hi, rfl, hall⟩ := hrel
    have HALL := Lib.hid hall; clear hall
    by_cases hlt : i < l.length
    · have hnx := fun ty => run_next_any (P := Tryz.prog) w ⟨l.toArray⟩ i ty (by rw [size_toArray]; exact hlt)
      obtain ⟨r, k, hr, hk, hr0, hr1, hk1, hkl, hw⟩ := rune_int l i hlt
      rw [← hr, ← hk] at hnx
      have HW := Lib.hid hw
      clear hr hk hw
      by_cases c1 : r = 47
      · have f1 : (r == 47) = true := by simp [c1]
        have hs := SH.out i hlt (ST.out i k r HW.out (by rw [c1]; rfl)) HALL.out
        subst hs
        have x0 := EX.out i
        have sz := size_toArray l
        clear c1
        generalize (⟨l.toArray⟩ : ByteArray) = s at *
        go_wp2
        go_ret2
        exact ⟨rfl, (Below.refl _ _).alloc (Nat.le_refl _) _⟩
      · have f1 : (r == 47) = false := by simp [c1]
        have nx := GO.out i k r HW.out (by intro e; exact c1 e) HALL.out
        have NX := Lib.hid nx
        clear c1 nx
        go_wp2
        go_roundw
        case rel => exact ⟨i + k, hkl, rfl, NX.out⟩
        case measure => simp; omega
    · obtain rfl : i = l.length := by omega
      have hnx := fun ty => run_next_end (P := Tryz.prog) w ⟨l.toArray⟩ l.length ty (by rw [size_toArray]; omega)
      have hs := SN.out HALL.out
      subst hs
      go_wp2
      go_ret2
      exact ⟨rfl, (Below.refl _ _).alloc (Nat.le_refl _) _⟩
end Go.Proofs.YtnohonjjfjppoaaGreatDoor

/-
  A literal of a struct or an array.
-/
namespace Go.Proofs.YtnohonjjfjppoaaGreatDoor
open Go.RowKit
set_option linter.unusedVariables false
/-- A literal of a struct or an array, its cells carried by a name. -/
theorem wpList_build_as {P : Program} {ops : Array Oper} {rest : List Oper} {o : Oper} {a : Act} {w : World} {Q : Exit → Act → World → Prop} (hgd : o.guard = none) (t : TypeId) (parts : Array (Nat × Operand)) (ho : o.op = .build t parts)
    (cells : Array Value) (hb : P.built t (parts.map fun (i, x) => (i, a.eval x)).toList = some cells)
    (h : wpList P ops Q rest (a.put o.dst (.agg cells)) w) : wpList P ops Q (o :: rest) a w :=
  wpList_plain hgd fun K hK => wp_build t parts ho (by rw [hb]; rfl) (by rw [hb]; exact hK _ _ h)
/-- The same, with one part. -/
theorem wpList_build_one {P : Program} {ops : Array Oper} {rest : List Oper} {o : Oper} {a : Act} {w : World} {Q : Exit → Act → World → Prop} (hgd : o.guard = none) (t : TypeId) (k : Nat) (x : Operand) (ho : o.op = .build t #[(k, x)])
    (v : Value) (hx : a.eval x = v) (cells : Array Value) (hb : P.built t [(k, v)] = some cells)
    (h : wpList P ops Q rest (a.put o.dst (.agg cells)) w) : wpList P ops Q (o :: rest) a w :=
  wpList_build_as hgd t #[(k, x)] ho cells (by simp [hx, hb]) h
/-- A literal of three parts, in a region that draws its order. -/
theorem yields_build3 {P : Program} {ops : Array Oper} {S : World → Prop} {o : Oper} {a : Act} (hw : Region.wanted o (yielded ops a.tmps) = true) (t : TypeId) (k0 k1 k2 : Nat) (x0 x1 x2 : Operand) (ho : o.op = .build t #[(k0, x0), (k1, x1), (k2, x2)])
    (v0 v1 v2 : Value) (h0 : a.eval x0 = v0) (h1 : a.eval x1 = v1) (h2 : a.eval x2 = v2) (cells : Array Value) (hb : P.built t [(k0, v0), (k1, v1), (k2, v2)] = some cells) : YieldsIf P ops S o (.agg cells) a :=
  .inl ⟨hw, fun u _ => by
    have hp : P.built t (#[(k0, x0), (k1, x1), (k2, x2)].map fun (i, x) => (i, a.eval x)).toList = some cells := by simp [h0, h1, h2, hb]
    unfold execOp
    simp only [ho, Sem.run_bind, run_build u t _ cells hp, Result.andThen_ok, Sem.run_pure]⟩
/-- Two structs held against each other, in a region that draws its order. -/
theorem yields_eql {P : Program} {ops : Array Oper} {S : World → Prop} {o : Oper} {a : Act} (hw : Region.wanted o (yielded ops a.tmps) = true) (t r : TypeId) (x y : Operand) (ho : o.op = .binOp .eql t x y r) (xs ys : Array Value) (hx : a.eval x = .agg xs) (hy : a.eval y = .agg ys)
    (hm : P.eqGuardType P.depth t = false) (b : Bool) (h : ∀ u, (binOp .eql t (.agg xs) (.agg ys)).run P u = .ok (.bool b) u) : YieldsIf P ops S o (.bool b) a :=
  .inl ⟨hw, fun u _ => by
    unfold execOp
    simp only [ho, hx, hy, Sem.run_bind, run_eqGuard_agg u .eql t x y xs ys hm, Result.andThen_ok, h, Sem.run_pure]⟩
end Go.Proofs.YtnohonjjfjppoaaGreatDoor
