/-
  Texts that belong together, one behind the other.
-/
import Derived.Test.YtpelehhmdcjikaaGreatDoorFu07
import Derived.Deep.MidRow
import Derived.Test.YtpelehhmdcjikaaGreatDoorFu14
import Derived.Test.YtpelehhmdcjikaaGreatDoorFu02
import Derived.Test.YtpelehhmdcjikaaGreatDoorFu11
import Derived.Test.YtpelehhmdcjikaaGreatDoorFu08
import Derived.Laws.CopyRow
import Derived.Laws.ResultCell
import Derived.BigFrame
import Derived.Deep.RegionLaw
import Derived.OwnWalk
/-
  Layer 8: Before, Name, mode of the document's answers.
-/
namespace Go.Proofs.YtpelehhmdcjikaaGreatDoor
set_option maxRecDepth 20000
open Go.RowKit
set_option linter.unusedVariables false
set_option linter.unusedSimpArgs false
theorem infoItem : (Tryz.prog.info? 81).map (·.size) = some 22 := by kernel_rfl
/-- Two items in cells of their own. -/
def RestB (w : World) (i j : Itm) (u : World) : Prop :=
  u.heap[w.heap.size]? = some (.cells (cellsI i).toArray 81 (0, 0)) ∧ u.heap[w.heap.size + 1]? = some (.cells (cellsI j).toArray 81 (0, 0)) ∧ Below w.heap.size w u
theorem restB_keep {w u u' : World} {i j : Itm} (h : RestB w i j u) (b : Below u.heap.size u u') : RestB w i j u' :=
  ⟨(b.block _ (Array.getElem?_eq_some_iff.1 h.1).1).trans h.1, (b.block _ (Array.getElem?_eq_some_iff.1 h.2.1).1).trans h.2.1, h.2.2.trans (b.mono h.2.2.size)⟩
theorem row_range {w : World} {g : Nat} {i : Itm} {t : TypeId} {fr : Nat × Nat} (h : w.heap[g]? = some (.cells (cellsI i).toArray t fr)) : w.rangeAt g 0 (cellsI i) := row_cells h
end Go.Proofs.YtpelehhmdcjikaaGreatDoor

/-
  Layer 8, the program: where a byte stands first; word, place, Before.
-/
namespace Go.Proofs.YtpelehhmdcjikaaGreatDoor
set_option maxRecDepth 20000
open Go.RowKit
set_option linter.unusedVariables false
set_option linter.unusedSimpArgs false
/-- Where a byte stands first, and whether it does. -/
def seekI (s : List UInt8) (c : UInt8) : Nat × Bool := if s.findIdx (· == c) < s.length then (s.findIdx (· == c), true) else (0, false)
theorem seek_here (s : List UInt8) (c : UInt8) (i : Nat) (hi : i < s.length) (h : s.getD i 0 = c) (hn : ∀ j, j < i → s.getD j 0 ≠ c) : seekI s c = (i, true) := by
  have e : s.findIdx (· == c) = i := by
    rw [List.findIdx_eq hi]
    refine ⟨?_, fun j hj => ?_⟩
    · rw [List.getD_eq_getElem?_getD, List.getElem?_eq_getElem hi] at h
      simp only [Option.getD_some] at h
      rw [h]; simp
    · have := hn j hj
      rw [List.getD_eq_getElem?_getD, List.getElem?_eq_getElem (by omega)] at this
      simp only [Option.getD_some] at this
      exact beq_false_of_ne this
  unfold seekI
  rw [e, if_pos hi]
theorem seek_none (s : List UInt8) (c : UInt8) (hn : ∀ j, j < s.length → s.getD j 0 ≠ c) : seekI s c = (0, false) := by
  unfold seekI
  rw [if_neg]
  intro h
  have h2 := List.findIdx_getElem (p := (· == c)) (w := h)
  have := hn (s.findIdx (· == c)) h
  rw [List.getD_eq_getElem?_getD, List.getElem?_eq_getElem h] at this
  simp only [Option.getD_some] at this
  exact this (eq_of_beq h2)
theorem seek_any (s : List UInt8) (c : UInt8) : (seekI s c).2 = s.any (fun x => x == c) := by
  unfold seekI
  by_cases h : s.findIdx (· == c) < s.length
  · rw [if_pos h]
    have h2 : s.any (fun x => x == c) = true := by
      rw [List.any_eq_true]
      exact ⟨s[s.findIdx (· == c)], List.getElem_mem h, List.findIdx_getElem (p := (· == c)) (w := h)⟩
    rw [h2]
  · rw [if_neg h]
    have h2 : s.any (fun x => x == c) = false := by
      rw [List.any_eq_false]
      intro x hx hc
      exact h (List.findIdx_lt_length.2 ⟨x, hx, hc⟩)
    rw [h2]
/-- A rune that is no such byte. -/
theorem seek_go {l : List UInt8} {c : UInt8} (h7 : c.toNat < 128) {i k : Nat} {r : Int} (h : (r < 128 ∧ r = ((l.getD i 0).toNat : Int) ∧ k = 1) ∨ (128 ≤ r ∧ k ≤ 4 ∧ ∀ j, i ≤ j → j < i + k → 128 ≤ (l.getD j 0).toNat)) (hr : r ≠ (c.toNat : Int))
    (hall : ∀ j, j < i → l.getD j 0 ≠ c) : ∀ j, j < i + k → l.getD j 0 ≠ c := by
  intro j hj e
  by_cases hji : j < i
  · exact hall j hji e
  · rcases h with ⟨_, h, hk⟩ | ⟨_, _, h⟩
    · obtain rfl : j = i := by omega
      rw [e] at h
      exact hr h
    · have := h j (by omega) hj
      rw [e] at this
      omega
theorem seek_stop {l : List UInt8} {c : UInt8} (h7 : c.toNat < 128) {i k : Nat} {r : Int} (h : (r < 128 ∧ r = ((l.getD i 0).toNat : Int) ∧ k = 1) ∨ (128 ≤ r ∧ k ≤ 4 ∧ ∀ j, i ≤ j → j < i + k → 128 ≤ (l.getD j 0).toNat)) (hr : r = (c.toNat : Int)) : l.getD i 0 = c := by
  rcases h with ⟨_, h, _⟩ | ⟨h, _, _⟩
  · exact UInt8.toNat_inj.1 (by omega)
  · omega
set_option maxHeartbeats 4000000 in
theorem indexOf_is (c : UInt8) (h7 : c.toNat < 128) (l : List UInt8) (cc : Int) (hcc : cc = c.toNat) (w : World) (hn : l.length ≤ 1000000) :
    Calls Tryz.prog 98 #[.string ⟨l.toArray⟩, .int .i32 cc] w fun e w' => e = .returned (.tuple #[.int .i64 (seekI l c).1, .bool (seekI l c).2]) ∧ Below w.heap.size w w' := by
  have SH := Lib.hid (seek_here l c)
  have SN := Lib.hid (seek_none l c)
  have GO := Lib.hid (fun i k r h hr ha => @seek_go l c h7 i k r h hr ha)
  have ST := Lib.hid (fun i k r h hr => @seek_stop l c h7 i k r h hr)
  have HC := Lib.hid hcc
  clear h7 hcc
  obtain ⟨R, hR⟩ : ∃ R, seekI l c = R := ⟨_, rfl⟩
  rw [hR] at SH SN ⊢
  clear hR
  go_enter Tryz.func98, Tryz.ntmps98
  go_wp2_with fail
  go_loopw [6, 7] (fun _ _ wr => ∃ i : Nat, i ≤ l.length ∧ wr = w.iter ⟨l.toArray⟩ i ∧ (∀ j, j < i → l.getD j 0 ≠ c)) (fun _ _ wr => l.length - wr.iterPos w.heap.size)
  case atStart => exact ⟨0, Nat.zero_le _, rfl, fun j h => absurd h (Nat.not_lt_zero _)⟩
  case round =>
    obtain ⟨i, hi, rfl, hall⟩ := hrel
    have HALL := Lib.hid hall; clear hall
    by_cases hlt : i < l.length
    · have hnx := fun ty => run_next_any (P := Tryz.prog) w ⟨l.toArray⟩ i ty (by rw [size_toArray]; exact hlt)
      obtain ⟨r, k, hr, hk, hr0, hr1, hk1, hkl, hw⟩ := rune_int l i hlt
      rw [← hr, ← hk] at hnx
      have HW := Lib.hid hw
      clear hr hk hw
      by_cases c1 : r = cc
      · have f1 : (r == cc) = true := by simp [c1]
        have hs := SH.out i hlt (ST.out i k r HW.out (by rw [c1, HC.out])) HALL.out
        subst hs
        clear c1
        go_wp2
        go_ret2
        exact ⟨rfl, (Below.refl _ _).alloc (Nat.le_refl _) _⟩
      · have f1 : (r == cc) = false := by simp [c1]
        have nx := GO.out i k r HW.out (by rw [← HC.out]; exact c1) HALL.out
        have NX := Lib.hid nx
        clear c1 nx
        go_wp2
        go_roundw
        case rel => exact ⟨i + k, hkl, rfl, NX.out⟩
        case measure => simp; omega
    · obtain rfl : i = l.length := by omega
      have hnx := fun ty => run_next_end (P := Tryz.prog) w ⟨l.toArray⟩ l.length ty (by rw [size_toArray]; omega)
      have hs := SN.out HALL.out
      subst hs
      go_wp2
      go_ret2
      exact ⟨rfl, (Below.refl _ _).alloc (Nat.le_refl _) _⟩
/-- A mode's digits; none for what is no mode. -/
def wordI (m : Int) : List UInt8 := if 1 ≤ m ∧ m ≤ 4 then modeL m else []
theorem word_yes (m : Int) (h : 1 ≤ m ∧ m ≤ 4) : wordI m = modeL m := if_pos h
theorem tword_is (m : Int) (w : World) : Calls Tryz.prog 128 #[.int .i64 m] w fun e w' => e = .returned (.string ⟨(wordI m).toArray⟩) ∧ w = w' := by
  unfold wordI modeL
  by_cases h1 : m = 1
  · subst h1
    go_enter Tryz.func128, Tryz.ntmps128
    go_wp2
    go_ret
    exact ⟨rfl, rfl⟩
  · by_cases h2 : m = 2
    · subst h2
      go_enter Tryz.func128, Tryz.ntmps128
      go_wp2
      go_ret
      exact ⟨rfl, rfl⟩
    · by_cases h3 : m = 3
      · subst h3
        go_enter Tryz.func128, Tryz.ntmps128
        go_wp2
        go_ret
        exact ⟨rfl, rfl⟩
      · by_cases h4 : m = 4
        · subst h4
          go_enter Tryz.func128, Tryz.ntmps128
          go_wp2
          go_ret
          exact ⟨rfl, rfl⟩
        · have e : ¬ (1 ≤ m ∧ m ≤ 4) := by omega
          rw [if_neg e]
          have f1 : (m == 1) = false := beq_false_of_ne h1
          have f2 : (m == 2) = false := beq_false_of_ne h2
          have f3 : (m == 3) = false := beq_false_of_ne h3
          have f4 : (m == 4) = false := beq_false_of_ne h4
          clear h1 h2 h3 h4 e
          go_enter Tryz.func128, Tryz.ntmps128
          go_wp2
          go_ret
          exact ⟨rfl, rfl⟩
set_option maxHeartbeats 2000000 in
theorem place_is (i : Itm) (hn : i.name.length ≤ 1000000) (w : World) :
    Calls Tryz.prog 131 #[.agg (cellsI i).toArray] w fun e w' => e = .returned (.string ⟨(fullI i).toArray⟩) ∧ Below w.heap.size w w' := by
  have h0 := heap_alloc_new w (.cells (cellsI i).toArray 81)
  have q0 : (w.alloc (.cells (cellsI i).toArray 81)).cell? ⟨w.heap.size, 0, none⟩ = some (.int .i64 i.mode) := (Lib.cell_of_heap h0 0).trans rfl
  have q1 : (w.alloc (.cells (cellsI i).toArray 81)).cell? ⟨w.heap.size, 1, none⟩ = some (.string ⟨i.name.toArray⟩) := (Lib.cell_of_heap h0 1).trans rfl
  have B0 := Lib.hid ((Below.refl w.heap.size w).alloc (Nat.le_refl _) (.cells (cellsI i).toArray 81))
  have ad := fun w => add_lists (P := Tryz.prog) w i.name [47] (by simp; omega)
  unfold fullI
  clear h0
  obtain ⟨m, hm⟩ : ∃ m, i.mode = m := ⟨_, rfl⟩
  rw [hm] at q0 ⊢
  by_cases h4 : m = 4
  · rw [if_pos h4]
    subst h4
    clear hm
    generalize (⟨(i.name ++ [47]).toArray⟩ : ByteArray) = s1 at ad ⊢
    generalize (⟨i.name.toArray⟩ : ByteArray) = s0 at ad q1
    generalize (cellsI i).toArray = arr at *
    go_enter Tryz.func131, Tryz.ntmps131
    go_wp2
    go_ret
    exact ⟨rfl, B0.out⟩
  · rw [if_neg h4]
    have hf : (m == 4) = false := beq_false_of_ne h4
    clear hm ad h4
    generalize (⟨i.name.toArray⟩ : ByteArray) = s0 at *
    generalize (cellsI i).toArray = arr at *
    go_enter Tryz.func131, Tryz.ntmps131
    go_wp2
    go_ret
    exact ⟨rfl, B0.out⟩
set_option maxHeartbeats 8000000 in
theorem pBefore_is (i j : Itm) (hi : i.id.length = 20) (hj : j.id.length = 20) (ni : i.name.length ≤ 1000000) (nj : j.name.length ≤ 1000000) (w : World) :
    Calls Tryz.prog 100 #[.agg (cellsI i).toArray, .agg (cellsI j).toArray] w fun e w' => e = .returned (.bool (befI i j)) ∧ Below w.heap.size w w' := by
  have c1 := fun w => place_is i ni w
  have c2 := fun w => place_is j nj w
  have hr := less_mk (fullI i) (fullI j)
  rw [show befI i j = decide (fullI i < fullI j) from rfl]
  generalize decide (fullI i < fullI j) = r at hr ⊢
  generalize (⟨(fullI i).toArray⟩ : ByteArray) = s1 at c1 hr
  generalize (⟨(fullI j).toArray⟩ : ByteArray) = s2 at c2 hr
  have b1 := (Below.refl w.heap.size w).alloc (Nat.le_refl _) (.cells (cellsI i).toArray 81)
  have b2 := b1.alloc b1.size (.cells (cellsI j).toArray 81)
  have e1 : (w.alloc (.cells (cellsI i).toArray 81)).heap.size = w.heap.size + 1 := by simp
  have h1 := (((Below.refl (w.alloc (.cells (cellsI i).toArray 81)).heap.size (w.alloc (.cells (cellsI i).toArray 81))).alloc (Nat.le_refl _) (.cells (cellsI j).toArray 81)).block w.heap.size (by simp)).trans (heap_alloc_new w _)
  have h2 := heap_alloc_new (w.alloc (.cells (cellsI i).toArray 81)) (.cells (cellsI j).toArray 81)
  rw [e1] at h2
  have K0 := restB_keep (show RestB w i j ((w.alloc (.cells (cellsI i).toArray 81)).alloc (.cells (cellsI j).toArray 81)) from ⟨h1, h2, b2⟩) ((Below.refl _ _).drew)
  have D1 := Lib.hid (fun u (h : RestB w i j u) => ((c1 u).mono (fun e u' ⟨he, hb⟩ => ⟨he, restB_keep h hb⟩) : Calls Tryz.prog 131 #[.agg (cellsI i).toArray] u fun e u' => e = .returned (.string s1) ∧ RestB w i j u'))
  have D2 := Lib.hid (fun u (h : RestB w i j u) => ((c2 u).mono (fun e u' ⟨he, hb⟩ => ⟨he, restB_keep h hb⟩) : Calls Tryz.prog 131 #[.agg (cellsI j).toArray] u fun e u' => e = .returned (.string s2) ∧ RestB w i j u'))
  have li : (Tryz.prog.info? 81).map (·.size) = some (cellsI i).length := by rw [cellsI_len i hi]; exact infoItem
  have lj : (Tryz.prog.info? 81).map (·.size) = some (cellsI j).length := by rw [cellsI_len j hj]; exact infoItem
  have KK := Lib.hid K0
  have LI := Lib.hid li; have LJ := Lib.hid lj
  clear c1 c2 b1 b2 e1 h1 h2 hi hj ni nj K0 li lj
  go_enter Tryz.func100, Tryz.ntmps100
  go_wp2_with fail
  refine wp_region_held_drew (S := RestB w i j) (by kernel_rfl) KK.out (fun hHeld => ?_)
  refine wpAnyH_take (i := 0) (v := .agg (cellsI i).toArray) rfl (by kernel_rfl) (by kernel_rfl) (by kernel_rfl) (fun _ _ _ h => h) (yieldsIf_load_mid (by rfl) 81 (.tmp 2) rfl w.heap.size 0 rfl (cellsI i) _ (fun u h => row_range h.1) Tryz.underlying81 rfl LI.out) hHeld ?_
  refine wpAnyH_take (i := 2) (v := .agg (cellsI j).toArray) rfl (by kernel_rfl) (by kernel_rfl) (by kernel_rfl) (fun _ _ _ h => h) (yieldsIf_load_mid (by rfl) 81 (.tmp 3) rfl (w.heap.size + 1) 0 rfl (cellsI j) _ (fun u h => row_range h.2.1) Tryz.underlying81 rfl LJ.out) hHeld ?_
  refine wpAnyH_ready (rs := [1]) (by kernel_rfl) (by simp) ?_
  refine AllReadyH.cons rfl (fun K hK => ?_) AllReadyH.nil
  go_simp
  refine (D1.out _ hHeld).mono ?_
  rintro e u1 ⟨rfl, hH1⟩
  refine hK.out _ _ hH1 (fun _ => ?_)
  clear hK K hHeld
  refine wpAnyH_ready (rs := [3]) (by kernel_rfl) (by simp) ?_
  refine AllReadyH.cons rfl (fun K hK => ?_) AllReadyH.nil
  go_simp
  refine (D2.out _ hH1).mono ?_
  rintro e u2 ⟨rfl, hH2⟩
  refine hK.out _ _ hH2 (fun _ => ?_)
  clear hK K
  refine wpAnyH_take (i := 4) (v := .bool r) rfl (by kernel_rfl) (by kernel_rfl) (by kernel_rfl) (fun _ _ _ h => h) (Or.inl ⟨by rfl, fun w _ => by go_simp⟩) hH2 ?_
  refine wpAnyH_take (i := 5) (v := .bool r) rfl (by kernel_rfl) (by kernel_rfl) (by kernel_rfl) (fun _ _ _ h => h) (Or.inl ⟨by rfl, fun w _ => by go_simp⟩) hH2 ?_
  refine wpAnyH_done (by kernel_rfl) ?_ _
  have H2 := Lib.hid hH2
  clear hH1 hH2
  go_wp2
  go_ret
  exact ⟨rfl, H2.out.2.2⟩
end Go.Proofs.YtpelehhmdcjikaaGreatDoor

/-
  Layer 8, the program: takeMode.
-/
namespace Go.Proofs.YtpelehhmdcjikaaGreatDoor
set_option maxRecDepth 20000
open Go.RowKit
set_option linter.unusedVariables false
set_option linter.unusedSimpArgs false
/-- The mode whose digits, and a blank, begin bytes. -/
def modeAt (b : List UInt8) : Option Int := ([1, 2, 3, 4] : List Int).find? (fun m => (modeL m ++ [32]).isPrefixOf b)
theorem modeAt_first {b : List UInt8} {k : Int} (h1 : 1 ≤ k) (h4 : k ≤ 4) (hn : ∀ m : Int, 1 ≤ m → m < k → (modeL m ++ [32]).isPrefixOf b = false) (h : (modeL k ++ [32]).isPrefixOf b = true) : modeAt b = some k := by
  have h0 : k = 1 ∨ k = 2 ∨ k = 3 ∨ k = 4 := by omega
  unfold modeAt
  rcases h0 with rfl | rfl | rfl | rfl
  · simp only [List.find?_cons, h]
  · have a := hn 1 (by omega) (by omega)
    simp only [List.find?_cons, h, a]
  · have a := hn 1 (by omega) (by omega)
    have b := hn 2 (by omega) (by omega)
    simp only [List.find?_cons, h, a, b]
  · have a := hn 1 (by omega) (by omega)
    have b := hn 2 (by omega) (by omega)
    have c := hn 3 (by omega) (by omega)
    simp only [List.find?_cons, h, a, b, c]
/-- What takeMode answers. -/
def modeR (b : List UInt8) : Int × Int := match modeAt b with
  | none => (0, 0)
  | some m => (m, (((modeL m).length + 1 : Nat) : Int))
theorem modeR_first {b : List UInt8} {k : Int} (h1 : 1 ≤ k) (h4 : k ≤ 4) (hn : ∀ m : Int, 1 ≤ m → m < k → (modeL m ++ [32]).isPrefixOf b = false) (h : (modeL k ++ [32]).isPrefixOf b = true) : modeR b = (k, (((wordI k ++ [32]).length : Nat) : Int)) := by
  unfold modeR
  rw [modeAt_first h1 h4 hn h, word_yes k ⟨h1, h4⟩]
  simp
theorem modeR_none {b : List UInt8} (hn : ∀ m : Int, 1 ≤ m → m < 5 → (modeL m ++ [32]).isPrefixOf b = false) : modeR b = (0, 0) := by
  unfold modeR modeAt
  rw [find_none (fun m h1 h4 => hn m h1 (by omega))]
set_option maxHeartbeats 4000000 in
theorem takeMode_is (l : List UInt8) (w : World) (hn : l.length ≤ 1000000) :
    Calls Tryz.prog 97 #[.string ⟨l.toArray⟩] w fun e w' => e = .returned (.tuple #[.int .i64 (modeR l).1, .int .i64 (modeR l).2]) ∧ w = w' := by
  have cp0 : ∀ (p : List UInt8) (w : World), Calls Tryz.prog 129 #[.string ⟨l.toArray⟩, .string ⟨p.toArray⟩] w fun e w' => e = .returned (.bool (p.isPrefixOf l)) ∧ w' = w := fun p w => Tryz.strings_HasPrefix ⟨l.toArray⟩ ⟨p.toArray⟩ w
  have CP := Lib.hid cp0
  clear cp0
  have FI := Lib.hid (fun k h1 h4 hn h => @modeR_first l k h1 h4 hn h)
  have NO := Lib.hid (fun hn => @modeR_none l hn)
  obtain ⟨R, hR⟩ : ∃ R, modeR l = R := ⟨_, rfl⟩
  rw [hR] at FI NO ⊢
  clear hR
  obtain ⟨s, hs⟩ : ∃ s : ByteArray, ⟨l.toArray⟩ = s := ⟨_, rfl⟩
  rw [hs] at CP ⊢
  clear hs
  go_enter Tryz.func97, Tryz.ntmps97
  go_wp2_with fail
  go_loopw [4] (fun v4 wr => ∃ k : Nat, 1 ≤ k ∧ k ≤ 5 ∧ v4 = .int .i64 k ∧ (∀ m : Int, 1 ≤ m → m < k → (modeL m ++ [32]).isPrefixOf l = false) ∧ wr = w) (fun v4 _ => 5 - (intOf v4).toNat)
  case atStart => exact ⟨1, Nat.le_refl _, by omega, rfl, fun m h1 h2 => absurd h2 (by omega), rfl⟩
  case round =>
    obtain ⟨k, hk1, hk5, rfl, hno, rfl⟩ := hrel
    have HNO := Lib.hid hno
    clear hno
    by_cases hlt : k ≤ 4
    · have cW := fun w => tword_is (k : Int) w
      have hw := word_yes (k : Int) ⟨by omega, by omega⟩
      have cp := fun w => CP.out (wordI (k : Int) ++ [32]) w
      have fi := FI.out (k : Int) (by omega) (by omega) HNO.out
      have ad := fun w => add_lists (P := Tryz.prog) w (wordI (k : Int)) [32] (by
        have := modeL_len (k : Int)
        rw [hw]; simp; omega)
      have sz := size_toArray (wordI (k : Int) ++ [32])
      rw [← hw] at fi
      obtain ⟨r, hr⟩ : ∃ r, (wordI (k : Int) ++ [32]).isPrefixOf l = r := ⟨_, rfl⟩
      rw [hr] at cp fi
      have HRR := Lib.hid (show (modeL (k : Int) ++ [32]).isPrefixOf l = r by rw [← hw]; exact hr)
      obtain ⟨n, hn2⟩ : ∃ n, (wordI (k : Int) ++ [32]).length = n := ⟨_, rfl⟩
      rw [hn2] at sz fi
      generalize (⟨(wordI (k : Int) ++ [32]).toArray⟩ : ByteArray) = s2 at ad cp sz
      generalize (⟨(wordI (k : Int)).toArray⟩ : ByteArray) = s1 at ad cW
      clear hw hr hn2
      cases r with
      | false =>
        clear fi
        go_wp2_with fail
        refine (cW _).mono ?_
        rintro e w1 ⟨rfl, rfl⟩
        go_wp2_with fail
        refine (cp _).mono ?_
        rintro e w1 ⟨rfl, rfl⟩
        go_wp2
        go_roundw
        case rel =>
          refine ⟨k + 1, by omega, by omega, by go_num, fun m h1 h2 => ?_, by trivial⟩
          by_cases h : m < (k : Int)
          · exact HNO.out m h1 h
          · obtain rfl : m = (k : Int) := by omega
            exact HRR.out
        case measure => simp [intOf]; omega
      | true =>
        have fi2 := fi rfl
        subst fi2
        clear fi
        go_wp2_with fail
        refine (cW _).mono ?_
        rintro e w1 ⟨rfl, rfl⟩
        go_wp2_with fail
        refine (cp _).mono ?_
        rintro e w1 ⟨rfl, rfl⟩
        go_wp2
        go_ret2
        exact ⟨rfl, rfl⟩
    · have hk : k = 5 := by omega
      subst hk
      have no := NO.out HNO.out
      subst no
      go_wp2
      go_ret2
      exact ⟨rfl, rfl⟩
end Go.Proofs.YtpelehhmdcjikaaGreatDoor

/-
  Layer 8: items in blocks of their own: the one that tells nothing, literals, an id copied in, results.
-/
namespace Go.Proofs.YtpelehhmdcjikaaGreatDoor
set_option maxRecDepth 20000
open Go.RowKit
set_option linter.unusedVariables false
set_option linter.unusedSimpArgs false
/-- The item that tells nothing. -/
def zItm : Itm := ⟨0, [], zeroId⟩
/-- An item's cells, as one array. -/
def arrI (i : Itm) : Array Value := (cellsI i).toArray
theorem arrI_size (i : Itm) (h : i.id.length = 20) : (arrI i).size = 22 := by unfold arrI; rw [List.size_toArray, cellsI_len i h]
theorem arrI_one (i : Itm) : (arrI i).all (·.oneCell') = true := cellsI_one i
theorem zItem : (Tryz.prog.info? 81).map (fun i => (i.zero, i.size)) = some (some (.agg (arrI zItm)), 22) := by kernel_rfl
theorem zItem_any : ∃ z : Array Value, z = arrI zItm ∧ z.size = 22 ∧ (∀ w, (zeroValue 81).run Tryz.prog w = .ok (.agg z) w) ∧ Tryz.prog.built 81 [] = some z ∧ z.all (·.oneCell') = true :=
  ⟨arrI zItm, rfl, by kernel_rfl, zero_arr zItem, by kernel_rfl, arrI_one _⟩
theorem built_item (m : Int) (s : List UInt8) : Tryz.prog.built 81 [(0, .int .i64 m), (1, .string ⟨s.toArray⟩)] = some (arrI ⟨m, s, zeroId⟩) := by kernel_rfl
theorem info_arr (a : Array Value) (h : a.size = 22) : (Tryz.prog.info? 81).map (·.size) = some a.size := by rw [h]; exact infoItem
theorem slice20_all (u : World) (g k : Nat) : (Instr.sliceAt 24 (.pointer (some ⟨g, k, none⟩)) none none none).run Tryz.prog u = .ok (.slice (some ⟨g, k, none⟩) 20 20) u := by
  have ea : Tryz.prog.arrayLen 24 = 20 := by kernel_rfl
  have ee : Tryz.prog.elem 24 = 5 := by kernel_rfl
  rw [run_sliceAt_array_all u 24 ⟨g, k, none⟩ (by rw [ea, ee]; exact Tryz.underlying24), ea, ee, Tryz.sizeOf5]
  simp [Result.andThen, slicedAt, Addr.add]
theorem bc_one (l : List UInt8) : ∀ v ∈ Lib.byteCells l, v.oneCell' = true := by
  intro v hv
  simp only [Lib.byteCells, List.mem_map] at hv
  obtain ⟨b, _, rfl⟩ := hv
  rfl
/-- 'copy(x.Id[:], s)'. -/
theorem copy_item (w : World) (g : Nat) (m : Int) (nm y : List UInt8) (cs : Array Value) (hcs : cs = arrI ⟨m, nm, zeroId⟩) (hg : w.heap[g]? = some (.cells cs 81 (0, 0))) (hy : 20 ≤ y.length) :
    (Builtin.copy_ #[32, 9] 3 #[.slice (some ⟨g, 2, none⟩) 20 20, .string ⟨y.toArray⟩]).run Tryz.prog w = .ok (.int .i64 20) (w.setRow g (arrI ⟨m, nm, y.take 20⟩)) := by
  have hl : (Lib.byteCells (y.take 20)).length = 20 := by simp [Lib.byteCells]; omega
  have hcz : cs.size = 22 := by rw [hcs]; exact arrI_size _ (by simp [zeroId])
  have hst := run_storeCells_at Tryz.prog g 2 81 (Lib.byteCells (y.take 20)) 0 cs w hg (by rw [hl, hcz]; omega) (bc_one _)
  have hmin : Nat.min y.length 20 = 20 := Nat.min_eq_right hy
  have hu : Tryz.prog.underlying 32 = some (.slice 5) := Tryz.underlying32
  have e1 : (List.take 20 (List.map (fun b : UInt8 => Value.int IntKind.u8 (b.toNat : Int)) y)) = Lib.byteCells (y.take 20) := by simp [Lib.byteCells]
  have e2 : (cs.toList.take 2 ++ Lib.byteCells (y.take 20) ++ cs.toList.drop 22).toArray = arrI ⟨m, nm, y.take 20⟩ := by
    rw [List.drop_eq_nil_of_le (by rw [Array.length_toList, hcz]; omega), List.append_nil, hcs]
    rfl
  rw [hl] at hst
  simp only [Nat.add_zero] at hst
  rw [show 2 + 20 = 22 from rfl, e2] at hst
  simp [Builtin.copy_, run_underlying hu, Builtin.lenOf, Builtin.firstCells, Tryz.sizeOf5, Result.andThen, size_toArray, hmin]
  rw [e1, hst]
  rfl
/-- What a function hands back: an item out of its block, and two values. -/
theorem results_item3 {fn : Func} (h : fn.results = #[.cell 2 81, .tmp 3, .tmp 4]) (tmps : Array Value) (w : World) (g : Nat) (cs : Array Value) (fr : Nat × Nat) (x y : Value)
    (hp : tmps.getD 2 undef = .pointer (some ⟨g, 0, none⟩)) (hx : tmps.getD 3 undef = x) (hy : tmps.getD 4 undef = y) (hg : w.heap[g]? = some (.cells cs 81 fr)) (hn : cs.size = 22) :
    (results fn tmps).run Tryz.prog w = .ok (.tuple #[.agg cs, x, y]) w := by
  have hl := run_loadVar_row w g 81 81 cs fr _ hg Tryz.underlying81 rfl (info_arr cs hn)
  have hp' : tmps[2]?.getD undef = .pointer (some ⟨g, 0, none⟩) := by simpa using hp
  have hx' : tmps[3]?.getD undef = x := by simpa using hx
  have hy' : tmps[4]?.getD undef = y := by simpa using hy
  simp [results, h, hp', hx', hy', asAddr, hl, Result.andThen]
/-- A load of many cells out of the middle of a block, under a guard that holds. -/
theorem wpList_load_midW {ops : Array Oper} {rest : List Oper} {op : Oper} {a : Act} {w : World} {Q : Exit → Act → World → Prop} (ty : TypeId) (x : Operand) (ho : op.op = .load ty x) (hw : Region.wanted op (yielded ops a.tmps) = true)
    (b o : Nat) (hx : a.eval x = .pointer (some ⟨b, o, none⟩)) (cs : List Value) (d : TypeDesc) (hc : w.rangeAt b o cs)
    (hu : Tryz.prog.underlying ty = some d) (hd : d.isRow = true) (hi : (Tryz.prog.info? ty).map (·.size) = some cs.length)
    (h : wpList Tryz.prog ops Q rest (a.put op.dst (.agg cs.toArray)) w) : wpList Tryz.prog ops Q (op :: rest) a w :=
  Go.BigFrame.wpList_want hw fun _ hK => wp_load_mid ty x ho b o hx cs d hc hu hd hi (hK _ _ h)
end Go.Proofs.YtpelehhmdcjikaaGreatDoor

/-
  A region that draws its order, cut off from what follows: what holds behind it is said once, however many orders there are.
-/
namespace Go.Proofs.YtpelehhmdcjikaaGreatDoor
open Go.RowKit
/-- Behind a region that ends. -/
def OnlyNormal (R : Act → World → Prop) : Exit → Act → World → Prop
  | .normal, a, w => R a w
  | _, _, _ => False
theorem region_cut {P : Program} {id : Nat} {ops : Array Oper} {b : Bool} {Q : Exit → Act → World → Prop} {a : Act} {w : World} (R : Act → Act → World → Prop)
    (h : (Code.region id ops b).wp P (OnlyNormal (R a)) a w) (h2 : ∀ a' u, R a a' u → Q .normal a' u) : (Code.region id ops b).wp P Q a w :=
  Code.wp_mono (fun e a' u hr => by cases e <;> first | exact h2 _ _ hr | exact (hr : False).elim) h
end Go.Proofs.YtpelehhmdcjikaaGreatDoor

/-
  Layer 8, the program: takeItem.
-/
namespace Go.Proofs.YtpelehhmdcjikaaGreatDoor
set_option maxRecDepth 20000
open Go.RowKit
set_option linter.unusedVariables false
set_option linter.unusedSimpArgs false
/-- What takeItem answers. -/
def itemR (b : List UInt8) : Value := match takeI b with
  | none => .tuple #[.agg (arrI zItm), .int .i64 0, .bool false]
  | some (i, r) => .tuple #[.agg (arrI i), .int .i64 ((b.length - r.length : Nat) : Int), .bool true]
theorem takeI_mode (b : List UInt8) : takeI b = match modeAt b with
  | none => none
  | some m =>
    if (b.drop ((modeL m).length + 1)).length < (b.drop ((modeL m).length + 1)).findIdx (· == 0) + 21 then none
    else some (⟨m, (b.drop ((modeL m).length + 1)).take ((b.drop ((modeL m).length + 1)).findIdx (· == 0)), ((b.drop ((modeL m).length + 1)).drop ((b.drop ((modeL m).length + 1)).findIdx (· == 0) + 1)).take 20⟩,
      (b.drop ((modeL m).length + 1)).drop ((b.drop ((modeL m).length + 1)).findIdx (· == 0) + 21)) := rfl
theorem item_none {b : List UInt8} (h : modeAt b = none) : itemR b = .tuple #[.agg (arrI zItm), .int .i64 0, .bool false] := by
  unfold itemR
  rw [takeI_mode, h]
theorem item_short {b : List UInt8} {m : Int} {k : Nat} (h : modeAt b = some m) (hk : (modeL m).length + 1 = k) (hl : (b.drop k).length < (b.drop k).findIdx (· == 0) + 21) : itemR b = .tuple #[.agg (arrI zItm), .int .i64 0, .bool false] := by
  unfold itemR
  rw [takeI_mode, h]
  simp only
  rw [hk, if_pos hl]
theorem item_whole {b : List UInt8} {m : Int} {k e : Nat} (h : modeAt b = some m) (hk : (modeL m).length + 1 = k) (he : (b.drop k).findIdx (· == 0) = e) (hl : ¬ b.length < k + e + 21) :
    itemR b = .tuple #[.agg (arrI ⟨m, (b.drop k).take e, (b.drop (k + e + 1)).take 20⟩), .int .i64 ((k + e + 1 + 20 : Nat) : Int), .bool true] := by
  unfold itemR
  rw [takeI_mode, h]
  simp only
  rw [hk, he, if_neg (by rw [List.length_drop]; omega)]
  simp only [List.drop_drop, List.length_drop]
  rw [show k + (e + 1) = k + e + 1 by omega, show b.length - (b.length - (k + (e + 21))) = k + e + 1 + 20 by omega]
theorem mode_le {b : List UInt8} {m : Int} (h : modeAt b = some m) : (1 ≤ m ∧ m ≤ 4) ∧ (modeL m).length + 1 ≤ b.length := by
  obtain ⟨h1, h2⟩ := find_some h
  have h3 := congrArg List.length h2
  refine ⟨h1, ?_⟩
  rw [List.length_append, List.length_cons] at h3
  omega
set_option maxHeartbeats 8000000 in
theorem takeItem_is (l : List UInt8) (w : World) (hn : l.length ≤ 1000000) :
    Calls Tryz.prog 72 #[.string ⟨l.toArray⟩] w fun e w' => e = .returned (itemR l) ∧ Below w.heap.size w w' := by
  obtain ⟨z, hz, hzs, hzv, hzb, hz1⟩ := zItem_any
  have HZB := Lib.hid hzb; have HZ1 := Lib.hid hz1; have HZS := Lib.hid hzs; have HZ := Lib.hid hz
  have hmo := fun w => takeMode_is l w hn
  have hsz := size_toArray l
  obtain ⟨R, hR⟩ : ∃ R, itemR l = R := ⟨_, rfl⟩
  have HR := Lib.hid hR
  rw [hR]
  have EX := Lib.hid (fun a b => ext_list l a b)
  obtain ⟨s, hs⟩ : ∃ s : ByteArray, ⟨l.toArray⟩ = s := ⟨_, rfl⟩
  rw [hs] at hmo hsz EX ⊢
  have b0 := (Below.refl w.heap.size w).alloc (Nat.le_refl _) (.cells z 81)
  have g0 := heap_alloc_new w (.cells z 81)
  have s0 : (w.alloc (.cells z 81)).heap.size = w.heap.size + 1 := by simp
  have HB0 := Lib.hid b0; have HG0 := Lib.hid g0; have HS0 := Lib.hid s0
  clear hs hzb hz1 hzs hR hz b0 g0 s0
  cases hm : modeAt l with
  | none =>
    have hr : R = .tuple #[.agg z, .int .i64 0, .bool false] := by rw [← HR.out, item_none hm, HZ.out]
    have HRR := Lib.hid hr
    have e0 : modeR l = (0, 0) := by unfold modeR; rw [hm]
    rw [e0] at hmo
    have x0 : s.extract 0 l.length = ⟨l.toArray⟩ := by rw [EX.out]; simp
    have cI := fun w => indexOf_is 0 (by decide) l 0 rfl w hn
    generalize (⟨l.toArray⟩ : ByteArray) = sx at x0 cI
    generalize (seekI l 0).1 = q1 at cI
    generalize (seekI l 0).2 = q2 at cI
    clear hr e0 hm
    go_enter Tryz.func72, Tryz.ntmps72
    go_wp2_with fail
    refine (hmo _).mono ?_
    rintro e w1 ⟨rfl, rfl⟩
    go_wp2_with fail
    refine (cI _).mono ?_
    rintro e w1 ⟨rfl, b1⟩
    have g1 := (b1.block w.heap.size (by rw [HS0.out]; omega)).trans HG0.out
    have bw := HB0.out.trans (b1.mono HB0.out.size)
    have HG1 := Lib.hid g1; have HBW := Lib.hid bw
    clear b1 g1 bw cI
    go_wp2_with (first
      | (with_reducible refine wpList_build_as rfl 81 _ rfl z HZB.out ?_)
      | (with_reducible refine wpList_store_row rfl 81 (.tmp 2) (.tmp 28) rfl w.heap.size z rfl rfl 81 z HG1.out (info_arr z HZS.out) rfl HZ1.out ?_)
      | fail)
    refine bodyPost_ret (results_item3 Tryz.results72 _ _ w.heap.size z (0, 0) _ _ rfl rfl rfl (setRow_heap _ w.heap.size z z _ (0, 0) HG1.out) HZS.out) rfl ⟨by rw [HRR.out]; rfl, below_setRow HBW.out (Nat.le_refl _) _⟩
  | some m =>
    obtain ⟨hm1, hm2⟩ := mode_le hm
    obtain ⟨k, hk⟩ : ∃ k, (modeL m).length + 1 = k := ⟨_, rfl⟩
    rw [hk] at hm2
    have e0 : modeR l = (m, (k : Int)) := by unfold modeR; rw [hm]; simp only; rw [hk]
    rw [e0] at hmo
    have hk5 : 6 ≤ k := by have := modeL_len m; omega
    have x0 : s.extract k l.length = ⟨(l.drop k).toArray⟩ := by rw [EX.out, List.take_of_length_le (by rw [List.length_drop]; omega)]
    have cI := fun w => indexOf_is 0 (by decide) (l.drop k) 0 rfl w (by rw [List.length_drop]; omega)
    have k0 : ((k : Int) == 0) = false := beq_false_of_ne (by omega)
    have j1 : (0 : Int) ≤ (k : Int) := by omega
    have j2 : (k : Int) ≤ (l.length : Int) := by omega
    have j3 : (k : Int) ≤ (s.size : Int) := by omega
    by_cases hf : (l.drop k).findIdx (· == 0) < (l.drop k).length
    · have e1 : seekI (l.drop k) 0 = ((l.drop k).findIdx (· == 0), true) := by unfold seekI; rw [if_pos hf]
      rw [e1] at cI
      obtain ⟨e, he⟩ : ∃ e, (l.drop k).findIdx (· == 0) = e := ⟨_, rfl⟩
      rw [he] at cI hf
      have hke : k + e < l.length := by rw [List.length_drop] at hf; omega
      generalize (⟨(l.drop k).toArray⟩ : ByteArray) = sx at x0 cI
      by_cases hl : l.length < k + e + 21
      · have hr : R = .tuple #[.agg z, .int .i64 0, .bool false] := by rw [← HR.out, item_short hm hk (by rw [he, List.length_drop]; omega), HZ.out]
        have HRR := Lib.hid hr
        clear hr e0 e1 hm hk he hf
        go_enter Tryz.func72, Tryz.ntmps72
        go_wp2_with fail
        refine (hmo _).mono ?_
        rintro e w1 ⟨rfl, rfl⟩
        go_wp2_with fail
        refine (cI _).mono ?_
        rintro e w1 ⟨rfl, b1⟩
        have g1 := (b1.block w.heap.size (by rw [HS0.out]; omega)).trans HG0.out
        have bw := HB0.out.trans (b1.mono HB0.out.size)
        have HG1 := Lib.hid g1; have HBW := Lib.hid bw
        clear b1 g1 bw cI
        obtain ⟨nm, hnm⟩ : ∃ nm, (l.drop k).take e = nm := ⟨_, rfl⟩
        have x1 : s.extract k (k + e) = ⟨nm.toArray⟩ := by rw [EX.out, show k + e - k = e by omega, hnm]
        obtain ⟨sn, hsn⟩ : ∃ sn : ByteArray, ⟨nm.toArray⟩ = sn := ⟨_, rfl⟩
        have bi := built_item m nm
        rw [hsn] at bi x1
        obtain ⟨c1, hc1⟩ : ∃ c1, arrI ⟨m, nm, zeroId⟩ = c1 := ⟨_, rfl⟩
        have HC1S := Lib.hid (show c1.size = 22 by rw [← hc1]; exact arrI_size _ (by simp [zeroId]))
        have HC11 := Lib.hid (show c1.all (·.oneCell') = true by rw [← hc1]; exact arrI_one _)
        rw [hc1] at bi
        have HBI := Lib.hid bi
        have HC1 := Lib.hid hc1
        have hnm2 := Lib.hid hnm
        clear bi hc1 hnm
        have lt1 : w.heap.size < w1.heap.size := lt_of_heap HG1.out
        have b4 := below_setRow (B := w1.heap.size) (g := w1.heap.size) ((Below.refl w1.heap.size w1).alloc (Nat.le_refl _) (.cells z 81)) (Nat.le_refl _) c1
        have g4 := (b4.block _ lt1).trans HG1.out
        have h4 := setRow_heap (w1.alloc (.cells z 81)) w1.heap.size z c1 81 (0, 0) (heap_alloc_new w1 _)
        have HG4 := Lib.hid g4; have HH4 := Lib.hid h4
        have HB4 := Lib.hid (HBW.out.trans (b4.mono HBW.out.size))
        have LT1 := Lib.hid lt1
        clear b4 g4 h4 lt1
        have j4 : (k : Int) + (e : Int) ≤ (l.length : Int) := by omega
        have j5 : (k : Int) ≤ (k : Int) + (e : Int) := by omega
        have j6 : (l.length : Int) - ((k : Int) + ((e : Int) + 1)) < 20 := by omega
        go_wp2_with (first
          | (with_reducible refine wpList_build_as rfl 81 _ rfl z HZB.out ?_)
          | (with_reducible refine wpList_build_as rfl 81 _ rfl c1 ?bi1 ?_)
          | (with_reducible refine wpList_store_row rfl 81 (.tmp 9) (.tmp 36) rfl w1.heap.size c1 rfl rfl 81 z (heap_alloc_new w1 _) (info_arr c1 HC1S.out) (HZS.out.trans HC1S.out.symm) HC11.out ?_)
          | (with_reducible refine wpList_store_row rfl 81 (.tmp 2) (.tmp 46) rfl w.heap.size z rfl rfl 81 z HG4.out (info_arr z HZS.out) rfl HZ1.out ?_)
          | fail)
        case bi1 => exact HBI.out
        refine bodyPost_ret (results_item3 Tryz.results72 _ _ w.heap.size z (0, 0) _ _ rfl rfl rfl (setRow_heap _ w.heap.size z z _ (0, 0) HG4.out) HZS.out) rfl ⟨by rw [HRR.out]; rfl, below_setRow HB4.out (Nat.le_refl _) _⟩
      · have hr : R = .tuple #[.agg (arrI ⟨m, (l.drop k).take e, (l.drop (k + e + 1)).take 20⟩), .int .i64 ((k + e + 1 + 20 : Nat) : Int), .bool true] := by rw [← HR.out, item_whole hm hk he hl]
        have HRR := Lib.hid hr
        clear hr e0 e1 hm hk he hf
        go_enter Tryz.func72, Tryz.ntmps72
        go_wp2_with fail
        refine (hmo _).mono ?_
        rintro e w1 ⟨rfl, rfl⟩
        go_wp2_with fail
        refine (cI _).mono ?_
        rintro e w1 ⟨rfl, b1⟩
        have g1 := (b1.block w.heap.size (by rw [HS0.out]; omega)).trans HG0.out
        have bw := HB0.out.trans (b1.mono HB0.out.size)
        have HG1 := Lib.hid g1; have HBW := Lib.hid bw
        clear b1 g1 bw cI
        obtain ⟨nm, hnm⟩ : ∃ nm, (l.drop k).take e = nm := ⟨_, rfl⟩
        have x1 : s.extract k (k + e) = ⟨nm.toArray⟩ := by rw [EX.out, show k + e - k = e by omega, hnm]
        obtain ⟨sn, hsn⟩ : ∃ sn : ByteArray, ⟨nm.toArray⟩ = sn := ⟨_, rfl⟩
        have bi := built_item m nm
        rw [hsn] at bi x1
        obtain ⟨c1, hc1⟩ : ∃ c1, arrI ⟨m, nm, zeroId⟩ = c1 := ⟨_, rfl⟩
        have HC1S := Lib.hid (show c1.size = 22 by rw [← hc1]; exact arrI_size _ (by simp [zeroId]))
        have HC11 := Lib.hid (show c1.all (·.oneCell') = true by rw [← hc1]; exact arrI_one _)
        rw [hc1] at bi
        have HBI := Lib.hid bi
        have HC1 := Lib.hid hc1
        have hnm2 := Lib.hid hnm
        clear bi hc1 hnm
        have lt1 : w.heap.size < w1.heap.size := lt_of_heap HG1.out
        have b4 := below_setRow (B := w1.heap.size) (g := w1.heap.size) ((Below.refl w1.heap.size w1).alloc (Nat.le_refl _) (.cells z 81)) (Nat.le_refl _) c1
        have g4 := (b4.block _ lt1).trans HG1.out
        have h4 := setRow_heap (w1.alloc (.cells z 81)) w1.heap.size z c1 81 (0, 0) (heap_alloc_new w1 _)
        have HG4 := Lib.hid g4; have HH4 := Lib.hid h4
        have HB4 := Lib.hid (HBW.out.trans (b4.mono HBW.out.size))
        have LT1 := Lib.hid lt1
        clear b4 g4 h4 lt1
        have j4 : (k : Int) + (e : Int) ≤ (l.length : Int) := by omega
        have j5 : (k : Int) ≤ (k : Int) + (e : Int) := by omega
        obtain ⟨y, hy⟩ : ∃ y, l.drop (k + e + 1) = y := ⟨_, rfl⟩
        have hy20 : 20 ≤ y.length := by rw [← hy, List.length_drop]; omega
        have x2 : s.extract (k + (e + 1)) l.length = ⟨y.toArray⟩ := by rw [EX.out, List.take_of_length_le (by rw [List.length_drop]; omega), ← hy]; rfl
        obtain ⟨W4, hW4⟩ : ∃ W4, (w1.alloc (.cells z 81)).setRow w1.heap.size c1 = W4 := ⟨_, rfl⟩
        rw [hW4] at HG4 HH4 HB4
        have cp := copy_item W4.drew w1.heap.size m nm y c1 HC1.out.symm HH4.out hy20
        obtain ⟨c2, hc2⟩ : ∃ c2, arrI ⟨m, nm, y.take 20⟩ = c2 := ⟨_, rfl⟩
        have HC2S := Lib.hid (show c2.size = 22 by rw [← hc2]; exact arrI_size _ (by simp; omega))
        have HC21 := Lib.hid (show c2.all (·.oneCell') = true by rw [← hc2]; exact arrI_one _)
        have HRS := Lib.hid (show R = .tuple #[.agg c2, .int .i64 ((k : Int) + ((e : Int) + 1) + 20), .bool true] by
          rw [HRR.out, ← hc2, ← hnm2.out, ← hy, show ((k + e + 1 + 20 : Nat) : Int) = (k : Int) + ((e : Int) + 1) + 20 by omega])
        rw [hc2] at cp
        obtain ⟨sy, hsy⟩ : ∃ sy : ByteArray, ⟨y.toArray⟩ = sy := ⟨_, rfl⟩
        rw [hsy] at cp x2
        have sl20 := fun u => slice20_all u w1.heap.size 2
        have j7 : ¬ ((l.length : Int) - ((k : Int) + ((e : Int) + 1)) < 20) := by omega
        have j8 : (k : Int) + ((e : Int) + 1) ≤ (l.length : Int) := by omega
        clear hc2 hy hsy
        go_wp2_with (first
          | (with_reducible refine wpList_build_as rfl 81 _ rfl c1 ?bi2 ?_)
          | (with_reducible refine wpList_store_row rfl 81 (.tmp 9) (.tmp 36) rfl w1.heap.size c1 rfl rfl 81 z (heap_alloc_new w1 _) (info_arr c1 HC1S.out) (HZS.out.trans HC1S.out.symm) HC11.out ?_)
          | fail)
        case bi2 => exact HBI.out
        clear hW4
        have HG5 := Lib.hid (show (W4.drew.setRow w1.heap.size c2).heap[w.heap.size]? = some (.cells z 81 (0, 0)) by
          rw [setRow_other _ _ _ _ (Nat.ne_of_lt LT1.out)]; exact HG4.out)
        have HH5 := Lib.hid (show (W4.drew.setRow w1.heap.size c2).heap[w1.heap.size]? = some (.cells c2 81 (0, 0)) from setRow_heap _ _ _ _ _ _ HH4.out)
        have HB5 := Lib.hid (below_setRow (g := w1.heap.size) HB4.out.drew (Nat.le_of_lt LT1.out) c2)
        go_region
        go_wp2_with (first
          | (with_reducible refine wpList_load_row rfl 81 _ rfl w1.heap.size rfl 81 c2 (0, 0) _ HH5.out Tryz.underlying81 rfl (info_arr c2 HC2S.out) ?_)
          | (with_reducible refine wpList_store_row rfl 81 (.tmp 2) (.tmp 55) rfl w.heap.size c2 rfl rfl 81 z HG5.out (info_arr c2 HC2S.out) (HZS.out.trans HC2S.out.symm) HC21.out ?_)
          | fail)
        refine bodyPost_ret (results_item3 Tryz.results72 _ _ w.heap.size c2 (0, 0) _ _ rfl rfl rfl (setRow_heap _ w.heap.size z c2 _ (0, 0) HG5.out) HC2S.out) rfl ⟨by rw [HRS.out]; rfl, below_setRow HB5.out (Nat.le_refl _) _⟩
    · have hr : R = .tuple #[.agg z, .int .i64 0, .bool false] := by rw [← HR.out, item_short hm hk (by omega), HZ.out]
      have HRR := Lib.hid hr
      have e1 : seekI (l.drop k) 0 = (0, false) := by unfold seekI; rw [if_neg hf]
      rw [e1] at cI
      generalize (⟨(l.drop k).toArray⟩ : ByteArray) = sx at x0 cI
      clear hr e0 e1 hm hk hf
      go_enter Tryz.func72, Tryz.ntmps72
      go_wp2_with fail
      refine (hmo _).mono ?_
      rintro e w1 ⟨rfl, rfl⟩
      go_wp2_with fail
      refine (cI _).mono ?_
      rintro e w1 ⟨rfl, b1⟩
      have g1 := (b1.block w.heap.size (by rw [HS0.out]; omega)).trans HG0.out
      have bw := HB0.out.trans (b1.mono HB0.out.size)
      have HG1 := Lib.hid g1; have HBW := Lib.hid bw
      clear b1 g1 bw cI
      go_wp2_with (first
        | (with_reducible refine wpList_build_as rfl 81 _ rfl z HZB.out ?_)
        | (with_reducible refine wpList_store_row rfl 81 (.tmp 2) (.tmp 28) rfl w.heap.size z rfl rfl 81 z HG1.out (info_arr z HZS.out) rfl HZ1.out ?_)
        | fail)
      refine bodyPost_ret (results_item3 Tryz.results72 _ _ w.heap.size z (0, 0) _ _ rfl rfl rfl (setRow_heap _ w.heap.size z z _ (0, 0) HG1.out) HZS.out) rfl ⟨by rw [HRR.out]; rfl, below_setRow HBW.out (Nat.le_refl _) _⟩
end Go.Proofs.YtpelehhmdcjikaaGreatDoor
