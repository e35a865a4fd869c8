/-
  Texts that belong together, one behind the other.
-/
import Derived.Test.YtnohonjjfjppoaaGreatDoorFu02
import Derived.Lib.Strings
import Derived.Test.YtnohonjjfjppoaaGreatDoorFu01
import Derived.Lib.Hide
import Derived.Deep.RegionHeld3
import Derived.Lib.Bytes
import Derived.IntWalk
import Derived.WalkSmall
import Derived.Deep.MidRow
import Derived.Laws.RangeAny
/-
  A text's bytes by their places, and pieces of it.
-/
namespace Go.Proofs.YtnohonjjfjppoaaGreatDoor
open Go.RowKit
set_option linter.unusedVariables false
set_option linter.unusedSimpArgs false
theorem getD_str (l : List UInt8) (i : Nat) (h : i < l.length) (h2 : i < (⟨l.toArray⟩ : ByteArray).size) : (⟨l.toArray⟩ : ByteArray)[i]'h2 = l.getD i 0 := by
  simp [List.getD_eq_getElem?_getD, h, ByteArray.getElem_eq_getElem_data]
theorem ext_list (l : List UInt8) (a b : Nat) : (⟨l.toArray⟩ : ByteArray).extract a b = ⟨((l.drop a).take (b - a)).toArray⟩ := by
  apply ByteArray.ext
  simp [List.drop_take]
theorem ext_take (l : List UInt8) (b : Nat) : (⟨l.toArray⟩ : ByteArray).extract 0 b = ⟨(l.take b).toArray⟩ := by rw [ext_list]; simp
theorem ext_drop (l : List UInt8) (a : Nat) : (⟨l.toArray⟩ : ByteArray).extract a l.length = ⟨(l.drop a).toArray⟩ := by
  rw [ext_list, List.take_of_length_le (by simp)]
theorem empty_list (l : List UInt8) : (⟨l.toArray⟩ : ByteArray).toList.isEmpty = decide (l.length = 0) := by
  rw [Lib.toList_data]
  cases l <;> rfl
theorem list_text (l : List UInt8) : (⟨l.toArray⟩ : ByteArray).toList = l := by rw [Lib.toList_data]
end Go.Proofs.YtnohonjjfjppoaaGreatDoor

/-
  Items in memory; what orders them.
-/
namespace Go.Proofs.YtnohonjjfjppoaaGreatDoor
set_option maxRecDepth 20000
open Go.RowKit
set_option linter.unusedVariables false
set_option linter.unusedSimpArgs false
/-- The order of texts. -/
theorem less_is : ∀ (x y : List UInt8), Op.bytesLess x y = decide (x < y)
  | [], [] => by simp [Op.bytesLess]
  | [], d :: y => by simp [Op.bytesLess]
  | c :: x, [] => by simp [Op.bytesLess]
  | c :: x, d :: y => by
    rw [Op.bytesLess, less_is x y]
    simp only [List.cons_lt_cons_iff]
    by_cases h1 : c < d <;> by_cases h2 : c = d <;> by_cases h3 : x < y <;> simp [h1, h2, h3]
theorem toList_mk (l : List UInt8) : (⟨l.toArray⟩ : ByteArray).toList = l := by
  rw [← strOfNums_toNat, Lib.strOfNums_toList]
  unfold Lib.bytesOf
  rw [List.map_map]
  conv => rhs; rw [← List.map_id l]
  apply List.map_congr_left
  intro c _
  simp
theorem less_mk (x y : List UInt8) : Op.bytesLess (⟨x.toArray⟩ : ByteArray).toList (⟨y.toArray⟩ : ByteArray).toList = decide (x < y) := by rw [toList_mk, toList_mk, less_is]
/-- An item's cells. -/
def cellsI (i : Itm) : List Value := .int .i64 i.mode :: .string ⟨i.name.toArray⟩ :: Lib.byteCells i.id
theorem cellsI_len (i : Itm) (h : i.id.length = 20) : (cellsI i).length = 22 := by simp [cellsI, Lib.byteCells, h]
theorem cellsI_one (i : Itm) : (cellsI i).toArray.all (·.oneCell') = true := by
  rw [Array.all_eq_true']
  intro x hx
  simp only [List.mem_toArray, cellsI, List.mem_cons, Lib.byteCells, List.mem_map] at hx
  rcases hx with rfl | rfl | ⟨c, _, rfl⟩ <;> rfl
/-- Items, one behind the other. -/
def ItemsAt (w : World) (a : Option Addr) (l : List Itm) : Prop :=
  0 < l.length → ∃ b o, a = some ⟨b, o, none⟩ ∧ b < w.heap.size ∧ ∀ k (h : k < l.length) j v, (cellsI l[k])[j]? = some v → w.cell? ⟨b, o + k * 22 + j, none⟩ = some v
theorem ItemsAt.keep {w w' : World} {a : Option Addr} {l : List Itm} (h : ItemsAt w a l) (b : Below w.heap.size w w') : ItemsAt w' a l := fun hp => by
  obtain ⟨g, o, h1, h2, h3⟩ := h hp
  exact ⟨g, o, h1, Nat.lt_of_lt_of_le h2 b.size, fun k hk j v hv => (b.cell (p := ⟨g, o + k * 22 + j, none⟩) h2).trans (h3 k hk j v hv)⟩
theorem ItemsAt.nil (w : World) (a : Option Addr) : ItemsAt w a [] := fun h => absurd h (Nat.lt_irrefl 0)
theorem ItemsAt.take {w : World} {a : Option Addr} {l : List Itm} (h : ItemsAt w a l) (n : Nat) : ItemsAt w a (l.take n) := fun hp => by
  have hp2 : 0 < l.length := by rw [List.length_take] at hp; omega
  obtain ⟨g, o, h1, h2, h3⟩ := h hp2
  refine ⟨g, o, h1, h2, fun k hk j v hv => ?_⟩
  rw [List.length_take] at hk
  rw [List.getElem_take] at hv
  exact h3 k (by omega) j v hv
/-- An item's cells in a block of its own. -/
theorem row_cells {w : World} {g : Nat} {i : Itm} {t : TypeId} {fr : Nat × Nat} (h : w.heap[g]? = some (.cells (cellsI i).toArray t fr)) : ∀ j v, (cellsI i)[j]? = some v → w.cell? ⟨g, 0 + j, none⟩ = some v := fun j v hv => by
  rw [Nat.zero_add, Lib.cell_of_heap h, ← hv]
  simp
set_option maxHeartbeats 2000000 in
theorem full_is (i : Itm) (hn : i.name.length ≤ 1000000) (w : World) :
    Calls Tryz.prog 98 #[.agg (cellsI i).toArray] w fun e w' => e = .returned (.string ⟨(fullI i).toArray⟩) ∧ Below w.heap.size w w' := by
  have h0 := heap_alloc_new w (.cells (cellsI i).toArray 54)
  have q0 : (w.alloc (.cells (cellsI i).toArray 54)).cell? ⟨w.heap.size, 0, none⟩ = some (.int .i64 i.mode) := (Lib.cell_of_heap h0 0).trans rfl
  have q1 : (w.alloc (.cells (cellsI i).toArray 54)).cell? ⟨w.heap.size, 1, none⟩ = some (.string ⟨i.name.toArray⟩) := (Lib.cell_of_heap h0 1).trans rfl
  have B0 := Lib.hid ((Below.refl w.heap.size w).alloc (Nat.le_refl _) (.cells (cellsI i).toArray 54))
  have ad := fun w => add_lists (P := Tryz.prog) w i.name [47] (by simp; omega)
  unfold fullI
  clear h0
  obtain ⟨m, hm⟩ : ∃ m, i.mode = m := ⟨_, rfl⟩
  rw [hm] at q0 ⊢
  by_cases h4 : m = 4
  · rw [if_pos h4]
    subst h4
    clear hm
    generalize (⟨(i.name ++ [47]).toArray⟩ : ByteArray) = s1 at ad ⊢
    generalize (⟨i.name.toArray⟩ : ByteArray) = s0 at ad q1
    generalize (cellsI i).toArray = arr at *
    go_enter Tryz.func98, Tryz.ntmps98
    go_wp2
    go_ret
    exact ⟨rfl, B0.out⟩
  · rw [if_neg h4]
    have hf : (m == 4) = false := beq_false_of_ne h4
    clear hm ad h4
    generalize (⟨i.name.toArray⟩ : ByteArray) = s0 at *
    generalize (cellsI i).toArray = arr at *
    go_enter Tryz.func98, Tryz.ntmps98
    go_wp2
    go_ret
    exact ⟨rfl, B0.out⟩
end Go.Proofs.YtnohonjjfjppoaaGreatDoor

/-
  Layer 8: Before, Name, mode of the document's answers.
-/
namespace Go.Proofs.YtnohonjjfjppoaaGreatDoor
set_option maxRecDepth 20000
open Go.RowKit
set_option linter.unusedVariables false
set_option linter.unusedSimpArgs false
theorem mode_is (m : Int) (w : World) : Calls Tryz.prog 52 #[.int .i64 m] w fun e w' => e = .returned (.string ⟨(modeL m).toArray⟩) ∧ w = w' := by
  unfold modeL
  by_cases h1 : m = 1
  · rw [if_pos h1]; subst h1
    go_enter Tryz.func52, Tryz.ntmps52
    go_wp2
    go_ret
    exact ⟨rfl, rfl⟩
  · rw [if_neg h1]
    by_cases h2 : m = 2
    · rw [if_pos h2]; subst h2
      go_enter Tryz.func52, Tryz.ntmps52
      go_wp2
      go_ret
      exact ⟨rfl, rfl⟩
    · rw [if_neg h2]
      by_cases h3 : m = 3
      · rw [if_pos h3]; subst h3
        go_enter Tryz.func52, Tryz.ntmps52
        go_wp2
        go_ret
        exact ⟨rfl, rfl⟩
      · rw [if_neg h3]
        go_enter Tryz.func52, Tryz.ntmps52
        go_wp2
        go_ret
        exact ⟨rfl, rfl⟩
theorem infoItem : (Tryz.prog.info? 54).map (·.size) = some 22 := by kernel_rfl
/-- Two items in cells of their own. -/
def RestB (w : World) (i j : Itm) (u : World) : Prop :=
  u.heap[w.heap.size]? = some (.cells (cellsI i).toArray 54 (0, 0)) ∧ u.heap[w.heap.size + 1]? = some (.cells (cellsI j).toArray 54 (0, 0)) ∧ Below w.heap.size w u
theorem restB_keep {w u u' : World} {i j : Itm} (h : RestB w i j u) (b : Below u.heap.size u u') : RestB w i j u' :=
  ⟨(b.block _ (Array.getElem?_eq_some_iff.1 h.1).1).trans h.1, (b.block _ (Array.getElem?_eq_some_iff.1 h.2.1).1).trans h.2.1, h.2.2.trans (b.mono h.2.2.size)⟩
theorem row_range {w : World} {g : Nat} {i : Itm} {t : TypeId} {fr : Nat × Nat} (h : w.heap[g]? = some (.cells (cellsI i).toArray t fr)) : w.rangeAt g 0 (cellsI i) := row_cells h
set_option maxHeartbeats 8000000 in
theorem Before_is (i j : Itm) (hi : i.id.length = 20) (hj : j.id.length = 20) (ni : i.name.length ≤ 1000000) (nj : j.name.length ≤ 1000000) (w : World) :
    Calls Tryz.prog 61 #[.agg (cellsI i).toArray, .agg (cellsI j).toArray] w fun e w' => e = .returned (.bool (befI i j)) ∧ Below w.heap.size w w' := by
  have c1 := fun w => full_is i ni w
  have c2 := fun w => full_is j nj w
  have hr := less_mk (fullI i) (fullI j)
  rw [show befI i j = decide (fullI i < fullI j) from rfl]
  generalize decide (fullI i < fullI j) = r at hr ⊢
  generalize (⟨(fullI i).toArray⟩ : ByteArray) = s1 at c1 hr
  generalize (⟨(fullI j).toArray⟩ : ByteArray) = s2 at c2 hr
  have b1 := (Below.refl w.heap.size w).alloc (Nat.le_refl _) (.cells (cellsI i).toArray 54)
  have b2 := b1.alloc b1.size (.cells (cellsI j).toArray 54)
  have e1 : (w.alloc (.cells (cellsI i).toArray 54)).heap.size = w.heap.size + 1 := by simp
  have h1 := (((Below.refl (w.alloc (.cells (cellsI i).toArray 54)).heap.size (w.alloc (.cells (cellsI i).toArray 54))).alloc (Nat.le_refl _) (.cells (cellsI j).toArray 54)).block w.heap.size (by simp)).trans (heap_alloc_new w _)
  have h2 := heap_alloc_new (w.alloc (.cells (cellsI i).toArray 54)) (.cells (cellsI j).toArray 54)
  rw [e1] at h2
  have K0 := restB_keep (show RestB w i j ((w.alloc (.cells (cellsI i).toArray 54)).alloc (.cells (cellsI j).toArray 54)) from ⟨h1, h2, b2⟩) ((Below.refl _ _).drew)
  have D1 := Lib.hid (fun u (h : RestB w i j u) => ((c1 u).mono (fun e u' ⟨he, hb⟩ => ⟨he, restB_keep h hb⟩) : Calls Tryz.prog 98 #[.agg (cellsI i).toArray] u fun e u' => e = .returned (.string s1) ∧ RestB w i j u'))
  have D2 := Lib.hid (fun u (h : RestB w i j u) => ((c2 u).mono (fun e u' ⟨he, hb⟩ => ⟨he, restB_keep h hb⟩) : Calls Tryz.prog 98 #[.agg (cellsI j).toArray] u fun e u' => e = .returned (.string s2) ∧ RestB w i j u'))
  have li : (Tryz.prog.info? 54).map (·.size) = some (cellsI i).length := by rw [cellsI_len i hi]; exact infoItem
  have lj : (Tryz.prog.info? 54).map (·.size) = some (cellsI j).length := by rw [cellsI_len j hj]; exact infoItem
  have KK := Lib.hid K0
  have LI := Lib.hid li; have LJ := Lib.hid lj
  clear c1 c2 b1 b2 e1 h1 h2 hi hj ni nj K0 li lj
  go_enter Tryz.func61, Tryz.ntmps61
  go_wp2_with fail
  refine wp_region_held_drew (S := RestB w i j) (by kernel_rfl) KK.out (fun hHeld => ?_)
  refine wpAnyH_take (i := 0) (v := .agg (cellsI i).toArray) rfl (by kernel_rfl) (by kernel_rfl) (by kernel_rfl) (fun _ _ _ h => h) (yieldsIf_load_mid (by rfl) 54 (.tmp 2) rfl w.heap.size 0 rfl (cellsI i) _ (fun u h => row_range h.1) Tryz.underlying54 rfl LI.out) hHeld ?_
  refine wpAnyH_take (i := 2) (v := .agg (cellsI j).toArray) rfl (by kernel_rfl) (by kernel_rfl) (by kernel_rfl) (fun _ _ _ h => h) (yieldsIf_load_mid (by rfl) 54 (.tmp 3) rfl (w.heap.size + 1) 0 rfl (cellsI j) _ (fun u h => row_range h.2.1) Tryz.underlying54 rfl LJ.out) hHeld ?_
  refine wpAnyH_ready (rs := [1]) (by kernel_rfl) (by simp) ?_
  refine AllReadyH.cons rfl (fun K hK => ?_) AllReadyH.nil
  go_simp
  refine (D1.out _ hHeld).mono ?_
  rintro e u1 ⟨rfl, hH1⟩
  refine hK.out _ _ hH1 (fun _ => ?_)
  clear hK K hHeld
  refine wpAnyH_ready (rs := [3]) (by kernel_rfl) (by simp) ?_
  refine AllReadyH.cons rfl (fun K hK => ?_) AllReadyH.nil
  go_simp
  refine (D2.out _ hH1).mono ?_
  rintro e u2 ⟨rfl, hH2⟩
  refine hK.out _ _ hH2 (fun _ => ?_)
  clear hK K
  refine wpAnyH_take (i := 4) (v := .bool r) rfl (by kernel_rfl) (by kernel_rfl) (by kernel_rfl) (fun _ _ _ h => h) (Or.inl ⟨by rfl, fun w _ => by go_simp⟩) hH2 ?_
  refine wpAnyH_take (i := 5) (v := .bool r) rfl (by kernel_rfl) (by kernel_rfl) (by kernel_rfl) (fun _ _ _ h => h) (Or.inl ⟨by rfl, fun w _ => by go_simp⟩) hH2 ?_
  refine wpAnyH_done (by kernel_rfl) ?_ _
  have H2 := Lib.hid hH2
  clear hH1 hH2
  go_wp2
  go_ret
  exact ⟨rfl, H2.out.2.2⟩
end Go.Proofs.YtnohonjjfjppoaaGreatDoor

/-
  Runes and bytes (plain): where a rune of a text begins, and that its bytes are high ones; a decoder that knows Quote's forms alone.
-/
namespace Go.Proofs.YtnohonjjfjppoaaGreatDoor
set_option linter.unusedVariables false
set_option linter.unusedSimpArgs false
theorem decodeN_wide (n b0 b1 b2 b3 : Nat) (h0 : 128 ≤ b0) (hn : 1 ≤ n) :
    128 ≤ (Lib.decodeN n b0 b1 b2 b3).1 ∧ 1 ≤ (Lib.decodeN n b0 b1 b2 b3).2 ∧ (Lib.decodeN n b0 b1 b2 b3).2 ≤ n ∧ (Lib.decodeN n b0 b1 b2 b3).2 ≤ 4 ∧
    (1 < (Lib.decodeN n b0 b1 b2 b3).2 → 128 ≤ b1) ∧ (2 < (Lib.decodeN n b0 b1 b2 b3).2 → 128 ≤ b2) ∧ (3 < (Lib.decodeN n b0 b1 b2 b3).2 → 128 ≤ b3) := by
  unfold Lib.decodeN
  rw [if_neg (by omega)]
  split
  · split
    · refine ⟨?_, ?_, ?_, ?_, ?_, ?_, ?_⟩ <;> simp only <;> omega
    · refine ⟨?_, ?_, ?_, ?_, ?_, ?_, ?_⟩ <;> simp only <;> omega
  · split
    · split
      · refine ⟨?_, ?_, ?_, ?_, ?_, ?_, ?_⟩ <;> simp only <;> omega
      · refine ⟨?_, ?_, ?_, ?_, ?_, ?_, ?_⟩ <;> simp only <;> omega
    · split
      · split
        · refine ⟨?_, ?_, ?_, ?_, ?_, ?_, ?_⟩ <;> simp only <;> omega
        · refine ⟨?_, ?_, ?_, ?_, ?_, ?_, ?_⟩ <;> simp only <;> omega
      · refine ⟨?_, ?_, ?_, ?_, ?_, ?_, ?_⟩ <;> simp only <;> omega
/-- What a range over a text hands over at a place: a low byte by itself, or a high rune whose bytes are all high. -/
theorem rune_at (l : List UInt8) (i : Nat) (hi : i < l.length) :
    ((l.getD i 0).toNat < 128 ∧ Utf8.decode ⟨l.toArray⟩ i = ((l.getD i 0).toNat, 1)) ∨
    (128 ≤ (l.getD i 0).toNat ∧ 128 ≤ (Utf8.decode ⟨l.toArray⟩ i).1 ∧ (Utf8.decode ⟨l.toArray⟩ i).1 ≤ 2147483647 ∧ 1 ≤ (Utf8.decode ⟨l.toArray⟩ i).2 ∧ (Utf8.decode ⟨l.toArray⟩ i).2 ≤ 4 ∧ i + (Utf8.decode ⟨l.toArray⟩ i).2 ≤ l.length ∧
      ∀ j, i ≤ j → j < i + (Utf8.decode ⟨l.toArray⟩ i).2 → 128 ≤ (l.getD j 0).toNat) := by
  have e : Utf8.decode ⟨l.toArray⟩ i = Lib.decodeN (l.length - i) (l.getD i 0).toNat (l.getD (i + 1) 0).toNat (l.getD (i + 2) 0).toNat (l.getD (i + 3) 0).toNat := Lib.decode_N ⟨l.toArray⟩ i
  by_cases h : (l.getD i 0).toNat < 128
  · left
    refine ⟨h, ?_⟩
    rw [e]
    unfold Lib.decodeN
    rw [if_pos h]
  · right
    have w := decodeN_wide (l.length - i) (l.getD i 0).toNat (l.getD (i + 1) 0).toNat (l.getD (i + 2) 0).toNat (l.getD (i + 3) 0).toNat (by omega) (by omega)
    have le := decode_le ⟨l.toArray⟩ i
    rw [e] at le ⊢
    obtain ⟨w1, w2, w3, w4, w5, w6, w7⟩ := w
    refine ⟨by omega, w1, le, w2, w4, by omega, fun j h1 h2 => ?_⟩
    obtain h3 | h3 | h3 | h3 : j = i ∨ j = i + 1 ∨ j = i + 2 ∨ j = i + 3 := by omega
    · subst h3; omega
    · subst h3; exact w5 (by omega)
    · subst h3; exact w6 (by omega)
    · subst h3; exact w7 (by omega)
end Go.Proofs.YtnohonjjfjppoaaGreatDoor
