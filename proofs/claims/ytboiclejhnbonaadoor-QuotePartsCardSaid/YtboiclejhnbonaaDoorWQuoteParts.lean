/-
  The walk of QuoteParts, over the contracts.
-/
import Derived.Test.YtboiclejhnbonaaDoorQb
import Derived.Test.YtboiclejhnbonaaDoorQpp
import Derived.Test.YtboiclejhnbonaaDoorFn
import Derived.Laws.Tables
import Derived.Laws.Rows
import Derived.IntWalk
namespace Go.Proofs.YtboiclejhnbonaaDoor.quoteParts
open Go.RowKit
set_option linter.unusedVariables false
set_option linter.unusedSimpArgs false

/-- The four letters in their block. -/
def GitAt (w : World) (G j : Nat) : Prop := ∃ y1 y2 y3 : UInt8, w.heap[G]? = some (.cells #[.int .u8 46, .int .u8 y1.toNat, .int .u8 y2.toNat, .int .u8 y3.toNat] 5 (4, 5)) ∧
  (y1 = 103 ∨ (y1 = 71 ∧ 2 ≤ j)) ∧ (y2 = 105 ∨ (y2 = 73 ∧ 3 ≤ j)) ∧ (y3 = 116 ∨ (y3 = 84 ∧ 4 ≤ j))
abbrev gitRow (y1 y2 y3 : UInt8) : Array Value := #[.int .u8 46, .int .u8 y1.toNat, .int .u8 y2.toNat, .int .u8 y3.toNat]
theorem GitAt.up {w : World} {G j j2 : Nat} (h : GitAt w G j) (hj : j ≤ j2) : GitAt w G j2 := by
  obtain ⟨y1, y2, y3, hh, e1, e2, e3⟩ := h
  exact ⟨y1, y2, y3, hh, e1.imp id (fun h => ⟨h.1, by omega⟩), e2.imp id (fun h => ⟨h.1, by omega⟩), e3.imp id (fun h => ⟨h.1, by omega⟩)⟩
theorem heap_put {w : World} {b k : Nat} {cs : Array Value} {t : TypeId} {fr : Nat × Nat} (h : w.heap[b]? = some (.cells cs t fr)) (x : Value) : (w.setCell ⟨b, k, none⟩ x).heap[b]? = some (.cells (cs.setIfInBounds k x) t fr) := by
  rw [setCell_eq_setRow w b k cs _ _ x h]; exact setRow_heap w b cs _ _ _ h
/-- The eight names. -/
def strs (g : List UInt8) : Array Value := #[.string ⟨#[97]⟩, .string ⟨#[98, 32, 99]⟩, .string ⟨#[99, 97, 102, 195, 169]⟩, .string ⟨#[46, 46, 120]⟩, .string ⟨g.toArray⟩, .string ⟨#[46, 46]⟩, .string ⟨#[46]⟩, .string ⟨#[]⟩]
theorem strs_at (g : List UInt8) (m : Nat) (hm : m < 8) : (strs g)[m]? = some (.string ⟨(partOf g m).toArray⟩) := by
  match m, hm with
  | 0, _ => rfl
  | 1, _ => rfl
  | 2, _ => rfl
  | 3, _ => rfl
  | 4, _ => rfl
  | 5, _ => rfl
  | 6, _ => rfl
  | 7, _ => rfl
set_option maxHeartbeats 8000000 in
set_option maxRecDepth 100000 in
theorem walk (w : World) (a : Option Addr) (n c : Nat) (nm : n ≤ maxLen ∧ (0 < n → ∃ b o, a = some ⟨b, o, none⟩ ∧ b < w.heap.size ∧ ∀ i, i < n → ∃ x : Int, w.cell? ⟨b, o + i, none⟩ = some (.int .i64 x))) (x1 : Int) (lo : -9223372036854775808 ≤ x1) (hi : x1 ≤ 9223372036854775807) (tab : Tab w) :
    Calls Tryd.prog 6 #[.slice a n c, .int .i64 x1] w fun e w' => e = .returned (.bool true) ∧ Below w.heap.size w w' := by
  obtain ⟨hm, hcells⟩ := nm
  have T := Lib.hid tab
  clear tab
  unfold maxLen at hm
  by_cases h0 : n = 0
  · subst h0
    clear hcells
    go_enter Tryd.func6, Tryd.ntmps6
    go_wp2_with fail
    refine (awake_quote _ T.out).mono ?_
    rintro e w1 ⟨rfl, b1⟩
    go_wp2
    go_ret
    exact ⟨rfl, b1⟩
  · by_cases h20 : 20 < n
    · have h1 : (20 : Int) < (n : Int) := by omega
      clear hcells
      go_enter Tryd.func6, Tryd.ntmps6
      go_wp2_with fail
      refine (awake_quote _ T.out).mono ?_
      rintro e w1 ⟨rfl, b1⟩
      go_wp2
      go_ret
      exact ⟨rfl, b1⟩
    · obtain ⟨b, o, rfl, hb, hc⟩ := hcells (by omega)
      have HC := Lib.hid hc
      have h1 : ¬ ((20 : Int) < (n : Int)) := by omega
      have hne : ((n : Int) == 0) = false := by simp; omega
      obtain ⟨g0, hg0⟩ : ∃ g0 : Bool, decide ((n : Int) ≤ 16) = g0 := ⟨_, rfl⟩
      have HG0 := Lib.hid hg0
      clear hc hcells
      go_enter Tryd.func6, Tryd.ntmps6
      go_wp2_with fail
      clear hg0
      go_loopw [5, 6, 7] (fun sv gv iv wr => ∃ (k : Nat) (ns : List (List UInt8)), k ≤ n ∧ iv = .int .i64 k ∧ ns.length = k ∧ (∀ x ∈ ns, NameOk x) ∧ sv = .string ⟨(joinL ns).toArray⟩ ∧ gv = .bool (g0 && ns.all nameL) ∧ Below w.heap.size w wr) (fun _ _ i _ => n - (intOf i).toNat)
      case atStart => exact ⟨0, [], Nat.zero_le _, rfl, rfl, (fun x hx => by cases hx), rfl, by simp, Below.refl _ _⟩
      case round =>
        obtain ⟨k, ns, hk, rfl, hns, hok, rfl, rfl, hbr⟩ := hrel
        rename World => wo
        have HNS := Lib.hid hns; have HOK := Lib.hid hok
        obtain ⟨gd, hgd⟩ : ∃ gd, (g0 && ns.all nameL) = gd := ⟨_, rfl⟩
        have HGD := Lib.hid hgd
        rw [hgd]
        clear hns hok hgd
        by_cases hlt : k < n
        · obtain ⟨x, hx⟩ := HC.out k hlt
          have q : wo.cell? ⟨b, o + k, none⟩ = some (.int .i64 x) := (hbr.cell (p := ⟨b, o + k, none⟩) hb).trans hx
          clear hx
          have hjl : (joinL ns).length ≤ 1000 := by have := join_len ns (fun y hy => (HOK.out y hy).len); have := HNS.out; omega
          have hs1 := fun u => add_lists (P := Tryd.prog) u (joinL ns) [47] (by simp; omega)
          obtain ⟨s1, hs1e⟩ : ∃ s1 : List UInt8, (if 0 < k then joinL ns ++ [47] else joinL ns) = s1 := ⟨_, rfl⟩
          have kc := Lib.run_convert_bytes_const (P := Tryd.prog) wo 31 5 #[Value.int .u8 46, Value.int .u8 103, Value.int .u8 105, Value.int .u8 116] 4 4 Tryd.underlying31 Tryd.underlying5
          by_cases hk0 : 0 < k
          · have hk1 : (0 : Int) < (k : Int) := by omega
            go_wp2_with fail
            have hG0 : (wo.alloc (.cells #[Value.int .u8 46, Value.int .u8 103, Value.int .u8 105, Value.int .u8 116] 5 (4, 5))).heap[wo.heap.size]? = some (.cells #[Value.int .u8 46, Value.int .u8 103, Value.int .u8 105, Value.int .u8 116] 5 (4, 5)) := heap_alloc_new wo _
            have hbG : Below wo.heap.size wo (wo.alloc (.cells #[Value.int .u8 46, Value.int .u8 103, Value.int .u8 105, Value.int .u8 116] 5 (4, 5))) := (Below.refl _ wo).alloc (Nat.le_refl _) _
            generalize (wo.alloc (.cells #[Value.int .u8 46, Value.int .u8 103, Value.int .u8 105, Value.int .u8 116] 5 (4, 5))) = wg at hG0 hbG ⊢
            have HQ := Lib.hid q
            clear q kc
            go_loopw [37] (fun iv wi => ∃ j : Nat, j ≤ 4 ∧ iv = .int .i64 j ∧ GitAt wi wo.heap.size j ∧ Below wo.heap.size wo wi) (fun i _ => 4 - (intOf i).toNat)
            case atStart => exact ⟨0, by omega, rfl, ⟨103, 105, 116, hG0, .inl rfl, .inl rfl, .inl rfl⟩, hbG⟩
            case round =>
              clear hG0 hbG
              obtain ⟨j, hj, rfl, hgit, hbi⟩ := hrel
              rename World => wi
              by_cases hlt2 : j < 4
              · have hj4 : j = 0 ∨ j = 1 ∨ j = 2 ∨ j = 3 := by omega
                rcases hj4 with rfl | rfl | rfl | rfl
                · have HG := Lib.hid hgit
                  clear hgit
                  go_wp2_with fail
                  all_goals exact ⟨⟨1, by omega, rfl, HG.out.up (by omega), hbi⟩, by simp [intOf]⟩
                · have HG := Lib.hid (hgit.up (j2 := 2) (by omega))
                  obtain ⟨y1, y2, y3, hh, e1, e2, e3⟩ := hgit
                  have y1e : y1 = 103 := by
                    rcases e1 with h | h
                    · exact h
                    · exact absurd h.2 (by omega)
                  subst y1e
                  have cj : wi.cell? ⟨wo.heap.size, 1, none⟩ = some (.int .u8 103) := (cell_of_row wi _ 1 _ _ _ hh).trans rfl
                  have fj : wi.frozen? ⟨wo.heap.size, 1, none⟩ = false := by simp [World.frozen?, hh]
                  have HST := Lib.hid (show GitAt (wi.setCell ⟨wo.heap.size, 1, none⟩ (.int .u8 71)) wo.heap.size 2 from ⟨71, y2, y3, heap_put hh _, .inr ⟨rfl, by omega⟩, e2.imp id (fun h => ⟨h.1, by omega⟩), e3.imp id (fun h => ⟨h.1, by omega⟩)⟩)
                  clear hh e1 e2 e3
                  go_wp2_with fail
                  all_goals first
                    | exact ⟨⟨2, by omega, rfl, HST.out, hbi.setCell (p := ⟨wo.heap.size, 1, none⟩) (Nat.le_refl _) _⟩, by simp [intOf]⟩
                    | exact ⟨⟨2, by omega, rfl, HG.out, hbi⟩, by simp [intOf]⟩
                · have HG := Lib.hid (hgit.up (j2 := 3) (by omega))
                  obtain ⟨y1, y2, y3, hh, e1, e2, e3⟩ := hgit
                  have y2e : y2 = 105 := by
                    rcases e2 with h | h
                    · exact h
                    · exact absurd h.2 (by omega)
                  subst y2e
                  have cj : wi.cell? ⟨wo.heap.size, 2, none⟩ = some (.int .u8 105) := (cell_of_row wi _ 2 _ _ _ hh).trans rfl
                  have fj : wi.frozen? ⟨wo.heap.size, 2, none⟩ = false := by simp [World.frozen?, hh]
                  have HST := Lib.hid (show GitAt (wi.setCell ⟨wo.heap.size, 2, none⟩ (.int .u8 73)) wo.heap.size 3 from ⟨y1, 73, y3, heap_put hh _, e1.imp id (fun h => ⟨h.1, by omega⟩), .inr ⟨rfl, by omega⟩, e3.imp id (fun h => ⟨h.1, by omega⟩)⟩)
                  clear hh e1 e2 e3
                  go_wp2_with fail
                  all_goals first
                    | exact ⟨⟨3, by omega, rfl, HST.out, hbi.setCell (p := ⟨wo.heap.size, 2, none⟩) (Nat.le_refl _) _⟩, by simp [intOf]⟩
                    | exact ⟨⟨3, by omega, rfl, HG.out, hbi⟩, by simp [intOf]⟩
                · have HG := Lib.hid (hgit.up (j2 := 4) (by omega))
                  obtain ⟨y1, y2, y3, hh, e1, e2, e3⟩ := hgit
                  have y3e : y3 = 116 := by
                    rcases e3 with h | h
                    · exact h
                    · exact absurd h.2 (by omega)
                  subst y3e
                  have cj : wi.cell? ⟨wo.heap.size, 3, none⟩ = some (.int .u8 116) := (cell_of_row wi _ 3 _ _ _ hh).trans rfl
                  have fj : wi.frozen? ⟨wo.heap.size, 3, none⟩ = false := by simp [World.frozen?, hh]
                  have HST := Lib.hid (show GitAt (wi.setCell ⟨wo.heap.size, 3, none⟩ (.int .u8 84)) wo.heap.size 4 from ⟨y1, y2, 84, heap_put hh _, e1.imp id (fun h => ⟨h.1, by omega⟩), e2.imp id (fun h => ⟨h.1, by omega⟩), .inr ⟨rfl, by omega⟩⟩)
                  clear hh e1 e2 e3
                  go_wp2_with fail
                  all_goals first
                    | exact ⟨⟨4, by omega, rfl, HST.out, hbi.setCell (p := ⟨wo.heap.size, 3, none⟩) (Nat.le_refl _) _⟩, by simp [intOf]⟩
                    | exact ⟨⟨4, by omega, rfl, HG.out, hbi⟩, by simp [intOf]⟩
              · obtain rfl : j = 4 := by omega
                obtain ⟨y1, y2, y3, hh, e1, e2, e3⟩ := hgit
                have hgt : Git [46, y1, y2, y3] y1 y2 y3 := ⟨rfl, e1.imp id (fun h => h.1), e2.imp id (fun h => h.1), e3.imp id (fun h => h.1)⟩
                have hbat : BAt wi (some ⟨wo.heap.size, 0, none⟩) [46, y1, y2, y3] := fun _ => ⟨wo.heap.size, 0, rfl, (Array.getElem?_eq_some_iff.1 hh).1, fun i hi => by
                  rw [Nat.zero_add, cell_of_row wi _ i _ _ _ hh]
                  match i, hi with
                  | 0, _ => rfl
                  | 1, _ => rfl
                  | 2, _ => rfl
                  | 3, _ => rfl⟩
                obtain ⟨gl, hgl⟩ : ∃ gl : List UInt8, gl = [46, y1, y2, y3] := ⟨_, rfl⟩
                rw [← hgl] at hgt hbat
                have hgl4 : gl.length = 4 := by rw [hgl]; rfl
                have hcv : (convert 31 9 (.slice (some ⟨wo.heap.size, 0, none⟩) 4 4)).run Tryd.prog wi = .ok (.string ⟨gl.toArray⟩) wi := by
                  have := hbat.conv (P := Tryd.prog) 4 31 5 Tryd.underlying31 Tryd.underlying5 9 Tryd.underlying9
                  rw [hgl4] at this
                  exact this
                obtain ⟨u, hu⟩ : ∃ u, IntKind.u64.wrap x = u := ⟨_, rfl⟩
                have hu0 : 0 ≤ u := by rw [← hu, IntKind.wrap_u64]; omega
                obtain ⟨m, hm1⟩ : ∃ m : Nat, u.tmod 8 = (m : Int) := by
                  rw [IntWalk.rem_in u _ hu0]
                  exact Int.eq_ofNat_of_zero_le (Int.emod_nonneg _ (by omega))
                have hm2 : u % 8 = (m : Int) := by rw [← IntWalk.rem_in u _ hu0]; exact hm1
                have hm8 : m < 8 := by
                  have := Int.emod_lt_of_pos u (show 0 < (8 : Int) by omega)
                  omega
                have hbwi := hbr.trans (hbi.mono hbr.size)
                have q2 : wi.cell? ⟨b, o + k, none⟩ = some (.int .i64 x) := (hbi.cell (p := ⟨b, o + k, none⟩) (Nat.lt_of_lt_of_le hb hbr.size)).trans HQ.out
                have HGT := Lib.hid hgt
                have hstr : (wi.alloc (.cells (strs gl) 9)).cell? ⟨wi.heap.size, m, none⟩ = some (.string ⟨(partOf gl m).toArray⟩) := (cell_of_row _ _ m _ _ _ (heap_alloc_new wi _)).trans (strs_at gl m hm8)
                have hbz : Below w.heap.size w (wi.alloc (.cells (strs gl) 9)) := hbwi.alloc hbwi.size _
                unfold strs at hstr hbz
                have hs2 := fun u => add_lists (P := Tryd.prog) u (joinL ns ++ [47]) (partOf gl m) (by have := (partOf_ok hgt m).len; simp; omega)
                have HBZ := Lib.hid hbz
                have hgn : nameL (partOf gl m) = decide (m < 4) := partOf_name hgt m
                have HGN := Lib.hid hgn
                clear hh e1 e2 e3 hgt hbat hbi hgl hgl4 hbwi hbz hgn HQ
                have hgd2 : (g0 && (ns ++ [partOf gl m]).all nameL) = (gd && decide ((m : Int) < 4)) := by
                  rw [List.all_append, ← Bool.and_assoc, HGD.out]
                  simp only [List.all_cons, List.all_nil, Bool.and_true]
                  rw [HGN.out]
                  congr 1
                  exact decide_eq_decide.2 (by omega)
                have HG2 := Lib.hid hgd2
                have HJ := Lib.hid (show joinL ns ++ 47 :: partOf gl m = joinL (ns ++ [partOf gl m]) from (join_snoc ns _ (fun e => by have := HNS.out; rw [e] at this; simp at this; omega)).symm)
                clear hgd2
                cases gd with
                | false =>
                  go_wp2_with fail
                  refine ⟨⟨k + 1, ns ++ [partOf gl m], by omega, congrArg (Value.int .i64) (by omega), by rw [List.length_append, HNS.out]; rfl, ?_, ?_, ?_, HBZ.out⟩, by simp [intOf]; omega⟩
                  · intro y hy
                    rcases List.mem_append.1 hy with hy | hy
                    · exact HOK.out y hy
                    · rw [List.mem_singleton.1 hy]; exact partOf_ok HGT.out m
                  · rw [← HJ.out]
                  · rw [HG2.out]; rfl
                | true =>
                  go_wp2_with fail
                  refine ⟨⟨k + 1, ns ++ [partOf gl m], by omega, congrArg (Value.int .i64) (by omega), by rw [List.length_append, HNS.out]; rfl, ?_, ?_, ?_, HBZ.out⟩, by simp [intOf]; omega⟩
                  · intro y hy
                    rcases List.mem_append.1 hy with hy | hy
                    · exact HOK.out y hy
                    · rw [List.mem_singleton.1 hy]; exact partOf_ok HGT.out m
                  · rw [← HJ.out]
                  · rw [HG2.out]; rfl
          · have hk1 : ¬ ((0 : Int) < (k : Int)) := by omega
            go_wp2_with fail
            have hG0 : (wo.alloc (.cells #[Value.int .u8 46, Value.int .u8 103, Value.int .u8 105, Value.int .u8 116] 5 (4, 5))).heap[wo.heap.size]? = some (.cells #[Value.int .u8 46, Value.int .u8 103, Value.int .u8 105, Value.int .u8 116] 5 (4, 5)) := heap_alloc_new wo _
            have hbG : Below wo.heap.size wo (wo.alloc (.cells #[Value.int .u8 46, Value.int .u8 103, Value.int .u8 105, Value.int .u8 116] 5 (4, 5))) := (Below.refl _ wo).alloc (Nat.le_refl _) _
            generalize (wo.alloc (.cells #[Value.int .u8 46, Value.int .u8 103, Value.int .u8 105, Value.int .u8 116] 5 (4, 5))) = wg at hG0 hbG ⊢
            have HQ := Lib.hid q
            clear q kc
            go_loopw [37] (fun iv wi => ∃ j : Nat, j ≤ 4 ∧ iv = .int .i64 j ∧ GitAt wi wo.heap.size j ∧ Below wo.heap.size wo wi) (fun i _ => 4 - (intOf i).toNat)
            case atStart => exact ⟨0, by omega, rfl, ⟨103, 105, 116, hG0, .inl rfl, .inl rfl, .inl rfl⟩, hbG⟩
            case round =>
              clear hG0 hbG
              obtain ⟨j, hj, rfl, hgit, hbi⟩ := hrel
              rename World => wi
              by_cases hlt2 : j < 4
              · have hj4 : j = 0 ∨ j = 1 ∨ j = 2 ∨ j = 3 := by omega
                rcases hj4 with rfl | rfl | rfl | rfl
                · have HG := Lib.hid hgit
                  clear hgit
                  go_wp2_with fail
                  all_goals exact ⟨⟨1, by omega, rfl, HG.out.up (by omega), hbi⟩, by simp [intOf]⟩
                · have HG := Lib.hid (hgit.up (j2 := 2) (by omega))
                  obtain ⟨y1, y2, y3, hh, e1, e2, e3⟩ := hgit
                  have y1e : y1 = 103 := by
                    rcases e1 with h | h
                    · exact h
                    · exact absurd h.2 (by omega)
                  subst y1e
                  have cj : wi.cell? ⟨wo.heap.size, 1, none⟩ = some (.int .u8 103) := (cell_of_row wi _ 1 _ _ _ hh).trans rfl
                  have fj : wi.frozen? ⟨wo.heap.size, 1, none⟩ = false := by simp [World.frozen?, hh]
                  have HST := Lib.hid (show GitAt (wi.setCell ⟨wo.heap.size, 1, none⟩ (.int .u8 71)) wo.heap.size 2 from ⟨71, y2, y3, heap_put hh _, .inr ⟨rfl, by omega⟩, e2.imp id (fun h => ⟨h.1, by omega⟩), e3.imp id (fun h => ⟨h.1, by omega⟩)⟩)
                  clear hh e1 e2 e3
                  go_wp2_with fail
                  all_goals first
                    | exact ⟨⟨2, by omega, rfl, HST.out, hbi.setCell (p := ⟨wo.heap.size, 1, none⟩) (Nat.le_refl _) _⟩, by simp [intOf]⟩
                    | exact ⟨⟨2, by omega, rfl, HG.out, hbi⟩, by simp [intOf]⟩
                · have HG := Lib.hid (hgit.up (j2 := 3) (by omega))
                  obtain ⟨y1, y2, y3, hh, e1, e2, e3⟩ := hgit
                  have y2e : y2 = 105 := by
                    rcases e2 with h | h
                    · exact h
                    · exact absurd h.2 (by omega)
                  subst y2e
                  have cj : wi.cell? ⟨wo.heap.size, 2, none⟩ = some (.int .u8 105) := (cell_of_row wi _ 2 _ _ _ hh).trans rfl
                  have fj : wi.frozen? ⟨wo.heap.size, 2, none⟩ = false := by simp [World.frozen?, hh]
                  have HST := Lib.hid (show GitAt (wi.setCell ⟨wo.heap.size, 2, none⟩ (.int .u8 73)) wo.heap.size 3 from ⟨y1, 73, y3, heap_put hh _, e1.imp id (fun h => ⟨h.1, by omega⟩), .inr ⟨rfl, by omega⟩, e3.imp id (fun h => ⟨h.1, by omega⟩)⟩)
                  clear hh e1 e2 e3
                  go_wp2_with fail
                  all_goals first
                    | exact ⟨⟨3, by omega, rfl, HST.out, hbi.setCell (p := ⟨wo.heap.size, 2, none⟩) (Nat.le_refl _) _⟩, by simp [intOf]⟩
                    | exact ⟨⟨3, by omega, rfl, HG.out, hbi⟩, by simp [intOf]⟩
                · have HG := Lib.hid (hgit.up (j2 := 4) (by omega))
                  obtain ⟨y1, y2, y3, hh, e1, e2, e3⟩ := hgit
                  have y3e : y3 = 116 := by
                    rcases e3 with h | h
                    · exact h
                    · exact absurd h.2 (by omega)
                  subst y3e
                  have cj : wi.cell? ⟨wo.heap.size, 3, none⟩ = some (.int .u8 116) := (cell_of_row wi _ 3 _ _ _ hh).trans rfl
                  have fj : wi.frozen? ⟨wo.heap.size, 3, none⟩ = false := by simp [World.frozen?, hh]
                  have HST := Lib.hid (show GitAt (wi.setCell ⟨wo.heap.size, 3, none⟩ (.int .u8 84)) wo.heap.size 4 from ⟨y1, y2, 84, heap_put hh _, e1.imp id (fun h => ⟨h.1, by omega⟩), e2.imp id (fun h => ⟨h.1, by omega⟩), .inr ⟨rfl, by omega⟩⟩)
                  clear hh e1 e2 e3
                  go_wp2_with fail
                  all_goals first
                    | exact ⟨⟨4, by omega, rfl, HST.out, hbi.setCell (p := ⟨wo.heap.size, 3, none⟩) (Nat.le_refl _) _⟩, by simp [intOf]⟩
                    | exact ⟨⟨4, by omega, rfl, HG.out, hbi⟩, by simp [intOf]⟩
              · obtain rfl : j = 4 := by omega
                obtain ⟨y1, y2, y3, hh, e1, e2, e3⟩ := hgit
                have hgt : Git [46, y1, y2, y3] y1 y2 y3 := ⟨rfl, e1.imp id (fun h => h.1), e2.imp id (fun h => h.1), e3.imp id (fun h => h.1)⟩
                have hbat : BAt wi (some ⟨wo.heap.size, 0, none⟩) [46, y1, y2, y3] := fun _ => ⟨wo.heap.size, 0, rfl, (Array.getElem?_eq_some_iff.1 hh).1, fun i hi => by
                  rw [Nat.zero_add, cell_of_row wi _ i _ _ _ hh]
                  match i, hi with
                  | 0, _ => rfl
                  | 1, _ => rfl
                  | 2, _ => rfl
                  | 3, _ => rfl⟩
                obtain ⟨gl, hgl⟩ : ∃ gl : List UInt8, gl = [46, y1, y2, y3] := ⟨_, rfl⟩
                rw [← hgl] at hgt hbat
                have hgl4 : gl.length = 4 := by rw [hgl]; rfl
                have hcv : (convert 31 9 (.slice (some ⟨wo.heap.size, 0, none⟩) 4 4)).run Tryd.prog wi = .ok (.string ⟨gl.toArray⟩) wi := by
                  have := hbat.conv (P := Tryd.prog) 4 31 5 Tryd.underlying31 Tryd.underlying5 9 Tryd.underlying9
                  rw [hgl4] at this
                  exact this
                obtain ⟨u, hu⟩ : ∃ u, IntKind.u64.wrap x = u := ⟨_, rfl⟩
                have hu0 : 0 ≤ u := by rw [← hu, IntKind.wrap_u64]; omega
                obtain ⟨m, hm1⟩ : ∃ m : Nat, u.tmod 8 = (m : Int) := by
                  rw [IntWalk.rem_in u _ hu0]
                  exact Int.eq_ofNat_of_zero_le (Int.emod_nonneg _ (by omega))
                have hm2 : u % 8 = (m : Int) := by rw [← IntWalk.rem_in u _ hu0]; exact hm1
                have hm8 : m < 8 := by
                  have := Int.emod_lt_of_pos u (show 0 < (8 : Int) by omega)
                  omega
                have hbwi := hbr.trans (hbi.mono hbr.size)
                have q2 : wi.cell? ⟨b, o + k, none⟩ = some (.int .i64 x) := (hbi.cell (p := ⟨b, o + k, none⟩) (Nat.lt_of_lt_of_le hb hbr.size)).trans HQ.out
                have HGT := Lib.hid hgt
                have hstr : (wi.alloc (.cells (strs gl) 9)).cell? ⟨wi.heap.size, m, none⟩ = some (.string ⟨(partOf gl m).toArray⟩) := (cell_of_row _ _ m _ _ _ (heap_alloc_new wi _)).trans (strs_at gl m hm8)
                have hbz : Below w.heap.size w (wi.alloc (.cells (strs gl) 9)) := hbwi.alloc hbwi.size _
                unfold strs at hstr hbz
                have hs2 := fun u => add_lists (P := Tryd.prog) u (joinL ns) (partOf gl m) (by have := (partOf_ok hgt m).len; omega)
                have HBZ := Lib.hid hbz
                have hgn : nameL (partOf gl m) = decide (m < 4) := partOf_name hgt m
                have HGN := Lib.hid hgn
                clear hh e1 e2 e3 hgt hbat hbi hgl hgl4 hbwi hbz hgn HQ
                have hgd2 : (g0 && (ns ++ [partOf gl m]).all nameL) = (gd && decide ((m : Int) < 4)) := by
                  rw [List.all_append, ← Bool.and_assoc, HGD.out]
                  simp only [List.all_cons, List.all_nil, Bool.and_true]
                  rw [HGN.out]
                  congr 1
                  exact decide_eq_decide.2 (by omega)
                have HG2 := Lib.hid hgd2
                have HJ := Lib.hid (show joinL ns ++ partOf gl m = joinL (ns ++ [partOf gl m]) from by
                    have e : ns = [] := List.eq_nil_of_length_eq_zero (by rw [HNS.out]; omega)
                    rw [e]; rfl)
                clear hgd2
                cases gd with
                | false =>
                  go_wp2_with fail
                  refine ⟨⟨k + 1, ns ++ [partOf gl m], by omega, congrArg (Value.int .i64) (by omega), by rw [List.length_append, HNS.out]; rfl, ?_, ?_, ?_, HBZ.out⟩, by simp [intOf]; omega⟩
                  · intro y hy
                    rcases List.mem_append.1 hy with hy | hy
                    · exact HOK.out y hy
                    · rw [List.mem_singleton.1 hy]; exact partOf_ok HGT.out m
                  · rw [← HJ.out]
                  · rw [HG2.out]; rfl
                | true =>
                  go_wp2_with fail
                  refine ⟨⟨k + 1, ns ++ [partOf gl m], by omega, congrArg (Value.int .i64) (by omega), by rw [List.length_append, HNS.out]; rfl, ?_, ?_, ?_, HBZ.out⟩, by simp [intOf]; omega⟩
                  · intro y hy
                    rcases List.mem_append.1 hy with hy | hy
                    · exact HOK.out y hy
                    · rw [List.mem_singleton.1 hy]; exact partOf_ok HGT.out m
                  · rw [← HJ.out]
                  · rw [HG2.out]; rfl
        · obtain rfl : k = n := by omega
          have hjl : (joinL ns).length ≤ 1000 := by have := join_len ns (fun y hy => (HOK.out y hy).len); have := HNS.out; omega
          have hpj : pathL (joinL ns) = gd := by
            rw [path_join ns (fun e => by have := HNS.out; rw [e] at this; simp at this; omega) (by rw [HNS.out]; omega) HOK.out, ← HGD.out, HNS.out, ← HG0.out]
            congr 1
            exact decide_eq_decide.2 (by omega)
          have hs1 := fun u => add_lists (P := Tryd.prog) u (joinL ns) [47] (by simp; omega)
          have hs2 := fun u => add_lists (P := Tryd.prog) u [47] (joinL ns) (by simp; omega)
          have c1 := fun u (t : Tab u) => Path_is (joinL ns) u (by omega) t
          have c2 := fun u (t : Tab u) => Path_is (joinL ns ++ [47]) u (by simp; omega) t
          have c3 := fun u (t : Tab u) => Path_is ([47] ++ joinL ns) u (by simp; omega) t
          rw [hpj] at c1
          rw [path_end _ 47 (by decide)] at c2
          rw [show ([47] : List UInt8) ++ joinL ns = 47 :: joinL ns from rfl, path_head _ 47 (by decide)] at c3
          have C1 := Lib.hid c1; have C2 := Lib.hid c2; have C3 := Lib.hid c3
          have TW := Lib.hid (T.out.below hbr)
          clear c1 c2 c3 hpj
          go_wp2_with fail
          refine (awake_quote _ TW.out).mono ?_
          rintro e w1 ⟨rfl, b1⟩
          have b01 := hbr.trans (b1.mono hbr.size)
          go_wp2_with fail
          refine (C1.out _ (T.out.below b01)).mono ?_
          rintro e w2 ⟨rfl, b2⟩
          have b02 := b01.trans (b2.mono b01.size)
          go_wp2_with fail
          refine (C2.out _ (T.out.below b02)).mono ?_
          rintro e w3 ⟨rfl, b3⟩
          have b03 := b02.trans (b3.mono b02.size)
          go_wp2_with fail
          refine (C3.out _ (T.out.below b03)).mono ?_
          rintro e w4 ⟨rfl, b4⟩
          have b04 := b03.trans (b4.mono b03.size)
          go_wp2
          go_ret
          exact ⟨rfl, b04⟩
end Go.Proofs.YtboiclejhnbonaaDoor.quoteParts
