/-
  Texts that belong together, one behind the other.
-/
import Derived.Test.YtnohonjjfjppoaaGreatDoorFu17
import Derived.Test.YtnohonjjfjppoaaGreatDoorFu20
import Derived.Test.YtnohonjjfjppoaaGreatDoorFu21
import Derived.Test.YtnohonjjfjppoaaGreatDoorFu14
import Derived.Deep.MidRow
import Derived.Laws.ResultCell
import Derived.Laws.CopyRow
import Derived.Deep.RegionHeld3
import Derived.Test.YtnohonjjfjppoaaGreatDoorFu05
import Derived.OwnWalk
/-
  Layer 7: Print and Id of the program.
-/
namespace Go.Proofs.YtnohonjjfjppoaaGreatDoor
set_option maxRecDepth 20000
open Go.RowKit
set_option linter.unusedVariables false
set_option linter.unusedSimpArgs false
/-- The head of an object, whichever it is. -/
theorem head_is (k : Int) (hk : kindO k) (a : Option Addr) (n c : Nat) (hn : n ≤ 65536) (w : World) (tab : Tab w) :
    Calls Tryz.prog 77 #[thingV k (.slice a n c)] w fun e w' => ∃ g cap, e = .returned (.tuple #[.slice (some ⟨g, 0, none⟩) (headO k n ++ [0]).length cap, .int .i64 0]) ∧ RowX w' g cap (headO k n ++ [0]) ∧ w.heap.size ≤ g ∧ Below w.heap.size w w' := by
  have hwd : wordO k ≠ [] := fun h => (wordO_nil k).1 h hk
  have cw := fun w => oword_is k a n c w
  unfold headO
  rcases hk with rfl | rfl | rfl
  · exact head_ok _ (.inl rfl) a n c _ hwd (wordO_len _) cw hn w tab
  · exact head_ok _ (.inr (.inl rfl)) a n c _ hwd (wordO_len _) cw hn w tab
  · exact head_ok _ (.inr (.inr rfl)) a n c _ hwd (wordO_len _) cw hn w tab
theorem head_long (k : Int) (hk : kindO k) (a : Option Addr) (n c : Nat) (hn : 65536 < n) (hm : n ≤ maxLen) (w : World) :
    Calls Tryz.prog 77 #[thingV k (.slice a n c)] w fun e w' => e = .returned (.tuple #[.slice none 0 0, .int .i64 5]) ∧ Below w.heap.size w w' := by
  have hwd : wordO k ≠ [] := fun h => (wordO_nil k).1 h hk
  have cw := fun w => oword_is k a n c w
  rcases hk with rfl | rfl | rfl
  · exact head_limit _ (.inl rfl) a n c _ hwd cw hn hm w
  · exact head_limit _ (.inr (.inl rfl)) a n c _ hwd cw hn hm w
  · exact head_limit _ (.inr (.inr rfl)) a n c _ hwd cw hn hm w
/-- Where there is no head: the kind, or the bytes. -/
theorem head_bad (k : Int) (a : Option Addr) (n c : Nat) (l : List UInt8) (hn : n = l.length) (hm : n ≤ maxLen) (he : (printO k l).2 ≠ 0) (w : World) :
    Calls Tryz.prog 77 #[thingV k (.slice a n c)] w fun e w' => e = .returned (.tuple #[.slice none 0 0, .int .i64 (printO k l).2]) ∧ Below w.heap.size w w' := by
  by_cases hk : kindO k
  · by_cases hl : l.length ≤ 65536
    · rw [printO_ok k l hk hl] at he; exact absurd rfl he
    · rw [printO_limit k l hk (by omega)]
      exact head_long k hk a n c (by omega) hm w
  · rw [printO_kind k l hk, thing_none k _ hk]
    exact head_none w
set_option maxHeartbeats 8000000 in
theorem oPrint_bad (k : Int) (a : Option Addr) (n c : Nat) (l : List UInt8) (w : World) (hn : n = l.length) (hm : n ≤ maxLen) (he : (printO k l).2 ≠ 0) :
    Calls Tryz.prog 49 #[.agg #[.int .i64 k, .slice a n c]] w fun e w' => e = .returned (.tuple #[.slice none 0 0, .int .i64 (printO k l).2]) ∧ Below w.heap.size w w' := by
  have c1 := fun w => typed_is k a n c w
  have c2 := fun w => head_bad k a n c l hn hm he w
  obtain ⟨x, hx⟩ : ∃ x, (printO k l).2 = x := ⟨_, rfl⟩
  rw [hx] at c2 he ⊢
  have hxb : (x != 0) = true := by simp [he]
  generalize thingV k (.slice a n c) = t at c1 c2
  have B0 := Lib.hid ((Below.refl w.heap.size w).alloc (Nat.le_refl _) (.cells #[.int .i64 k, .slice a n c] 52))
  clear hx hn hm
  go_enter Tryz.func49, Tryz.ntmps49
  go_wp2_with fail
  refine (c1 _).mono ?_
  rintro e w1 ⟨rfl, b1⟩
  have B1 := Lib.hid (B0.out.trans (b1.mono (by simp)))
  clear b1
  go_wp2_with fail
  refine (c2 _).mono ?_
  rintro e w2 ⟨rfl, b2⟩
  have B2 := Lib.hid (B1.out.trans (b2.mono B1.out.size))
  clear b2
  go_wp2
  go_ret2
  exact ⟨rfl, B2.out⟩
set_option maxHeartbeats 8000000 in
theorem oPrint_good (k : Int) (hk : kindO k) (a : Option Addr) (n c : Nat) (l : List UInt8) (w : World) (hn : n = l.length) (hl : n ≤ 65536) (hb : BAt w a l) (hno : a = none → n = 0 ∧ c = 0) (hc : n ≤ c) (tab : Tab w) :
    Calls Tryz.prog 49 #[.agg #[.int .i64 k, .slice a n c]] w fun e w' => ∃ v, e = .returned (.tuple #[v, .int .i64 0]) ∧ Row w' v (objO k l) ∧ (∀ g, foot v = some g → w.heap.size ≤ g) ∧ Below w.heap.size w w' := by
  have c1 := fun w => typed_is k a n c w
  have c2 := fun w t => head_is k hk a n c hl w t
  have hol := objO_length k l
  have w1 := wordO_len k
  have w2 := numO_le l.length 4 (by omega)
  have hO : objO k l = [headO k n ++ [0], l].flatten := by subst hn; unfold objO; simp
  have hdl : (headO k n ++ [0]).length ≤ 13 := by subst hn; unfold headO; simp only [List.length_append, List.length_cons, List.length_nil]; omega
  rw [hO] at hol ⊢
  have HPA := Lib.hid (show PartAt w (.slice a n c) l from ⟨a, c, by rw [hn], hb, (fun h => by rw [← hn]; exact hno h), by omega, by unfold maxLen; omega⟩)
  generalize headO k n ++ [0] = hd at c2 hol hdl ⊢
  have HO := Lib.hid (show 0 < [hd, l].flatten.length ∧ [hd, l].flatten.length ≤ 16777216 by omega)
  obtain ⟨hl2, hhl⟩ : ∃ hl2, hd.length = hl2 := ⟨_, rfl⟩
  have HHL := Lib.hid hhl
  rw [hhl] at c2 hdl
  generalize thingV k (.slice a n c) = t at c1 c2
  have b0 := (Below.refl w.heap.size w).alloc (Nat.le_refl _) (.cells #[.int .i64 k, .slice a n c] 52)
  have h0 := heap_alloc_new w (.cells #[.int .i64 k, .slice a n c] 52)
  have B0 := Lib.hid b0
  have H0 := Lib.hid h0
  have TB := Lib.hid tab
  clear hk hn hl hb hno hc tab hol w1 w2 hO hhl b0 h0
  go_enter Tryz.func49, Tryz.ntmps49
  go_wp2_with fail
  refine (c1 _).mono ?_
  rintro e w1 ⟨rfl, b1⟩
  have B1 := Lib.hid (B0.out.trans (b1.mono (by simp)))
  have H1 := Lib.hid ((b1.block w.heap.size (by simp)).trans H0.out)
  clear b1
  go_wp2_with fail
  refine (c2 _ (TB.out.keep B1.out)).mono ?_
  rintro e w2 ⟨g, cap, rfl, r2, hg2, b2⟩
  have H2 := (b2.block w.heap.size (Array.getElem?_eq_some_iff.1 H1.out).1).trans H1.out
  have B2 := Lib.hid (B1.out.trans (b2.mono B1.out.size))
  have q1 : w2.cell? ⟨w.heap.size, 1, none⟩ = some (.slice a n c) := (Lib.cell_of_heap H2 1).trans rfl
  have hp2 := HPA.out.below B2.out (Nat.le_refl _)
  have hx2 : PartAt w2 (.slice (some ⟨g, 0, none⟩) hl2 cap) hd := by
    have hb := r2.bat
    obtain ⟨cur, fz, hg, h1, h2, _⟩ := r2
    exact ⟨_, cap, by rw [HHL.out], hb, (fun e => nomatch e), h1, by unfold maxLen at h2 ⊢; omega⟩
  have C3 := Lib.hid (Concat_parts _ (some ⟨w2.heap.size, 0, none⟩) 2 2 [hd, l] rfl (by omega) HO.out.1 HO.out.2 (parts2 50 hx2 hp2))
  clear b2 hp2 hx2 r2 hg2 H2
  go_wp2_with fail
  refine C3.out.mono ?_
  rintro e w3 ⟨v, rfl, hr3, hf3, hb3⟩
  rw [show (w2.alloc (.cells #[.slice (some ⟨g, 0, none⟩) hl2 cap, .slice a n c] 50)).heap.size = w2.heap.size + 1 by simp] at hf3 hb3
  have B3 := Lib.hid (B2.out.trans ((((Below.refl _ w2).alloc (Nat.le_refl _) _).trans (hb3.mono (by omega))).mono B2.out.size))
  have F3 := Lib.hid (fun g hg => Nat.le_trans (Nat.le_trans B2.out.size (Nat.le_succ _)) (hf3 g hg) : ∀ g, foot v = some g → w.heap.size ≤ g)
  have R3 := Lib.hid hr3
  obtain ⟨va, vc, hv, _, _, _, _⟩ := hr3.shape
  obtain ⟨vl, hvl⟩ : ∃ vl, [hd, l].flatten.length = vl := ⟨_, rfl⟩
  rw [hvl] at hv
  subst hv
  clear hvl C3 hr3 hf3 hb3
  go_wp2
  go_ret2
  exact ⟨_, rfl, R3.out, F3.out, B3.out⟩
/-- Print, whatever comes. -/
theorem Print_any (k : Int) (a : Option Addr) (n c : Nat) (l : List UInt8) (w : World) (hn : n = l.length) (hb : BAt w a l) (hno : a = none → n = 0 ∧ c = 0) (hc : n ≤ c) (hm : c ≤ maxLen) (tab : Tab w) :
    Calls Tryz.prog 49 #[.agg #[.int .i64 k, .slice a n c]] w fun e w' => ∃ v, e = .returned (.tuple #[v, .int .i64 (printO k l).2]) ∧ Row w' v (printO k l).1 ∧ (∀ g, foot v = some g → w.heap.size ≤ g) ∧ Below w.heap.size w w' := by
  by_cases he : (printO k l).2 = 0
  · have hk : kindO k := by
      by_cases hk : kindO k
      · exact hk
      · rw [printO_kind k l hk] at he; exact absurd he (by decide)
    have hl : l.length ≤ 65536 := by
      by_cases hl : l.length ≤ 65536
      · exact hl
      · rw [printO_limit k l hk (by omega)] at he; exact absurd he (by decide)
    rw [printO_ok k l hk hl]
    exact oPrint_good k hk a n c l w hn (by omega) hb hno hc tab
  · have h1 : (printO k l).1 = [] := by
      by_cases hk : kindO k
      · by_cases hl : l.length ≤ 65536
        · rw [printO_ok k l hk hl] at he; exact absurd rfl he
        · rw [printO_limit k l hk (by omega)]
      · rw [printO_kind k l hk]
    rw [h1]
    refine (oPrint_bad k a n c l w hn (by omega) he).mono ?_
    rintro e w' ⟨rfl, b⟩
    exact ⟨_, rfl, Row.nil _ _, (fun g hg => by cases hg), b⟩
theorem good_of {k : Int} {l : List UInt8} (he : (printO k l).2 = 0) : kindO k ∧ l.length ≤ 65536 := by
  have hk : kindO k := by
    by_cases hk : kindO k
    · exact hk
    · rw [printO_kind k l hk] at he; exact absurd he (by decide)
  refine ⟨hk, ?_⟩
  by_cases hl : l.length ≤ 65536
  · exact hl
  · rw [printO_limit k l hk (by omega)] at he; exact absurd he (by decide)
set_option maxHeartbeats 8000000 in
/-- The program's id of an object. -/
theorem Id_is (k : Int) (a : Option Addr) (n c : Nat) (l : List UInt8) (w : World) (hn : n = l.length) (hb : BAt w a l) (hno : a = none → n = 0 ∧ c = 0) (hc : n ≤ c) (hm : c ≤ maxLen) (tab : Tab w) :
    Calls Tryz.prog 46 #[.agg #[.int .i64 k, .slice a n c]] w fun e w' => e = .returned (idv (sumO k l)) ∧ Below w.heap.size w w' := by
  obtain ⟨z, hz, hze⟩ := z29
  have hzv := zero_arr hz
  have hzs : z.size = 20 := by rw [hze]; simp
  have b00 := (Below.refl w.heap.size w).alloc (Nat.le_refl _) (.cells #[.int .i64 k, .slice a n c] 52)
  have b0 := b00.alloc b00.size (.cells z 27)
  have r0 : ((w.alloc (.cells #[.int .i64 k, .slice a n c] 52)).alloc (.cells z 27)).heap[w.heap.size + 1]? = some (.cells z 27 (0, 0)) := by
    rw [show w.heap.size + 1 = (w.alloc (.cells #[.int .i64 k, .slice a n c] 52)).heap.size by simp]; exact heap_alloc_new _ _
  have o0 : ((w.alloc (.cells #[.int .i64 k, .slice a n c] 52)).alloc (.cells z 27)).heap[w.heap.size]? = some (.cells #[.int .i64 k, .slice a n c] 52 (0, 0)) :=
    (((Below.refl _ _).alloc (Nat.le_refl _) _ : Below (w.alloc (.cells #[.int .i64 k, .slice a n c] 52)).heap.size _ _).block w.heap.size (by simp)).trans (heap_alloc_new w _)
  have s0 : w.heap.size + 1 < ((w.alloc (.cells #[.int .i64 k, .slice a n c] 52)).alloc (.cells z 27)).heap.size := (Array.getElem?_eq_some_iff.1 r0).1
  have hall : z.all (·.oneCell') = true := by rw [hze]; exact bc_all (List.replicate 20 0)
  have c1 := fun w => typed_is k a n c w
  unfold sumO
  by_cases he : (printO k l).2 = 0
  · rw [if_pos he]
    obtain ⟨hk, hl⟩ := good_of he
    have c2 := fun w t => head_is k hk a n c (by omega) w t
    have hO : (printO k l).1 = [headO k n ++ [0], l].flatten := by rw [printO_ok k l hk hl]; subst hn; unfold objO; simp
    have hpl := printO_len k l he
    rw [hO] at hpl ⊢
    have HPA := Lib.hid (show PartAt w (.slice a n c) l from ⟨a, c, by rw [hn], hb, (fun h => by rw [← hn]; exact hno h), by omega, by omega⟩)
    generalize headO k n ++ [0] = hd at c2 hpl ⊢
    generalize thingV k (.slice a n c) = t at c1 c2
    obtain ⟨hl2, hhl⟩ : ∃ hl2, hd.length = hl2 := ⟨_, rfl⟩
    have HHL := Lib.hid hhl
    rw [hhl] at c2
    obtain ⟨m, hfm⟩ : ∃ m, [hd, l].flatten = m := ⟨_, rfl⟩
    have HFM := Lib.hid hfm
    rw [hfm] at hpl ⊢
    obtain ⟨arr, hia, haa⟩ := idv_cells (sumL m)
    have hasz : arr.size = 20 := by rw [haa]; simp [bc_len, sumL, digest_len]
    have hall : arr.all (·.oneCell') = true := by rw [haa]; exact bc_all _
    have HASZ := Lib.hid hasz; have HALL := Lib.hid hall; have HIA := Lib.hid hia
    have HPL := Lib.hid hpl
    have HB0 := Lib.hid b0; have HR0 := Lib.hid r0; have HO0 := Lib.hid o0; have HZS := Lib.hid hzs; have HS0 := Lib.hid s0
    have TB := Lib.hid tab
    clear b00 b0 r0 o0 s0 he hn hb hno hc hm hz hze hzs hk hl hO hhl hfm hpl hasz hall hia haa tab
    go_enter Tryz.func46, Tryz.ntmps46
    go_wp2_with fail
    refine (c1 _).mono ?_
    rintro e w1 ⟨rfl, b1⟩
    have B1 := Lib.hid (HB0.out.trans (b1.mono HB0.out.size))
    have R1 := Lib.hid ((b1.block (w.heap.size + 1) HS0.out).trans HR0.out)
    have O1 := Lib.hid ((b1.block w.heap.size (Nat.lt_of_succ_lt HS0.out)).trans HO0.out)
    clear b1 HB0 HR0 HO0 HS0
    go_wp2_with fail
    refine (c2 _ (TB.out.keep B1.out)).mono ?_
    rintro e w2 ⟨g, cap, rfl, r2, hg2, b2⟩
    have R2 := Lib.hid ((b2.block (w.heap.size + 1) (Array.getElem?_eq_some_iff.1 R1.out).1).trans R1.out)
    have h2 := (b2.block w.heap.size (Array.getElem?_eq_some_iff.1 O1.out).1).trans O1.out
    have B2 := Lib.hid (B1.out.trans (b2.mono B1.out.size))
    have q1 : w2.cell? ⟨w.heap.size, 1, none⟩ = some (.slice a n c) := (Lib.cell_of_heap h2 1).trans rfl
    have hp2 := HPA.out.below B2.out (Nat.le_refl _)
    have hx2 : PartAt w2 (.slice (some ⟨g, 0, none⟩) hl2 cap) hd := by
      have hb := r2.bat
      obtain ⟨cur, fz, hg, h1, h2, _⟩ := r2
      exact ⟨_, cap, by rw [HHL.out], hb, (fun e => nomatch e), h1, by unfold maxLen at h2 ⊢; omega⟩
    have C3 := Sum_parts _ (some ⟨w2.heap.size, 0, none⟩) 2 2 [hd, l] rfl (by omega) (by rw [HFM.out]; exact HPL.out) (parts2 50 hx2 hp2)
    rw [HFM.out, HIA.out] at C3
    have C4 := Lib.hid C3
    clear b2 hp2 hx2 r2 hg2 h2 C3 B1 R1 O1
    go_wp2_with fail
    refine C4.out.mono ?_
    rintro e w3 ⟨rfl, hb3⟩
    have hb23 := (((Below.refl w2.heap.size w2).alloc (Nat.le_refl _) (.cells #[.slice (some ⟨g, 0, none⟩) hl2 cap, .slice a n c] 50)).trans (hb3.mono (by simp)))
    have R3 := Lib.hid ((hb23.block (w.heap.size + 1) (Array.getElem?_eq_some_iff.1 R2.out).1).trans R2.out)
    have B3 := Lib.hid (B2.out.trans (hb23.mono B2.out.size))
    clear C4 hb3 hb23
    go_wp2_with (first
      | (with_reducible refine wpList_store_row rfl 27 (.tmp 2) (.tmp 18) rfl (w.heap.size + 1) arr rfl rfl 27 z ?sg ?si ?so ?s1 ?_)
      | fail)
    case sg => exact R3.out
    case si => rw [info29, HASZ.out]
    case so => rw [HZS.out, HASZ.out]
    case s1 => exact HALL.out
    refine bodyPost_ret (results_cell_row Tryz.results46 _ _ (w.heap.size + 1) 27 arr (0, 0) _ rfl (setRow_heap w3 (w.heap.size + 1) z arr _ (0, 0) R3.out) Tryz.underlying27 rfl (by rw [info29, HASZ.out])) rfl ⟨by rw [HIA.out], below_setRow B3.out (Nat.le_succ _) arr⟩
  · rw [if_neg he]
    have hzi : idv (List.replicate 20 0) = .agg z := by rw [hze]; rfl
    rw [hzi]
    have c2 := fun w => head_bad k a n c l hn (by omega) he w
    obtain ⟨x, hx⟩ : ∃ x, (printO k l).2 = x := ⟨_, rfl⟩
    rw [hx] at he c2
    have hxb : (x != 0) = true := by simp [he]
    generalize thingV k (.slice a n c) = t at c1 c2
    have HB0 := Lib.hid b0; have HR0 := Lib.hid r0; have HZS := Lib.hid hzs; have HALL := Lib.hid hall; have HS0 := Lib.hid s0
    clear b00 b0 r0 o0 s0 hn hb hno hc hm hz hze hzs hzi hx hall tab
    go_enter Tryz.func46, Tryz.ntmps46
    go_wp2_with fail
    refine (c1 _).mono ?_
    rintro e w1 ⟨rfl, b1⟩
    have B1 := Lib.hid (HB0.out.trans (b1.mono HB0.out.size))
    have R1 := Lib.hid ((b1.block (w.heap.size + 1) HS0.out).trans HR0.out)
    clear b1 HB0 HR0 HS0
    go_wp2_with fail
    refine (c2 _).mono ?_
    rintro e w2 ⟨rfl, b2⟩
    have R2 := Lib.hid ((b2.block (w.heap.size + 1) (Array.getElem?_eq_some_iff.1 R1.out).1).trans R1.out)
    have B2 := Lib.hid (B1.out.trans (b2.mono B1.out.size))
    clear b2 B1 R1
    go_wp2_with (first
      | (with_reducible refine wpList_store_row rfl 27 (.tmp 2) (.tmp 13) rfl (w.heap.size + 1) z rfl rfl 27 z ?sg ?si ?so ?s1 ?_)
      | fail)
    case sg => exact R2.out
    case si => rw [info29, HZS.out]
    case so => rfl
    case s1 => exact HALL.out
    refine bodyPost_ret (results_cell_row Tryz.results46 _ _ (w.heap.size + 1) 27 z (0, 0) _ rfl (setRow_heap w2 (w.heap.size + 1) z z _ (0, 0) R2.out) Tryz.underlying27 rfl (by rw [info29, HZS.out])) rfl ⟨rfl, below_setRow B2.out (Nat.le_succ _) z⟩
end Go.Proofs.YtnohonjjfjppoaaGreatDoor

/-
  Layer 9: stores into blocks, the world behind them told by what stays; a record in a block of its own.
-/
namespace Go.Proofs.YtnohonjjfjppoaaGreatDoor
set_option maxRecDepth 20000
open Go.RowKit
set_option linter.unusedVariables false
set_option linter.unusedSimpArgs false
/-- All blocks but one stay. -/
structure Off (g : Nat) (w w' : World) : Prop where
  os : w'.os = w.os
  tape : w'.tape = w.tape
  output : w'.output = w.output
  size : w.heap.size ≤ w'.heap.size
  block : ∀ k, k < w.heap.size → k ≠ g → w'.heap[k]? = w.heap[k]?
theorem Off.refl (g : Nat) (w : World) : Off g w w := ⟨rfl, rfl, rfl, Nat.le_refl _, fun _ _ _ => rfl⟩
theorem Off.trans {g : Nat} {a b c : World} (h : Off g a b) (k : Off g b c) : Off g a c :=
  ⟨k.os.trans h.os, k.tape.trans h.tape, k.output.trans h.output, Nat.le_trans h.size k.size, fun i hi hn => (k.block i (Nat.lt_of_lt_of_le hi h.size) hn).trans (h.block i hi hn)⟩
theorem Off.below {g B : Nat} {w w' : World} (h : Off g w w') (hB : B ≤ g) (hs : B ≤ w.heap.size) : Below B w w' := ⟨h.os, h.tape, h.output, h.size, fun k hk => h.block k (by omega) (by omega)⟩
theorem Off.cell {g : Nat} {w w' : World} (h : Off g w w') {p : Addr} {v : Value} (hv : w.cell? p = some v) (hn : p.block ≠ g) : w'.cell? p = some v := by
  have hb := h.block p.block (World.block_lt_of_cell? w p hv) hn
  rw [← hv]
  exact World.cell?_of_block (w := w) hb
/-- A value of cells, stored into a block. -/
theorem wpList_store_any {ops : Array Oper} {rest : List Oper} {o : Oper} {a : Act} {w : World} {Q : Exit → Act → World → Prop} (hgd : o.guard = none) (ty : TypeId) (x y : Operand) (ho : o.op = .store ty x y) (g off : Nat) (cells : Array Value)
    (hx : a.eval x = .pointer (some ⟨g, off, none⟩)) (hy : a.eval y = .agg cells) (T : TypeId) (cur : Array Value) (hg : w.heap[g]? = some (.cells cur T (0, 0))) (hi : (Tryz.prog.info? ty).map (·.size) = some cells.size) (hfit : off + cells.size ≤ cur.size)
    (h1 : cells.all (·.oneCell') = true)
    (h : ∀ w', w'.heap[g]? = some (.cells (cur.toList.take off ++ cells.toList ++ cur.toList.drop (off + cells.size)).toArray T (0, 0)) → Off g w w' → w'.heap.size = w.heap.size → wpList Tryz.prog ops Q rest (a.put o.dst undef) w') :
    wpList Tryz.prog ops Q (o :: rest) a w := by
  refine wpList_plain hgd fun K hK => ?_
  obtain ⟨ie, hie, hsz⟩ : ∃ ie, Tryz.prog.info? ty = some ie ∧ ie.size = cells.size := by
    cases e : Tryz.prog.info? ty with
    | none => rw [e] at hi; cases hi
    | some ie => rw [e] at hi; exact ⟨ie, rfl, Option.some.inj hi⟩
  have hst := run_storeCells_at Tryz.prog g off T cells.toList 0 cur w hg (by rw [Array.length_toList]; omega) (fun v hv => (Array.all_eq_true_iff_forall_mem.1 h1) v (by simpa using hv))
  unfold Oper.wp execOp
  simp only [ho, hx, hy, Instr.storeAt, Instr.sureAddr, Sem.run_bind, Sem.run_pure, Result.andThen_ok]
  have hrun : (storeVar ty ⟨g, off, none⟩ (.agg cells)).run Tryz.prog w = .ok () (w.setRow g (cur.toList.take off ++ cells.toList ++ cur.toList.drop (off + cells.size)).toArray) := by
    simp only [Nat.add_zero, Array.length_toList] at hst
    simp [storeVar, sizeOf, typeInfo, hie, hsz, Value.cells, hst]
  rw [hrun]
  have b := below_setRow (B := g) (Below.refl g w) (Nat.le_refl _) (cur.toList.take off ++ cells.toList ++ cur.toList.drop (off + cells.size)).toArray
  refine hK _ _ (h _ (setRow_heap w g cur _ T (0, 0) hg) ⟨b.os, b.tape, b.output, b.size, fun k _ hk => ?_⟩ (by simp [World.setRow]))
  have hkg : ¬ g = k := fun e => hk e.symm
  simp [World.setRow, Array.getElem?_modify, hkg]
/-- All of a block. -/
theorem wpList_store_all {ops : Array Oper} {rest : List Oper} {o : Oper} {a : Act} {w : World} {Q : Exit → Act → World → Prop} (hgd : o.guard = none) (ty : TypeId) (x y : Operand) (ho : o.op = .store ty x y) (g : Nat) (cells : Array Value)
    (hx : a.eval x = .pointer (some ⟨g, 0, none⟩)) (hy : a.eval y = .agg cells) (T : TypeId) (cur : Array Value) (hg : w.heap[g]? = some (.cells cur T (0, 0))) (hi : (Tryz.prog.info? ty).map (·.size) = some cells.size) (hfit : cells.size = cur.size)
    (h1 : cells.all (·.oneCell') = true)
    (h : ∀ w', w'.heap[g]? = some (.cells cells T (0, 0)) → Off g w w' → w'.heap.size = w.heap.size → wpList Tryz.prog ops Q rest (a.put o.dst undef) w') :
    wpList Tryz.prog ops Q (o :: rest) a w := by
  refine wpList_store_any hgd ty x y ho g 0 cells hx hy T cur hg hi (by omega) h1 (fun w' hw => h w' ?_)
  rw [hw, List.take_zero, List.nil_append, Nat.zero_add, hfit, List.drop_of_length_le (by simp), List.append_nil]
/-- All of a block, read. -/
theorem wpList_load_all {ops : Array Oper} {rest : List Oper} {op : Oper} {a : Act} {w : World} {Q : Exit → Act → World → Prop} (ty : TypeId) (x : Operand) (ho : op.op = .load ty x) (hw : Region.wanted op (yielded ops a.tmps) = true)
    (g : Nat) (A : Array Value) (T : TypeId) (fr : Nat × Nat) (hx : a.eval x = .pointer (some ⟨g, 0, none⟩)) (hg : w.heap[g]? = some (.cells A T fr)) (d : TypeDesc)
    (hu : Tryz.prog.underlying ty = some d) (hd : d.isRow = true) (hi : (Tryz.prog.info? ty).map (·.size) = some A.size)
    (h : wpList Tryz.prog ops Q rest (a.put op.dst (.agg A)) w) : wpList Tryz.prog ops Q (op :: rest) a w :=
  wpList_load_midD ty x ho hw g 0 hx A.toList d (row_arrD hg) hu hd (by rw [Array.length_toList]; exact hi) (by rw [Array.toArray_toList]; exact h)
/-- A literal without parts: the zero value. -/
theorem wpList_build_none {ops : Array Oper} {rest : List Oper} {o : Oper} {a : Act} {w : World} {Q : Exit → Act → World → Prop} (hgd : o.guard = none) (t : TypeId) (ho : o.op = .build t #[])
    (cells : Array Value) (hb : Tryz.prog.built t [] = some cells) (h : wpList Tryz.prog ops Q rest (a.put o.dst (.agg cells)) w) : wpList Tryz.prog ops Q (o :: rest) a w :=
  wpList_plain hgd fun K hK => wp_build t #[] ho (by simp [hb]) (by simp [hb]; exact hK _ _ h)
theorem zId_any : ∃ z : Array Value, z = arrD idZ ∧ z.size = 20 ∧ (∀ w, (zeroValue 27).run Tryz.prog w = .ok (.agg z) w) ∧ Tryz.prog.built 27 [] = some z ∧ z.all (·.oneCell') = true :=
  ⟨arrD idZ, rfl, arrD_size _ rfl, zero_arr zIdD, by kernel_rfl, arrD_one _⟩
theorem results_id9 {fn : Func} {p u : Tmp} (h : fn.results = #[.cell p 27, .tmp u]) (tmps : Array Value) (w : World) (g : Nat) (cs : Array Value) (fr : Nat × Nat) (x : Value)
    (hp : tmps.getD p undef = .pointer (some ⟨g, 0, none⟩)) (hx : tmps.getD u undef = x) (hg : w.heap[g]? = some (.cells cs 27 fr)) (hn : cs.size = 20) :
    (results fn tmps).run Tryz.prog w = .ok (.tuple #[.agg cs, x]) w := by
  rw [results_cell_tmp h, hp, hx]
  have e : (asAddr (.pointer (some ⟨g, 0, none⟩))).run Tryz.prog w = .ok ⟨g, 0, none⟩ w := rfl
  rw [e]
  simp only [Result.andThen_ok]
  rw [run_loadVar_row w g 27 27 cs fr _ hg Tryz.underlying27 rfl (by rw [infoD_n, hn])]
  rfl
theorem slice20_D (u : World) (g k : Nat) : (Instr.sliceAt 27 (.pointer (some ⟨g, k, none⟩)) none none none).run Tryz.prog u = .ok (.slice (some ⟨g, k, none⟩) 20 20) u := by
  have ea : Tryz.prog.arrayLen 27 = 20 := by kernel_rfl
  have ee : Tryz.prog.elem 27 = 5 := by kernel_rfl
  rw [run_sliceAt_array_all u 27 ⟨g, k, none⟩ (by rw [ea, ee]; exact Tryz.underlying27), ea, ee, Tryz.sizeOf5]
  simp [Result.andThen, slicedAt, Addr.add]
/-- An id's cells are its bytes. -/
theorem bat_of_range {w : World} {b o : Nat} {i : List UInt8} (hb : b < w.heap.size) (h : w.rangeAt b o (cellsD i)) : BAt w (some ⟨b, o, none⟩) i := fun _ =>
  ⟨b, o, rfl, hb, fun j hj => h j _ (by simp [cellsD, Lib.byteCells, List.getElem?_map, hj])⟩
end Go.Proofs.YtnohonjjfjppoaaGreatDoor

/-
  Layer 10, the document's answers: where an id stands.
-/
namespace Go.Proofs.YtnohonjjfjppoaaGreatDoor
set_option maxRecDepth 20000
open Go.RowKit
set_option linter.unusedVariables false
set_option linter.unusedSimpArgs false
/-- One of a store's cells: its id, its kind, its bytes. -/
theorem CelsAt.id {S : Nat → Prop} {w : World} {g b o : Nat} {E : List Ent} (h : CelsAt S w g (some ⟨b, o, none⟩) E) (k : Nat) (hk : k < E.length) : w.rangeAt b (o + k * 22) (cellsD E[k].c.id) := by
  have hr := h.row.elem k hk
  intro j v hv
  have hl : j < (cellsD E[k].c.id).length := (List.getElem?_eq_some_iff.1 hv).1
  refine hr j v ?_
  show (cellsE E[k])[j]? = some v
  unfold cellsE
  rw [List.getElem?_append_left hl]
  exact hv
end Go.Proofs.YtnohonjjfjppoaaGreatDoor

/-
  Layer 10, the document's answers: a put of what has an id that is there.
-/
namespace Go.Proofs.YtnohonjjfjppoaaGreatDoor
set_option maxRecDepth 20000
open Go.RowKit
set_option linter.unusedVariables false
set_option linter.unusedSimpArgs false
/-- What a put of an object answers whose id is there: the same object, or another one. -/
def pickI : Bool → List UInt8 → List UInt8
  | true, i => i
  | false, _ => idZ
def pickE : Bool → Int
  | true => 0
  | false => 7
end Go.Proofs.YtnohonjjfjppoaaGreatDoor
