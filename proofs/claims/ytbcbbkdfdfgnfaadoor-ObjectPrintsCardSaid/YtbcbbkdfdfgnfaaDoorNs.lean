/-
  Layer 7: Print and Id of the program.
-/
import Derived.Test.YtbcbbkdfdfgnfaaDoorNr
import Derived.Test.YtbcbbkdfdfgnfaaDoorNh
import Derived.Test.YtbcbbkdfdfgnfaaDoorFo
namespace Go.Proofs.YtbcbbkdfdfgnfaaDoor
set_option maxRecDepth 20000
open Go.RowKit
set_option linter.unusedVariables false
set_option linter.unusedSimpArgs false

/-- The head of an object, whichever it is. -/
theorem head_is (k : Int) (hk : kindO k) (a : Option Addr) (n c : Nat) (hn : n ≤ 65536) (w : World) (tab : Tab w) :
    Calls Tryd.prog 22 #[thingV k (.slice a n c)] w fun e w' => ∃ g cap, e = .returned (.tuple #[.slice (some ⟨g, 0, none⟩) (headO k n ++ [0]).length cap, .int .i64 0]) ∧ RowX w' g cap (headO k n ++ [0]) ∧ w.heap.size ≤ g ∧ Below w.heap.size w w' := by
  have hwd : wordO k ≠ [] := fun h => (wordO_nil k).1 h hk
  have cw := fun w => word_is k a n c w
  unfold headO
  rcases hk with rfl | rfl | rfl
  · exact head_ok _ (.inl rfl) a n c _ hwd (wordO_len _) cw hn w tab
  · exact head_ok _ (.inr (.inl rfl)) a n c _ hwd (wordO_len _) cw hn w tab
  · exact head_ok _ (.inr (.inr rfl)) a n c _ hwd (wordO_len _) cw hn w tab
theorem head_long (k : Int) (hk : kindO k) (a : Option Addr) (n c : Nat) (hn : 65536 < n) (hm : n ≤ maxLen) (w : World) :
    Calls Tryd.prog 22 #[thingV k (.slice a n c)] w fun e w' => e = .returned (.tuple #[.slice none 0 0, .int .i64 5]) ∧ Below w.heap.size w w' := by
  have hwd : wordO k ≠ [] := fun h => (wordO_nil k).1 h hk
  have cw := fun w => word_is k a n c w
  rcases hk with rfl | rfl | rfl
  · exact head_limit _ (.inl rfl) a n c _ hwd cw hn hm w
  · exact head_limit _ (.inr (.inl rfl)) a n c _ hwd cw hn hm w
  · exact head_limit _ (.inr (.inr rfl)) a n c _ hwd cw hn hm w
/-- Where there is no head: the kind, or the bytes. -/
theorem head_bad (k : Int) (a : Option Addr) (n c : Nat) (l : List UInt8) (hn : n = l.length) (hm : n ≤ maxLen) (he : (printO k l).2 ≠ 0) (w : World) :
    Calls Tryd.prog 22 #[thingV k (.slice a n c)] w fun e w' => e = .returned (.tuple #[.slice none 0 0, .int .i64 (printO k l).2]) ∧ Below w.heap.size w w' := by
  by_cases hk : kindO k
  · by_cases hl : l.length ≤ 65536
    · rw [printO_ok k l hk hl] at he; exact absurd rfl he
    · rw [printO_limit k l hk (by omega)]
      exact head_long k hk a n c (by omega) hm w
  · rw [printO_kind k l hk, thing_none k _ hk]
    exact head_none w

set_option maxHeartbeats 8000000 in
theorem Print_bad (k : Int) (a : Option Addr) (n c : Nat) (l : List UInt8) (w : World) (hn : n = l.length) (hm : n ≤ maxLen) (he : (printO k l).2 ≠ 0) :
    Calls Tryd.prog 9 #[.agg #[.int .i64 k, .slice a n c]] w fun e w' => e = .returned (.tuple #[.slice none 0 0, .int .i64 (printO k l).2]) ∧ Below w.heap.size w w' := by
  have c1 := fun w => typed_is k a n c w
  have c2 := fun w => head_bad k a n c l hn hm he w
  obtain ⟨x, hx⟩ : ∃ x, (printO k l).2 = x := ⟨_, rfl⟩
  rw [hx] at c2 he ⊢
  have hxb : (x != 0) = true := by simp [he]
  generalize thingV k (.slice a n c) = t at c1 c2
  have B0 := Lib.hid ((Below.refl w.heap.size w).alloc (Nat.le_refl _) (.cells #[.int .i64 k, .slice a n c] 24))
  clear hx hn hm
  go_enter Tryd.func9, Tryd.ntmps9
  go_wp2_with fail
  refine (c1 _).mono ?_
  rintro e w1 ⟨rfl, b1⟩
  have B1 := Lib.hid (B0.out.trans (b1.mono (by simp)))
  clear b1
  go_wp2_with fail
  refine (c2 _).mono ?_
  rintro e w2 ⟨rfl, b2⟩
  have B2 := Lib.hid (B1.out.trans (b2.mono B1.out.size))
  clear b2
  go_wp2
  go_ret2
  exact ⟨rfl, B2.out⟩
set_option maxHeartbeats 8000000 in
theorem Print_good (k : Int) (hk : kindO k) (a : Option Addr) (n c : Nat) (l : List UInt8) (w : World) (hn : n = l.length) (hl : n ≤ 65536) (hb : BAt w a l) (hno : a = none → n = 0 ∧ c = 0) (hc : n ≤ c) (tab : Tab w) :
    Calls Tryd.prog 9 #[.agg #[.int .i64 k, .slice a n c]] w fun e w' => ∃ v, e = .returned (.tuple #[v, .int .i64 0]) ∧ Row w' v (objO k l) ∧ (∀ g, foot v = some g → w.heap.size ≤ g) ∧ Below w.heap.size w w' := by
  have c1 := fun w => typed_is k a n c w
  have c2 := fun w t => head_is k hk a n c hl w t
  have hol := objO_length k l
  have w1 := wordO_len k
  have w2 := numO_le l.length 4 (by omega)
  have hO : objO k l = [headO k n ++ [0], l].flatten := by subst hn; unfold objO; simp
  have hdl : (headO k n ++ [0]).length ≤ 13 := by subst hn; unfold headO; simp only [List.length_append, List.length_cons, List.length_nil]; omega
  rw [hO] at hol ⊢
  have HPA := Lib.hid (show PartAt w (.slice a n c) l from ⟨a, c, by rw [hn], hb, (fun h => by rw [← hn]; exact hno h), by omega, by unfold maxLen; omega⟩)
  generalize headO k n ++ [0] = hd at c2 hol hdl ⊢
  have HO := Lib.hid (show 0 < [hd, l].flatten.length ∧ [hd, l].flatten.length ≤ 16777216 by omega)
  obtain ⟨hl2, hhl⟩ : ∃ hl2, hd.length = hl2 := ⟨_, rfl⟩
  have HHL := Lib.hid hhl
  rw [hhl] at c2 hdl
  generalize thingV k (.slice a n c) = t at c1 c2
  have b0 := (Below.refl w.heap.size w).alloc (Nat.le_refl _) (.cells #[.int .i64 k, .slice a n c] 24)
  have h0 := heap_alloc_new w (.cells #[.int .i64 k, .slice a n c] 24)
  have B0 := Lib.hid b0
  have H0 := Lib.hid h0
  have TB := Lib.hid tab
  clear hk hn hl hb hno hc tab hol w1 w2 hO hhl b0 h0
  go_enter Tryd.func9, Tryd.ntmps9
  go_wp2_with fail
  refine (c1 _).mono ?_
  rintro e w1 ⟨rfl, b1⟩
  have B1 := Lib.hid (B0.out.trans (b1.mono (by simp)))
  have H1 := Lib.hid ((b1.block w.heap.size (by simp)).trans H0.out)
  clear b1
  go_wp2_with fail
  refine (c2 _ (TB.out.keep B1.out)).mono ?_
  rintro e w2 ⟨g, cap, rfl, r2, hg2, b2⟩
  have H2 := (b2.block w.heap.size (Array.getElem?_eq_some_iff.1 H1.out).1).trans H1.out
  have B2 := Lib.hid (B1.out.trans (b2.mono B1.out.size))
  have q1 : w2.cell? ⟨w.heap.size, 1, none⟩ = some (.slice a n c) := (Lib.cell_of_heap H2 1).trans rfl
  have hp2 := HPA.out.below B2.out (Nat.le_refl _)
  have hx2 : PartAt w2 (.slice (some ⟨g, 0, none⟩) hl2 cap) hd := by
    have hb := r2.bat
    obtain ⟨cur, fz, hg, h1, h2, _⟩ := r2
    exact ⟨_, cap, by rw [HHL.out], hb, (fun e => nomatch e), h1, by unfold maxLen at h2 ⊢; omega⟩
  have C3 := Lib.hid (Concat_parts _ (some ⟨w2.heap.size, 0, none⟩) 2 2 [hd, l] rfl (by omega) HO.out.1 HO.out.2 (parts2 22 hx2 hp2))
  clear b2 hp2 hx2 r2 hg2 H2
  go_wp2_with fail
  refine C3.out.mono ?_
  rintro e w3 ⟨v, rfl, hr3, hf3, hb3⟩
  rw [show (w2.alloc (.cells #[.slice (some ⟨g, 0, none⟩) hl2 cap, .slice a n c] 22)).heap.size = w2.heap.size + 1 by simp] at hf3 hb3
  have B3 := Lib.hid (B2.out.trans ((((Below.refl _ w2).alloc (Nat.le_refl _) _).trans (hb3.mono (by omega))).mono B2.out.size))
  have F3 := Lib.hid (fun g hg => Nat.le_trans (Nat.le_trans B2.out.size (Nat.le_succ _)) (hf3 g hg) : ∀ g, foot v = some g → w.heap.size ≤ g)
  have R3 := Lib.hid hr3
  obtain ⟨va, vc, hv, _, _, _, _⟩ := hr3.shape
  obtain ⟨vl, hvl⟩ : ∃ vl, [hd, l].flatten.length = vl := ⟨_, rfl⟩
  rw [hvl] at hv
  subst hv
  clear hvl C3 hr3 hf3 hb3
  go_wp2
  go_ret2
  exact ⟨_, rfl, R3.out, F3.out, B3.out⟩
/-- Print, whatever comes. -/
theorem Print_any (k : Int) (a : Option Addr) (n c : Nat) (l : List UInt8) (w : World) (hn : n = l.length) (hb : BAt w a l) (hno : a = none → n = 0 ∧ c = 0) (hc : n ≤ c) (hm : c ≤ maxLen) (tab : Tab w) :
    Calls Tryd.prog 9 #[.agg #[.int .i64 k, .slice a n c]] w fun e w' => ∃ v, e = .returned (.tuple #[v, .int .i64 (printO k l).2]) ∧ Row w' v (printO k l).1 ∧ (∀ g, foot v = some g → w.heap.size ≤ g) ∧ Below w.heap.size w w' := by
  by_cases he : (printO k l).2 = 0
  · have hk : kindO k := by
      by_cases hk : kindO k
      · exact hk
      · rw [printO_kind k l hk] at he; exact absurd he (by decide)
    have hl : l.length ≤ 65536 := by
      by_cases hl : l.length ≤ 65536
      · exact hl
      · rw [printO_limit k l hk (by omega)] at he; exact absurd he (by decide)
    rw [printO_ok k l hk hl]
    exact Print_good k hk a n c l w hn (by omega) hb hno hc tab
  · have h1 : (printO k l).1 = [] := by
      by_cases hk : kindO k
      · by_cases hl : l.length ≤ 65536
        · rw [printO_ok k l hk hl] at he; exact absurd rfl he
        · rw [printO_limit k l hk (by omega)]
      · rw [printO_kind k l hk]
    rw [h1]
    refine (Print_bad k a n c l w hn (by omega) he).mono ?_
    rintro e w' ⟨rfl, b⟩
    exact ⟨_, rfl, Row.nil _ _, (fun g hg => by cases hg), b⟩

theorem good_of {k : Int} {l : List UInt8} (he : (printO k l).2 = 0) : kindO k ∧ l.length ≤ 65536 := by
  have hk : kindO k := by
    by_cases hk : kindO k
    · exact hk
    · rw [printO_kind k l hk] at he; exact absurd he (by decide)
  refine ⟨hk, ?_⟩
  by_cases hl : l.length ≤ 65536
  · exact hl
  · rw [printO_limit k l hk (by omega)] at he; exact absurd he (by decide)
set_option maxHeartbeats 8000000 in
/-- The program's id of an object. -/
theorem Id_is (k : Int) (a : Option Addr) (n c : Nat) (l : List UInt8) (w : World) (hn : n = l.length) (hb : BAt w a l) (hno : a = none → n = 0 ∧ c = 0) (hc : n ≤ c) (hm : c ≤ maxLen) (tab : Tab w) :
    Calls Tryd.prog 14 #[.agg #[.int .i64 k, .slice a n c]] w fun e w' => e = .returned (idv (sumO k l)) ∧ Below w.heap.size w w' := by
  obtain ⟨z, hz, hze⟩ := z29
  have hzv := zero_arr hz
  have hzs : z.size = 20 := by rw [hze]; simp
  have b00 := (Below.refl w.heap.size w).alloc (Nat.le_refl _) (.cells #[.int .i64 k, .slice a n c] 24)
  have b0 := b00.alloc b00.size (.cells z 34)
  have r0 : ((w.alloc (.cells #[.int .i64 k, .slice a n c] 24)).alloc (.cells z 34)).heap[w.heap.size + 1]? = some (.cells z 34 (0, 0)) := by
    rw [show w.heap.size + 1 = (w.alloc (.cells #[.int .i64 k, .slice a n c] 24)).heap.size by simp]; exact heap_alloc_new _ _
  have o0 : ((w.alloc (.cells #[.int .i64 k, .slice a n c] 24)).alloc (.cells z 34)).heap[w.heap.size]? = some (.cells #[.int .i64 k, .slice a n c] 24 (0, 0)) :=
    (((Below.refl _ _).alloc (Nat.le_refl _) _ : Below (w.alloc (.cells #[.int .i64 k, .slice a n c] 24)).heap.size _ _).block w.heap.size (by simp)).trans (heap_alloc_new w _)
  have s0 : w.heap.size + 1 < ((w.alloc (.cells #[.int .i64 k, .slice a n c] 24)).alloc (.cells z 34)).heap.size := (Array.getElem?_eq_some_iff.1 r0).1
  have hall : z.all (·.oneCell') = true := by rw [hze]; exact bc_all (List.replicate 20 0)
  have c1 := fun w => typed_is k a n c w
  unfold sumO
  by_cases he : (printO k l).2 = 0
  · rw [if_pos he]
    obtain ⟨hk, hl⟩ := good_of he
    have c2 := fun w t => head_is k hk a n c (by omega) w t
    have hO : (printO k l).1 = [headO k n ++ [0], l].flatten := by rw [printO_ok k l hk hl]; subst hn; unfold objO; simp
    have hpl := printO_len k l he
    rw [hO] at hpl ⊢
    have HPA := Lib.hid (show PartAt w (.slice a n c) l from ⟨a, c, by rw [hn], hb, (fun h => by rw [← hn]; exact hno h), by omega, by omega⟩)
    generalize headO k n ++ [0] = hd at c2 hpl ⊢
    generalize thingV k (.slice a n c) = t at c1 c2
    obtain ⟨hl2, hhl⟩ : ∃ hl2, hd.length = hl2 := ⟨_, rfl⟩
    have HHL := Lib.hid hhl
    rw [hhl] at c2
    obtain ⟨m, hfm⟩ : ∃ m, [hd, l].flatten = m := ⟨_, rfl⟩
    have HFM := Lib.hid hfm
    rw [hfm] at hpl ⊢
    obtain ⟨arr, hia, haa⟩ := idv_cells (sumL m)
    have hasz : arr.size = 20 := by rw [haa]; simp [bc_len, sumL, digest_len]
    have hall : arr.all (·.oneCell') = true := by rw [haa]; exact bc_all _
    have HASZ := Lib.hid hasz; have HALL := Lib.hid hall; have HIA := Lib.hid hia
    have HPL := Lib.hid hpl
    have HB0 := Lib.hid b0; have HR0 := Lib.hid r0; have HO0 := Lib.hid o0; have HZS := Lib.hid hzs; have HS0 := Lib.hid s0
    have TB := Lib.hid tab
    clear b00 b0 r0 o0 s0 he hn hb hno hc hm hz hze hzs hk hl hO hhl hfm hpl hasz hall hia haa tab
    go_enter Tryd.func14, Tryd.ntmps14
    go_wp2_with fail
    refine (c1 _).mono ?_
    rintro e w1 ⟨rfl, b1⟩
    have B1 := Lib.hid (HB0.out.trans (b1.mono HB0.out.size))
    have R1 := Lib.hid ((b1.block (w.heap.size + 1) HS0.out).trans HR0.out)
    have O1 := Lib.hid ((b1.block w.heap.size (Nat.lt_of_succ_lt HS0.out)).trans HO0.out)
    clear b1 HB0 HR0 HO0 HS0
    go_wp2_with fail
    refine (c2 _ (TB.out.keep B1.out)).mono ?_
    rintro e w2 ⟨g, cap, rfl, r2, hg2, b2⟩
    have R2 := Lib.hid ((b2.block (w.heap.size + 1) (Array.getElem?_eq_some_iff.1 R1.out).1).trans R1.out)
    have h2 := (b2.block w.heap.size (Array.getElem?_eq_some_iff.1 O1.out).1).trans O1.out
    have B2 := Lib.hid (B1.out.trans (b2.mono B1.out.size))
    have q1 : w2.cell? ⟨w.heap.size, 1, none⟩ = some (.slice a n c) := (Lib.cell_of_heap h2 1).trans rfl
    have hp2 := HPA.out.below B2.out (Nat.le_refl _)
    have hx2 : PartAt w2 (.slice (some ⟨g, 0, none⟩) hl2 cap) hd := by
      have hb := r2.bat
      obtain ⟨cur, fz, hg, h1, h2, _⟩ := r2
      exact ⟨_, cap, by rw [HHL.out], hb, (fun e => nomatch e), h1, by unfold maxLen at h2 ⊢; omega⟩
    have C3 := Sum_parts _ (some ⟨w2.heap.size, 0, none⟩) 2 2 [hd, l] rfl (by omega) (by rw [HFM.out]; exact HPL.out) (parts2 22 hx2 hp2)
    rw [HFM.out, HIA.out] at C3
    have C4 := Lib.hid C3
    clear b2 hp2 hx2 r2 hg2 h2 C3 B1 R1 O1
    go_wp2_with fail
    refine C4.out.mono ?_
    rintro e w3 ⟨rfl, hb3⟩
    have hb23 := (((Below.refl w2.heap.size w2).alloc (Nat.le_refl _) (.cells #[.slice (some ⟨g, 0, none⟩) hl2 cap, .slice a n c] 22)).trans (hb3.mono (by simp)))
    have R3 := Lib.hid ((hb23.block (w.heap.size + 1) (Array.getElem?_eq_some_iff.1 R2.out).1).trans R2.out)
    have B3 := Lib.hid (B2.out.trans (hb23.mono B2.out.size))
    clear C4 hb3 hb23
    go_wp2_with (first
      | (with_reducible refine wpList_store_row rfl 34 (.tmp 2) (.tmp 18) rfl (w.heap.size + 1) arr rfl rfl 34 z ?sg ?si ?so ?s1 ?_)
      | fail)
    case sg => exact R3.out
    case si => rw [info29, HASZ.out]
    case so => rw [HZS.out, HASZ.out]
    case s1 => exact HALL.out
    refine bodyPost_ret (results_cell_row Tryd.results14 _ _ (w.heap.size + 1) 34 arr (0, 0) _ rfl (setRow_heap w3 (w.heap.size + 1) z arr _ (0, 0) R3.out) Tryd.underlying34 rfl (by rw [info29, HASZ.out])) rfl ⟨by rw [HIA.out], below_setRow B3.out (Nat.le_succ _) arr⟩
  · rw [if_neg he]
    have hzi : idv (List.replicate 20 0) = .agg z := by rw [hze]; rfl
    rw [hzi]
    have c2 := fun w => head_bad k a n c l hn (by omega) he w
    obtain ⟨x, hx⟩ : ∃ x, (printO k l).2 = x := ⟨_, rfl⟩
    rw [hx] at he c2
    have hxb : (x != 0) = true := by simp [he]
    generalize thingV k (.slice a n c) = t at c1 c2
    have HB0 := Lib.hid b0; have HR0 := Lib.hid r0; have HZS := Lib.hid hzs; have HALL := Lib.hid hall; have HS0 := Lib.hid s0
    clear b00 b0 r0 o0 s0 hn hb hno hc hm hz hze hzs hzi hx hall tab
    go_enter Tryd.func14, Tryd.ntmps14
    go_wp2_with fail
    refine (c1 _).mono ?_
    rintro e w1 ⟨rfl, b1⟩
    have B1 := Lib.hid (HB0.out.trans (b1.mono HB0.out.size))
    have R1 := Lib.hid ((b1.block (w.heap.size + 1) HS0.out).trans HR0.out)
    clear b1 HB0 HR0 HS0
    go_wp2_with fail
    refine (c2 _).mono ?_
    rintro e w2 ⟨rfl, b2⟩
    have R2 := Lib.hid ((b2.block (w.heap.size + 1) (Array.getElem?_eq_some_iff.1 R1.out).1).trans R1.out)
    have B2 := Lib.hid (B1.out.trans (b2.mono B1.out.size))
    clear b2 B1 R1
    go_wp2_with (first
      | (with_reducible refine wpList_store_row rfl 34 (.tmp 2) (.tmp 13) rfl (w.heap.size + 1) z rfl rfl 34 z ?sg ?si ?so ?s1 ?_)
      | fail)
    case sg => exact R2.out
    case si => rw [info29, HZS.out]
    case so => rfl
    case s1 => exact HALL.out
    refine bodyPost_ret (results_cell_row Tryd.results14 _ _ (w.heap.size + 1) 34 z (0, 0) _ rfl (setRow_heap w2 (w.heap.size + 1) z z _ (0, 0) R2.out) Tryd.underlying34 rfl (by rw [info29, HZS.out])) rfl ⟨rfl, below_setRow B2.out (Nat.le_succ _) z⟩
end Go.Proofs.YtbcbbkdfdfgnfaaDoor
