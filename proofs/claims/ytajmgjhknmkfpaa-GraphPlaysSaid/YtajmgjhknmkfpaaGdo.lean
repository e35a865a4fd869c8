/-
  Cut of Gd: OwnIds_any.
-/
import Derived.Test.YtajmgjhknmkfpaaGd
namespace Go.Proofs.Ytajmgjhknmkfpaa
set_option maxRecDepth 20000
open Go.RowKit
set_option linter.unusedVariables false
set_option linter.unusedSimpArgs false

set_option maxHeartbeats 8000000 in
theorem OwnIds_any (a : Option Addr) (n c : Nat) (l : List (List UInt8)) (f : List UInt8) (w : World) (h : IdsAt w a l) (hnone : a = none → n = 0 ∧ c = 0) (hl : n = l.length) (hn : n ≤ 1000000) (hid : ∀ i ∈ l, i.length = 20) (hf : f.length = 20) :
    Calls Try.prog 9 #[.slice a n c, .agg (arrD f)] w fun e w' => e = .returned (.slice (some ⟨w.heap.size + 1, 0, none⟩) n (n + 3)) ∧ OwnIds w' (w.heap.size + 1) l f ∧ Below w.heap.size w w' := by
  obtain ⟨i0, hi, hz0, hz1, hz2⟩ := infoD_all
  obtain ⟨A, hA⟩ : ∃ A, arrD f = A := ⟨_, rfl⟩
  have HAS := Lib.hid (show A.size = 20 by rw [← hA]; exact arrD_size f hf)
  have HA := Lib.hid hA
  have b1 := (Below.refl w.heap.size w).alloc (Nat.le_refl _) (.cells A 32)
  have h1 := heap_alloc_new w (.cells A 32)
  have hs1 : (w.alloc (.cells A 32)).heap.size = w.heap.size + 1 := by simp
  have HC := Lib.hid (fun w' (hb : Below w.heap.size w w') => (h.keep hb).cells hid)
  have HFL := Lib.hid (flatD_len l hid)
  have HN := Lib.hid hnone
  have HL := Lib.hid hl
  have H1 := Lib.hid h1
  have B1 := Lib.hid b1
  have S1 := Lib.hid hs1
  rw [hA]
  obtain ⟨g, hg⟩ : ∃ g, g = w.heap.size + 1 := ⟨_, rfl⟩
  have HG := Lib.hid hg
  rw [← hg]
  rw [← hg] at hs1
  clear h hnone hl hid hA b1 h1 hg
  go_enter Try.func9, Try.ntmps9
  go_wp2_with (at_make; refine wpList_make_own _ rfl _ _ 23 rfl w.heap.size 32 i0 (.agg (arrD idZ)) 20 Try.underlying23 hi hz0 hz1 _ _ _ (n + 3) rfl rfl (by omega) (by rw [hz2]; omega) (by unfold maxLen; omega) (by have := S1.out; omega) ?_)
  intro w0 hown0 hgrow0
  have hb0 : Below w.heap.size w w0 := B1.out.grown hgrow0 B1.out.size (fun k h => by cases h)
  have hx0 := (hgrow0.block w.heap.size (by have := S1.out; omega) (by simp)).trans H1.out
  have HC0 := Lib.hid (HC.out w0 hb0)
  have HN2 := Lib.hid (show (l.flatMap cellsD).length = n * 20 by rw [HFL.out, ← HL.out])
  have HX0 := Lib.hid hx0
  clear hgrow0 hx0
  go_wp2_with (at_builtin; refine wpList_append_fits_any _ rfl _ _ 23 rfl w.heap.size 32 i0 20 Try.underlying23 hi hz1 g 0 (n + 3) _ rfl hown0 a n c (l.flatMap cellsD) rfl HN2.out HN.out HC0.out (flatD_one l) (by omega) ?_)
  intro w1 hown1 hgrow1
  have hlt0 := Nat.lt_of_lt_of_le (own_ltD hown0) hgrow1.size
  have hb1 : Below w.heap.size w w1 := hb0.grown hgrow1 hb0.size (fun k hk => by cases hk; have := HG.out; omega)
  have hx1 := (hgrow1.block w.heap.size (lt_of_heap HX0.out) (by intro e; have := HG.out; cases e; omega)).trans HX0.out
  clear hown0 HC0 hb0 HX0 hgrow1
  have hown2 : w1.ownsRow w.heap.size 32 20 (.slice (some ⟨g, 0, none⟩) n (n + 3)) n (l.flatMap cellsD) := by simpa using hown1
  obtain ⟨ys, hown, hys⟩ := own_fullD hown2
  clear hown2 hown1
  have HY := Lib.hid hys; have HX1 := Lib.hid hx1; have HOWN := Lib.hid hown; have HB1 := Lib.hid hb1
  clear hys hx1 hown hb1 hlt0 HN2
  go_wp2_with fail
  go_loopw [7] (fun i wr => ∃ (k : Nat) (ys : List Value), n ≤ k ∧ k ≤ n + 3 ∧ i = .int .i64 k ∧ wr.ownsRow w.heap.size 32 20 (.slice (some ⟨g, 0, none⟩) (n + 3) (n + 3)) (n + 3) ys ∧
      ys.take (k * 20) = (l ++ List.replicate (k - n) f).flatMap cellsD ∧ wr.heap[w.heap.size]? = some (.cells A 32 (0, 0)) ∧ Below w.heap.size w wr) (fun i _ => n + 3 - (intOf i).toNat)
  case atStart => exact ⟨n, ys, Nat.le_refl _, by omega, rfl, HOWN.out, by rw [HY.out]; simp, HX1.out, HB1.out⟩
  case round =>
    clear HOWN HB1 HY HX1
    obtain ⟨k, ys, hk0, hk, rfl, hown, hys, hx, hbr⟩ := hrel
    have HY := Lib.hid hys; have HOWN := Lib.hid hown; have HX := Lib.hid hx; have HBR := Lib.hid hbr
    clear hys hown hx hbr
    by_cases hlt : k < n + 3
    · go_wp2_with (first
        | (with_reducible refine wpList_load_row rfl 32 _ rfl w.heap.size rfl 32 A (0, 0) _ HX.out Try.underlying32 rfl (infoD_arr A HAS.out) ?_)
        | (refine wpList_store_cells20 rfl _ _ rfl w.heap.size g (n + 3) (n + 3) k _ ys f A HA.out.symm rfl rfl rfl hlt hf HOWN.out ?_))
      intro w2 hown2 hgr2
      have HO2 := Lib.hid hown2
      have HB2 := Lib.hid (HBR.out.grown hgr2 HBR.out.size (fun k hk => by cases hk; have := HG.out; omega))
      have HX2 := Lib.hid ((hgr2.block w.heap.size (lt_of_heap HX.out) (by intro e; have := HG.out; cases e; omega)).trans HX.out)
      clear hown2 hgr2
      go_wp2
      go_roundw
      case rel =>
        refine ⟨k + 1, _, by omega, by omega, by go_num, HO2.out, ?_, HX2.out, HB2.out⟩
        rw [putD_take ys k f hf (by rw [HOWN.out.1]; omega), HY.out, show k + 1 - n = (k - n) + 1 by omega, List.replicate_succ', ← List.append_assoc, List.flatMap_append]
        simp
      case measure => simp [intOf]; omega
    · obtain rfl : k = n + 3 := by omega
      have hY := HY.out
      rw [List.take_of_length_le (by rw [HOWN.out.1]; omega), show n + 3 - n = 3 by omega] at hY
      subst hY
      go_wp2
      go_ret
      refine ⟨rfl, ?_, HBR.out⟩
      unfold OwnIds
      rw [← HL.out]
      have ho := HOWN.out
      refine ⟨ho.1, ?_⟩
      rcases ho.2 with ⟨h', _⟩ | ⟨g', cap', cur, h', hb', r⟩
      · simp at h'
      · refine .inr ⟨g', cap', cur, h', ?_, r⟩
        simp only [Value.slice.injEq, Option.some.injEq, Addr.mk.injEq, and_true, true_and] at h'
        omega
end Go.Proofs.Ytajmgjhknmkfpaa
