/-
  Layer 12, the program: two rows of numbers held against each other; the places of some ids.
-/
import Derived.Test.YtajmgjhknmkfpaaUe
namespace Go.Proofs.Ytajmgjhknmkfpaa
set_option maxRecDepth 20000
open Go.RowKit
set_option linter.unusedVariables false
set_option linter.unusedSimpArgs false

set_option maxHeartbeats 4000000 in
theorem equalN_lens (a1 a2 : Option Addr) (n1 n2 c1 c2 : Nat) (w : World) (h : n1 ≠ n2) :
    Calls Try.prog 32 #[.slice a1 n1 c1, .slice a2 n2 c2] w fun e w' => e = .returned (.bool false) ∧ w' = w := by
  have h2 : ¬ (n1 : Int) = (n2 : Int) := by omega
  clear h
  go_enter Try.func32, Try.ntmps32
  go_wp2
  go_ret
  exact ⟨rfl, rfl⟩
set_option maxHeartbeats 4000000 in
theorem equalN_same (S1 S2 : Nat → Prop) (v1 v2 : Value) (l1 l2 : List Nat) (w : World) (h1 : RedR rowN S1 w v1 l1) (h2 : RedR rowN S2 w v2 l2) (hn : l1.length = l2.length) (hm : l1.length ≤ 1000000) :
    Calls Try.prog 32 #[v1, v2] w fun e w' => e = .returned (.bool (decide (l1 = l2))) ∧ Below w.heap.size w w' := by
  obtain ⟨a1, c1, rfl, r1, no1, le1, mx1, -⟩ := h1
  obtain ⟨a2, c2, rfl, r2, no2, le2, mx2, -⟩ := h2
  obtain ⟨n, hn1⟩ : ∃ n, l1.length = n := ⟨_, rfl⟩
  have hn2 := hn.symm.trans hn1
  rw [hn1] at le1 hm
  rw [hn2] at le2
  rw [hn1, hn2]
  have R1 := Lib.hid r1; have R2 := Lib.hid r2; have N1 := Lib.hid hn1; have N2 := Lib.hid hn2
  clear r1 r2 hn1 hn hn2 no1 no2 mx1 mx2
  go_enter Try.func32, Try.ntmps32
  go_wp2_with fail
  go_loopw [13] (fun i wr => ∃ k : Nat, k ≤ n ∧ i = .int .i64 k ∧ (∀ j, j < k → l1[j]? = l2[j]?) ∧ Below w.heap.size w wr) (fun i _ => n - (intOf i).toNat)
  case atStart => exact ⟨0, Nat.zero_le _, rfl, fun j h => absurd h (Nat.not_lt_zero _), Below.refl _ _⟩
  case round =>
    obtain ⟨k, hk, rfl, heq, hbr⟩ := hrel
    have HEQ := Lib.hid heq; have HBR := Lib.hid hbr
    clear heq hbr
    by_cases hlt : k < n
    · have hk1 : k < l1.length := by rw [N1.out]; exact hlt
      have hk2 : k < l2.length := by rw [N2.out]; exact hlt
      obtain ⟨b1, o1, rfl, hb1⟩ := R1.out.some (by omega)
      obtain ⟨b2, o2, rfl, hb2⟩ := R2.out.some (by omega)
      obtain ⟨x, hx⟩ : ∃ x, l1[k] = x := ⟨_, rfl⟩
      obtain ⟨y, hy⟩ : ∃ y, l2[k] = y := ⟨_, rfl⟩
      have d1 := rowN_cell R1.out k hk1
      have d2 := rowN_cell R2.out k hk2
      rw [hx] at d1
      rw [hy] at d2
      have C1 := Lib.hid (fun u (hu : Below wr.heap.size wr u) => ((HBR.out.trans (hu.mono HBR.out.size)).cell (p := ⟨b1, o1 + k, none⟩) hb1).trans d1)
      have C2 := Lib.hid (fun u (hu : Below wr.heap.size wr u) => ((HBR.out.trans (hu.mono HBR.out.size)).cell (p := ⟨b2, o2 + k, none⟩) hb2).trans d2)
      have HX := Lib.hid (show l1[k]? = some x by rw [List.getElem?_eq_getElem hk1, hx]); have HY := Lib.hid (show l2[k]? = some y by rw [List.getElem?_eq_getElem hk2, hy])
      clear d1 d2 hx hy
      by_cases hxy : x = y
      · subst hxy
        go_wp2_with fail
        refine rgB _ (fun hHeld => ?_)
        refine tkW 0 rfl hHeld ?_
        refine tkW 1 rfl hHeld ?_
        refine tkW 2 rfl hHeld ?_
        refine tkV 3 rfl (.int .i64 x) (fun u hu => by have q := C1.out u hu; go_simp) hHeld ?_
        refine tkW 4 rfl hHeld ?_
        refine tkW 5 rfl hHeld ?_
        refine tkW 6 rfl hHeld ?_
        refine tkV 7 rfl (.int .i64 x) (fun u hu => by have q := C2.out u hu; go_simp) hHeld ?_
        refine tkW 8 rfl hHeld ?_
        try simp only [Act.put, List.getElem_toArray, List.getElem_cons_succ, List.getElem_cons_zero, lsA, lsZ, lsS]
        refine wpAnyH_done (by kernel_rfl) ?_ _
        have HB := Lib.hid (HBR.out.trans (hHeld.mono HBR.out.size))
        clear hHeld
        go_wp2
        go_roundw
        case rel =>
          refine ⟨k + 1, by omega, by go_num, fun j hj => ?_, HB.out⟩
          rcases Nat.lt_or_ge j k with h | h
          · exact HEQ.out j h
          · obtain rfl : j = k := by omega
            rw [HX.out, HY.out]
        case measure => simp [intOf]; omega
      · have g3 : ((x : Int) != (y : Int)) = true := bne_iff_ne.2 (by omega)
        have HNE := Lib.hid (show decide (l1 = l2) = false from decide_eq_false (fun e => hxy (by have h := HX.out; rw [e, HY.out] at h; exact (Option.some.inj h).symm)))
        go_wp2_with fail
        refine rgB _ (fun hHeld => ?_)
        refine tkW 0 rfl hHeld ?_
        refine tkW 1 rfl hHeld ?_
        refine tkW 2 rfl hHeld ?_
        refine tkV 3 rfl (.int .i64 x) (fun u hu => by have q := C1.out u hu; go_simp) hHeld ?_
        refine tkW 4 rfl hHeld ?_
        refine tkW 5 rfl hHeld ?_
        refine tkW 6 rfl hHeld ?_
        refine tkV 7 rfl (.int .i64 y) (fun u hu => by have q := C2.out u hu; go_simp) hHeld ?_
        refine tkW 8 rfl hHeld ?_
        try simp only [Act.put, List.getElem_toArray, List.getElem_cons_succ, List.getElem_cons_zero, lsA, lsZ, lsS]
        refine wpAnyH_done (by kernel_rfl) ?_ _
        have HB := Lib.hid (HBR.out.trans (hHeld.mono HBR.out.size))
        clear hHeld
        go_wp2
        go_ret
        exact ⟨by rw [HNE.out]; rfl, HB.out⟩
    · obtain rfl : k = n := by omega
      have HEE := Lib.hid (show decide (l1 = l2) = true from decide_eq_true (List.ext_getElem? (fun j => by
        rcases Nat.lt_or_ge j k with h | h
        · exact HEQ.out j h
        · rw [List.getElem?_eq_none (by rw [N1.out]; exact h), List.getElem?_eq_none (by rw [N2.out]; exact h)])))
      go_wp2
      go_ret
      exact ⟨by rw [HEE.out]; rfl, HBR.out⟩
theorem equalN_is (S1 S2 : Nat → Prop) (v1 v2 : Value) (l1 l2 : List Nat) (w : World) (h1 : RedR rowN S1 w v1 l1) (h2 : RedR rowN S2 w v2 l2) (hm : l1.length ≤ 1000000) :
    Calls Try.prog 32 #[v1, v2] w fun e w' => e = .returned (.bool (decide (l1 = l2))) ∧ Below w.heap.size w w' := by
  by_cases hn : l1.length = l2.length
  · exact equalN_same S1 S2 v1 v2 l1 l2 w h1 h2 hn hm
  · obtain ⟨a1, c1, rfl, -⟩ := h1
    obtain ⟨a2, c2, rfl, -⟩ := h2
    refine (equalN_lens a1 a2 _ _ c1 c2 w hn).mono ?_
    rintro e w' ⟨rfl, rfl⟩
    exact ⟨by rw [decide_eq_false (fun h => hn (by rw [h]))], Below.refl _ _⟩
/-- One number in a block of its own. -/
theorem rowN_one (w : World) (k : Nat) : RowAt rowN (w.alloc (.cells #[.int .i64 (k : Int)] 3)) (some ⟨w.heap.size, 0, none⟩) [k] := fun _ =>
  ⟨w.heap.size, 0, rfl, by simp, fun j hj i v hv => by
    obtain rfl : j = 0 := by simpa using hj
    match i, hv with
    | 0, hv =>
      have : v = .int .i64 (k : Int) := by simpa [rowN] using hv.symm
      subst this
      rw [Lib.cell_of_heap (heap_alloc_new w _)]
      rfl⟩
set_option maxHeartbeats 8000000 in
/-- The places of some ids. -/
theorem placesOfP_is {S : Nat → Prop} {w : World} {g : Nat} {L : List Gn} (h : GraphP S w g L) (a : Option Addr) (n c : Nat) (ps : List (List UInt8)) (hr : RowAt rowI w a ps) (hn : n = ps.length) (hm : n ≤ 1000000) (hid : ∀ i ∈ ps, i.length = 20) :
    Calls Try.prog 30 #[.pointer (some ⟨g, 0, none⟩), .slice a n c] w fun e w' => ∃ v, e = .returned (.tuple #[v, .bool (placesG L ps).isSome]) ∧ (∀ l, placesG L ps = some l → OwnR rowN w.heap.size v l w') ∧ (placesG L ps = none → v = .slice none 0 0) ∧ Below w.heap.size w w' := by
  have HR := Lib.hid hr; have HN := Lib.hid hn; have HG := Lib.hid h; have HID := Lib.hid hid
  obtain ⟨z, hz0, hzs, hzv, hzb, hz1⟩ := zId_any
  have ZS := Lib.hid hzs
  clear hr hn h hid hz0 hzs hzb hz1
  go_enter Try.func30, Try.ntmps30
  go_wp2_with fail
  go_loopw [6, 13] (fun v i wr => ∃ (k : Nat) (l : List Nat), k ≤ n ∧ i = .int .i64 k ∧ placesG L (ps.take k) = some l ∧ OwnR rowN w.heap.size v l wr ∧ Below w.heap.size w wr) (fun _ i _ => n - (intOf i).toNat)
  case atStart => exact ⟨0, [], Nat.zero_le _, rfl, rfl, ownR_nil _ _, Below.refl _ _⟩
  case round =>
    obtain ⟨k, l, hk, rfl, hl, how, hbr⟩ := hrel
    have HL := Lib.hid hl; have HO := Lib.hid how; have HBR := Lib.hid hbr
    clear hl how hbr
    by_cases hlt : k < n
    · have hkl : k < ps.length := by rw [← HN.out]; exact hlt
      obtain ⟨b, o, rfl, hb⟩ := HR.out.some (by omega)
      obtain ⟨i, hi⟩ : ∃ i, ps[k] = i := ⟨_, rfl⟩
      have hi20 : i.length = 20 := HID.out i (by rw [← hi]; exact List.getElem_mem _)
      have r0 : w.rangeAt b (o + k * 20) (cellsD i) := by
        have := HR.out.elem k hkl
        rw [hi] at this
        exact this
      have RI := Lib.hid (show wr.rangeAt b (o + k * 20) (cellsD i) from fun j v hv => (HBR.out.cell (p := ⟨b, o + k * 20 + j, none⟩) hb).trans (r0 j v hv))
      have LI := Lib.hid (show (Try.prog.info? 32).map (·.size) = some (cellsD i).length by rw [cellsD_len i hi20]; exact infoD_n)
      obtain ⟨A, hA⟩ : ∃ A, (cellsD i).toArray = A := ⟨_, rfl⟩
      have HA := Lib.hid (show arrD i = A from hA)
      have SA := Lib.hid (show A.size = 20 from by rw [← hA]; exact arrD_size i hi20)
      have OA := Lib.hid (show A.all (·.oneCell') = true from by rw [← hA]; exact arrD_one i)
      have IA := Lib.hid (infoD_arr A SA.out)
      have CP := Lib.hid (fun u (hu : Below w.heap.size w u) => placeP_is (HG.out.below hu) i hi20)
      have HI := Lib.hid hi
      have STEP := Lib.hid (fun q (hq : atG L i = some q) => placesG_step hkl HL.out (by rw [hi]; exact hq))
      have NONE := Lib.hid (fun (hq : atG L i = none) => placesG_none.2 ⟨i, by rw [← hi]; exact List.getElem_mem hkl, hq⟩)
      clear hi r0 hi20
      generalize cellsD i = ci at *
      go_wp2_with (first
        | (with_reducible refine wpList_load_midD 32 (.tmp 15) rfl (by kernel_rfl) b (o + k * 20) rfl ci _ RI.out Try.underlying32 rfl LI.out ?_; rw [hA])
        | (with_reducible refine wpList_store_all rfl 32 (.tmp 8) (.tmp 16) rfl wr.heap.size A rfl rfl 32 z (heap_alloc_new wr _) IA.out (SA.out.trans ZS.out.symm) OA.out ?_)
        | fail)
      intro w2 r2 off2 sz2
      have b2 : Below wr.heap.size wr w2 := ((Below.refl wr.heap.size wr).alloc (Nat.le_refl _) (.cells z 32)).trans (off2.below (Nat.le_refl _) (by simp))
      have B2 := Lib.hid (HBR.out.trans (b2.mono HBR.out.size))
      have R2 := Lib.hid r2
      have HO2 := Lib.hid (ownR_below HO.out b2)
      clear b2 off2 sz2 r2
      have C2 := Lib.hid (CP.out w2 B2.out)
      rw [HA.out] at C2
      generalize wr.heap.size = gb at R2 ⊢
      unfold placeV at C2
      cases hq : atG L i with
      | none =>
        rw [hq] at C2
        simp only [Option.getD_none, Option.isSome_none] at C2
        have NN := Lib.hid (NONE.out hq)
        go_wp2_with (first
          | (with_reducible refine wpList_load_all 32 (.tmp 8) rfl (by kernel_rfl) gb A 32 (0, 0) rfl R2.out _ Try.underlying32 rfl IA.out ?_)
          | fail)
        refine C2.out.mono ?_
        rintro e w3 ⟨rfl, hb3⟩
        have B3 := Lib.hid (B2.out.trans (hb3.mono B2.out.size))
        clear hb3
        go_wp2
        go_ret2
        refine ⟨.slice none 0 0, ?_, ?_, fun _ => rfl, B3.out⟩
        · rw [NN.out]; rfl
        · intro l h
          rw [NN.out] at h
          cases h
      | some q =>
        rw [hq] at C2
        simp only [Option.getD_some, Option.isSome_some] at C2
        have SS := Lib.hid (STEP.out q hq)
        have LN := Lib.hid (show l.length ≤ 1000000 by have := (placesG_len HL.out).1; rw [this, List.length_take]; omega)
        go_wp2_with (first
          | (with_reducible refine wpList_load_all 32 (.tmp 8) rfl (by kernel_rfl) gb A 32 (0, 0) rfl R2.out _ Try.underlying32 rfl IA.out ?_)
          | fail)
        refine C2.out.mono ?_
        rintro e w3 ⟨rfl, hb3⟩
        have B3 := Lib.hid (B2.out.trans (hb3.mono B2.out.size))
        have b4 := (Below.refl w3.heap.size w3).alloc (Nat.le_refl _) (.cells #[.int .i64 (q : Int)] 3)
        have B4 := Lib.hid (B3.out.trans (b4.mono B3.out.size))
        have O4 := Lib.hid (ownR_below (ownR_below HO2.out hb3) b4)
        clear hb3 b4
        go_wp2_with (first
          | (at_builtin; refine wpList_append_anyR goodN rfl _ _ rfl w.heap.size _ l [q] (some ⟨w3.heap.size, 0, none⟩) 1 1 rfl rfl rfl (rowN_one w3 q) (fun _ _ => trivial) (fun _ _ => trivial) O4.out (Nat.le_trans (Nat.add_le_add_right LN.out 1) (by decide)) B4.out.size ?_)
          | fail)
        intro v5 w5 o5 g5
        have B5 := Lib.hid (B4.out.trans ((Below.refl w.heap.size _).grown g5 B4.out.size (fun j hj => (ownR_lt O4.out j hj).1)))
        have O5 := Lib.hid o5
        clear o5 g5
        go_wp2
        go_roundw
        case rel => exact ⟨k + 1, l ++ [q], by omega, by go_num, SS.out, O5.out, B5.out⟩
        case measure => simp [intOf]; omega
    · obtain rfl : k = n := by omega
      have HE := Lib.hid (show placesG L ps = some l by have := HL.out; rwa [List.take_of_length_le (by rw [← HN.out]; exact Nat.le_refl _)] at this)
      go_wp2
      go_ret2
      refine ⟨_, by rw [HE.out]; rfl, ?_, ?_, HBR.out⟩
      · intro l' h
        rw [HE.out] at h
        cases h
        exact HO.out
      · intro h
        rw [HE.out] at h
        cases h
end Go.Proofs.Ytajmgjhknmkfpaa
