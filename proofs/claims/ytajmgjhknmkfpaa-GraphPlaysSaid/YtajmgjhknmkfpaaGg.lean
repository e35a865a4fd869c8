/-
  The helper In of the statements over ids: is one among some?
-/
import Derived.Test.YtajmgjhknmkfpaaGf
namespace Go.Proofs.Ytajmgjhknmkfpaa
set_option maxRecDepth 20000
open Go.RowKit
set_option linter.unusedVariables false
set_option linter.unusedSimpArgs false

set_option maxHeartbeats 8000000 in
theorem InIds_some (b1 o1 c1 n : Nat) (l : List (List UInt8)) (x : List UInt8) (w : World) (hn : n = l.length) (hm : n ≤ 1000000) (h1 : b1 < w.heap.size)
    (hc1 : ∀ k (h : k < l.length) j v, (cellsD l[k])[j]? = some v → w.cell? ⟨b1, o1 + k * 20 + j, none⟩ = some v) (hid : ∀ i ∈ l, i.length = 20) (hx : x.length = 20) :
    Calls Try.prog 28 #[.slice (some ⟨b1, o1, none⟩) n c1, .agg (arrD x)] w fun e w' => e = .returned (.bool (amongD l x)) ∧ Below w.heap.size w w' := by
  obtain ⟨A, hA⟩ : ∃ A, arrD x = A := ⟨_, rfl⟩
  have HAS := Lib.hid (show A.size = 20 by rw [← hA]; exact arrD_size x hx)
  have E := fun (y : List UInt8) (hy : y.length = 20) u => eql_arrD y x hy hx u
  have HERE := Lib.hid (fun (k : Nat) (hk : k < l.length) h => among_here (x := x) hk h)
  have NONE := Lib.hid (fun h => among_none (l := l) (x := x) h)
  obtain ⟨R, hR⟩ : ∃ R, amongD l x = R := ⟨_, rfl⟩
  rw [hR] at HERE NONE ⊢
  rw [hA] at E ⊢
  obtain ⟨q, hq⟩ : ∃ q : List UInt8 → Bool, ∀ y, eqD y x = q y := ⟨_, fun _ => rfl⟩
  simp only [hq] at E HERE NONE
  have HE := Lib.hid E
  have b1 := (Below.refl w.heap.size w).alloc (Nat.le_refl _) (.cells A 32)
  have HX := Lib.hid (heap_alloc_new w (.cells A 32))
  have B1 := Lib.hid b1
  have HC1 := Lib.hid hc1; have HID := Lib.hid hid; have HN := Lib.hid hn
  have LA := Lib.hid (show (Try.prog.info? 32).map (·.size) = some A.toList.length by rw [Array.length_toList]; exact infoD_arr A HAS.out)
  clear hc1 hid hn b1 hR hA hx hq E
  go_enter Try.func28, Try.ntmps28
  go_wp2_with fail
  go_loopw [5] (fun i wr => ∃ k : Nat, k ≤ n ∧ i = .int .i64 k ∧ (∀ j (hj : j < l.length), j < k → q l[j] = false) ∧ wr.heap[w.heap.size]? = some (.cells A 32 (0, 0)) ∧ Below w.heap.size w wr) (fun i _ => n - (intOf i).toNat)
  case atStart => exact ⟨0, Nat.zero_le _, rfl, fun j _ h => absurd h (Nat.not_lt_zero _), HX.out, B1.out⟩
  case round =>
    obtain ⟨k, hk, rfl, hno, hx, hbr⟩ := hrel
    have HBR := Lib.hid hbr; have HNO := Lib.hid hno; have HXR := Lib.hid hx
    clear hbr hno hx
    by_cases hlt : k < n
    · have hkl : k < l.length := by rw [← HN.out]; exact hlt
      obtain ⟨y, hy⟩ : ∃ y, l[k] = y := ⟨_, rfl⟩
      have hidy := HID.out y (by rw [← hy]; exact List.getElem_mem _)
      have r1 : ∀ u, Below wr.heap.size wr u → u.rangeAt b1 (o1 + k * 20) (cellsD y) := fun u hu j v hv =>
        (hu.cell (p := ⟨b1, o1 + k * 20 + j, none⟩) (Nat.lt_of_lt_of_le h1 HBR.out.size)).trans ((HBR.out.cell (p := ⟨b1, o1 + k * 20 + j, none⟩) h1).trans (HC1.out k hkl j v (by rw [hy]; exact hv)))
      have R1 := Lib.hid r1
      have LX := Lib.hid (show (Try.prog.info? 32).map (·.size) = some (cellsD y).length by rw [cellsD_len y hidy]; exact infoD_n)
      have E1 := HE.out y hidy
      unfold arrD at E1
      have HERE1 := Lib.hid (HERE.out k hkl)
      have HNO1 := Lib.hid (fun (e : q y = false) (j : Nat) (hj : j < l.length) (hjk : j < k + 1) => (show q l[j] = false from if h : j < k then HNO.out j hj h else by
        obtain rfl : j = k := by omega
        rw [hy]; exact e))
      rw [hy] at HERE1
      have HRW := Lib.hid (row_arrD (w := wr) (A := A) HXR.out)
      clear r1 hidy hy
      generalize cellsD y = cy at *
      go_wp2_with fail
      refine wp_region_held_drew (S := fun u => Below wr.heap.size wr u) (by kernel_rfl) (Below.refl _ _).drew (fun hHeld => ?_)
      refine wpAnyH_take (i := 0) (v := ?hv0) rfl (by kernel_rfl) (by kernel_rfl) (by kernel_rfl) (fun _ _ _ h => h) (Or.inl ⟨by kernel_rfl, ?hy0⟩) hHeld ?_
      case hy0 => intro u hu; go_simp; try with_reducible rfl
      try simp only [Act.put, List.setIfInBounds_toArray, List.set_cons_zero, List.set_cons_succ]
      refine wpAnyH_take (i := 1) (v := ?hv1) rfl (by kernel_rfl) (by kernel_rfl) (by kernel_rfl) (fun _ _ _ h => h) (Or.inl ⟨by kernel_rfl, ?hy1⟩) hHeld ?_
      case hy1 => intro u hu; go_simp; try with_reducible rfl
      try simp only [Act.put, List.setIfInBounds_toArray, List.set_cons_zero, List.set_cons_succ]
      refine wpAnyH_take (i := 2) (v := ?hv2) rfl (by kernel_rfl) (by kernel_rfl) (by kernel_rfl) (fun _ _ _ h => h) (Or.inl ⟨by kernel_rfl, ?hy2⟩) hHeld ?_
      case hy2 => intro u hu; go_simp; try with_reducible rfl
      try simp only [Act.put, List.setIfInBounds_toArray, List.set_cons_zero, List.set_cons_succ]
      refine wpAnyH_take (i := 3) rfl (by kernel_rfl) (by kernel_rfl) (by kernel_rfl) (fun _ _ _ h => h) (yieldsIf_load_mid (by kernel_rfl) 32 (.tmp 14) (by kernel_rfl) b1 (o1 + k * 20) (by kernel_rfl) cy _ (fun u hu => R1.out u hu) Try.underlying32 rfl LX.out) hHeld ?_
      try simp only [Act.put, List.setIfInBounds_toArray, List.set_cons_zero, List.set_cons_succ]
      refine wpAnyH_take (i := 4) rfl (by kernel_rfl) (by kernel_rfl) (by kernel_rfl) (fun _ _ _ h => h) (yieldsIf_load_mid (by kernel_rfl) 32 (.tmp 3) (by kernel_rfl) w.heap.size 0 (by kernel_rfl) A.toList _ (fun u hu => row_keepD HRW.out (lt_of_heap HXR.out) hu) Try.underlying32 rfl LA.out) hHeld ?_
      try simp only [Act.put, List.setIfInBounds_toArray, List.set_cons_zero, List.set_cons_succ]
      refine wpAnyH_take (i := 5) (v := ?hv5) rfl (by kernel_rfl) (by kernel_rfl) (by kernel_rfl) (fun _ _ _ h => h) (Or.inl ⟨by kernel_rfl, ?hy5⟩) hHeld ?_
      case hy5 => intro u hu; go_simp; try with_reducible rfl
      try simp only [Act.put, List.getElem_toArray, List.getElem_cons_succ, List.getElem_cons_zero, List.setIfInBounds_toArray, List.set_cons_zero, List.set_cons_succ]
      refine wpAnyH_done (by kernel_rfl) ?_ _
      have HB2 := Lib.hid (HBR.out.trans (hHeld.mono HBR.out.size))
      have HX2 := Lib.hid (heap_keep HXR.out hHeld)
      clear hHeld
      cases hqy : q y with
      | true =>
        go_wp2
        go_ret
        exact ⟨by rw [HERE1.out hqy]; rfl, HB2.out⟩
      | false =>
        go_wp2
        go_roundw
        case rel => exact ⟨k + 1, by omega, by go_num, HNO1.out hqy, HX2.out, HB2.out⟩
        case measure => simp [intOf]; omega
    · obtain rfl : k = n := by omega
      go_wp2
      go_ret
      exact ⟨by rw [NONE.out (fun j hj => HNO.out j hj (by rw [HN.out]; exact hj))]; rfl, HBR.out⟩
end Go.Proofs.Ytajmgjhknmkfpaa
