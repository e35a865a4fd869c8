/-
  The helpers Same, Plain, Kept of the statements over ids; few.
-/
import Derived.Test.YtajmgjhknmkfpaaGd
import Derived.Deep.MidRow
import Derived.Deep.QuietTactic
import Derived.BigQuiet
namespace Go.Proofs.Ytajmgjhknmkfpaa
set_option maxRecDepth 20000
open Go.RowKit
set_option linter.unusedVariables false
set_option linter.unusedSimpArgs false

set_option maxHeartbeats 2000000 in
theorem eq_idD (i j : List UInt8) (hi : i.length = 20) (hj : j.length = 20) (w : World) :
    Calls Try.prog 36 #[.agg (arrD i), .agg (arrD j)] w fun e w' => e = .returned (.bool (eqD i j)) ∧ Below w.heap.size w w' := by
  have E := fun u => eql_arrD i j hi hj u
  have HA := Lib.hid (arrD_size i hi); have HB := Lib.hid (arrD_size j hj)
  generalize arrD i = A at *
  generalize arrD j = B at *
  generalize eqD i j = r at *
  have b1 := (Below.refl w.heap.size w).alloc (Nat.le_refl _) (.cells A 32)
  have b2 := b1.alloc b1.size (.cells B 32)
  have e1 : (w.alloc (.cells A 32)).heap.size = w.heap.size + 1 := by simp
  have h1 := (((Below.refl (w.alloc (.cells A 32)).heap.size (w.alloc (.cells A 32))).alloc (Nat.le_refl _) (.cells B 32)).block w.heap.size (by simp)).trans (heap_alloc_new w _)
  have h2 := heap_alloc_new (w.alloc (.cells A 32)) (.cells B 32)
  rw [e1] at h2
  have H1 := Lib.hid h1; have H2 := Lib.hid h2; have B2 := Lib.hid b2
  clear b1 b2 h1 h2 hi hj e1
  go_enter Try.func36, Try.ntmps36
  go_wp2_with (first
    | (with_reducible refine wpList_load_row rfl 32 (.tmp 2) rfl w.heap.size rfl 32 A (0, 0) _ H1.out Try.underlying32 rfl (infoD_arr A HA.out) ?_)
    | (with_reducible refine wpList_load_row rfl 32 (.tmp 3) rfl (w.heap.size + 1) rfl 32 B (0, 0) _ H2.out Try.underlying32 rfl (infoD_arr B HB.out) ?_))
  go_ret
  exact ⟨rfl, B2.out⟩
set_option maxHeartbeats 8000000 in
theorem SameIds_some (b1 o1 b2 o2 c1 c2 n : Nat) (l : List (List UInt8)) (w : World) (hn : n = l.length) (hm : n ≤ 1000000) (h1 : b1 < w.heap.size) (h2 : b2 < w.heap.size)
    (hc1 : ∀ k (h : k < l.length) j v, (cellsD l[k])[j]? = some v → w.cell? ⟨b1, o1 + k * 20 + j, none⟩ = some v) (hc2 : ∀ k (h : k < l.length) j v, (cellsD l[k])[j]? = some v → w.cell? ⟨b2, o2 + k * 20 + j, none⟩ = some v) (hid : ∀ i ∈ l, i.length = 20) :
    Calls Try.prog 35 #[.slice (some ⟨b1, o1, none⟩) n c1, .slice (some ⟨b2, o2, none⟩) n c2, .func (.func 36) #[] #[]] w fun e w' => e = .returned (.bool true) ∧ Below w.heap.size w w' := by
  have HC1 := Lib.hid hc1; have HC2 := Lib.hid hc2; have HID := Lib.hid hid; have HN := Lib.hid hn
  clear hc1 hc2 hid hn
  go_enter Try.func35, Try.ntmps35
  go_wp2_with fail
  go_loopw [7] (fun i wr => ∃ k : Nat, k ≤ n ∧ i = .int .i64 k ∧ Below w.heap.size w wr) (fun i _ => n - (intOf i).toNat)
  case atStart => exact ⟨0, Nat.zero_le _, rfl, Below.refl _ _⟩
  case round =>
    obtain ⟨k, hk, rfl, hbr⟩ := hrel
    have HBR := Lib.hid hbr
    clear hbr
    by_cases hlt : k < n
    · have hkl : k < l.length := by rw [← HN.out]; exact hlt
      obtain ⟨x, hx2⟩ : ∃ x, l[k] = x := ⟨_, rfl⟩
      have hidx := HID.out x (by rw [← hx2]; exact List.getElem_mem _)
      have r1 : ∀ u, Below wr.heap.size wr u → u.rangeAt b1 (o1 + k * 20) (cellsD x) := fun u hu j v hv =>
        (hu.cell (p := ⟨b1, o1 + k * 20 + j, none⟩) (Nat.lt_of_lt_of_le h1 HBR.out.size)).trans ((HBR.out.cell (p := ⟨b1, o1 + k * 20 + j, none⟩) h1).trans (HC1.out k hkl j v (by rw [hx2]; exact hv)))
      have r2 : ∀ u, Below wr.heap.size wr u → u.rangeAt b2 (o2 + k * 20) (cellsD x) := fun u hu j v hv =>
        (hu.cell (p := ⟨b2, o2 + k * 20 + j, none⟩) (Nat.lt_of_lt_of_le h2 HBR.out.size)).trans ((HBR.out.cell (p := ⟨b2, o2 + k * 20 + j, none⟩) h2).trans (HC2.out k hkl j v (by rw [hx2]; exact hv)))
      have ce : ∀ u, Below wr.heap.size wr u → Calls Try.prog 36 #[.agg (cellsD x).toArray, .agg (cellsD x).toArray] u fun e u' => e = .returned (.bool true) ∧ Below wr.heap.size wr u' := fun u hu =>
        (eq_idD x x hidx hidx u).mono fun e u' h => ⟨by rw [h.1, eqD_same], hu.trans (h.2.mono hu.size)⟩
      have ll : (Try.prog.info? 32).map (·.size) = some (cellsD x).length := by rw [cellsD_len x hidx]; exact infoD_n
      have R1 := Lib.hid r1; have R2 := Lib.hid r2; have CE := Lib.hid ce; have LX := Lib.hid ll
      clear r1 r2 ce ll hx2 hidx
      generalize cellsD x = cx at *
      go_wp2_with fail
      refine wp_region_held_drew (S := fun u => Below wr.heap.size wr u) (by kernel_rfl) (Below.refl _ _).drew (fun hHeld => ?_)
      refine wpAnyH_take (i := 0) (v := ?hv0) rfl (by kernel_rfl) (by kernel_rfl) (by kernel_rfl) (fun _ _ _ h => h) (Or.inl ⟨by kernel_rfl, ?hy0⟩) hHeld ?_
      case hy0 => intro u hu; go_simp; try with_reducible rfl
      try simp only [Act.put, List.setIfInBounds_toArray, List.set_cons_zero, List.set_cons_succ]
      refine wpAnyH_take (i := 1) (v := ?hv1) rfl (by kernel_rfl) (by kernel_rfl) (by kernel_rfl) (fun _ _ _ h => h) (Or.inl ⟨by kernel_rfl, ?hy1⟩) hHeld ?_
      case hy1 => intro u hu; go_simp; try with_reducible rfl
      try simp only [Act.put, List.setIfInBounds_toArray, List.set_cons_zero, List.set_cons_succ]
      refine wpAnyH_take (i := 2) (v := ?hv2) rfl (by kernel_rfl) (by kernel_rfl) (by kernel_rfl) (fun _ _ _ h => h) (Or.inl ⟨by kernel_rfl, ?hy2⟩) hHeld ?_
      case hy2 => intro u hu; go_simp; try with_reducible rfl
      try simp only [Act.put, List.setIfInBounds_toArray, List.set_cons_zero, List.set_cons_succ]
      refine wpAnyH_take (i := 3) (v := ?hv3) rfl (by kernel_rfl) (by kernel_rfl) (by kernel_rfl) (fun _ _ _ h => h) (Or.inl ⟨by kernel_rfl, ?hy3⟩) hHeld ?_
      case hy3 => intro u hu; go_simp; try with_reducible rfl
      try simp only [Act.put, List.setIfInBounds_toArray, List.set_cons_zero, List.set_cons_succ]
      refine wpAnyH_take (i := 4) rfl (by kernel_rfl) (by kernel_rfl) (by kernel_rfl) (fun _ _ _ h => h) (yieldsIf_load_mid (by kernel_rfl) 32 (.tmp 22) (by kernel_rfl) b1 (o1 + k * 20) (by kernel_rfl) cx _ (fun u hu => R1.out u hu) Try.underlying32 rfl LX.out) hHeld ?_
      try simp only [Act.put, List.setIfInBounds_toArray, List.set_cons_zero, List.set_cons_succ]
      refine wpAnyH_take (i := 5) (v := ?hv5) rfl (by kernel_rfl) (by kernel_rfl) (by kernel_rfl) (fun _ _ _ h => h) (Or.inl ⟨by kernel_rfl, ?hy5⟩) hHeld ?_
      case hy5 => intro u hu; go_simp; try with_reducible rfl
      try simp only [Act.put, List.setIfInBounds_toArray, List.set_cons_zero, List.set_cons_succ]
      refine wpAnyH_take (i := 6) (v := ?hv6) rfl (by kernel_rfl) (by kernel_rfl) (by kernel_rfl) (fun _ _ _ h => h) (Or.inl ⟨by kernel_rfl, ?hy6⟩) hHeld ?_
      case hy6 => intro u hu; go_simp; try with_reducible rfl
      try simp only [Act.put, List.setIfInBounds_toArray, List.set_cons_zero, List.set_cons_succ]
      refine wpAnyH_take (i := 7) (v := ?hv7) rfl (by kernel_rfl) (by kernel_rfl) (by kernel_rfl) (fun _ _ _ h => h) (Or.inl ⟨by kernel_rfl, ?hy7⟩) hHeld ?_
      case hy7 => intro u hu; go_simp; try with_reducible rfl
      try simp only [Act.put, List.setIfInBounds_toArray, List.set_cons_zero, List.set_cons_succ]
      refine wpAnyH_take (i := 8) rfl (by kernel_rfl) (by kernel_rfl) (by kernel_rfl) (fun _ _ _ h => h) (yieldsIf_load_mid (by kernel_rfl) 32 (.tmp 26) (by kernel_rfl) b2 (o2 + k * 20) (by kernel_rfl) cx _ (fun u hu => R2.out u hu) Try.underlying32 rfl LX.out) hHeld ?_
      try simp only [Act.put, List.setIfInBounds_toArray, List.set_cons_zero, List.set_cons_succ]
      refine wpAnyH_ready (rs := [9]) (by kernel_rfl) (by simp) ?_
      refine AllReadyH.cons rfl (fun K hK => ?_) AllReadyH.nil
      go_simp
      refine (CE.out _ hHeld).mono ?_
      rintro e u1 ⟨rfl, hH⟩
      clear hHeld
      refine hK.out _ _ hH (fun hHeld => ?_)
      clear hK K
      try simp only [Act.put, List.setIfInBounds_toArray, List.set_cons_zero, List.set_cons_succ]
      refine wpAnyH_take (i := 10) (v := ?hv10) rfl (by kernel_rfl) (by kernel_rfl) (by kernel_rfl) (fun _ _ _ h => h) (Or.inl ⟨by kernel_rfl, ?hy10⟩) hHeld ?_
      case hy10 => intro u hu; go_simp; try with_reducible rfl
      try simp only [Act.put, List.setIfInBounds_toArray, List.set_cons_zero, List.set_cons_succ]
      refine wpAnyH_done (by kernel_rfl) ?_ _
      have HB2 := Lib.hid (HBR.out.trans (hHeld.mono HBR.out.size))
      clear hHeld
      go_wp2
      go_roundw
      case rel => exact ⟨k + 1, by omega, by go_num, HB2.out⟩
      case measure => simp [intOf]; omega
    · obtain rfl : k = n := by omega
      go_wp2
      go_ret
      exact ⟨rfl, HBR.out⟩
end Go.Proofs.Ytajmgjhknmkfpaa
