/-
  Layer 14, the laws' helper Same over edits.
-/
import Derived.Test.YtbilempgnpnacaaE4c
import Derived.Test.YtbilempgnpnacaaHelpB
import Derived.Test.YtbilempgnpnacaaE4g
import Derived.OrdersHeld
namespace Go.Proofs.Ytbilempgnpnacaa
set_option maxRecDepth 20000
open Go.RowKit
set_option linter.unusedVariables false
set_option linter.unusedSimpArgs false

set_option maxHeartbeats 4000000 in
theorem eq_edit (f t : Int) (a1 a2 : Option Addr) (n1 n2 c1 c2 : Nat) (l : List UInt8) (w : World) (h1 : Red w (.slice a1 n1 c1) l) (h2 : Red w (.slice a2 n2 c2) l) :
    Calls Try.prog 17 #[.agg (arrDl f t (.slice a1 n1 c1)), .agg (arrDl f t (.slice a2 n2 c2))] w fun e w' => e = .returned (.bool true) ∧ Below w.heap.size w w' := by
  obtain ⟨A, hA⟩ : ∃ A, arrDl f t (.slice a1 n1 c1) = A := ⟨_, rfl⟩
  obtain ⟨B, hB⟩ : ∃ B, arrDl f t (.slice a2 n2 c2) = B := ⟨_, rfl⟩
  have b1 := (Below.refl w.heap.size w).alloc (Nat.le_refl _) (.cells A 34)
  have b2 := b1.alloc b1.size (.cells B 34)
  have e1 : (w.alloc (.cells A 34)).heap.size = w.heap.size + 1 := by simp
  have g1 := (((Below.refl (w.alloc (.cells A 34)).heap.size (w.alloc (.cells A 34))).alloc (Nat.le_refl _) (.cells B 34)).block w.heap.size (by simp)).trans (heap_alloc_new w _)
  have g2 := heap_alloc_new (w.alloc (.cells A 34)) (.cells B 34)
  rw [e1] at g2
  obtain ⟨x0, x1, x2⟩ := edit_cells g1 hA
  obtain ⟨y0, y1, y2⟩ := edit_cells g2 hB
  have k1 := redP (h1.below b2 (Nat.le_refl _))
  have k2 := redP (h2.below b2 (Nat.le_refl _))
  have C := Lib.hid (Bytes_same a1 a2 n1 n2 c1 c2 l _ k1.2.1 k2.2.1 k1.1 k2.1)
  have B2 := Lib.hid b2
  rw [hA, hB]
  clear h1 h2 hA hB b1 b2 g1 g2 e1 k1 k2
  go_enter Try.func17, Try.ntmps17
  go_wp2_with fail
  refine C.out.mono ?_
  rintro e w1 ⟨rfl, rfl⟩
  go_wp2
  go_ret
  exact ⟨rfl, B2.out⟩
set_option maxHeartbeats 8000000 in
theorem SameE_some (b1 o1 b2 o2 c1 c2 n : Nat) (l m : List Edc) (w : World) (hn : n = l.length) (hn2 : n = m.length) (hm : n ≤ 1000000) (h1 : EdAt w (some ⟨b1, o1, none⟩) l) (h2 : EdAt w (some ⟨b2, o2, none⟩) m) (g1 : b1 < w.heap.size) (g2 : b2 < w.heap.size)
    (he : ∀ k (p : k < l.length) (q : k < m.length), l[k].f = m[k].f ∧ l[k].t = m[k].t ∧ l[k].b = m[k].b) :
    Calls Try.prog 14 #[.slice (some ⟨b1, o1, none⟩) n c1, .slice (some ⟨b2, o2, none⟩) n c2, .func (.func 17) #[] #[]] w fun e w' => e = .returned (.bool true) ∧ Below w.heap.size w w' := by
  have H1 := Lib.hid h1; have H2 := Lib.hid h2; have HE := Lib.hid he; have HN := Lib.hid hn; have HN2 := Lib.hid hn2
  clear h1 h2 he hn hn2
  go_enter Try.func14, Try.ntmps14
  go_wp2_with fail
  go_loopw [7] (fun i wr => ∃ k : Nat, k ≤ n ∧ i = .int .i64 k ∧ Below w.heap.size w wr) (fun i _ => n - (intOf i).toNat)
  case atStart => exact ⟨0, Nat.zero_le _, rfl, Below.refl _ _⟩
  case round =>
    obtain ⟨k, hk, rfl, hbr⟩ := hrel
    have HBR := Lib.hid hbr
    clear hbr
    by_cases hlt : k < n
    · have hkl : k < l.length := by rw [← HN.out]; exact hlt
      have hkm : k < m.length := by rw [← HN2.out]; exact hlt
      obtain ⟨e1, e2, e3⟩ := HE.out k hkl hkm
      have r1 : ∀ u, Below wr.heap.size wr u → u.rangeAt b1 (o1 + k * 3) (cellsDl l[k]) := fun u hu j v hv => ((H1.out.keep (HBR.out.trans (hu.mono HBR.out.size))).1.elem k hkl) j v hv
      have r2 : ∀ u, Below wr.heap.size wr u → u.rangeAt b2 (o2 + k * 3) (cellsDl m[k]) := fun u hu j v hv => ((H2.out.keep (HBR.out.trans (hu.mono HBR.out.size))).1.elem k hkm) j v hv
      have ce : ∀ u, Below wr.heap.size wr u → Calls Try.prog 17 #[.agg (cellsDl l[k]).toArray, .agg (cellsDl m[k]).toArray] u fun e u' => e = .returned (.bool true) ∧ Below wr.heap.size wr u' := fun u hu => by
        have q1 := H1.out.keep (HBR.out.trans (hu.mono HBR.out.size))
        have q2 := H2.out.keep (HBR.out.trans (hu.mono HBR.out.size))
        have p1 := q1.2 _ (List.getElem_mem hkl)
        have p2 := q2.2 _ (List.getElem_mem hkm)
        obtain ⟨a1, n1, d1, v1⟩ := q1.ok _ (List.getElem_mem hkl)
        obtain ⟨a2, n2, d2, v2⟩ := q2.ok _ (List.getElem_mem hkm)
        rw [v1] at p1
        rw [v2, ← e3] at p2
        have q := eq_edit l[k].f l[k].t a1 a2 n1 n2 d1 d2 l[k].b u p1 p2
        have z1 : (cellsDl l[k]).toArray = arrDl l[k].f l[k].t (.slice a1 n1 d1) := by unfold cellsDl arrDl; rw [v1]
        have z2 : (cellsDl m[k]).toArray = arrDl l[k].f l[k].t (.slice a2 n2 d2) := by unfold cellsDl arrDl; rw [v2, e1, e2]
        rw [z1, z2]
        exact q.mono fun e u' h => ⟨h.1, hu.trans (h.2.mono hu.size)⟩
      have lx : (Try.prog.info? 34).map (·.size) = some (cellsDl l[k]).length := infoEdit
      have ly : (Try.prog.info? 34).map (·.size) = some (cellsDl m[k]).length := infoEdit
      have R1 := Lib.hid r1; have R2 := Lib.hid r2; have CE := Lib.hid ce; have LX := Lib.hid lx; have LY := Lib.hid ly
      clear r1 r2 ce lx ly e1 e2 e3
      generalize cellsDl l[k] = cx at *
      generalize cellsDl m[k] = cy at *
      go_wp2_with fail
      refine wp_region_held_drew (S := fun u => Below wr.heap.size wr u) (by kernel_rfl) (Below.refl _ _).drew (fun hHeld => ?_)
      refine wpAnyH_take (i := 0) (v := ?hv0) rfl (by kernel_rfl) (by kernel_rfl) (by kernel_rfl) (fun _ _ _ h => h) (Or.inl ⟨by kernel_rfl, ?hy0⟩) hHeld ?_
      case hy0 => intro u hu; go_simp; try with_reducible rfl
      try simp only [Act.put, List.setIfInBounds_toArray, List.set_cons_zero, List.set_cons_succ]
      refine wpAnyH_take (i := 1) (v := ?hv1) rfl (by kernel_rfl) (by kernel_rfl) (by kernel_rfl) (fun _ _ _ h => h) (Or.inl ⟨by kernel_rfl, ?hy1⟩) hHeld ?_
      case hy1 => intro u hu; go_simp; try with_reducible rfl
      try simp only [Act.put, List.setIfInBounds_toArray, List.set_cons_zero, List.set_cons_succ]
      refine wpAnyH_take (i := 2) (v := ?hv2) rfl (by kernel_rfl) (by kernel_rfl) (by kernel_rfl) (fun _ _ _ h => h) (Or.inl ⟨by kernel_rfl, ?hy2⟩) hHeld ?_
      case hy2 => intro u hu; go_simp; try with_reducible rfl
      try simp only [Act.put, List.setIfInBounds_toArray, List.set_cons_zero, List.set_cons_succ]
      refine wpAnyH_take (i := 3) (v := ?hv3) rfl (by kernel_rfl) (by kernel_rfl) (by kernel_rfl) (fun _ _ _ h => h) (Or.inl ⟨by kernel_rfl, ?hy3⟩) hHeld ?_
      case hy3 => intro u hu; go_simp; try with_reducible rfl
      try simp only [Act.put, List.setIfInBounds_toArray, List.set_cons_zero, List.set_cons_succ]
      refine wpAnyH_take (i := 4) rfl (by kernel_rfl) (by kernel_rfl) (by kernel_rfl) (fun _ _ _ h => h) (yieldsIf_load_mid (by kernel_rfl) 34 (.tmp 22) (by kernel_rfl) b1 (o1 + k * 3) (by kernel_rfl) cx _ (fun u hu => R1.out u hu) Try.underlying34 rfl LX.out) hHeld ?_
      try simp only [Act.put, List.setIfInBounds_toArray, List.set_cons_zero, List.set_cons_succ]
      refine wpAnyH_take (i := 5) (v := ?hv5) rfl (by kernel_rfl) (by kernel_rfl) (by kernel_rfl) (fun _ _ _ h => h) (Or.inl ⟨by kernel_rfl, ?hy5⟩) hHeld ?_
      case hy5 => intro u hu; go_simp; try with_reducible rfl
      try simp only [Act.put, List.setIfInBounds_toArray, List.set_cons_zero, List.set_cons_succ]
      refine wpAnyH_take (i := 6) (v := ?hv6) rfl (by kernel_rfl) (by kernel_rfl) (by kernel_rfl) (fun _ _ _ h => h) (Or.inl ⟨by kernel_rfl, ?hy6⟩) hHeld ?_
      case hy6 => intro u hu; go_simp; try with_reducible rfl
      try simp only [Act.put, List.setIfInBounds_toArray, List.set_cons_zero, List.set_cons_succ]
      refine wpAnyH_take (i := 7) (v := ?hv7) rfl (by kernel_rfl) (by kernel_rfl) (by kernel_rfl) (fun _ _ _ h => h) (Or.inl ⟨by kernel_rfl, ?hy7⟩) hHeld ?_
      case hy7 => intro u hu; go_simp; try with_reducible rfl
      try simp only [Act.put, List.setIfInBounds_toArray, List.set_cons_zero, List.set_cons_succ]
      refine wpAnyH_take (i := 8) rfl (by kernel_rfl) (by kernel_rfl) (by kernel_rfl) (fun _ _ _ h => h) (yieldsIf_load_mid (by kernel_rfl) 34 (.tmp 26) (by kernel_rfl) b2 (o2 + k * 3) (by kernel_rfl) cy _ (fun u hu => R2.out u hu) Try.underlying34 rfl LY.out) hHeld ?_
      try simp only [Act.put, List.setIfInBounds_toArray, List.set_cons_zero, List.set_cons_succ]
      refine wpAnyH_ready (rs := [9]) (by kernel_rfl) (by simp) ?_
      refine AllReadyH.cons rfl (fun K hK => ?_) AllReadyH.nil
      go_simp
      refine (CE.out _ hHeld).mono ?_
      rintro e u1 ⟨rfl, hH⟩
      clear hHeld
      refine hK.out _ _ hH (fun hHeld => ?_)
      clear hK K
      try simp only [Act.put, List.setIfInBounds_toArray, List.set_cons_zero, List.set_cons_succ]
      refine wpAnyH_take (i := 10) (v := ?hv10) rfl (by kernel_rfl) (by kernel_rfl) (by kernel_rfl) (fun _ _ _ h => h) (Or.inl ⟨by kernel_rfl, ?hy10⟩) hHeld ?_
      case hy10 => intro u hu; go_simp; try with_reducible rfl
      try simp only [Act.put, List.setIfInBounds_toArray, List.set_cons_zero, List.set_cons_succ]
      refine wpAnyH_done (by kernel_rfl) ?_ _
      have HB2 := Lib.hid (HBR.out.trans (hHeld.mono HBR.out.size))
      clear hHeld
      go_wp2
      go_roundw
      case rel => exact ⟨k + 1, by omega, by go_num, HB2.out⟩
      case measure => simp [intOf]; omega
    · obtain rfl : k = n := by omega
      go_wp2
      go_ret
      exact ⟨rfl, HBR.out⟩
set_option maxHeartbeats 400000 in
theorem SameE_none (a1 a2 : Option Addr) (c1 c2 : Nat) (w : World) :
    Calls Try.prog 14 #[.slice a1 0 c1, .slice a2 0 c2, .func (.func 17) #[] #[]] w fun e w' => e = .returned (.bool true) ∧ Below w.heap.size w w' := by
  go_enter Try.func14, Try.ntmps14
  go_wp2_with fail
  refine wp_loop_rounds 1 ?_
  rw [rounds_succ]
  go_wp2
  go_ret
  exact ⟨rfl, Below.refl _ _⟩
end Go.Proofs.Ytbilempgnpnacaa
