/-
  Texts that belong together, one behind the other.
-/
import Derived.Test.YtgbmbemmkadagaaFu32
import Derived.Test.YtgbmbemmkadagaaFu36
import Derived.Test.YtgbmbemmkadagaaFu37
import Derived.Test.YtgbmbemmkadagaaFu11
import Derived.Test.YtgbmbemmkadagaaFu10
/-
  Layer 15, the program: the node of a text.
-/
namespace Go.Proofs.Ytgbmbemmkadagaa
set_option maxRecDepth 20000
open Go.RowKit Go.Maps
set_option linter.unusedVariables false
set_option linter.unusedSimpArgs false

theorem bat_arrD {w : World} {g : Nat} {p : List UInt8} {T : TypeId} {fr : Nat × Nat} (h : w.heap[g]? = some (.cells (arrD p) T fr)) : BAt w (some ⟨g, 0, none⟩) p := fun hp => by
  refine ⟨g, 0, rfl, lt_of_heap h, fun i hi => ?_⟩
  have := row_arrD h i (.int .u8 p[i].toNat) (by
    show (cellsD p)[i]? = _
    unfold cellsD
    rw [byteCells_at, List.getElem?_eq_getElem hi]
    rfl)
  exact this
/-- The sum of an id, another one and a text. -/
theorem sum3 {w : World} {b g1 g2 : Nat} {a : Option Addr} {n c : Nat} {p q t : List UInt8} (hr : w.heap[b]? = some (.cells #[.slice (some ⟨g1, 0, none⟩) 20 20, .slice (some ⟨g2, 0, none⟩) 20 20, .slice a n c] 32 (0, 0)))
    (h1 : BAt w (some ⟨g1, 0, none⟩) p) (h2 : BAt w (some ⟨g2, 0, none⟩) q) (h3 : BAt w a t) (hn : n = t.length) (hcn : n ≤ c) (hp : p.length = 20) (hq : q.length = 20) (hl : t.length ≤ 900000) :
    Calls Try.prog 31 #[.slice (some ⟨b, 0, none⟩) 3 3] w fun e w' => e = .returned (idv (sumL (p ++ q ++ t))) ∧ Below w.heap.size w w' := by
  have part : ∀ (x : Option Addr) (m : List UInt8) (k d N : Nat), BAt w x m → N = m.length → N ≤ d → (∀ j, (hj : j < m.length) → (p ++ q ++ t).getD (k + j) 0 = m[j]) → 0 < N →
      ∃ pb po, x = some ⟨pb, po, none⟩ ∧ pb < w.heap.size ∧ N ≤ d ∧ ∀ j, j < N → w.cell? ⟨pb, po + j, none⟩ = some (.int .u8 ((p ++ q ++ t).getD (k + j) 0).toNat) := by
    intro x m k d N hx hN hd hg h0
    obtain ⟨pb, po, e, hlt, hc⟩ := hx (by omega)
    exact ⟨pb, po, e, hlt, hd, fun j hj => by rw [hg j (by omega)]; exact hc j (by omega)⟩
  have g0 : ∀ j, (hj : j < p.length) → (p ++ q ++ t).getD (0 + j) 0 = p[j] := fun j hj => by
    rw [Nat.zero_add, List.getD_eq_getElem?_getD, List.append_assoc, List.getElem?_append_left hj, List.getElem?_eq_getElem hj]; rfl
  have g1' : ∀ j, (hj : j < q.length) → (p ++ q ++ t).getD (20 + j) 0 = q[j] := fun j hj => by
    rw [List.getD_eq_getElem?_getD, List.append_assoc, List.getElem?_append_right (by omega), List.getElem?_append_left (by omega), hp, Nat.add_sub_cancel_left, List.getElem?_eq_getElem hj]; rfl
  have g2' : ∀ j, (hj : j < t.length) → (p ++ q ++ t).getD (40 + j) 0 = t[j] := fun j hj => by
    rw [List.getD_eq_getElem?_getD, List.getElem?_append_right (by rw [List.length_append]; omega), List.length_append, hp, hq, Nat.add_sub_cancel_left, List.getElem?_eq_getElem hj]; rfl
  refine SumO_any w _ 3 3 (p ++ q ++ t) (by simp only [List.length_append]; omega) (by omega)
    { b := b, o := 0, addr := fun _ => ⟨rfl, lt_of_heap hr⟩,
      pa := fun i => match i with | 0 => some ⟨g1, 0, none⟩ | 1 => some ⟨g2, 0, none⟩ | _ => a,
      pn := fun i => match i with | 0 => 20 | 1 => 20 | _ => n,
      pc := fun i => match i with | 0 => 20 | 1 => 20 | _ => c,
      ofs := fun i => match i with | 0 => 0 | 1 => 20 | 2 => 40 | _ => 40 + n,
      row := fun i hi => ?_, old := fun i hi => ?_, zero := rfl, next := fun i hi => ?_, full := by simp only [List.length_append]; omega }
  · rw [Nat.zero_add, cell_of_row w b i _ _ _ hr]
    match i, hi with
    | 0, _ => rfl
    | 1, _ => rfl
    | 2, _ => rfl
  · match i, hi with
    | 0, _ => exact part _ p 0 20 20 h1 hp.symm (Nat.le_refl _) g0
    | 1, _ => exact part _ q 20 20 20 h2 hq.symm (Nat.le_refl _) g1'
    | 2, _ => exact part _ t 40 c n h3 hn hcn g2'
  · match i, hi with
    | 0, _ => rfl
    | 1, _ => rfl
    | 2, _ => rfl
set_option maxHeartbeats 16000000 in
theorem nodeF_is (a : Option Addr) (n c : Nat) (t p q : List UInt8) (w : World) (hb : BAt w a t) (hn : n = t.length) (hno : a = none → n = 0 ∧ c = 0) (hcn : n ≤ c) (hl : t.length ≤ 900000) (hp : p.length = 20) (hq : q.length = 20) :
    Calls Try.prog 15 #[.slice a n c, .agg (arrD p), .agg (arrD q)] w fun e w' => e = .returned (.agg (arrD (nodeV t p q))) ∧ Below w.heap.size w w' := by
  obtain ⟨z, hz0, hzs, hzv, hzb, hz1⟩ := zId_any
  have hnl := nodeV_len t p q
  have b1 := (Below.refl w.heap.size w).alloc (Nat.le_refl _) (.cells (arrD p) 24)
  have b2 := b1.alloc b1.size (.cells (arrD q) 24)
  have b3 := b2.alloc b2.size (.cells z 24)
  have e1 : (w.alloc (.cells (arrD p) 24)).heap.size = w.heap.size + 1 := by simp
  have e2 : ((w.alloc (.cells (arrD p) 24)).alloc (.cells (arrD q) 24)).heap.size = w.heap.size + 2 := by simp
  have k1 := heap_alloc_new w (.cells (arrD p) 24)
  have k2 := heap_alloc_new (w.alloc (.cells (arrD p) 24)) (.cells (arrD q) 24)
  have k3 := heap_alloc_new ((w.alloc (.cells (arrD p) 24)).alloc (.cells (arrD q) 24)) (.cells z 24)
  rw [e1] at k2
  rw [e2] at k3
  have k1' := (Below.heap_alloc (w.alloc (.cells (arrD p) 24)) (.cells (arrD q) 24) w.heap.size (by simp)).trans k1
  have k1'' := (Below.heap_alloc ((w.alloc (.cells (arrD p) 24)).alloc (.cells (arrD q) 24)) (.cells z 24) w.heap.size (by simp; omega)).trans k1'
  have k2' := (Below.heap_alloc ((w.alloc (.cells (arrD p) 24)).alloc (.cells (arrD q) 24)) (.cells z 24) (w.heap.size + 1) (by simp)).trans k2
  obtain ⟨w1, hw1⟩ : ∃ w1, ((w.alloc (.cells (arrD p) 24)).alloc (.cells (arrD q) 24)).alloc (.cells z 24) = w1 := ⟨_, rfl⟩
  rw [hw1] at b3 k3 k1'' k2'
  have BP := Lib.hid (fun u (hu : Below w1.heap.size w1 u) => bat_arrD ((hu.block _ (lt_of_heap k1'')).trans k1''))
  have BQ := Lib.hid (fun u (hu : Below w1.heap.size w1 u) => bat_arrD ((hu.block _ (lt_of_heap k2')).trans k2'))
  have BT := Lib.hid (fun u (hu : Below w1.heap.size w1 u) => (hb.keep b3).keep hu)
  have B3 := Lib.hid b3; have K3 := Lib.hid k3
  have Z1 := Lib.hid (show w1.heap.size = w.heap.size + 3 by rw [← hw1]; simp)
  obtain ⟨Ap, hAp⟩ : ∃ A, arrD p = A := ⟨_, rfl⟩
  obtain ⟨Aq, hAq⟩ : ∃ A, arrD q = A := ⟨_, rfl⟩
  obtain ⟨N, hN⟩ : ∃ N, arrD (nodeV t p q) = N := ⟨_, rfl⟩
  have sN : N.size = 20 := by rw [← hN]; exact arrD_size _ hnl
  have SN := Lib.hid sN; have ON := Lib.hid (show N.all (·.oneCell') = true by rw [← hN]; exact arrD_one _); have IN := Lib.hid (infoD_arr N sN)
  have SNZ := Lib.hid (show N.size = z.size by rw [sN, hzs])
  have CS := Lib.hid (fun (u : World) (hu : Below w1.heap.size w1 u) (b : Nat) (hr : u.heap[b]? = some (.cells #[.slice (some ⟨w.heap.size, 0, none⟩) 20 20, .slice (some ⟨w.heap.size + 1, 0, none⟩) 20 20, .slice a n c] 32 (0, 0))) => (by
    have := sum3 hr (BP.out u hu) (BQ.out u hu) (BT.out u hu) hn hcn hp hq hl
    rw [show idv (sumL (p ++ q ++ t)) = .agg N from congrArg Value.agg hN] at this
    exact this : Calls Try.prog 31 #[.slice (some ⟨b, 0, none⟩) 3 3] u fun e w' => e = .returned (.agg N) ∧ Below u.heap.size u w'))
  rw [hAp, hAq, hN]
  rw [hAp, hAq] at hw1
  have W1 := Lib.hid hw1
  have s1 := fun (u : World) => slice20_D u w.heap.size 0
  have s2 := fun (u : World) => slice20_D u (w.heap.size + 1) 0
  clear b1 b2 b3 e1 e2 k1 k2 k3 k1' k1'' k2' hz0 hzs hzb hz1 hAp hAq hN sN hw1 hnl hb hn hno hcn hl hp hq BP BQ BT
  go_enter Try.func15, Try.ntmps15
  go_wp2_with fail
  rw [W1.out]
  refine wp_regionX (S := fun u => Below w1.heap.size w1 u) (fun j => j == 5) (by kernel_rfl) (Below.refl _ _).drew (fun hHeld => ?_)
  refine tkXV 0 rfl (.slice (some ⟨w.heap.size, 0, none⟩) 20 20) (fun u hu => by have q := s1 u; go_simp) hHeld ?_
  refine tkXV 1 rfl (.slice (some ⟨w.heap.size + 1, 0, none⟩) 20 20) (fun u hu => by have q := s2 u; go_simp) hHeld ?_
  refine tkXW 2 rfl hHeld ?_
  refine rdX 3 rfl (fun K hK => ?_)
  go_simp
  have hH := ((Below.refl w1.heap.size w1).alloc (Nat.le_refl _) (.cells #[.slice (some ⟨w.heap.size, 0, none⟩) 20 20, .slice (some ⟨w.heap.size + 1, 0, none⟩) 20 20, .slice a n c] 32)).drew
  have x9 := (show ((w1.alloc (.cells #[.slice (some ⟨w.heap.size, 0, none⟩) 20 20, .slice (some ⟨w.heap.size + 1, 0, none⟩) 20 20, .slice a n c] 32)).drew).heap[w1.heap.size]? = some (.cells #[.slice (some ⟨w.heap.size, 0, none⟩) 20 20, .slice (some ⟨w.heap.size + 1, 0, none⟩) 20 20, .slice a n c] 32 (0, 0)) from heap_alloc_new w1 _)
  obtain ⟨u9, hu9⟩ : ∃ u9, (w1.alloc (.cells #[.slice (some ⟨w.heap.size, 0, none⟩) 20 20, .slice (some ⟨w.heap.size + 1, 0, none⟩) 20 20, .slice a n c] 32)).drew = u9 := ⟨_, rfl⟩
  rw [hu9] at hH x9 ⊢
  have C9 := Lib.hid (CS.out u9 hH _ x9)
  clear hHeld x9 hu9
  refine hK.out _ _ (.inl hH) (fun _ => ?_)
  have hHeld := hH
  clear hK K
  try simp only [Act.put, List.setIfInBounds_toArray, List.set_cons_zero, List.set_cons_succ]
  refine rdX 4 rfl (fun K hK => ?_)
  go_simp
  refine C9.out.mono ?_
  rintro e u10 ⟨rfl, hb10⟩
  have hH := hHeld.trans (hb10.mono hHeld.size)
  have X10 := Lib.hid ((hH.block _ (lt_of_heap K3.out)).trans K3.out)
  have S10 := Lib.hid (B3.out.trans (hH.mono B3.out.size))
  clear hHeld hb10 C9
  refine hK.out _ _ (.inl hH) (fun _ => ?_)
  have hHeld := hH
  clear hK K
  try simp only [Act.put, List.setIfInBounds_toArray, List.set_cons_zero, List.set_cons_succ]
  try simp only [Act.put, List.getElem_toArray, List.getElem_cons_succ, List.getElem_cons_zero, lsA, lsZ, lsS]
  refine rdX 5 rfl (fun K hK => ?_)
  refine stepW rfl (wp_store_all 24 (.tmp 6) (.tmp 11) rfl (w.heap.size + 2) N (by kernel_rfl) (by kernel_rfl) 24 z X10.out IN.out SNZ.out ON.out (fun u11 r11 o11 s11 => ?_))
  have R11 := Lib.hid r11
  have B11 := Lib.hid (S10.out.trans (o11.below (B := w.heap.size) (by omega) S10.out.size))
  clear hHeld r11 o11 s11
  refine hK.out _ _ (.inr rfl) (fun _ => ?_)
  clear hK K
  try simp only [Act.put, List.getElem_toArray, List.getElem_cons_succ, List.getElem_cons_zero, lsA, lsZ, lsS]
  refine wpAnyX_done (by kernel_rfl) ?_ _
  go_wp2
  exact bodyPost_ret (results_cell_row Try.results15 _ _ (w.heap.size + 2) 24 N (0, 0) _ rfl R11.out Try.underlying24 rfl IN.out) rfl ⟨rfl, B11.out⟩
end Go.Proofs.Ytgbmbemmkadagaa

/-
  bytes.Clone, bytes.Equal.
-/
namespace Go.Proofs.Ytgbmbemmkadagaa
open Go.RowKit
set_option linter.unusedVariables false

set_option maxHeartbeats 400000 in
theorem bEqual_any (a1 a2 : Option Addr) (n1 n2 c1 c2 : Nat) (l1 l2 : List UInt8) (w : World) (h1 : BAt w a1 l1) (h2 : BAt w a2 l2) (e1 : n1 = l1.length) (e2 : n2 = l2.length) :
    Calls Try.prog 37 #[.slice a1 n1 c1, .slice a2 n2 c2] w fun e w' => e = .returned (.bool (l1 == l2)) ∧ w = w' := by
  subst e1; subst e2
  have g1 := h1.conv (P := Try.prog) c1 32 5 Try.underlying32 Try.underlying5 9 Try.underlying9
  have g2 := h2.conv (P := Try.prog) c2 32 5 Try.underlying32 Try.underlying5 9 Try.underlying9
  clear h1 h2
  go_enter Try.func37, Try.ntmps37
  go_wp2
  go_ret
  exact ⟨rfl, rfl⟩
end Go.Proofs.Ytgbmbemmkadagaa
