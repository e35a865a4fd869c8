/-
  Layer 4: one deed, with both tapes: what is swapped. (Made by tools/gentq.py.)
-/
import Derived.Test.YtghncdoophoieaaTq
import Derived.RegionTactic
namespace Go.Proofs.Ytghncdoophoieaa
open Go.RowKit
set_option linter.unusedVariables false

set_option maxHeartbeats 8000000 in
theorem do_swap (w0 w : World) (bt br : Nat) (s : Sx) (h : Two w0 w bt br (fun _ => False) s s) (n : Int) (hn63 : n ≤ 9223372036854775807) (pa : Option Addr) (np pc : Nat) (ls : List (List UInt8)) (hp : PartsIn (fun k => k < w0.heap.size) w0 pa ls) (hn : np = ls.length) (hm : np ≤ maxLen) (hok : okParts ls) :
    Calls Try.prog 11 #[.pointer (some ⟨bt, 0, none⟩), .pointer (some ⟨br, 0, none⟩), .agg #[.int .i64 3, .int .i64 n, .slice pa np pc]] w fun e w' => e = .returned (.bool true) ∧ Did w0 bt br s 3 w' := by
  have HOK := Lib.hid hok
  clear hok
  have hb0 := h.bel
  have hp0 := hp.keep hb0
  have hp1 := hp0.keep ((Below.refl _ w).alloc (Nat.le_refl _) (dbox 3 n pa np pc))
  have J := Lib.hid (joined_any _ pa np pc ls _ hp1 hn hm)
  have H := Lib.hid h; have HP0 := Lib.hid hp0; have HN := Lib.hid hn
  unfold maxLen at hm
  clear hp hp0 hp1 h hn
  go_enter Try.func11, Try.ntmps11
  go_wp2_with fail
  refine J.out.mono ?_
  rintro e w1 ⟨b1, h1⟩
  clear J
  rcases h1 with ⟨_, va, he, r1, f1⟩ | ⟨hno, _⟩
  case inr => exact absurd HOK.out hno
  subst he
  obtain ⟨a1, c1, hv, hlc, hcm, _, _⟩ := r1.shape
  obtain ⟨all, hall⟩ : ∃ all, ls.flatten = all := ⟨_, rfl⟩
  have htot := okParts_total HOK.out
  unfold total at htot
  rw [hall] at r1 hv hlc htot
  obtain ⟨L, hL⟩ : ∃ L, all.length = L := ⟨_, rfl⟩
  rw [hL] at hv hlc htot
  subst hv
  unfold maxLen at hcm
  have b01 : Below w.heap.size w w1 := ((Below.refl _ w).alloc (Nat.le_refl _) (dbox 3 n pa np pc)).trans (b1.mono (by simp))
  have hs1 : w.heap.size + 1 ≤ w1.heap.size := by have := b1.size; simpa using this
  have H1 := Lib.hid (H.out.keep b01 (Y := fun k => w.heap.size ≤ k ∧ k < w1.heap.size) (fun k hk => .inr hk))
  have hd0 : w1.heap[w.heap.size]? = some (dbox 3 n pa np pc) := by rw [b1.block _ (by simp)]; exact heap_alloc_new _ _
  have q0 : w1.cell? ⟨w.heap.size, 0, none⟩ = some (.int .i64 3) := (cell_of_row w1 _ 0 _ _ _ hd0).trans rfl
  have q1 : w1.cell? ⟨w.heap.size, 1, none⟩ = some (.int .i64 n) := (cell_of_row w1 _ 1 _ _ _ hd0).trans rfl
  have q2 : w1.cell? ⟨w.heap.size, 2, none⟩ = some (.slice pa np pc) := (cell_of_row w1 _ 2 _ _ _ hd0).trans rfl
  have hx1 : ∀ g, foot (.slice a1 L c1) = some g → w.heap.size ≤ g ∧ g < w1.heap.size := fun g hg => ⟨by have := f1 g hg; simp at this; omega, r1.lt g hg⟩
  have HD0 := Lib.hid hd0; have R1 := Lib.hid r1; have HX1 := Lib.hid hx1; have HLL := Lib.hid hL; have HALL := Lib.hid hall
  clear hd0 r1 f1 hx1 hL hall b1
  have HLE := Lib.hid (show w.heap.size ≤ w1.heap.size by omega)
  have rsh := R1.out.shape
  obtain ⟨a2, c2, e2, _, _, hba, hna⟩ := rsh
  have e3 : a1 = a2 ∧ c1 = c2 := by rw [HLL.out] at e2; cases e2; exact ⟨rfl, rfl⟩
  obtain ⟨rfl, rfl⟩ := e3
  have C := Lib.hid (Own_any a1 L c1 all 71 w1 hba (by rw [HLL.out] at hna; exact hna) HLL.out.symm (by rw [HLL.out]; omega))
  have HNA := Lib.hid (show a1 = none → L = 0 ∧ c1 = 0 by rw [HLL.out] at hna; exact hna)
  clear hba hna e2
  go_wp2_with fail
  refine C.out.mono ?_
  rintro e w2 ⟨rfl, o2, b2⟩
  rw [HLL.out]
  have O2 := Lib.hid o2
  have hg2 := o2.lt
  have H2 := Lib.hid (H1.out.keep b2 (Y := fun k => w.heap.size ≤ k ∧ k < w2.heap.size) (fun k hk => by have := b2.size; by_cases hx : k < w1.heap.size; exact .inl ⟨hk.1, hx⟩; exact .inr ⟨by omega, hk.2⟩))
  have R2 := Lib.hid (R1.out.keep (fun g hg => b2.block g (HX1.out g hg).2))
  have hs2 := b2.size
  have HX2 := Lib.hid (show ∀ g, foot (.slice a1 L c1) = some g → w.heap.size ≤ g ∧ g < w2.heap.size from fun g hg => ⟨(HX1.out g hg).1, Nat.lt_of_lt_of_le (HX1.out g hg).2 hs2⟩)
  have bo2 := o2.bat
  have BO2 := Lib.hid bo2
  clear o2 b2 C bo2
  go_wp2_with fail
  refine (Two.opT (E := fun e => e = .returned (.int .i64 (errS s all.length))) H2.out (fun v hv hx => tS bt v s _ hv (some ⟨w1.heap.size, 0, none⟩) L (L + 3) all BO2.out HLL.out.symm (fun h => by cases h) (fun _ a ha => by cases ha; exact (hx _ ⟨by omega, hg2⟩).1) (by rw [HLL.out]; exact htot))).mono ?_
  rintro e w3 ⟨rfl, h3, k3⟩
  have H3 := Lib.hid h3
  have O3 := Lib.hid (O2.out.heap (k3.block _ hg2 (fun hx => hx ⟨by omega, hg2⟩)))
  have R3 := Lib.hid (R2.out.chg k3 (fun g hg hx => hx (HX2.out g hg)))
  have hs3 := k3.size
  clear h3 k3
  obtain ⟨E1, hE1⟩ : ∃ E1, errS s all.length = E1 := ⟨_, rfl⟩
  have HE1 := Lib.hid hE1
  rw [hE1]
  clear hE1
  go_wp2_with fail
  obtain ⟨a2, c2, e2, _, _, hba, _⟩ := R3.out.shape
  have e3 : a1 = a2 ∧ c1 = c2 := by rw [HLL.out] at e2; cases e2; exact ⟨rfl, rfl⟩
  obtain ⟨rfl, rfl⟩ := e3
  have HBA := Lib.hid hba
  clear hba e2
  have hR := Two.opR (E := fun e => e = .returned (.int .i64 (errS s all.length))) H3.out (fun v hv hx => rS br v s _ hv a1 L c1 all HBA.out HLL.out.symm HNA.out (fun hp x hx1 hx2 => (hx x.block (by
    have := R3.out.block hp x hx1
    exact HX2.out _ this)).1 (by rw [hx2]; exact .inl rfl)) (by rw [HLL.out]; exact htot))
  rw [HE1.out] at hR
  refine hR.mono ?_
  rintro e w4 ⟨rfl, h4, k4⟩
  have H4 := Lib.hid h4
  have O4 := Lib.hid (O3.out.heap (k4.block _ (by omega) (fun hx => hx ⟨by omega, hg2⟩)))
  have R4 := Lib.hid (R3.out.chg k4 (fun g hg hx => hx (HX2.out g hg)))
  have hs4 := k4.size
  clear h4 k4 hR
  go_wp2_with fail
  obtain ⟨a2, c2, e2, _, _, hba4, _⟩ := R4.out.shape
  have e3 : a1 = a2 ∧ c1 = c2 := by rw [HLL.out] at e2; cases e2; exact ⟨rfl, rfl⟩
  obtain ⟨rfl, rfl⟩ := e3
  refine (Kept_any w1.heap.size L L (L + 3) c1 a1 all 71 w4 O4.out hba4 HLL.out.symm (by rw [HLL.out]) HLL.out.symm (by rw [HLL.out]; omega)).mono ?_
  rintro e w5 ⟨rfl, b5⟩
  have H5 := Lib.hid (H4.out.keep b5 (Y := fun k => w.heap.size ≤ k ∧ k < w2.heap.size) (fun k hk => .inl hk))
  have O5 := Lib.hid (O4.out.keep b5)
  clear hba4 e2 b5
  go_wp2_with fail
  have row5 := O5.out.row
  rw [HLL.out] at row5
  refine (Spoil_row _ all w5 row5 (by rw [HLL.out]; omega)).mono ?_
  rintro e w6 ⟨rfl, k6⟩
  have hw1 := H1.out.bel.size
  have H9 := Lib.hid (H5.out.other k6 (fun k hk => by cases hk; exact ⟨⟨HLE.out, hg2⟩, hw1⟩))
  clear row5 k6
  go_wp2
  go_ret
  exact ⟨rfl, nextS s all, H9.out.none, fun first g2 g3 hi => absurd rfl g3⟩
end Go.Proofs.Ytghncdoophoieaa
