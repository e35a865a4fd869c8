/-
  Layer 4: one deed, with both tapes: what is cut. (Made by tools/gentq.py.)
-/
import Derived.Test.YtghncdoophoieaaTq
import Derived.RegionTactic
namespace Go.Proofs.Ytghncdoophoieaa
open Go.RowKit
set_option linter.unusedVariables false

set_option maxHeartbeats 8000000 in
theorem do_cut (w0 w : World) (bt br : Nat) (s : Sx) (h : Two w0 w bt br (fun _ => False) s s) (n : Int) (hn63 : n ≤ 9223372036854775807) (pa : Option Addr) (np pc : Nat) (ls : List (List UInt8)) (hp : PartsIn (fun k => k < w0.heap.size) w0 pa ls) (hn : np = ls.length) (hm : np ≤ maxLen) (hok : okParts ls) :
    Calls Try.prog 11 #[.pointer (some ⟨bt, 0, none⟩), .pointer (some ⟨br, 0, none⟩), .agg #[.int .i64 2, .int .i64 n, .slice pa np pc]] w fun e w' => e = .returned (.bool true) ∧ Did w0 bt br s 2 w' := by
  have HOK := Lib.hid hok
  clear hok
  have hb0 := h.bel
  have hp0 := hp.keep hb0
  have hp1 := hp0.keep ((Below.refl _ w).alloc (Nat.le_refl _) (dbox 2 n pa np pc))
  have J := Lib.hid (joined_any _ pa np pc ls _ hp1 hn hm)
  have H := Lib.hid h; have HP0 := Lib.hid hp0; have HN := Lib.hid hn
  unfold maxLen at hm
  clear hp hp0 hp1 h hn
  go_enter Try.func11, Try.ntmps11
  go_wp2_with fail
  refine J.out.mono ?_
  rintro e w1 ⟨b1, h1⟩
  clear J
  rcases h1 with ⟨_, va, he, r1, f1⟩ | ⟨hno, _⟩
  case inr => exact absurd HOK.out hno
  subst he
  obtain ⟨a1, c1, hv, hlc, hcm, _, _⟩ := r1.shape
  obtain ⟨all, hall⟩ : ∃ all, ls.flatten = all := ⟨_, rfl⟩
  have htot := okParts_total HOK.out
  unfold total at htot
  rw [hall] at r1 hv hlc htot
  obtain ⟨L, hL⟩ : ∃ L, all.length = L := ⟨_, rfl⟩
  rw [hL] at hv hlc htot
  subst hv
  unfold maxLen at hcm
  have b01 : Below w.heap.size w w1 := ((Below.refl _ w).alloc (Nat.le_refl _) (dbox 2 n pa np pc)).trans (b1.mono (by simp))
  have hs1 : w.heap.size + 1 ≤ w1.heap.size := by have := b1.size; simpa using this
  have H1 := Lib.hid (H.out.keep b01 (Y := fun k => w.heap.size ≤ k ∧ k < w1.heap.size) (fun k hk => .inr hk))
  have hd0 : w1.heap[w.heap.size]? = some (dbox 2 n pa np pc) := by rw [b1.block _ (by simp)]; exact heap_alloc_new _ _
  have q0 : w1.cell? ⟨w.heap.size, 0, none⟩ = some (.int .i64 2) := (cell_of_row w1 _ 0 _ _ _ hd0).trans rfl
  have q1 : w1.cell? ⟨w.heap.size, 1, none⟩ = some (.int .i64 n) := (cell_of_row w1 _ 1 _ _ _ hd0).trans rfl
  have q2 : w1.cell? ⟨w.heap.size, 2, none⟩ = some (.slice pa np pc) := (cell_of_row w1 _ 2 _ _ _ hd0).trans rfl
  have hx1 : ∀ g, foot (.slice a1 L c1) = some g → w.heap.size ≤ g ∧ g < w1.heap.size := fun g hg => ⟨by have := f1 g hg; simp at this; omega, r1.lt g hg⟩
  have HD0 := Lib.hid hd0; have R1 := Lib.hid r1; have HX1 := Lib.hid hx1; have HLL := Lib.hid hL; have HALL := Lib.hid hall
  clear hd0 r1 f1 hx1 hL hall b1
  have H1d := Lib.hid (H1.out.keep (w' := w1.drew) ((Below.refl _ w1).drew) (Y := fun k => w.heap.size ≤ k ∧ k < w1.heap.size) (fun k hk => .inl hk))
  go_wp2_with fail
  refine wp_region_any (by kernel_rfl) ?_
  change wpAny _ _ _ _ _ _ _ (World.drew _)
  refine wpAny_take (i := 0) (v := .pointer (some ⟨bt, 0, none⟩)) rfl (by kernel_rfl) (by kernel_rfl) (by kernel_rfl) (fun _ _ _ h => h) (Or.inl ⟨by rfl, fun w => by go_simp⟩) ?_
  refine wpAny_take (i := 1) (v := .pointer (some ⟨w.heap.size, 1, none⟩)) rfl (by kernel_rfl) (by kernel_rfl) (by kernel_rfl) (fun _ _ _ h => h) (Or.inl ⟨by rfl, fun w => by go_simp⟩) ?_
  refine wpAny_take (i := 4) (v := .pointer (some ⟨br, 0, none⟩)) rfl (by kernel_rfl) (by kernel_rfl) (by kernel_rfl) (fun _ _ _ h => h) (Or.inl ⟨by rfl, fun w => by go_simp⟩) ?_
  refine wpAny_take (i := 5) (v := .pointer (some ⟨w.heap.size, 1, none⟩)) rfl (by kernel_rfl) (by kernel_rfl) (by kernel_rfl) (fun _ _ _ h => h) (Or.inl ⟨by rfl, fun w => by go_simp⟩) ?_
  refine wpAny_ready (rs := [2, 6]) (by kernel_rfl) (by simp) ?_
  refine AllReady.cons rfl (fun K hK => ?_) (AllReady.cons rfl (fun K hK => ?_) AllReady.nil)
  · go_simp
    refine hK _ _ ?_
    clear hK K
    refine wpAny_ready (rs := [3, 6]) (by kernel_rfl) (by simp) ?_
    refine AllReady.cons rfl (fun K hK => ?_) (AllReady.cons rfl (fun K hK => ?_) AllReady.nil)
    · go_simp
      refine (Two.opT (E := fun e => e = .returned (.int .i64 (errC s n))) H1d.out (fun v hv _ => tC bt v s _ hv n)).mono ?_
      rintro e w2 ⟨rfl, h2, k2⟩
      have hd2 := (k2.block w.heap.size hs1 (fun hx => hx ⟨Nat.le_refl _, hs1⟩)).trans HD0.out
      have q1b : w2.cell? ⟨w.heap.size, 1, none⟩ = some (.int .i64 n) := (cell_of_row w2 _ 1 _ _ _ hd2).trans rfl
      have H2 := Lib.hid h2
      clear h2 k2 hd2
      refine hK _ _ ?_
      clear hK K
      refine wpAny_ready (rs := [6]) (by kernel_rfl) (by simp) ?_
      refine AllReady.cons rfl (fun K hK => ?_) AllReady.nil
      go_simp
      refine hK _ _ ?_
      clear hK K
      refine wpAny_ready (rs := [7]) (by kernel_rfl) (by simp) ?_
      refine AllReady.cons rfl (fun K hK => ?_) AllReady.nil
      go_simp
      refine (Two.opR (E := fun e => e = .returned (.int .i64 (errC s n))) H2.out (fun v hv _ => rC br v s _ hv n)).mono ?_
      rintro e w3 ⟨rfl, h3, k3⟩
      have H9 := Lib.hid h3
      clear h3 k3
      refine hK _ _ ?_
      clear hK K
      refine wpAny_ready (rs := [8]) (by kernel_rfl) (by simp) ?_
      refine AllReady.cons rfl (fun K hK => ?_) AllReady.nil
      go_simp
      refine hK _ _ ?_
      clear hK K
      refine wpAny_ready (rs := [9]) (by kernel_rfl) (by simp) ?_
      refine AllReady.cons rfl (fun K hK => ?_) AllReady.nil
      go_simp
      refine hK _ _ ?_
      clear hK K
      refine wpAny_done (by kernel_rfl) ?_ _
      go_wp2
      go_ret
      exact ⟨rfl, nextC s n, H9.out.none, fun first g2 g3 hi => absurd rfl g2⟩
    · go_simp
      refine hK _ _ ?_
      clear hK K
      refine wpAny_ready (rs := [3]) (by kernel_rfl) (by simp) ?_
      refine AllReady.cons rfl (fun K hK => ?_) AllReady.nil
      go_simp
      refine (Two.opT (E := fun e => e = .returned (.int .i64 (errC s n))) H1d.out (fun v hv _ => tC bt v s _ hv n)).mono ?_
      rintro e w2 ⟨rfl, h2, k2⟩
      have hd2 := (k2.block w.heap.size hs1 (fun hx => hx ⟨Nat.le_refl _, hs1⟩)).trans HD0.out
      have q1b : w2.cell? ⟨w.heap.size, 1, none⟩ = some (.int .i64 n) := (cell_of_row w2 _ 1 _ _ _ hd2).trans rfl
      have H2 := Lib.hid h2
      clear h2 k2 hd2
      refine hK _ _ ?_
      clear hK K
      refine wpAny_ready (rs := [7]) (by kernel_rfl) (by simp) ?_
      refine AllReady.cons rfl (fun K hK => ?_) AllReady.nil
      go_simp
      refine (Two.opR (E := fun e => e = .returned (.int .i64 (errC s n))) H2.out (fun v hv _ => rC br v s _ hv n)).mono ?_
      rintro e w3 ⟨rfl, h3, k3⟩
      have H9 := Lib.hid h3
      clear h3 k3
      refine hK _ _ ?_
      clear hK K
      refine wpAny_ready (rs := [8]) (by kernel_rfl) (by simp) ?_
      refine AllReady.cons rfl (fun K hK => ?_) AllReady.nil
      go_simp
      refine hK _ _ ?_
      clear hK K
      refine wpAny_ready (rs := [9]) (by kernel_rfl) (by simp) ?_
      refine AllReady.cons rfl (fun K hK => ?_) AllReady.nil
      go_simp
      refine hK _ _ ?_
      clear hK K
      refine wpAny_done (by kernel_rfl) ?_ _
      go_wp2
      go_ret
      exact ⟨rfl, nextC s n, H9.out.none, fun first g2 g3 hi => absurd rfl g2⟩
  · go_simp
    refine hK _ _ ?_
    clear hK K
    refine wpAny_ready (rs := [2]) (by kernel_rfl) (by simp) ?_
    refine AllReady.cons rfl (fun K hK => ?_) AllReady.nil
    go_simp
    refine hK _ _ ?_
    clear hK K
    refine wpAny_ready (rs := [3]) (by kernel_rfl) (by simp) ?_
    refine AllReady.cons rfl (fun K hK => ?_) AllReady.nil
    go_simp
    refine (Two.opT (E := fun e => e = .returned (.int .i64 (errC s n))) H1d.out (fun v hv _ => tC bt v s _ hv n)).mono ?_
    rintro e w2 ⟨rfl, h2, k2⟩
    have hd2 := (k2.block w.heap.size hs1 (fun hx => hx ⟨Nat.le_refl _, hs1⟩)).trans HD0.out
    have q1b : w2.cell? ⟨w.heap.size, 1, none⟩ = some (.int .i64 n) := (cell_of_row w2 _ 1 _ _ _ hd2).trans rfl
    have H2 := Lib.hid h2
    clear h2 k2 hd2
    refine hK _ _ ?_
    clear hK K
    refine wpAny_ready (rs := [7]) (by kernel_rfl) (by simp) ?_
    refine AllReady.cons rfl (fun K hK => ?_) AllReady.nil
    go_simp
    refine (Two.opR (E := fun e => e = .returned (.int .i64 (errC s n))) H2.out (fun v hv _ => rC br v s _ hv n)).mono ?_
    rintro e w3 ⟨rfl, h3, k3⟩
    have H9 := Lib.hid h3
    clear h3 k3
    refine hK _ _ ?_
    clear hK K
    refine wpAny_ready (rs := [8]) (by kernel_rfl) (by simp) ?_
    refine AllReady.cons rfl (fun K hK => ?_) AllReady.nil
    go_simp
    refine hK _ _ ?_
    clear hK K
    refine wpAny_ready (rs := [9]) (by kernel_rfl) (by simp) ?_
    refine AllReady.cons rfl (fun K hK => ?_) AllReady.nil
    go_simp
    refine hK _ _ ?_
    clear hK K
    refine wpAny_done (by kernel_rfl) ?_ _
    go_wp2
    go_ret
    exact ⟨rfl, nextC s n, H9.out.none, fun first g2 g3 hi => absurd rfl g2⟩
end Go.Proofs.Ytghncdoophoieaa
