/-
  The walk of TapeDeeds, over the contracts.
-/
import Derived.Test.YtghncdoophoieaaTs
namespace Go.Proofs.Ytghncdoophoieaa.tapeDeeds
open Go.RowKit
set_option linter.unusedVariables false

set_option maxHeartbeats 16000000 in
theorem walk (w : World) (x : Int) (x0 : -9223372036854775808 ≤ x) (x1 : x ≤ 9223372036854775807) (a : Option Addr) (n c : Nat) (hm : n ≤ maxLen) (hd : DeedsAt w a n) :
    Calls Try.prog 3 #[.int .i64 x, .slice a n c] w fun e w' => e = .returned (.bool true) ∧ Below w.heap.size w w' := by
  unfold maxLen at hm
  have HD := Lib.hid hd
  clear hd
  go_enter Try.func3, Try.ntmps3
  go_wp2_with fail
  refine (New_any x w).mono ?_
  rintro e w1 ⟨rfl, t1, b1⟩
  have T1 := Lib.hid (And.intro t1 b1)
  clear t1 b1
  go_wp2_with fail
  refine (rNew_any x w1).mono ?_
  rintro e w2 ⟨rfl, t2, b2⟩
  have H2 := Lib.hid (two_mk x w w1 w2 T1.out.1 T1.out.2 t2 b2)
  clear t2 b2 T1
  go_wp2_with fail
  refine (tape_awake _).mono ?_
  rintro e w3 ⟨rfl, b3⟩
  have H3 := Lib.hid (H2.out.keep b3 (Y := fun _ => False) (fun k hk => .inl hk))
  clear b3 H2
  go_wp2_with fail
  go_loopw [7] (fun iv wr => ∃ (k : Nat) (s : Sx), k ≤ n ∧ k ≤ 70 ∧ iv = .int .i64 k ∧ Two w wr w.heap.size w1.heap.size (fun _ => False) s s) (fun i _ => n - (intOf i).toNat)
  case atStart => exact ⟨0, _, Nat.zero_le _, by omega, rfl, H3.out⟩
  case round =>
    obtain ⟨k, s, hk, hk7, rfl, htwo⟩ := hrel
    have H := Lib.hid htwo
    clear htwo
    by_cases hlt : k < n ∧ k < 70
    · obtain ⟨hlt1, hlt2⟩ := hlt
      have h70 : (k : Int) < 70 := by omega
      have dlt : decide ((k : Int) < (n : Int)) = true := decide_eq_true (by omega)
      obtain ⟨b, o, rfl, hbl, hdeed⟩ := HD.out (by omega)
      obtain ⟨wh, dn, pa, np, pc, ls, hda⟩ := hdeed k hlt1
      obtain ⟨q0, q1, q2⟩ := hda.cells hbl H.out.bel
      have HDA := Lib.hid hda
      clear hdeed hda
      go_wp2_with fail
      obtain ⟨_, _, _, hdn, hnl, hnm, hpi⟩ := HDA.out
      refine (do_any w wr w.heap.size w1.heap.size s H.out wh dn hdn pa np pc ls hpi hnl hnm).mono ?_
      rintro e w4 ⟨rfl, s', h4, _⟩
      have H4 := Lib.hid h4
      clear h4 hdn hnl hnm hpi HDA q0 q1 q2
      go_wp2_with fail
      refine (two_bytes H4.out).mono ?_
      rintro e w5 ⟨a5, c5, rfl, r5, f5, b5, h5⟩
      have H5 := Lib.hid h5
      have H5x := Lib.hid (H4.out.keep b5 (Y := fun k => w4.heap.size ≤ k ∧ k < w5.heap.size) (fun k hk => .inr hk))
      have hs4 := H4.out.bel.size
      have hf5 : ∀ g, foot (.slice a5 s'.l.length c5) = some g → w4.heap.size ≤ g ∧ g < w5.heap.size := fun g hg => ⟨f5 g hg, r5.lt g hg⟩
      have HF5 := Lib.hid hf5
      obtain ⟨a7, c7, e7, _, _, hb5, _⟩ := r5.shape
      cases e7
      have HB5 := Lib.hid hb5
      obtain ⟨a6, c6, q0, hb6⟩ := two_r0 h5
      have HB6 := Lib.hid hb6
      have HL5 := Lib.hid (two_len h5)
      have q1 := two_t2 h5; have q2 := two_t4 h5; have q3 := two_r1 h5; have q4 := two_r4 h5
      have R5 := Lib.hid r5
      clear r5 f5 b5 h5 hf5 hb5 hb6
      obtain ⟨L, hL⟩ : ∃ L, s'.l.length = L := ⟨_, rfl⟩
      have HL := Lib.hid hL
      rw [hL] at q0 R5 HF5 ⊢
      clear hL
      go_wp2_with fail
      have q1' : Hid (∀ q, (w5.drewN q).cell? ⟨w.heap.size, 2, none⟩ = some (.int .i64 s'.hd)) := Lib.hid (fun _ => q1)
      have q2' : Hid (∀ q, (w5.drewN q).cell? ⟨w.heap.size, 4, none⟩ = some (.bool s'.dn)) := Lib.hid (fun _ => q2)
      go_quiet ((first
        | (go_at_call 13; exact Calls.quiet_of_same ((Bytes_same a5 a6 _ _ c5 c6 s'.l _ (HB5.out.keep (below_drewN (Below.refl _ _) _)) (HB6.out.keep (below_drewN (Below.refl _ _) _)) HL.out.symm HL.out.symm).mono fun _ _ h => ⟨h.1, h.2.symm⟩))
        | (go_at_call 14; exact Calls.quiet_of_same ((Held_at _ _ _ (q1'.out _)).mono fun _ _ h => ⟨h.1, h.2.symm⟩))
        | (go_at_call 15; exact Calls.quiet_of_same ((Down_at _ _ _ (q2'.out _)).mono fun _ _ h => ⟨h.1, h.2.symm⟩))))
      go_wp2_with fail
      have R5q := Lib.hid (R5.out.chg (S := fun _ => False) ((Chg.refl _ w5).drewN nq) (fun _ _ h => h))
      have H5q := Lib.hid (H5x.out.keep (below_drewN (Below.refl _ w5) nq) (Y := fun k => w4.heap.size ≤ k ∧ k < w5.heap.size) (fun k hk => .inl hk))
      refine (Spoil_row _ s'.l _ R5q.out HL5.out).mono ?_
      rintro e w6 ⟨rfl, k6⟩
      have H6 := Lib.hid (Two.none (H5q.out.other k6 (fun k hk => by have := HF5.out k hk; exact ⟨this, Nat.le_trans hs4 this.1⟩)))
      clear k6 q0 q1 q2 q3 q4
      go_wp2_with fail
      go_roundw
      case rel => exact ⟨k + 1, s', by omega, by omega, by go_num, H6.out⟩
      case measure => simp [intOf]; omega
    · have hcase : n ≤ k ∨ (k < n ∧ 70 ≤ k) := by omega
      obtain ⟨a6, c6, q0, hb6⟩ := two_r0 H.out
      have HB6 := Lib.hid hb6
      obtain ⟨L, hL⟩ : ∃ L, s.l.length = L := ⟨_, rfl⟩
      have HL := Lib.hid hL
      rw [hL] at q0
      clear hL hb6
      have Hd := Lib.hid (H.out.keep ((Below.refl _ wr).drew) (Y := fun _ => False) (fun k hk => .inl hk))
      have hbr : w1.heap.size < wr.heap.size := by obtain ⟨v, u, _, h2, _⟩ := H.out; exact Rat.lt h2
      have fin : Hid (∀ w' , Below wr.heap.size wr w' → BAt w' a6 s.l ∧ w'.cell? ⟨w1.heap.size, 0, none⟩ = some (.slice a6 L c6)) := Lib.hid (fun w' hb => ⟨HB6.out.keep hb, (hb.cell (p := ⟨w1.heap.size, 0, none⟩) hbr).trans q0⟩)
      rcases hcase with hc | ⟨hc, hc2⟩
      all_goals
        first
        | (have dlt : decide ((k : Int) < (n : Int)) = false := decide_eq_false (by omega); have ilt : ¬ (k : Int) < n := by omega)
        | (have dlt : decide ((k : Int) < (n : Int)) = true := decide_eq_true (by omega); have ilt : (70 : Int) ≤ k := by omega)
        go_wp2_with fail
        refine wp_region_any (by kernel_rfl) ?_
        change wpAny _ _ _ _ _ _ _ (World.drew _)
        refine wpAny_take (i := 0) (v := .pointer (some ⟨w.heap.size, 0, none⟩)) rfl (by kernel_rfl) (by kernel_rfl) (by kernel_rfl) (fun _ _ _ h => h) (Or.inl ⟨by rfl, fun w => by go_simp⟩) ?_
        refine wpAny_take (i := 2) (v := .pointer (some ⟨w1.heap.size, 0, none⟩)) rfl (by kernel_rfl) (by kernel_rfl) (by kernel_rfl) (fun _ _ _ h => h) (Or.inl ⟨by rfl, fun w => by go_simp⟩) ?_
        refine wpAny_take (i := 3) (v := .pointer (some ⟨w1.heap.size, 0, none⟩)) rfl (by kernel_rfl) (by kernel_rfl) (by kernel_rfl) (fun _ _ _ h => h) (Or.inl ⟨by rfl, fun w => by go_simp⟩) ?_
        refine wpAny_take (i := 4) (v := .pointer (some ⟨w1.heap.size, 0, none⟩)) rfl (by kernel_rfl) (by kernel_rfl) (by kernel_rfl) (fun _ _ _ h => h) (Or.inl ⟨by rfl, fun w => by go_simp⟩) ?_
        refine wpAny_ready (rs := [1, 5]) (by kernel_rfl) (by simp) ?_
        refine AllReady.cons rfl (fun K hK => ?_) (AllReady.cons rfl (fun K hK => ?_) AllReady.nil)
        · go_simp
          refine (two_bytes Hd.out).mono ?_
          rintro e w5 ⟨a5, c5, rfl, r5, f5, b5, h5⟩
          have b5' : Below wr.heap.size wr w5 := ((Below.refl _ wr).drew).trans b5
          obtain ⟨a7, c7, e7, _, _, hb5, _⟩ := r5.shape
          cases e7
          have HB5 := Lib.hid hb5
          have q5 := (fin.out w5 b5').2
          have HB7 := Lib.hid (fin.out w5 b5').1
          have H5 := Lib.hid h5
          clear r5 f5 h5 hb5 b5 b5'
          refine hK _ _ ?_
          clear hK K
          refine wpAny_ready (rs := [5]) (by kernel_rfl) (by simp) ?_
          refine AllReady.cons rfl (fun K hK => ?_) AllReady.nil
          go_simp
          refine hK _ _ ?_
          clear hK K
          refine wpAny_ready (rs := [6]) (by kernel_rfl) (by simp) ?_
          refine AllReady.cons rfl (fun K hK => ?_) AllReady.nil
          go_simp
          refine (Bytes_same a5 a6 _ _ c5 c6 s.l _ HB5.out HB7.out rfl HL.out.symm).mono ?_
          rintro e w' ⟨rfl, rfl⟩
          refine hK _ _ ?_
          clear hK K
          refine wpAny_ready (rs := [7]) (by kernel_rfl) (by simp) ?_
          refine AllReady.cons rfl (fun K hK => ?_) AllReady.nil
          go_simp
          refine hK _ _ ?_
          clear hK K
          refine wpAny_done (by kernel_rfl) ?_ _
          go_wp2
          go_ret
          exact ⟨rfl, H5.out.bel⟩
        · go_simp
          refine hK _ _ ?_
          clear hK K
          refine wpAny_ready (rs := [1]) (by kernel_rfl) (by simp) ?_
          refine AllReady.cons rfl (fun K hK => ?_) AllReady.nil
          go_simp
          refine (two_bytes Hd.out).mono ?_
          rintro e w5 ⟨a5, c5, rfl, r5, f5, b5, h5⟩
          have b5' : Below wr.heap.size wr w5 := ((Below.refl _ wr).drew).trans b5
          obtain ⟨a7, c7, e7, _, _, hb5, _⟩ := r5.shape
          cases e7
          have HB5 := Lib.hid hb5
          have HB7 := Lib.hid (fin.out w5 b5').1
          have H5 := Lib.hid h5
          clear r5 f5 h5 hb5 b5 b5'
          refine hK _ _ ?_
          clear hK K
          refine wpAny_ready (rs := [6]) (by kernel_rfl) (by simp) ?_
          refine AllReady.cons rfl (fun K hK => ?_) AllReady.nil
          go_simp
          refine (Bytes_same a5 a6 _ _ c5 c6 s.l _ HB5.out HB7.out rfl HL.out.symm).mono ?_
          rintro e w' ⟨rfl, rfl⟩
          refine hK _ _ ?_
          clear hK K
          refine wpAny_ready (rs := [7]) (by kernel_rfl) (by simp) ?_
          refine AllReady.cons rfl (fun K hK => ?_) AllReady.nil
          go_simp
          refine hK _ _ ?_
          clear hK K
          refine wpAny_done (by kernel_rfl) ?_ _
          go_wp2
          go_ret
          exact ⟨rfl, H5.out.bel⟩
end Go.Proofs.Ytghncdoophoieaa.tapeDeeds
