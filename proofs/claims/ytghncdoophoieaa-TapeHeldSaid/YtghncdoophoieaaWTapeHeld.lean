/-
  The walk of TapeHeld, over the contracts. (Made by tools/genheld.py.)
-/
import Derived.Test.YtghncdoophoieaaTs
import Derived.RegionTactic
namespace Go.Proofs.Ytghncdoophoieaa.tapeHeld
open Go.RowKit
set_option linter.unusedVariables false

/-- One part, of what came in, in a new slice. -/
theorem parts_arg {w wz : World} {a : Option Addr} {c : Nat} {f : List UInt8} (hb : BAt w a f) (hno : a = none → f.length = 0 ∧ c = 0) (hl : f.length ≤ 300) (hz : Below w.heap.size w wz) :
    PartsIn (fun k => k = wz.heap.size ∨ k < w.heap.size) (wz.alloc (.cells #[.slice a f.length c] 32)) (some ⟨wz.heap.size, 0, none⟩) [f] := fun _ => by
  refine ⟨wz.heap.size, 0, rfl, .inl rfl, by simp, fun i hi => ?_⟩
  match i, hi with
  | 0, _ =>
    refine ⟨a, c, ?_, fun hp => ?_, hno, by unfold maxLen; simp; omega⟩
    · rw [cell_of_row _ _ 0 _ _ _ (heap_alloc_new wz _)]; simp
    · obtain ⟨b, o, rfl, h1, h2⟩ := hb hp
      exact ⟨b, o, rfl, .inr h1, by simp; have := hz.size; omega, fun j hj => (World.cell?_of_block (a := ⟨b, o + j, none⟩) (Below.heap_alloc wz _ b (Nat.lt_of_lt_of_le h1 hz.size))).trans ((hz.cell (p := ⟨b, o + j, none⟩) h1).trans (h2 j hj))⟩
theorem clamp_max : clamp 16777216 = 16777216 := by unfold clamp; omega
/-- Behind the first write, and the first hold. -/
def s0 : Sx := ⟨16777216, [], 0, 0, false⟩
theorem e_w (f : List UInt8) (hl : f.length ≤ 300) : errW s0 f.length = 0 := (errW_pos (.inr (by simp; omega))).trans rfl
theorem s_w (f : List UInt8) (hl : f.length ≤ 300) : nextW s0 f = ⟨16777216, f, 0, 0, false⟩ := (nextW_pos (.inr (by simp; omega))).trans rfl
theorem e_h (f : List UInt8) : errH ⟨16777216, f, 0, 0, false⟩ = 0 := errH_up.trans rfl
theorem s_h (f : List UInt8) : nextH ⟨16777216, f, 0, 0, false⟩ = ⟨16777216, f, f.length, 0, false⟩ := nextH_up.trans rfl
set_option maxHeartbeats 1000000 in
theorem long (w : World) (a0 a1 : Option Addr) (n0 c0 n1 c1 : Nat) (h0 : n0 ≤ maxLen) (h : 300 < n0) :
    Calls Try.prog 4 #[.slice a0 n0 c0, .slice a1 n1 c1] w fun e w' => e = .returned (.bool true) ∧ Below w.heap.size w w' := by
  unfold maxLen at h0
  go_enter Try.func4, Try.ntmps4
  go_wp2_with fail
  refine (tape_awake _).mono ?_
  rintro e w1 ⟨rfl, b1⟩
  go_wp2
  go_ret
  exact ⟨rfl, b1⟩
set_option maxHeartbeats 16000000 in
theorem short (w : World) (a0 : Option Addr) (c0 : Nat) (f : List UInt8) (hb0 : BAt w a0 f) (hn0 : a0 = none → f.length = 0 ∧ c0 = 0) (hl : f.length ≤ 300) (a : Option Addr) (n c : Nat) (hm : n ≤ maxLen) (hd : DeedsAt w a n) :
    Calls Try.prog 4 #[.slice a0 f.length c0, .slice a n c] w fun e w' => e = .returned (.bool true) ∧ Below w.heap.size w w' := by
  unfold maxLen at hm
  have HD := Lib.hid hd; have HB0 := Lib.hid hb0; have HN0 := Lib.hid hn0
  have CVF : Hid (∀ u, Below w.heap.size w u → (convert 32 9 (.slice a0 f.length c0)).run Try.prog u = .ok (.string ⟨f.toArray⟩) u) := Lib.hid (fun u hu => (hb0.keep hu).conv (P := Try.prog) c0 32 5 Try.underlying32 Try.underlying5 9 Try.underlying9)
  have EW := Lib.hid (e_w f hl); have SW := Lib.hid (s_w f hl)
  obtain ⟨n0, hn0e⟩ : ∃ n0, f.length = n0 := ⟨_, rfl⟩
  have HNE := Lib.hid hn0e
  rw [hn0e] at CVF hl ⊢
  clear hd hb0 hn0 hn0e
  go_enter Try.func4, Try.ntmps4
  go_wp2_with fail
  refine (New_any 16777216 w).mono ?_
  rintro e w1 ⟨rfl, t1, b1⟩
  have T1 := Lib.hid (And.intro t1 b1)
  clear t1 b1
  go_wp2_with fail
  refine (rNew_any 16777216 w1).mono ?_
  rintro e w2 ⟨rfl, t2, b2⟩
  have h2 := two_mk 16777216 w w1 w2 T1.out.1 T1.out.2 t2 b2
  rw [clamp_max] at h2
  have H2 : Hid (Two w w2 w.heap.size w1.heap.size (fun _ => False) s0 s0) := Lib.hid h2
  clear t2 b2 T1 h2
  go_wp2_with fail
  refine (tape_awake _).mono ?_
  rintro e w3 ⟨rfl, b3⟩
  have H3 := Lib.hid (H2.out.keep b3 (Y := fun _ => False) (fun k hk => .inl hk))
  clear b3 H2
  have hp4 := parts_arg (c := c0) HB0.out (by rw [HNE.out]; have := HN0.out; rw [HNE.out] at this; exact this) (by rw [HNE.out]; exact hl) H3.out.bel
  rw [HNE.out] at hp4
  have H4 := Lib.hid (two_args (H3.out.keep ((Below.refl _ w3).alloc (Nat.le_refl _) (.cells #[.slice a0 n0 c0] 32)) (Y := fun k => k = w3.heap.size) (fun k hk => .inr (by simp; omega))))
  have W4 := Two.opT (E := fun e => e = .returned (.int .i64 (errW s0 f.length))) H4.out (fun v hv hx => tW w.heap.size v s0 _ hv _ (some ⟨w3.heap.size, 0, none⟩) 1 1 _ hp4 rfl (by decide) (fun k hk => hx k hk) f (by simp))
  rw [EW.out, SW.out] at W4
  have HW4 := Lib.hid W4
  clear hp4 W4
  go_wp2_with fail
  refine HW4.out.mono ?_
  rintro e w5 ⟨rfl, h5, _⟩
  have W5 := Two.opT (E := fun e => e = .returned (.int .i64 (errH ⟨16777216, f, 0, 0, false⟩))) h5 (fun v hv _ => tH w.heap.size v _ _ hv)
  rw [e_h, s_h] at W5
  have HW5 := Lib.hid W5
  clear W5 h5 HW4 H4 H3
  go_wp2_with fail
  refine HW5.out.mono ?_
  rintro e w6 ⟨rfl, h6, _⟩
  have W6 := Two.opR (E := fun e => e = .returned (.int .i64 (errW s0 f.length))) h6 (fun v hv hx => rW w1.heap.size v s0 _ hv a0 n0 c0 f (HB0.out.keep h6.bel) HNE.out.symm (by have := HN0.out; rw [HNE.out] at this; exact this) (by rw [HNE.out]; omega))
  rw [EW.out, SW.out] at W6
  have HW6 := Lib.hid W6
  clear W6 h6 HW5
  go_wp2_with fail
  refine HW6.out.mono ?_
  rintro e w7 ⟨rfl, h7, _⟩
  have W7 := Two.opR (E := fun e => e = .returned (.int .i64 (errH ⟨16777216, f, 0, 0, false⟩))) h7 (fun v hv _ => rH w1.heap.size v _ _ hv)
  rw [e_h, s_h] at W7
  have HW7 := Lib.hid W7
  clear W7 h7 HW6
  go_wp2_with fail
  refine HW7.out.mono ?_
  rintro e w8 ⟨rfl, h8, _⟩
  have H8 := Lib.hid h8.none
  clear h8 HW7
  go_wp2_with fail
  go_loopw [7] (fun iv wr => ∃ (k : Nat) (s : Sx), k ≤ n ∧ k ≤ 60 ∧ iv = .int .i64 k ∧ Two w wr w.heap.size w1.heap.size (fun _ => False) s s ∧ Inv f s) (fun i _ => n - (intOf i).toNat)
  case atStart => exact ⟨0, _, Nat.zero_le _, by omega, rfl, H8.out, List.prefix_refl _, Nat.le_refl _⟩
  case round =>
    obtain ⟨k, s, hk, hk6, rfl, htwo, hinv⟩ := hrel
    have H := Lib.hid htwo; have HI := Lib.hid hinv
    clear htwo hinv
    by_cases hlt : k < n ∧ k < 60
    · obtain ⟨hlt1, hlt2⟩ := hlt
      have h60 : (k : Int) < 60 := by omega
      have dlt : decide ((k : Int) < (n : Int)) = true := decide_eq_true (by omega)
      obtain ⟨b, o, rfl, hbl, hdeed⟩ := HD.out (by omega)
      obtain ⟨wh, dn, pa, np, pc, ls, hda⟩ := hdeed k hlt1
      obtain ⟨q0, q1, q2⟩ := hda.cells hbl H.out.bel
      have HDA := Lib.hid hda
      clear hdeed hda
      have hcase : wh = 2 ∨ wh = 3 ∨ (wh ≠ 2 ∧ wh ≠ 3) := by omega
      rcases hcase with rfl | rfl | ⟨g2, g3⟩
      · go_wp2_with fail
        go_roundw
        case rel => exact ⟨k + 1, s, by omega, by omega, by go_num, H.out, HI.out⟩
        case measure => simp [intOf]; omega
      · go_wp2_with fail
        go_roundw
        case rel => exact ⟨k + 1, s, by omega, by omega, by go_num, H.out, HI.out⟩
        case measure => simp [intOf]; omega
      · have d2 : (wh == 2) = false := by rw [beq_eq_false_iff_ne]; exact g2
        have d3 : (wh == 3) = false := by rw [beq_eq_false_iff_ne]; exact g3
        obtain ⟨_, _, _, hdn, hnl, hnm, hpi⟩ := HDA.out
        have Hd := Lib.hid (H.out.keep ((Below.refl _ wr).drew) (Y := fun _ => False) (fun k hk => .inl hk))
        have DO := Lib.hid (do_any w wr.drew w.heap.size w1.heap.size s Hd.out wh dn hdn pa np pc ls hpi hnl hnm)
        have G2 := Lib.hid g2; have G3 := Lib.hid g3
        clear hdn hnl hnm hpi HDA g2 g3
        go_wp2_with fail
        refine wp_region_any (by kernel_rfl) ?_
        change wpAny _ _ _ _ _ _ _ (World.drew _)
        refine wpAny_take (i := 0) (v := .pointer (some ⟨w.heap.size, 0, none⟩)) rfl (by kernel_rfl) (by kernel_rfl) (by kernel_rfl) (fun _ _ _ h => h) (Or.inl ⟨by rfl, fun w => by go_simp⟩) ?_
        refine wpAny_take (i := 1) (v := .pointer (some ⟨w1.heap.size, 0, none⟩)) rfl (by kernel_rfl) (by kernel_rfl) (by kernel_rfl) (fun _ _ _ h => h) (Or.inl ⟨by rfl, fun w => by go_simp⟩) ?_
        refine wpAny_take (i := 2) (v := .slice (some ⟨b, o, none⟩) n c) rfl (by kernel_rfl) (by kernel_rfl) (by kernel_rfl) (fun _ _ _ h => h) (Or.inl ⟨by rfl, fun w => by go_simp⟩) ?_
        refine wpAny_take (i := 3) (v := .int .i64 k) rfl (by kernel_rfl) (by kernel_rfl) (by kernel_rfl) (fun _ _ _ h => h) (Or.inl ⟨by rfl, fun w => by go_simp⟩) ?_
        refine wpAny_take (i := 4) (v := .pointer (some ⟨b, o + k * 3, none⟩)) rfl (by kernel_rfl) (by kernel_rfl) (by kernel_rfl) (fun _ _ _ h => h) (Or.inl ⟨by rfl, fun w => by go_simp⟩) ?_
        refine wpAny_ready (rs := [5]) (by kernel_rfl) (by simp) ?_
        refine AllReady.cons rfl (fun K hK => ?_) AllReady.nil
        go_simp
        refine hK _ _ ?_
        clear hK K
        refine wpAny_ready (rs := [6]) (by kernel_rfl) (by simp) ?_
        refine AllReady.cons rfl (fun K hK => ?_) AllReady.nil
        go_simp
        refine DO.out.mono ?_
        rintro e w9 ⟨rfl, s', h9, hi9⟩
        have H9 := Lib.hid h9
        have HI9 := Lib.hid (hi9 f G2.out G3.out HI.out)
        clear h9 hi9 DO q0 q1 q2
        refine hK _ _ ?_
        clear hK K
        refine wpAny_take (i := 7) (v := .bool false) rfl (by kernel_rfl) (by kernel_rfl) (by kernel_rfl) (fun _ _ _ h => h) (Or.inl ⟨by rfl, fun w => by go_simp⟩) ?_
        refine wpAny_take (i := 8) (v := .bool false) rfl (by kernel_rfl) (by kernel_rfl) (by kernel_rfl) (fun _ _ _ h => h) (Or.inl ⟨by rfl, fun w => by go_simp⟩) ?_
        refine wpAny_take (i := 9) (v := .pointer (some ⟨w.heap.size, 0, none⟩)) rfl (by kernel_rfl) (by kernel_rfl) (by kernel_rfl) (fun _ _ _ h => h) (Or.inl ⟨by rfl, fun w => by go_simp⟩) ?_
        refine wpAny_take (i := 12) (v := .slice a0 n0 c0) rfl (by kernel_rfl) (by kernel_rfl) (by kernel_rfl) (fun _ _ _ h => h) (Or.inl ⟨by rfl, fun w => by go_simp⟩) ?_
        have cf9 := CVF.out w9 H9.out.bel
        obtain ⟨L, hL⟩ : ∃ L, s'.l.length = L := ⟨_, rfl⟩
        have HL := Lib.hid hL
        have TB : Hid (Calls Try.prog 12 #[.pointer (some ⟨w.heap.size, 0, none⟩)] w9 fun e w' => ∃ a c, e = .returned (.slice a L c) ∧ BAt w' a s'.l ∧ Two w w' w.heap.size w1.heap.size (fun _ => False) s' s') := Lib.hid ((two_bytes H9.out).mono fun e w' ⟨a, c, e1, e2, _, _, e5⟩ => ⟨a, c, by rw [e1, HL.out], by
          obtain ⟨a7, c7, e7, _, _, hb, _⟩ := e2.shape
          cases e7
          exact hb, e5⟩)
        clear hL
        refine wpAny_ready (rs := [10, 13]) (by kernel_rfl) (by simp) ?_
        refine AllReady.cons rfl (fun K hK => ?_) (AllReady.cons rfl (fun K hK => ?_) AllReady.nil)
        · go_simp
          refine TB.out.mono ?_
          rintro e w10 ⟨a5, c5, rfl, hb5, h10⟩
          have H10 := Lib.hid h10
          have cf10 := CVF.out w10 h10.bel
          have HB5 := Lib.hid hb5
          have cv10 : (convert 32 9 (.slice a5 L c5)).run Try.prog w10 = .ok (.string ⟨s'.l.toArray⟩) w10 := by
            have := hb5.conv (P := Try.prog) c5 32 5 Try.underlying32 Try.underlying5 9 Try.underlying9
            rw [HL.out] at this; exact this
          clear h10 hb5
          refine hK _ _ ?_
          clear hK K
          refine wpAny_ready (rs := [11, 13]) (by kernel_rfl) (by simp) ?_
          refine AllReady.cons rfl (fun K hK => ?_) (AllReady.cons rfl (fun K hK => ?_) AllReady.nil)
          · go_simp
            refine hK _ _ ?_
            clear hK K
            refine wpAny_ready (rs := [13]) (by kernel_rfl) (by simp) ?_
            refine AllReady.cons rfl (fun K hK => ?_) AllReady.nil
            go_simp
            refine hK _ _ ?_
            clear hK K
            refine wpAny_ready (rs := [14]) (by kernel_rfl) (by simp) ?_
            refine AllReady.cons rfl (fun K hK => ?_) AllReady.nil
            go_simp
            refine (Begins_yes s'.l f HI9.out.1 (two_len H10.out) w10).mono ?_
            rintro e w' ⟨rfl, rfl⟩
            refine hK _ _ ?_
            clear hK K
            refine wpAny_take (i := 15) (v := .bool false) rfl (by kernel_rfl) (by kernel_rfl) (by kernel_rfl) (fun _ _ _ h => h) (Or.inl ⟨by rfl, fun w => by go_simp⟩) ?_
            refine wpAny_take (i := 16) (v := .bool false) rfl (by kernel_rfl) (by kernel_rfl) (by kernel_rfl) (fun _ _ _ h => h) (Or.inl ⟨by rfl, fun w => by go_simp⟩) ?_
            refine wpAny_take (i := 17) (v := .bool false) rfl (by kernel_rfl) (by kernel_rfl) (by kernel_rfl) (fun _ _ _ h => h) (Or.inl ⟨by rfl, fun w => by go_simp⟩) ?_
            refine wpAny_take (i := 18) (v := .pointer (some ⟨w.heap.size, 0, none⟩)) rfl (by kernel_rfl) (by kernel_rfl) (by kernel_rfl) (fun _ _ _ h => h) (Or.inl ⟨by rfl, fun w => by go_simp⟩) ?_
            refine wpAny_take (i := 20) (v := .slice a0 n0 c0) rfl (by kernel_rfl) (by kernel_rfl) (by kernel_rfl) (fun _ _ _ h => h) (Or.inl ⟨by rfl, fun w => by go_simp⟩) ?_
            refine wpAny_take (i := 21) (v := .int .i64 n0) rfl (by kernel_rfl) (by kernel_rfl) (by kernel_rfl) (fun _ _ _ h => h) (Or.inl ⟨by rfl, fun w => by go_simp⟩) ?_
            refine wpAny_ready (rs := [19]) (by kernel_rfl) (by simp) ?_
            refine AllReady.cons rfl (fun K hK => ?_) AllReady.nil
            go_simp
            refine (Held_at _ _ _ (two_t2 H10.out)).mono ?_
            rintro e w' ⟨rfl, rfl⟩
            have hge : (n0 : Int) ≤ s'.hd := by have := HI9.out.2; have := HNE.out; omega
            have dge : decide ((s'.hd : Int) < (n0 : Int)) = false := decide_eq_false (by omega)
            refine hK _ _ ?_
            clear hK K
            refine wpAny_ready (rs := [22]) (by kernel_rfl) (by simp) ?_
            refine AllReady.cons rfl (fun K hK => ?_) AllReady.nil
            go_simp
            refine hK _ _ ?_
            clear hK K
            refine wpAny_ready (rs := [23]) (by kernel_rfl) (by simp) ?_
            refine AllReady.cons rfl (fun K hK => ?_) AllReady.nil
            go_simp
            refine hK _ _ ?_
            clear hK K
            refine wpAny_done (by kernel_rfl) ?_ _
            go_wp2_with fail
            go_roundw
            case rel => exact ⟨k + 1, s', by omega, by omega, by go_num, H10.out, HI9.out⟩
            case measure => simp [intOf]; omega
          · go_simp
            refine hK _ _ ?_
            clear hK K
            refine wpAny_ready (rs := [11]) (by kernel_rfl) (by simp) ?_
            refine AllReady.cons rfl (fun K hK => ?_) AllReady.nil
            go_simp
            refine hK _ _ ?_
            clear hK K
            refine wpAny_ready (rs := [14]) (by kernel_rfl) (by simp) ?_
            refine AllReady.cons rfl (fun K hK => ?_) AllReady.nil
            go_simp
            refine (Begins_yes s'.l f HI9.out.1 (two_len H10.out) w10).mono ?_
            rintro e w' ⟨rfl, rfl⟩
            refine hK _ _ ?_
            clear hK K
            refine wpAny_take (i := 15) (v := .bool false) rfl (by kernel_rfl) (by kernel_rfl) (by kernel_rfl) (fun _ _ _ h => h) (Or.inl ⟨by rfl, fun w => by go_simp⟩) ?_
            refine wpAny_take (i := 16) (v := .bool false) rfl (by kernel_rfl) (by kernel_rfl) (by kernel_rfl) (fun _ _ _ h => h) (Or.inl ⟨by rfl, fun w => by go_simp⟩) ?_
            refine wpAny_take (i := 17) (v := .bool false) rfl (by kernel_rfl) (by kernel_rfl) (by kernel_rfl) (fun _ _ _ h => h) (Or.inl ⟨by rfl, fun w => by go_simp⟩) ?_
            refine wpAny_take (i := 18) (v := .pointer (some ⟨w.heap.size, 0, none⟩)) rfl (by kernel_rfl) (by kernel_rfl) (by kernel_rfl) (fun _ _ _ h => h) (Or.inl ⟨by rfl, fun w => by go_simp⟩) ?_
            refine wpAny_take (i := 20) (v := .slice a0 n0 c0) rfl (by kernel_rfl) (by kernel_rfl) (by kernel_rfl) (fun _ _ _ h => h) (Or.inl ⟨by rfl, fun w => by go_simp⟩) ?_
            refine wpAny_take (i := 21) (v := .int .i64 n0) rfl (by kernel_rfl) (by kernel_rfl) (by kernel_rfl) (fun _ _ _ h => h) (Or.inl ⟨by rfl, fun w => by go_simp⟩) ?_
            refine wpAny_ready (rs := [19]) (by kernel_rfl) (by simp) ?_
            refine AllReady.cons rfl (fun K hK => ?_) AllReady.nil
            go_simp
            refine (Held_at _ _ _ (two_t2 H10.out)).mono ?_
            rintro e w' ⟨rfl, rfl⟩
            have hge : (n0 : Int) ≤ s'.hd := by have := HI9.out.2; have := HNE.out; omega
            have dge : decide ((s'.hd : Int) < (n0 : Int)) = false := decide_eq_false (by omega)
            refine hK _ _ ?_
            clear hK K
            refine wpAny_ready (rs := [22]) (by kernel_rfl) (by simp) ?_
            refine AllReady.cons rfl (fun K hK => ?_) AllReady.nil
            go_simp
            refine hK _ _ ?_
            clear hK K
            refine wpAny_ready (rs := [23]) (by kernel_rfl) (by simp) ?_
            refine AllReady.cons rfl (fun K hK => ?_) AllReady.nil
            go_simp
            refine hK _ _ ?_
            clear hK K
            refine wpAny_done (by kernel_rfl) ?_ _
            go_wp2_with fail
            go_roundw
            case rel => exact ⟨k + 1, s', by omega, by omega, by go_num, H10.out, HI9.out⟩
            case measure => simp [intOf]; omega
        · go_simp
          refine hK _ _ ?_
          clear hK K
          refine wpAny_ready (rs := [10]) (by kernel_rfl) (by simp) ?_
          refine AllReady.cons rfl (fun K hK => ?_) AllReady.nil
          go_simp
          refine TB.out.mono ?_
          rintro e w10 ⟨a5, c5, rfl, hb5, h10⟩
          have H10 := Lib.hid h10
          have cf10 := CVF.out w10 h10.bel
          have HB5 := Lib.hid hb5
          have cv10 : (convert 32 9 (.slice a5 L c5)).run Try.prog w10 = .ok (.string ⟨s'.l.toArray⟩) w10 := by
            have := hb5.conv (P := Try.prog) c5 32 5 Try.underlying32 Try.underlying5 9 Try.underlying9
            rw [HL.out] at this; exact this
          clear h10 hb5
          refine hK _ _ ?_
          clear hK K
          refine wpAny_ready (rs := [11]) (by kernel_rfl) (by simp) ?_
          refine AllReady.cons rfl (fun K hK => ?_) AllReady.nil
          go_simp
          refine hK _ _ ?_
          clear hK K
          refine wpAny_ready (rs := [14]) (by kernel_rfl) (by simp) ?_
          refine AllReady.cons rfl (fun K hK => ?_) AllReady.nil
          go_simp
          refine (Begins_yes s'.l f HI9.out.1 (two_len H10.out) w10).mono ?_
          rintro e w' ⟨rfl, rfl⟩
          refine hK _ _ ?_
          clear hK K
          refine wpAny_take (i := 15) (v := .bool false) rfl (by kernel_rfl) (by kernel_rfl) (by kernel_rfl) (fun _ _ _ h => h) (Or.inl ⟨by rfl, fun w => by go_simp⟩) ?_
          refine wpAny_take (i := 16) (v := .bool false) rfl (by kernel_rfl) (by kernel_rfl) (by kernel_rfl) (fun _ _ _ h => h) (Or.inl ⟨by rfl, fun w => by go_simp⟩) ?_
          refine wpAny_take (i := 17) (v := .bool false) rfl (by kernel_rfl) (by kernel_rfl) (by kernel_rfl) (fun _ _ _ h => h) (Or.inl ⟨by rfl, fun w => by go_simp⟩) ?_
          refine wpAny_take (i := 18) (v := .pointer (some ⟨w.heap.size, 0, none⟩)) rfl (by kernel_rfl) (by kernel_rfl) (by kernel_rfl) (fun _ _ _ h => h) (Or.inl ⟨by rfl, fun w => by go_simp⟩) ?_
          refine wpAny_take (i := 20) (v := .slice a0 n0 c0) rfl (by kernel_rfl) (by kernel_rfl) (by kernel_rfl) (fun _ _ _ h => h) (Or.inl ⟨by rfl, fun w => by go_simp⟩) ?_
          refine wpAny_take (i := 21) (v := .int .i64 n0) rfl (by kernel_rfl) (by kernel_rfl) (by kernel_rfl) (fun _ _ _ h => h) (Or.inl ⟨by rfl, fun w => by go_simp⟩) ?_
          refine wpAny_ready (rs := [19]) (by kernel_rfl) (by simp) ?_
          refine AllReady.cons rfl (fun K hK => ?_) AllReady.nil
          go_simp
          refine (Held_at _ _ _ (two_t2 H10.out)).mono ?_
          rintro e w' ⟨rfl, rfl⟩
          have hge : (n0 : Int) ≤ s'.hd := by have := HI9.out.2; have := HNE.out; omega
          have dge : decide ((s'.hd : Int) < (n0 : Int)) = false := decide_eq_false (by omega)
          refine hK _ _ ?_
          clear hK K
          refine wpAny_ready (rs := [22]) (by kernel_rfl) (by simp) ?_
          refine AllReady.cons rfl (fun K hK => ?_) AllReady.nil
          go_simp
          refine hK _ _ ?_
          clear hK K
          refine wpAny_ready (rs := [23]) (by kernel_rfl) (by simp) ?_
          refine AllReady.cons rfl (fun K hK => ?_) AllReady.nil
          go_simp
          refine hK _ _ ?_
          clear hK K
          refine wpAny_done (by kernel_rfl) ?_ _
          go_wp2_with fail
          go_roundw
          case rel => exact ⟨k + 1, s', by omega, by omega, by go_num, H10.out, HI9.out⟩
          case measure => simp [intOf]; omega
    · have hcase : n ≤ k ∨ (k < n ∧ 60 ≤ k) := by omega
      rcases hcase with hc | ⟨hc, hc2⟩
      all_goals
        first
        | (have dlt : decide ((k : Int) < (n : Int)) = false := decide_eq_false (by omega); have ilt : ¬ (k : Int) < n := by omega)
        | (have dlt : decide ((k : Int) < (n : Int)) = true := decide_eq_true (by omega); have ilt : (60 : Int) ≤ k := by omega)
        go_wp2
        go_ret
        exact ⟨rfl, H.out.bel⟩
theorem walk (w : World) (a0 : Option Addr) (n0 c0 : Nat) (f : List UInt8) (hl : n0 = f.length) (hb : BAt w a0 f) (hn : a0 = none → n0 = 0 ∧ c0 = 0) (hc : n0 ≤ c0 ∧ c0 ≤ maxLen) (a : Option Addr) (n c : Nat) (hm : n ≤ maxLen) (hd : DeedsAt w a n) :
    Calls Try.prog 4 #[.slice a0 n0 c0, .slice a n c] w fun e w' => e = .returned (.bool true) ∧ Below w.heap.size w w' := by
  by_cases h : 300 < n0
  · exact long w a0 a n0 c0 n c (Nat.le_trans hc.1 hc.2) h
  · subst hl
    exact short w a0 c0 f hb hn (by omega) a n c hm hd
end Go.Proofs.Ytghncdoophoieaa.tapeHeld
