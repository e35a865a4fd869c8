/-
  The walk of ShaOf, over the contracts.
-/
import Derived.Test.YtclfjkocjigkcaaPt
import Derived.Deep.RegionWith
import Derived.Deep.CutRange
namespace Go.Proofs.Ytclfjkocjigkcaa.shaOf
open Go.RowKit
set_option linter.unusedVariables false
set_option linter.unusedSimpArgs false

set_option maxHeartbeats 4000000 in
theorem walk_long (w : World) (a0 a1 : Option Addr) (n0 c0 n1 c1 : Nat) (h0 : n0 ≤ maxLen) (h1 : n1 ≤ maxLen) (h : 2000 < n0 ∨ 12 < n1) :
    Calls Try.prog 3 #[.slice a0 n0 c0, .slice a1 n1 c1] w fun e w' => e = .returned (.bool true) ∧ Below w.heap.size w w' := by
  unfold maxLen at h0 h1
  by_cases hl : 2000 < n0
  · go_enter Try.func3, Try.ntmps3
    go_wp2_with fail
    refine (awake_any _).mono ?_
    rintro e w1 ⟨rfl, hb⟩
    go_wp2
    go_ret
    exact ⟨rfl, hb⟩
  · have hl2 : 12 < n1 := by omega
    clear h
    go_enter Try.func3, Try.ntmps3
    go_wp2_with fail
    refine (awake_any _).mono ?_
    rintro e w1 ⟨rfl, hb⟩
    go_wp2
    go_ret
    exact ⟨rfl, hb⟩
set_option maxHeartbeats 8000000 in
theorem walk_short (w : World) (a0 a1 : Option Addr) (n0 c0 n1 c1 : Nat) (l : List UInt8) (hl0 : n0 = l.length) (hb0 : BAt w a0 l) (hno : a0 = none → n0 = 0 ∧ c0 = 0)
    (hcuts : 0 < n1 → ∃ b o, a1 = some ⟨b, o, none⟩ ∧ b < w.heap.size ∧ ∀ i, i < n1 → ∃ x : Int, w.cell? ⟨b, o + i, none⟩ = some (.int .i64 x)) (hs0 : n0 ≤ 2000) (hs1 : n1 ≤ 12) :
    Calls Try.prog 3 #[.slice a0 n0 c0, .slice a1 n1 c1] w fun e w' => e = .returned (.bool true) ∧ Below w.heap.size w w' := by
  have HB0 := Lib.hid hb0; have HNO := Lib.hid hno; have HCU := Lib.hid hcuts; have HL0 := Lib.hid hl0
  have C := Lib.hid (Own_any a0 n0 c0 l 71 w hb0 hno hl0 (by omega))
  have hd0 : decide ((2000 : Int) < (n0 : Int)) = false := decide_eq_false (by omega)
  have hd1 : decide ((12 : Int) < (n1 : Int)) = false := decide_eq_false (by omega)
  clear hb0 hno hcuts hl0
  go_enter Try.func3, Try.ntmps3
  go_wp2_with fail
  refine C.out.mono ?_
  rintro e w1 ⟨rfl, hown, hb1⟩
  rw [← HL0.out]
  have HO := Lib.hid hown
  have hgl := hown.lt
  clear C hown
  go_wp2_with fail
  go_loopw [6, 7, 8] (fun v av iv wr => ∃ (k at_ : Nat) (ofs : Nat → Nat) (xs : List Value), k ≤ n1 ∧ iv = .int .i64 k ∧ av = .int .i64 at_ ∧ PR w.heap.size l.length k at_ ofs xs ∧ wr.ownsRow (w.heap.size + 1) 22 1 v k xs ∧ OwnAt wr w.heap.size l 71 ∧ Below w.heap.size w wr) (fun _ _ i _ => n1 - (intOf i).toNat)
  case atStart => exact ⟨0, 0, _, _, Nat.zero_le _, rfl, rfl, PR.start _ _, World.ownsRow_nil _ _ _ _, HO.out, hb1⟩
  case round =>
    clear HO hb1 hgl
    obtain ⟨k, at_, ofs, xs, hk, rfl, rfl, hpr, hown, hoa, hbr⟩ := hrel
    have hle := hpr.le
    rw [← HL0.out] at hle
    have hgl := hoa.lt
    have HPR := Lib.hid hpr; have HOW := Lib.hid hown; have HOA := Lib.hid hoa
    clear hpr hown hoa
    by_cases hlt : k < n1
    · obtain ⟨b, o, rfl, hbl, hcell⟩ := HCU.out (by omega)
      obtain ⟨x, hx⟩ := hcell k hlt
      have q : wr.cell? ⟨b, o + k, none⟩ = some (.int .i64 x) := (hbr.cell (p := ⟨b, o + k, none⟩) hbl).trans hx
      obtain ⟨u, hu⟩ : ∃ u, IntKind.u64.wrap x = u := ⟨_, rfl⟩
      have hu0 : 0 ≤ u := by rw [← hu, IntKind.wrap_u64]; omega
      obtain ⟨r, hr⟩ : ∃ r : Nat, u.tmod ((n0 : Int) - (at_ : Int) + 1) = (r : Int) := by
        rw [IntWalk.rem_in u _ hu0]
        exact Int.eq_ofNat_of_zero_le (Int.emod_nonneg _ (by omega))
      have hr2 : u % ((n0 : Int) - (at_ : Int) + 1) = (r : Int) := by rw [← IntWalk.rem_in u _ hu0]; exact hr
      have hr3 : at_ + r ≤ n0 := by
        have := Int.emod_lt_of_pos u (show 0 < (n0 : Int) - (at_ : Int) + 1 by omega)
        omega
      clear hcell hx
      have hbs : w.heap.size + 1 ≤ wr.heap.size := hgl
      go_wp2_with (first
        | (at_builtin; refine wpList_append_slice rfl (.tmp 41) (.tmp 48) rfl (w.heap.size + 1) u6 k xs rfl (HOW.out.alloc _) ⟨wr.heap.size, 0, none⟩ 1 rfl (.slice (some ⟨w.heap.size, at_, none⟩) r (n0 + 3 - at_)) rfl (new_cell wr _ _) (by omega) (by simp; omega) ?_; intro v2 w2 hown2 hgr2)
        | fail)
      have hne : some w.heap.size ≠ u6.ownBlock := fun e => by have := own_block HOW.out _ e.symm; omega
      have hoa2 := (HOA.out.alloc (.cells #[Value.slice (some ⟨w.heap.size, at_, none⟩) r (n0 + 3 - at_)] 22)).grown hgr2 hne
      have hb2 : Below w.heap.size w w2 := (hbr.alloc hbr.size (.cells #[Value.slice (some ⟨w.heap.size, at_, none⟩) r (n0 + 3 - at_)] 22)).grown hgr2 (by have := hbr.size; simp; omega) (fun i hi => by have := own_block HOW.out _ hi; omega)
      have hp2 := HPR.out.step (RowIs.len HOW.out) (r) (by rw [← HL0.out]; omega)
      rw [← HL0.out] at hp2
      rw [HL0.out] at hp2
      exact ⟨⟨k + 1, at_ + r, _, _, hlt, congrArg (Value.int .i64) (by omega), congrArg (Value.int .i64) (by omega), hp2, by rw [← HL0.out]; exact hown2, hoa2, hb2⟩, by simp only [intOf]; omega⟩
    · have HK := Lib.hid (show k = n1 by omega)
      have hbs : w.heap.size + 1 ≤ wr.heap.size := hgl
      go_wp2_with (first
        | (at_builtin; refine wpList_append_slice rfl (.tmp 53) (.tmp 57) rfl (w.heap.size + 1) u6 k xs rfl (HOW.out.alloc _) ⟨wr.heap.size, 0, none⟩ 1 rfl (.slice (some ⟨w.heap.size, at_, none⟩) (n0 - at_) (n0 + 3 - at_)) rfl (new_cell wr _ _) (by omega) (by simp; omega) ?_; intro v2 w2 hown2 hgr2)
        | fail)
      have hne : some w.heap.size ≠ u6.ownBlock := fun e => by have := own_block HOW.out _ e.symm; omega
      have hoa2 := (HOA.out.alloc (.cells #[Value.slice (some ⟨w.heap.size, at_, none⟩) (n0 - at_) (n0 + 3 - at_)] 22)).grown hgr2 hne
      have hb2 : Below w.heap.size w w2 := (hbr.alloc hbr.size (.cells #[Value.slice (some ⟨w.heap.size, at_, none⟩) (n0 - at_) (n0 + 3 - at_)] 22)).grown hgr2 (by have := hbr.size; simp; omega) (fun i hi => by have := own_block HOW.out _ hi; omega)
      have hp2 := HPR.out.step (RowIs.len HOW.out) ((n0 - at_)) (by rw [← HL0.out]; omega)
      rw [← HL0.out] at hp2
      rw [show at_ + (n0 - at_) = n0 by omega] at hp2
      rw [HL0.out] at hp2 hown2
      obtain ⟨g2, cap2, rfl, hg2b, hg2l⟩ := own_form hown2 (by omega)
      obtain ⟨ps⟩ := hp2.parts hown2 hoa2
      obtain ⟨arr, hia, haa⟩ := idv_cells (sumL l)
      have heql := fun u => eql_ids u (sumL l) (digest_len _) arr haa
      have hasz : arr.size = 20 := by rw [haa]; simp [bc_len, sumL, digest_len]
      have hall : arr.all (·.oneCell') = true := by rw [haa]; exact bc_all _
      have hl6 : l.length ≤ 1000000 := by rw [← HL0.out]; omega
      have C1 := Lib.hid (hia ▸ Sum_any w2 (some ⟨g2, 0, none⟩) (k + 1) cap2 l hl6 (by omega) ps)
      have C2 := Lib.hid (fun u A n c (hn : n = l.length) (hb : BAt u A l) (hno : A = none → l.length = 0 ∧ c = 0) => hia ▸ rSum_n u A n c l hn hl6 hb hno)
      have HASZ := Lib.hid hasz; have HALL := Lib.hid hall
      clear hia haa hasz hall ps hp2 hown2 HOW HOA HPR hgr2 hne
      obtain ⟨z, hz, hze⟩ := z29
      have hzv := zero_arr hz
      have hzs : z.size = 20 := by rw [hze]; simp
      have HZS := Lib.hid hzs; clear hz hze hzs
      refine C1.out.mono ?_
      rintro e w3 ⟨rfl, hb3⟩
      have hb03 := hb2.trans (hb3.mono hb2.size)
      have hoa3 := hoa2.keep hb3
      clear C1 hb3 hb2 hoa2
      go_upto_region 13 with (first
        | (with_reducible refine wpList_store_row rfl 29 (.tmp 10) (.tmp 59) rfl w3.heap.size arr rfl rfl 29 z ?sg ?si ?so ?s1 ?_)
        | fail)
      case sg => exact heap_alloc_new w3 _
      case si => rw [info29, HASZ.out]
      case so => rw [HZS.out, HASZ.out]
      case s1 => exact HALL.out
      generalize hw4 : ((w3.alloc (.cells z 29)).setRow w3.heap.size arr) = w4
      have h4 : w4.heap[w3.heap.size]? = some (.cells arr 29 (0, 0)) := by
        subst hw4; exact setRow_heap _ _ z arr _ _ (heap_alloc_new w3 _)
      have hb34 : Below w3.heap.size w3 w4 := by
        subst hw4; exact below_setRow ((Below.refl _ w3).alloc (Nat.le_refl _) _) (Nat.le_refl _) arr
      have hb04 := hb03.trans (hb34.mono hb03.size)
      have hoa4 := hoa3.keep hb34
      clear hw4 hb34 hoa3 hb03
      have HOA4 := Lib.hid hoa4; have H4 := Lib.hid h4; have HEQL := heql
      clear hoa4 h4 heql hbs
      have hl40 : l.length ≤ 1099511627776 := by omega
      have HL40 := Lib.hid hl40; clear hl40 hl6
      refine wp_region_any (by kernel_rfl) ?_
      change wpAny _ _ _ _ _ _ _ (World.drew _)
      refine wpAny_ready (rs := [0]) (by kernel_rfl) (by simp) ?_
      refine AllReady.cons rfl (fun K hK => ?_) AllReady.nil
      go_simp
      refine (awake_any _).mono ?_
      rintro e w5 ⟨rfl, hb5⟩
      have h05 := hb04.drew.trans (hb5.mono hb04.drew.size)
      have HOA5 := Lib.hid (HOA4.out.keep (w' := w5) ⟨hb5.os, hb5.tape, hb5.output, hb5.size, hb5.block⟩)
      have H5 := Lib.hid ((hb5.block _ (lt_of_heap H4.out)).trans H4.out)
      refine hK _ _ ?_
      clear hK K
      refine wpAny_take (i := 1) (v := .bool true) rfl (by kernel_rfl) (by kernel_rfl) (by kernel_rfl) (fun _ _ _ h => h) (Or.inl ⟨by rfl, fun w => by go_simp⟩) ?_
      refine wpAny_take (i := 3) (v := .slice a0 n0 c0) rfl (by kernel_rfl) (by kernel_rfl) (by kernel_rfl) (fun _ _ _ h => h) (Or.inl ⟨by rfl, fun w => by go_simp⟩) ?_
      refine wpAny_ready (rs := [2, 4]) (by kernel_rfl) (by simp) ?_
      refine AllReady.cons rfl (fun K hK => ?_) (AllReady.cons rfl (fun K hK => ?_) AllReady.nil)
      · refine step_load_arr (by kernel_rfl) (.tmp 10) rfl w3.heap.size rfl arr H5.out HASZ.out ?_
        refine hK _ _ ?_
        clear hK K
        refine wpAny_ready (rs := [4]) (by kernel_rfl) (by simp) ?_
        refine AllReady.cons rfl (fun K hK => ?_) AllReady.nil
        go_simp
        refine (C2.out _ a0 n0 c0 HL0.out (HB0.out.keep h05) (fun h => by rw [← HL0.out]; exact HNO.out h)).mono ?_
        rintro e w6 ⟨rfl, hb6⟩
        have h06 := h05.trans (hb6.mono h05.size)
        have HOA6 := Lib.hid (HOA5.out.keep hb6)
        have H6 := Lib.hid ((hb6.block _ (lt_of_heap H5.out)).trans H5.out)
        refine hK _ _ ?_
        clear hK K
        refine wpAny_ready (rs := [5]) (by kernel_rfl) (by simp) ?_
        refine AllReady.cons rfl (fun K hK => ?_) AllReady.nil
        go_simp
        refine hK _ _ ?_
        clear hK K
        refine wpAny_ready (rs := [6]) (by kernel_rfl) (by simp) ?_
        refine AllReady.cons rfl (fun K hK => ?_) AllReady.nil
        go_simp
        refine hK _ _ ?_
        clear hK K
        refine wpAny_ready (rs := [7]) (by kernel_rfl) (by simp) ?_
        refine AllReady.cons rfl (fun K hK => ?_) AllReady.nil
        go_simp
        refine hK _ _ ?_
        clear hK K
        refine wpAny_take (i := 8) (v := .slice (some ⟨w.heap.size, 0, none⟩) n0 (n0 + 3)) rfl (by kernel_rfl) (by kernel_rfl) (by kernel_rfl) (fun _ _ _ h => h) (Or.inl ⟨by rfl, fun w => by go_simp⟩) ?_
        refine wpAny_take (i := 9) (v := .slice a0 n0 c0) rfl (by kernel_rfl) (by kernel_rfl) (by kernel_rfl) (fun _ _ _ h => h) (Or.inl ⟨by rfl, fun w => by go_simp⟩) ?_
        refine wpAny_ready (rs := [10]) (by kernel_rfl) (by simp) ?_
        refine AllReady.cons rfl (fun K hK => ?_) AllReady.nil
        go_simp
        refine (Kept_any w.heap.size n0 n0 (n0 + 3) c0 a0 l 71 _ HOA6.out (HB0.out.keep h06) HL0.out (by rw [HL0.out]) HL0.out HL40.out).mono ?_
        rintro e w7 ⟨rfl, hb7⟩
        have h07 := h06.trans (hb7.mono h06.size)
        refine hK _ _ ?_
        clear hK K
        refine wpAny_ready (rs := [11]) (by kernel_rfl) (by simp) ?_
        refine AllReady.cons rfl (fun K hK => ?_) AllReady.nil
        go_simp
        refine hK _ _ ?_
        clear hK K
        refine wpAny_ready (rs := [12]) (by kernel_rfl) (by simp) ?_
        refine AllReady.cons rfl (fun K hK => ?_) AllReady.nil
        go_simp
        refine hK _ _ ?_
        clear hK K
        refine wpAny_done (by kernel_rfl) ?_ _
        go_wp2
        go_ret
        exact ⟨rfl, h07⟩
      · go_simp
        refine (C2.out _ a0 n0 c0 HL0.out (HB0.out.keep h05) (fun h => by rw [← HL0.out]; exact HNO.out h)).mono ?_
        rintro e w6 ⟨rfl, hb6⟩
        have h06 := h05.trans (hb6.mono h05.size)
        have HOA6 := Lib.hid (HOA5.out.keep hb6)
        have H6 := Lib.hid ((hb6.block _ (lt_of_heap H5.out)).trans H5.out)
        refine hK _ _ ?_
        clear hK K
        refine wpAny_ready (rs := [2]) (by kernel_rfl) (by simp) ?_
        refine AllReady.cons rfl (fun K hK => ?_) AllReady.nil
        refine step_load_arr (by kernel_rfl) (.tmp 10) rfl w3.heap.size rfl arr H6.out HASZ.out ?_
        refine hK _ _ ?_
        clear hK K
        refine wpAny_ready (rs := [5]) (by kernel_rfl) (by simp) ?_
        refine AllReady.cons rfl (fun K hK => ?_) AllReady.nil
        go_simp
        refine hK _ _ ?_
        clear hK K
        refine wpAny_ready (rs := [6]) (by kernel_rfl) (by simp) ?_
        refine AllReady.cons rfl (fun K hK => ?_) AllReady.nil
        go_simp
        refine hK _ _ ?_
        clear hK K
        refine wpAny_ready (rs := [7]) (by kernel_rfl) (by simp) ?_
        refine AllReady.cons rfl (fun K hK => ?_) AllReady.nil
        go_simp
        refine hK _ _ ?_
        clear hK K
        refine wpAny_take (i := 8) (v := .slice (some ⟨w.heap.size, 0, none⟩) n0 (n0 + 3)) rfl (by kernel_rfl) (by kernel_rfl) (by kernel_rfl) (fun _ _ _ h => h) (Or.inl ⟨by rfl, fun w => by go_simp⟩) ?_
        refine wpAny_take (i := 9) (v := .slice a0 n0 c0) rfl (by kernel_rfl) (by kernel_rfl) (by kernel_rfl) (fun _ _ _ h => h) (Or.inl ⟨by rfl, fun w => by go_simp⟩) ?_
        refine wpAny_ready (rs := [10]) (by kernel_rfl) (by simp) ?_
        refine AllReady.cons rfl (fun K hK => ?_) AllReady.nil
        go_simp
        refine (Kept_any w.heap.size n0 n0 (n0 + 3) c0 a0 l 71 _ HOA6.out (HB0.out.keep h06) HL0.out (by rw [HL0.out]) HL0.out HL40.out).mono ?_
        rintro e w7 ⟨rfl, hb7⟩
        have h07 := h06.trans (hb7.mono h06.size)
        refine hK _ _ ?_
        clear hK K
        refine wpAny_ready (rs := [11]) (by kernel_rfl) (by simp) ?_
        refine AllReady.cons rfl (fun K hK => ?_) AllReady.nil
        go_simp
        refine hK _ _ ?_
        clear hK K
        refine wpAny_ready (rs := [12]) (by kernel_rfl) (by simp) ?_
        refine AllReady.cons rfl (fun K hK => ?_) AllReady.nil
        go_simp
        refine hK _ _ ?_
        clear hK K
        refine wpAny_done (by kernel_rfl) ?_ _
        go_wp2
        go_ret
        exact ⟨rfl, h07⟩
end Go.Proofs.Ytclfjkocjigkcaa.shaOf
