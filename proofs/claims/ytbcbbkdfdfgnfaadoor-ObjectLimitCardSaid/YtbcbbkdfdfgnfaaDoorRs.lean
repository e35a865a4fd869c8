/-
  Layer 2: Sum of the reference.
-/
import Derived.Test.YtbcbbkdfdfgnfaaDoorRa
namespace Go.Proofs.YtbcbbkdfdfgnfaaDoor
set_option maxRecDepth 20000
open Go.RowKit
set_option linter.unusedVariables false
set_option linter.unusedSimpArgs false

set_option maxRecDepth 100000 in
set_option maxHeartbeats 20000000 in
theorem rSum_any (w : World) (A : Option Addr) (c : Nat) (l : List UInt8) (hl : l.length ≤ 1000000) (hbat : BAt w A l) (hnone : A = none → l.length = 0 ∧ c = 0) :
    Calls Tryd.prog 20 #[.slice A l.length c] w fun e w' => e = .returned (idv (sumL l)) ∧ Below w.heap.size w w' := by
  obtain ⟨z, hz, hze⟩ := z29
  have hzv := zero_arr hz
  have hzs : z.size = 20 := by rw [hze]; simp
  obtain ⟨z5, hz5, hz5e⟩ := z36
  have hzv5 := zero_arr hz5
  have hz5s : z5.size = 5 := by rw [hz5e]; simp
  obtain ⟨z8, hz8, hz8e⟩ := z43
  have hzv8 := zero_arr hz8
  have hz8s : z8.size = 80 := by rw [hz8e]; simp
  have HZS := Lib.hid hzs; have HZ5 := Lib.hid hz5s; have HZ8 := Lib.hid hz8s
  clear hz hze hzs hz5 hz5e hz5s hz8 hz8e hz8s
  obtain ⟨n, hn⟩ : ∃ n, n = l.length := ⟨_, rfl⟩
  have hn6 : n ≤ 1000000 := by omega
  obtain ⟨q, hq⟩ : ∃ q, q = (119 - n % 64) % 64 := ⟨_, rfl⟩
  have hq64 : q < 64 := by omega
  have HB := Lib.hid hbat; have HNO := Lib.hid hnone
  have HN := Lib.hid hn; have HQ := Lib.hid hq
  clear hbat hnone hq
  rw [← hn]
  clear hn hl
  go_enter Tryd.func20, Tryd.ntmps20
  go_upto_region 2 with (first
    | (with_reducible refine wpList_build_as rfl 60 _ rfl w5 ?w5 ?_)
    | (with_reducible refine wpList_store_row rfl 60 (.tmp 3) (.tmp 19) rfl (w.heap.size + 1) w5 rfl rfl 60 z5 ?sg ?si ?so ?s1 ?_)
    | fail)
  case w5 => kernel_rfl
  case sg => rw [show w.heap.size + 1 = (w.alloc (.cells z 34)).heap.size by simp]; exact heap_alloc_new _ _
  case si => rw [info36]; rfl
  case so => rw [HZ5.out]; rfl
  case s1 => exact w5_all
  generalize hwS : (((w.alloc (.cells z 34)).alloc (.cells z5 60)).setRow (w.heap.size + 1) w5) = w0
  have hnew : ((w.alloc (.cells z 34)).alloc (.cells z5 60)).heap[w.heap.size + 1]? = some (.cells z5 60 (0, 0)) := by
    rw [show w.heap.size + 1 = (w.alloc (.cells z 34)).heap.size by simp]; exact heap_alloc_new _ _
  have hh0 : w0.heap[w.heap.size + 1]? = some (.cells w5 60 (0, 0)) := by
    subst hwS
    exact setRow_heap _ _ z5 w5 _ _ hnew
  have hb0 : Below w.heap.size w w0 := by
    subst hwS
    exact below_setRow (((Below.refl _ w).alloc (Nat.le_refl _) _).alloc (by simp) _) (by omega) w5
  have hr0 : w0.heap[w.heap.size]? = some (.cells z 34 (0, 0)) := by
    subst hwS
    rw [setRow_other _ _ _ _ (by omega)]; exact two_new w _ _
  have hsz0 : w0.heap.size = w.heap.size + 2 := by
    subst hwS
    simp [World.setRow]
  clear hwS hnew
  have hsrc := fun ad h j u hj => (HB.out.keep hb0).cells (w := w0) ad h j u hj
  have HSRC := Lib.hid hsrc; clear hsrc
  have HR0 := Lib.hid hr0; have HH0 := Lib.hid hh0; have HSZ0 := Lib.hid hsz0; clear hr0 hh0 hsz0
  go_wp2_with (first
    | (at_builtin; refine wpList_append_bat rfl (.const (.slice none 0 0)) (.tmp 20) rfl (w.heap.size + 2) (.slice none 0 0) 0 [] rfl (World.ownsRow_nil _ _ _ _) A n c l HN.out rfl HSRC.out HNO.out (by omega) (by rw [HSZ0.out]; exact Nat.le_refl _) ?_; intro v1 w1 hown1 hgr1)
    | (at_builtin; refine wpList_append_one rfl (.tmp 21) (.tmp 22) rfl (w.heap.size + 2) v1 (0 + n) ([] ++ Lib.byteCells l) rfl (hown1.alloc _) ⟨w1.heap.size, 0, none⟩ 1 rfl 128 (new_cell w1 _ _) (by omega) (grown_size hgr1 (Nat.le_of_eq HSZ0.out.symm) _) ?_; intro v2 w2 hown2 hgr2)
    | fail)
  have hb1 := hb0.grown hgr1 hb0.size (fun k hk => by cases hk)
  have hb2 := (hb1.alloc hb1.size (.cells #[Value.int .u8 128] 5)).grown hgr2 (by have := hb1.size; simp; omega) (fun k hk => by have := own_block hown1 k hk; omega)
  have hg02 : ∀ k, k < w.heap.size + 2 → w2.heap[k]? = w0.heap[k]? := fun k hk => by
    have h0 := HSZ0.out
    have h1 := hgr1.size
    rw [hgr2.block k (by simp; omega) (fun e => by have := own_block hown1 k e.symm; omega), Below.heap_alloc _ _ _ (by omega), hgr1.block k (by omega) (fun e => by simp [Value.ownBlock] at e)]
  have hh2 := (hg02 (w.heap.size + 1) (by omega)).trans HH0.out
  have hr2 := (hg02 w.heap.size (by omega)).trans HR0.out
  have hsz2 : w.heap.size + 2 ≤ w2.heap.size := by have h0 := HSZ0.out; have h1 := hgr1.size; have h2 := hgr2.size; simp at h2; omega
  have hrow2 : RowIs (([] ++ Lib.byteCells l) ++ [Value.int .u8 128]) (n + 1) (padF l) := by
    rw [HN.out]
    exact (row_bytes l).more (bc_len l) 128 (padF_0 l)
  rw [Nat.zero_add] at hown2
  generalize (([] ++ Lib.byteCells l) ++ [Value.int .u8 128]) = xs2 at hown2 hrow2
  have hv2 : Rv w w2 z h0 := ⟨hr2, ⟨w5, hh2, w5_W5⟩, hsz2, hb2⟩
  clear hg02 hgr1 hgr2 hown1 hb0 hb1 HSZ0 HSRC HR0 HH0 hr2 hh2 hsz2 hb2
  have HO2 := Lib.hid hown2; have HR2 := Lib.hid hrow2; have HV2 := Lib.hid hv2
  clear hown2 hrow2 hv2
  go_loopw [4] (fun v wr => ∃ (k : Nat) (xs : List Value), n + 1 ≤ k ∧ k ≤ n + 1 + q ∧ wr.ownsRow (w.heap.size + 2) 5 1 v k xs ∧ RowIs xs k (padF l) ∧ Rv w wr z h0) (fun v _ => n + 1 + q - sliceLen v)
  case atStart => exact ⟨n + 1, xs2, Nat.le_refl _, by omega, HO2.out, HR2.out, HV2.out⟩
  case round =>
    clear HO2 HR2 HV2
    obtain ⟨k, xs, hk0, hk1, hown, hrow, hv⟩ := hrel
    obtain ⟨g, cap, rfl, hgb, hgl⟩ := own_form hown (by omega)
    have HO := Lib.hid hown; have HR := Lib.hid hrow; have HV := Lib.hid hv
    clear hown hrow hv
    obtain ⟨m, hm⟩ : ∃ m, m = k % 64 := ⟨_, rfl⟩
    have htm : (k : Int).tmod 64 = (m : Int) := by rw [IntWalk.rem_in _ _ (by omega)]; omega
    have htm2 : (k : Int) % 64 = (m : Int) := by omega
    by_cases hlt : k < n + 1 + q
    · have hne : ((m : Int) != 56) = true := by
        have h1 := HQ.out
        rw [bne_iff_ne]; omega
      have HM := Lib.hid hm; clear hm
      go_wp2_with (first
        | (at_builtin; refine wpList_append_one rfl (.tmp 28) (.tmp 29) rfl (w.heap.size + 2) (.slice (some ⟨g, 0, none⟩) k cap) k xs rfl (HO.out.alloc _) ⟨wr.heap.size, 0, none⟩ 1 rfl 0 (new_cell wr _ _) (by omega) (by have := HV.out.size; simp; omega) ?_; intro v3 w3 hown3 hgr3)
        | fail)
      have hk8 : padF l k = 0 := zero_more l k (by have := HN.out; omega) (by have := HN.out; have h2 := HQ.out; have h3 := pad_z l.length; subst n; omega)
      obtain ⟨g3, cap3, rfl, _, _⟩ := own_form hown3 (by omega)
      exact ⟨⟨k + 1, _, by omega, by omega, hown3, HR.out.more (RowIs.len HO.out) 0 hk8, (HV.out.alloc _).grown hgr3 (fun j hj => by cases hj; exact hgb)⟩, by simp only [sliceLen]; omega⟩
    · obtain rfl : k = n + 1 + q := by omega
      have hne : ((m : Int) != 56) = false := by
        have h1 := HQ.out
        rw [bne_eq_false_iff_eq]; omega
      have hne2 : (((n : Int) + 1 + (q : Int)) % 64 != 56) = false := by
        have h1 := HQ.out
        rw [bne_eq_false_iff_eq]; omega
      have HM := Lib.hid hm; clear hm
      clear htm htm2 hne
      go_wp2_with fail
      clear hne2 HM hk0 hk1 hlt
      go_loopw [4, 6] (fun v i wr => ∃ (t : Nat) (xs : List Value), t ≤ 8 ∧ i = .int .i64 (7 - (t : Int)) ∧ wr.ownsRow (w.heap.size + 2) 5 1 v (n + 1 + q + t) xs ∧ RowIs xs (n + 1 + q + t) (padF l) ∧ Rv w wr z h0) (fun _ i _ => (intOf i + 1).toNat)
      case atStart => exact ⟨0, xs, by omega, rfl, HO.out, HR.out, HV.out⟩
      case round =>
        clear HO HR HV hgb hgl
        obtain ⟨t, xs, ht, rfl, hown, hrow, hv⟩ := hrel
        obtain ⟨g, cap, rfl, hgb, hgl⟩ := own_form hown (by omega)
        have HO := Lib.hid hown; have HR := Lib.hid hrow; have HV := Lib.hid hv
        clear hown hrow hv
        rename_i wr0 wr
        by_cases hlt : t < 8
        · have htn : (8 * (7 - (t : Int))).toNat = 8 * (7 - t) := by omega
          have hge : decide ((7 : Int) - (t : Int) ≥ 0) = true := decide_eq_true (by omega)
          go_wp2_with (first
            | (at_builtin; refine wpList_append_one rfl (.tmp 39) (.tmp 46) rfl (w.heap.size + 2) (.slice (some ⟨g, 0, none⟩) (n + 1 + q + t) cap) (n + 1 + q + t) xs rfl (HO.out.alloc _) ⟨wr.heap.size, 0, none⟩ 1 rfl ((n : Int) * 8 / 2 ^ (8 * (7 - t)) % 256) (new_cell wr _ _) (by omega) (by have := HV.out.size; simp; omega) ?_; intro v3 w3 hown3 hgr3)
            | fail)
          refine ⟨?re2, ?me2⟩
          case re2 =>
            refine ⟨t + 1, _, by omega, congrArg (Value.int .i64) (by omega), hown3, ?_, (HV.out.alloc _).grown hgr3 (fun j hj => by cases hj; exact hgb)⟩
            have hr := HR.out
            have ho := HO.out
            rw [HN.out] at hr ho ⊢
            exact pad_more l t q (by have := HQ.out; rw [HN.out] at this; exact this) hlt _ rfl hr (RowIs.len ho)
          case me2 => simp [intOf]; omega
        · obtain rfl : t = 8 := by omega
          generalize hneg : (7 : Int) - ((8 : Nat) : Int) = neg
          have hneg2 : neg < 0 := by omega
          have hge2 : decide ((0 : Int) ≤ neg) = false := decide_eq_false (by omega)
          clear hneg
          have hP := pad_z l.length
          obtain ⟨P, hPe⟩ : ∃ P, P = n + 1 + q + 8 := ⟨_, rfl⟩
          have hP2 : P = padLen l.length := by have h1 := HN.out; have h2 := HQ.out; subst n; omega
          obtain ⟨B, hBe⟩ : ∃ B, B = padLen l.length / 64 := ⟨_, rfl⟩
          have hPB : P = 64 * B := by rw [hP2, hBe]; unfold padLen; omega
          have hB6 : B ≤ 100000 := by omega
          have hbytes : ∀ i, i < P → wr.cell? ⟨g, i, none⟩ = some (.int .u8 (padF l i).toNat) := fun i hi => by
            rw [HO.out.cellAt i (by omega), HR.out i (by omega)]
          have hown := HO.out
          rw [← hPe] at hown ⊢
          have HPB := Lib.hid hPB; have HBE := Lib.hid hBe; have HBY := Lib.hid hbytes
          clear hP hPe hP2 hPB hBe hbytes HR HO hlt ht hown HQ hq64
          go_wp2_with fail
          go_loopw [7] (fun v wr => ∃ k : Nat, k ≤ B ∧ v = .int .i64 (64 * (k : Int)) ∧ (∀ i, i < P → wr.cell? ⟨g, i, none⟩ = some (.int .u8 (padF l i).toNat)) ∧ g < wr.heap.size ∧ Rv w wr z (hs (padF l) k)) (fun v _ => (64 * B : Nat) - (intOf v).toNat)
          case atStart => exact ⟨0, Nat.zero_le _, rfl, HBY.out, hgl, HV.out⟩
          case round =>
            clear HBY hgl HV
            rename World => wa
            obtain ⟨k, hk, rfl, hby, hgl, hv⟩ := hrel
            have HBY := Lib.hid hby; have HV := Lib.hid hv
            clear hby hv
            by_cases hlt : k < B
            · have hltP : 64 * (k : Int) < (P : Int) := by have := HPB.out; omega
              go_wp2_with fail
              generalize hwc : wa.alloc (.cells z8 62) = wc
              have hgc : wc.heap[wa.heap.size]? = some (.cells z8 62 (0, 0)) := by subst hwc; exact heap_alloc_new _ _
              have hbc : Below wa.heap.size wa wc := by subst hwc; exact (Below.refl _ wa).alloc (Nat.le_refl _) _
              clear hwc
              obtain ⟨m, hm⟩ : ∃ m : Nat → UInt8, m = fun i => padF l (64 * k + i) := ⟨_, rfl⟩
              have hbm : ∀ i, i < 64 → wa.cell? ⟨g, 64 * k + i, none⟩ = some (.int .u8 (m i).toNat) := fun i hi => by
                rw [HBY.out _ (by have := HPB.out; omega), hm]
              have HM := Lib.hid hm; have HBM := Lib.hid hbm; have HGC := Lib.hid hgc; have HBC := Lib.hid hbc
              clear hm hbm hgc hbc
              go_loopw [9] (fun v wt => ∃ (t : Nat) (arr : Array Value), t ≤ 80 ∧ v = .int .i64 t ∧ wt.heap[wa.heap.size]? = some (.cells arr 62 (0, 0)) ∧ arr.size = 80 ∧
                (∀ j, j < t → arr[j]? = some (.int .u32 (W80 m j).toNat)) ∧ Below wa.heap.size wa wt) (fun v _ => 80 - (intOf v).toNat)
              case atStart => exact ⟨0, z8, Nat.zero_le _, rfl, HGC.out, HZ8.out, fun j hj => absurd hj (Nat.not_lt_zero _), HBC.out⟩
              case round =>
                clear HGC HBC
                rename World => wt
                obtain ⟨t, arr, ht, rfl, ha, hsz, har, hbt⟩ := hrel
                have HA := Lib.hid ha; have HSZ := Lib.hid hsz; have HAR := Lib.hid har
                clear ha hsz har
                by_cases hlt80 : t < 80
                · by_cases h16 : t < 16
                  · obtain ⟨p, hpn⟩ : ∃ p : Nat, p = 64 * k + 4 * t := ⟨_, rfl⟩
                    have hx : ∀ j, j < 4 → wt.cell? ⟨g, p + j, none⟩ = some (.int .u8 (m (4 * t + j)).toNat) := fun j hj => by
                      rw [hpn, hbt.cell (p := ⟨g, 64 * k + 4 * t + j, none⟩) hgl, Nat.add_assoc, HBM.out (4 * t + j) (by omega)]
                    have q0 := hx 0 (by omega); have q1 := hx 1 (by omega); have q2 := hx 2 (by omega); have q3 := hx 3 (by omega)
                    have hp : 64 * (k : Int) + 4 * (t : Int) = (p : Int) := by omega
                    have hpP : p + 3 < P := by have := HPB.out; omega
                    have hpl : p < 100000000 := by omega
                    have v1 : IntKind.i64.wrap ((p : Int) + 1) = (p : Int) + 1 := by rw [IntKind.wrap_i64]; omega
                    have v2 : IntKind.i64.wrap ((p : Int) + 2) = (p : Int) + 2 := by rw [IntKind.wrap_i64]; omega
                    have v3 : IntKind.i64.wrap ((p : Int) + 3) = (p : Int) + 3 := by rw [IntKind.wrap_i64]; omega
                    have j0 := fun u => index_u8 u g P cap p (by omega) (p : Int) rfl
                    have j1 := fun u => index_u8 u g P cap (p + 1) (by omega) ((p : Int) + 1) (by omega)
                    have j2 := fun u => index_u8 u g P cap (p + 2) (by omega) ((p : Int) + 2) (by omega)
                    have j3 := fun u => index_u8 u g P cap (p + 3) (by omega) ((p : Int) + 3) (by omega)
                    clear hx hpn
                    rw [Nat.add_zero] at q0
                    obtain ⟨x0, e0⟩ : ∃ x : Int, x = (m (4 * t + 0)).toNat := ⟨_, rfl⟩
                    obtain ⟨x1, e1⟩ : ∃ x : Int, x = (m (4 * t + 1)).toNat := ⟨_, rfl⟩
                    obtain ⟨x2, e2⟩ : ∃ x : Int, x = (m (4 * t + 2)).toNat := ⟨_, rfl⟩
                    obtain ⟨x3, e3⟩ : ∃ x : Int, x = (m (4 * t + 3)).toNat := ⟨_, rfl⟩
                    rw [← e0] at q0; rw [← e1] at q1; rw [← e2] at q2; rw [← e3] at q3
                    obtain ⟨l0a, l0b⟩ : 0 ≤ x0 ∧ x0 < 256 := by rw [e0]; exact u8_lt _
                    obtain ⟨l1a, l1b⟩ : 0 ≤ x1 ∧ x1 < 256 := by rw [e1]; exact u8_lt _
                    obtain ⟨l2a, l2b⟩ : 0 ≤ x2 ∧ x2 < 256 := by rw [e2]; exact u8_lt _
                    obtain ⟨l3a, l3b⟩ : 0 ≤ x3 ∧ x3 < 256 := by rw [e3]; exact u8_lt _
                    have E0 := Lib.hid e0; have E1 := Lib.hid e1; have E2 := Lib.hid e2; have E3 := Lib.hid e3
                    clear e0 e1 e2 e3
                    obtain ⟨old, ho⟩ : ∃ v, wt.cell? ⟨wa.heap.size, t, none⟩ = some v := ⟨arr[t]'(by rw [HSZ.out]; omega), by rw [cell_of_row wt _ t arr _ _ HA.out]; simp⟩
                    have hf : wt.frozen? ⟨wa.heap.size, t, none⟩ = false := not_frozen HA.out t
                    have hix := fun u => index_arr80 u wa.heap.size t (by omega) t rfl
                    go_wp2_with fail
                    go_still_tail 31, (by kernel_rfl)
                    change wpList _ _ _ _ _ wt.drew
                    go_wp2
                    refine ⟨?re4, ?me4⟩
                    case re4 =>
                      refine ⟨t + 1, arr.setIfInBounds t _, by omega, congrArg (Value.int .i64) (by omega), heap_set HA.out t _, by rw [Array.size_setIfInBounds]; exact HSZ.out, fun j hj => ?_, (hbt.setCell (Nat.le_refl _) _).drew⟩
                      rw [set_get _ _ _ _ (by rw [HSZ.out]; omega)]
                      split
                      · rename_i e; subst e
                        rw [E0.out, E1.out, E2.out, E3.out, W80_lo m _ h16, ← word_int]; rfl
                      · exact HAR.out j (by omega)
                    case me4 => simp [intOf]; omega
                  · go_wp2_with fail
                    have hx : ∀ j, j < t → wt.cell? ⟨wa.heap.size, j, none⟩ = some (.int .u32 (W80 m j).toNat) := fun j hj => by
                      rw [cell_of_row wt _ j arr _ _ HA.out, HAR.out j hj]
                    have hy := W80_hi m t (by omega) hlt80
                    obtain ⟨a3, f3⟩ : ∃ a, a = t - 3 := ⟨_, rfl⟩
                    have q3 := hx a3 (by omega)
                    have i3 := fun u => index_arr80 u wa.heap.size a3 (by omega) ((t : Int) - 3) (by omega)
                    rw [← f3] at hy
                    have w3 : IntKind.i64.wrap ((t : Int) - 3) = (t : Int) - 3 := by rw [IntKind.wrap_i64]; omega
                    generalize W80 m a3 = y3 at hy q3
                    obtain ⟨a8, f8⟩ : ∃ a, a = t - 8 := ⟨_, rfl⟩
                    have q8 := hx a8 (by omega)
                    have i8 := fun u => index_arr80 u wa.heap.size a8 (by omega) ((t : Int) - 8) (by omega)
                    rw [← f8] at hy
                    have w8 : IntKind.i64.wrap ((t : Int) - 8) = (t : Int) - 8 := by rw [IntKind.wrap_i64]; omega
                    generalize W80 m a8 = y8 at hy q8
                    obtain ⟨a14, f14⟩ : ∃ a, a = t - 14 := ⟨_, rfl⟩
                    have q14 := hx a14 (by omega)
                    have i14 := fun u => index_arr80 u wa.heap.size a14 (by omega) ((t : Int) - 14) (by omega)
                    rw [← f14] at hy
                    have w14 : IntKind.i64.wrap ((t : Int) - 14) = (t : Int) - 14 := by rw [IntKind.wrap_i64]; omega
                    generalize W80 m a14 = y14 at hy q14
                    obtain ⟨a16, f16⟩ : ∃ a, a = t - 16 := ⟨_, rfl⟩
                    have q16 := hx a16 (by omega)
                    have i16 := fun u => index_arr80 u wa.heap.size a16 (by omega) ((t : Int) - 16) (by omega)
                    rw [← f16] at hy
                    have w16 : IntKind.i64.wrap ((t : Int) - 16) = (t : Int) - 16 := by rw [IntKind.wrap_i64]; omega
                    generalize W80 m a16 = y16 at hy q16
                    have hix := fun u => index_arr80 u wa.heap.size t (by omega) t rfl
                    obtain ⟨old, ho⟩ : ∃ v, wt.cell? ⟨wa.heap.size, t, none⟩ = some v := ⟨arr[t]'(by rw [HSZ.out]; omega), by rw [cell_of_row wt _ t arr _ _ HA.out]; simp⟩
                    have hf : wt.frozen? ⟨wa.heap.size, t, none⟩ = false := not_frozen HA.out t
                    obtain ⟨x, hxe⟩ : ∃ x, x = y3 ^^^ y8 ^^^ y14 ^^^ y16 := ⟨_, rfl⟩
                    rw [← hxe] at hy
                    have HY := Lib.hid hy
                    have hX : bits BinOp.xor .u32 (bits BinOp.xor .u32 (bits BinOp.xor .u32 (y3.toNat : Int) (y8.toNat : Int)) (y14.toNat : Int)) (y16.toNat : Int) = (x.toNat : Int) := by rw [hxe, b_xor, b_xor, b_xor]
                    clear hxe
                    clear hy hx f3 f8 f14 f16
                    go_still_tail 22, (by kernel_rfl)
                    still_call (rot_flip (left_1 x _))
                    repeat still_step
                    refine wpStill_nil ?_
                    change wpList _ _ _ _ _ wt.drew
                    go_wp2
                    refine ⟨?re5, ?me5⟩
                    case re5 =>
                      refine ⟨t + 1, arr.setIfInBounds t _, by omega, congrArg (Value.int .i64) (by omega), heap_set HA.out t _, by rw [Array.size_setIfInBounds]; exact HSZ.out, fun j hj => ?_, (hbt.setCell (Nat.le_refl _) _).drew⟩
                      rw [set_get _ _ _ _ (by rw [HSZ.out]; omega)]
                      split
                      · rename_i e; subst e
                        rw [HY.out]
                      · exact HAR.out j (by omega)
                    case me5 => simp [intOf]; omega
                · have HT80 := Lib.hid (show t = 80 by omega)
                  have hwa : wa.heap.size ≤ wt.heap.size := hbt.size
                  obtain ⟨ha, hha, hhw⟩ := HV.out.words
                  have hht : wt.heap[w.heap.size + 1]? = some (.cells ha 60 (0, 0)) := (hbt.block _ (lt_of_heap hha)).trans hha
                  have hhs := hhw.size
                  have hhall := hhw.all
                  have HHT := Lib.hid hht; have HHW := Lib.hid hhw; have HHS := Lib.hid hhs; have HHA := Lib.hid hhall
                  clear hha hhw hht hhs hhall
                  go_upto_region 22 with (first
                    | (with_reducible refine wpList_load_row rfl 60 (.tmp 3) rfl (w.heap.size + 1) rfl 60 ha (0, 0) _ ?lg Tryd.underlying60 rfl ?li ?_)
                    | (with_reducible refine wpList_store_row rfl 60 (.tmp 11) (.tmp 117) rfl wt.heap.size ha rfl rfl 60 z5 ?ug ?ui ?uo ?u1 ?_)
                    | fail)
                  case lg => exact HHT.out
                  case li => rw [info36, HHS.out]
                  case ug => exact heap_alloc_new _ _
                  case ui => rw [info36, HHS.out]
                  case uo => rw [HZ5.out, HHS.out]
                  case u1 => exact HHA.out
                  generalize hwv : ((wt.alloc (.cells z5 60)).setRow wt.heap.size ha) = wv0
                  have hgv : wv0.heap[wt.heap.size]? = some (.cells ha 60 (0, 0)) := by
                    subst hwv; exact setRow_heap _ _ z5 ha _ _ (heap_alloc_new _ _)
                  have hbv : Below wt.heap.size wt wv0 := by
                    subst hwv; exact below_setRow ((Below.refl _ wt).alloc (Nat.le_refl _) _) (Nat.le_refl _) ha
                  clear hwv
                  have HGV := Lib.hid hgv; have HBV := Lib.hid hbv
                  clear hgv hbv
                  go_wp2_with fail
                  go_loopw [12] (fun v wx => ∃ (t5 : Nat) (s : H5) (va : Array Value), t5 ≤ 80 ∧ v = .int .i64 t5 ∧ wx.heap[wt.heap.size]? = some (.cells va 60 (0, 0)) ∧ W5 va s ∧ s = rounds (sched m 80) (hs (padF l) k) t5 ∧ Below wt.heap.size wt wx) (fun v _ => 80 - (intOf v).toNat)
                  case atStart => exact ⟨0, _, ha, Nat.zero_le _, rfl, HGV.out, HHW.out, rfl, HBV.out⟩
                  case round =>
                    clear HGV HBV
                    rename World => wx
                    obtain ⟨t5, s, va, ht5, rfl, hva, hvw, hvs, hbx⟩ := hrel
                    have HVA := Lib.hid hva; have HVW := Lib.hid hvw; have HVS := Lib.hid hvs
                    clear hva hvw hvs
                    by_cases hlt5 : t5 < 80
                    · have hc : ∀ i, i < 5 → wx.cell? ⟨wt.heap.size, i, none⟩ = some (.int .u32 (s.get i).toNat) := fun i hi => by rw [cell_of_row wx _ i va _ _ HVA.out, HVW.out.word i hi]
                      have q0 : wx.cell? ⟨wt.heap.size, 0, none⟩ = some (.int .u32 s.a.toNat) := hc 0 (by omega)
                      have q1 : wx.cell? ⟨wt.heap.size, 1, none⟩ = some (.int .u32 s.b.toNat) := hc 1 (by omega)
                      have q2 : wx.cell? ⟨wt.heap.size, 2, none⟩ = some (.int .u32 s.c.toNat) := hc 2 (by omega)
                      have q3 : wx.cell? ⟨wt.heap.size, 3, none⟩ = some (.int .u32 s.d.toNat) := hc 3 (by omega)
                      have q4 : wx.cell? ⟨wt.heap.size, 4, none⟩ = some (.int .u32 s.e.toNat) := hc 4 (by omega)
                      have qw : wx.cell? ⟨wa.heap.size, t5, none⟩ = some (.int .u32 (W80 m t5).toNat) := by
                        rw [hbx.cell (p := ⟨wa.heap.size, t5, none⟩) (lt_of_heap HA.out), cell_of_row wt _ t5 arr _ _ HA.out, HAR.out t5 (by have := HT80.out; omega)]
                      obtain ⟨y, hy⟩ : ∃ y : Int, y = (W80 m t5).toNat := ⟨_, rfl⟩
                      rw [← hy] at qw
                      have HY := Lib.hid hy; clear hy hc
                      have i0 := fun u => index_arr5 u wt.heap.size 0 (by omega) 0 rfl
                      have i1 := fun u => index_arr5 u wt.heap.size 1 (by omega) 1 rfl
                      have i2 := fun u => index_arr5 u wt.heap.size 2 (by omega) 2 rfl
                      have i3 := fun u => index_arr5 u wt.heap.size 3 (by omega) 3 rfl
                      have i4 := fun u => index_arr5 u wt.heap.size 4 (by omega) 4 rfl
                      have iw := fun u => index_arr80 u wa.heap.size t5 hlt5 t5 rfl
                      go_wp2_with fail
                      refine (rmix_any t5 hlt5 s.b s.c s.d _).mono ?_
                      rintro e w9 ⟨rfl, rfl⟩
                      generalize hrf : (((fF t5 s.b s.c s.d).toNat : Nat) : Int) = rf
                      generalize hrk : (((kF t5).toNat : Nat) : Int) = rk
                      have HRF := Lib.hid hrf; have HRK := Lib.hid hrk; clear hrf hrk
                      go_wp2_with fail
                      go_quiet ((go_at_call 34; exact Calls.quiet_of_same (rot_flip (left_5 _ _))))
                      generalize hX : (((((rl s.a 5).toNat : Int) + rf + (s.e.toNat : Int) + rk) % 4294967296 + y) % 4294967296) = X
                      have HX := Lib.hid hX; clear hX
                      have k0 : (wx.drewN nq).cell? ⟨wt.heap.size, 0, none⟩ = some (.int .u32 s.a.toNat) := q0
                      have k1 : (wx.drewN nq).cell? ⟨wt.heap.size, 1, none⟩ = some (.int .u32 s.b.toNat) := q1
                      have k2 : (wx.drewN nq).cell? ⟨wt.heap.size, 2, none⟩ = some (.int .u32 s.c.toNat) := q2
                      have k3 : (wx.drewN nq).cell? ⟨wt.heap.size, 3, none⟩ = some (.int .u32 s.d.toNat) := q3
                      have hya : (wx.drewN nq).heap[wt.heap.size]? = some (.cells va 60 (0, 0)) := HVA.out
                      have hby : Below wt.heap.size wt (wx.drewN nq) := below_drewN hbx _
                      generalize wx.drewN nq = wy at k0 k1 k2 k3 hya hby ⊢
                      clear q0 q1 q2 q3 q4 qw iw i4 hbx
                      clear hzv5
                      have hzl := zero_arr zlit36
                      have HYA := Lib.hid hya; clear hya
                      go_wp2_with fail
                      go_still_tail 11, (by kernel_rfl)
                      still_call (rot_flip (left_30 _ _))
                      repeat still_step
                      refine wpStill_nil ?_
                      change wpList _ _ _ _ _ wy.drew
                      go_wp2_with (with_reducible refine wpList_store_row rfl 60 (.tmp 11) (.tmp 157) rfl wt.heap.size #[.int .u32 X, .int .u32 s.a.toNat, .int .u32 (rl s.b 30).toNat, .int .u32 s.c.toNat, .int .u32 s.d.toNat] rfl rfl 60 va ?vg ?vi ?vo ?v1 ?_)
                      case vg => exact HYA.out
                      case vi => rw [info36]; rfl
                      case vo => rw [HVW.out.size]; rfl
                      case v1 => exact five_all _ _ _ _ _
                      have hX2 : X = ((stepH t5 (W80 m t5) s).a.toNat : Int) := by
                        rw [← HX.out, HY.out, ← HRF.out, ← HRK.out]; exact step_a3 t5 _ s
                      have hW : W5 #[.int .u32 X, .int .u32 s.a.toNat, .int .u32 (rl s.b 30).toNat, .int .u32 s.c.toNat, .int .u32 s.d.toNat] (stepH t5 (W80 m t5) s) := by
                        rw [hX2]; exact five_W5 (stepH t5 (W80 m t5) s)
                      exact ⟨⟨t5 + 1, _, _, hlt5, congrArg (Value.int .i64) (by omega), setRow_heap wy.drew _ va _ _ (0, 0) HYA.out, hW, by rw [HVS.out, rounds80], below_setRow hby.drew (Nat.le_refl _) _⟩, by simp only [intOf]; omega⟩
                    · have HT5 := Lib.hid (show t5 = 80 by omega)
                      have hRx := ((HV.out.grown (grown_of_below hbt none) (fun j hj => by cases hj)).grown (grown_of_below hbx none) (fun j hj => by cases hj))
                      obtain ⟨hx, hhx, hhw⟩ := hRx.words
                      have hgt : g < wt.heap.size := Nat.lt_of_lt_of_le hgl hwa
                      have hbyx : ∀ i, i < P → wx.cell? ⟨g, i, none⟩ = some (.int .u8 (padF l i).toNat) := fun i hi => by
                        rw [hbx.cell (p := ⟨g, i, none⟩) hgt, hbt.cell (p := ⟨g, i, none⟩) hgl]; exact HBY.out i hi
                      have HRX := Lib.hid hRx; have HHX := Lib.hid hhx; have HHWX := Lib.hid hhw; have HBYX := Lib.hid hbyx
                      have hgx : wt.heap.size < wx.heap.size := lt_of_heap HVA.out
                      have hgne : wt.heap.size ≠ w.heap.size + 1 := by have h1 := HV.out.size; omega
                      clear hRx hhx hhw hbyx
                      go_wp2_with fail
                      go_loopw [16] (fun v wz => ∃ (i6 : Nat) (hc : Array Value), i6 ≤ 5 ∧ v = .int .i64 i6 ∧ wz.heap[w.heap.size + 1]? = some (.cells hc 60 (0, 0)) ∧ hc.size = 5 ∧
                        (∀ j, j < 5 → hc[j]? = some (.int .u32 ((if j < i6 then addH (hs (padF l) k) s else hs (padF l) k).get j).toNat)) ∧ wx.grownBy wz (some (w.heap.size + 1))) (fun v _ => 5 - (intOf v).toNat)
                      case atStart => exact ⟨0, hx, Nat.zero_le _, rfl, HHX.out, HHWX.out.size, fun j hj => by rw [if_neg (Nat.not_lt_zero _)]; exact HHWX.out.word j hj, grown_of_below (Below.refl _ _) _⟩
                      case round =>
                        rename World => wz
                        obtain ⟨i6, hc, hi6, rfl, hhc, hcs, hcw, hgz⟩ := hrel
                        have HHC := Lib.hid hhc; have HCS := Lib.hid hcs; have HCW := Lib.hid hcw
                        clear hhc hcs hcw
                        by_cases hlt6 : i6 < 5
                        · have qh : wz.cell? ⟨w.heap.size + 1, i6, none⟩ = some (.int .u32 ((hs (padF l) k).get i6).toNat) := by
                            rw [cell_of_row wz _ i6 hc _ _ HHC.out, HCW.out i6 hlt6, if_neg (Nat.lt_irrefl _)]
                          have qv : wz.cell? ⟨wt.heap.size, i6, none⟩ = some (.int .u32 (s.get i6).toNat) := by
                            rw [World.cell?_of_block (w := wx) (w' := wz) (a := ⟨wt.heap.size, i6, none⟩) (hgz.block _ hgx (by simp; omega)), cell_of_row wx _ i6 va _ _ HVA.out, HVW.out.word i6 hlt6]
                          have ih := fun u => index_arr5 u (w.heap.size + 1) i6 hlt6 i6 rfl
                          have iv := fun u => index_arr5 u wt.heap.size i6 hlt6 i6 rfl
                          have hf := not_frozen HHC.out i6
                          obtain ⟨xh, ehh⟩ : ∃ x : Int, x = ((hs (padF l) k).get i6).toNat := ⟨_, rfl⟩
                          obtain ⟨xv, ehv⟩ : ∃ x : Int, x = (s.get i6).toNat := ⟨_, rfl⟩
                          rw [← ehh] at qh; rw [← ehv] at qv
                          have EH := Lib.hid ehh; have EV := Lib.hid ehv; clear ehh ehv
                          go_wp2_with fail
                          go_still_tail 9, (by kernel_rfl)
                          change wpList _ _ _ _ _ wz.drew
                          go_wp2
                          have hs6 : (xh + xv) % 4294967296 = (((addH (hs (padF l) k) s).get i6).toNat : Int) := by
                            rw [EH.out, EV.out, b_add, get_add _ _ _ hlt6]
                          refine ⟨⟨i6 + 1, hc.setIfInBounds i6 _, hlt6, congrArg (Value.int .i64) (by omega), heap_set HHC.out i6 _, by rw [Array.size_setIfInBounds]; exact HCS.out, fun j hj => ?_, grown_drew (grown_trans hgz (grown_set wz _ i6 _))⟩, by simp only [intOf]; omega⟩
                          rw [set_get _ _ _ _ (by rw [HCS.out]; exact hlt6)]
                          by_cases hji : j = i6
                          · rw [if_pos hji, if_pos (by omega), hs6, hji]
                          · rw [if_neg hji, HCW.out j hj]
                            by_cases hj2 : j < i6
                            · rw [if_pos hj2, if_pos (by omega)]
                            · rw [if_neg hj2, if_neg (by omega)]
                        · have HI6 := Lib.hid (show i6 = 5 by omega)
                          go_wp2
                          have hz1 : ∀ j, j < w.heap.size + 1 → wz.heap[j]? = wx.heap[j]? := fun j hj => hgz.block j (by have := HRX.out.size; omega) (fun e => by cases e; omega)
                          have hgx2 : g < wx.heap.size := Nat.lt_trans hgt hgx
                          have hgh : g ≠ w.heap.size + 1 := by omega
                          refine ⟨⟨k + 1, hlt, congrArg (Value.int .i64) (by omega), fun i hi => ?_, Nat.lt_of_lt_of_le hgx2 hgz.size, ⟨(hz1 _ (by omega)).trans HRX.out.res, ⟨hc, HHC.out, HCS.out, fun j hj => ?_⟩, Nat.le_trans HRX.out.size hgz.size, ?_⟩⟩, by simp only [intOf]; omega⟩
                          · rw [World.cell?_of_block (w := wx) (w' := wz) (a := ⟨g, i, none⟩) (hgz.block _ hgx2 (fun e => hgh (by cases e; rfl))), HBYX.out i hi]
                          · have hm := HM.out
                            subst hm
                            rw [HCW.out j hj, if_pos (by have := HI6.out; omega), hs_next, HVS.out, HT5.out]
                          · exact HRX.out.below.grown hgz (HRX.out.below.size) (fun j hj => by cases hj; omega)
            · obtain rfl : k = B := by omega
              have hltP : ¬ 64 * (k : Int) < (P : Int) := by have := HPB.out; omega
              obtain ⟨ha, hha, hhw⟩ := HV.out.words
              have HHA := Lib.hid hha; have HHW := Lib.hid hhw; clear hha hhw
              go_wp2_with fail
              generalize hwo : wa.alloc (.cells z 34) = wo
              have hgo : wo.heap[wa.heap.size]? = some (.cells z 34 (0, 0)) := by subst hwo; exact heap_alloc_new _ _
              have hbo : Below wa.heap.size wa wo := by subst hwo; exact (Below.refl _ wa).alloc (Nat.le_refl _) _
              clear hwo
              have HGO := Lib.hid hgo; have HBO := Lib.hid hbo; clear hgo hbo
              have hal := lt_of_heap HHA.out
              go_loopw [18] (fun v wz => ∃ (i : Nat) (arr : Array Value), i ≤ 20 ∧ v = .int .i64 i ∧ wz.heap[wa.heap.size]? = some (.cells arr 34 (0, 0)) ∧ arr.size = 20 ∧
                (∀ j, j < i → arr[j]? = some (.int .u8 ((digest (hs (padF l) k)).getD j 0).toNat)) ∧ Below wa.heap.size wa wz) (fun v _ => 20 - (intOf v).toNat)
              case atStart => exact ⟨0, z, Nat.zero_le _, rfl, HGO.out, HZS.out, fun j hj => absurd hj (Nat.not_lt_zero _), HBO.out⟩
              case round =>
                clear HGO HBO
                rename World => wz
                obtain ⟨i, arr, hi, rfl, har, hsz, had, hbz⟩ := hrel
                have HAR := Lib.hid har; have HAS := Lib.hid hsz; have HAD := Lib.hid had
                clear har hsz had
                by_cases hlt20 : i < 20
                · obtain ⟨a, ea⟩ : ∃ a, a = i / 4 := ⟨_, rfl⟩
                  obtain ⟨b, eb⟩ : ∃ b, b = i % 4 := ⟨_, rfl⟩
                  have hd : (i : Int) / 4 = (a : Int) := by omega
                  have hm : (i : Int) % 4 = (b : Int) := by omega
                  have hb4 : b < 4 := by omega
                  have htn : ((24 : Int) - 8 * (b : Int)).toNat = 24 - 8 * b := by omega
                  have qh : wz.cell? ⟨w.heap.size + 1, a, none⟩ = some (.int .u32 ((hs (padF l) k).get a).toNat) := by
                    rw [hbz.cell (p := ⟨w.heap.size + 1, a, none⟩) hal, cell_of_row wa _ a ha _ _ HHA.out, HHW.out.word a (by omega)]
                  obtain ⟨x, hx⟩ : ∃ x : Int, x = ((hs (padF l) k).get a).toNat := ⟨_, rfl⟩
                  rw [← hx] at qh
                  have i5 := fun u => index_arr5 u (w.heap.size + 1) a (by omega) a rfl
                  have i20 := fun u => index_arr20 u wa.heap.size i hlt20 i rfl
                  have HX := Lib.hid hx; have HA2 := Lib.hid ea; have HB2 := Lib.hid eb
                  clear hx ea eb
                  obtain ⟨old, ho⟩ : ∃ v, wz.cell? ⟨wa.heap.size, i, none⟩ = some v := ⟨arr[i]'(by rw [HAS.out]; exact hlt20), by rw [cell_of_row wz _ i arr _ _ HAR.out]; simp⟩
                  have hf := not_frozen HAR.out i
                  go_wp2
                  refine ⟨⟨i + 1, arr.setIfInBounds i _, by omega, congrArg (Value.int .i64) (by omega), heap_set HAR.out i _, by rw [Array.size_setIfInBounds]; exact HAS.out, fun j hj => ?_, hbz.setCell (Nat.le_refl _) _⟩, by simp only [intOf]; omega⟩
                  rw [set_get _ _ _ _ (by rw [HAS.out]; exact hlt20)]
                  by_cases hji : j = i
                  · rw [if_pos hji, HX.out, show 24 - 8 * b = 8 * (3 - b) by omega, outB_int _ i a b HA2.out HB2.out, hji, digest_at _ i hlt20]
                  · rw [if_neg hji]
                    exact HAD.out j (by omega)
                · have HI := Lib.hid (show i = 20 by omega)
                  have harr : arr = (Lib.byteCells (sumL l)).toArray := by
                    have e : sumL l = digest (hs (padF l) k) := by rw [HBE.out]; rfl
                    rw [e]
                    exact arr_bc (by rw [HAS.out, digest_len]) (fun j hj => HAD.out j (by have h1 := HI.out; rw [digest_len] at hj; omega))
                  have hall := bc_all (sumL l)
                  rw [← harr] at hall
                  have HARR := Lib.hid harr; have HALL := Lib.hid hall; clear harr hall
                  have hr := (hbz.block _ (lt_of_heap HV.out.res)).trans HV.out.res
                  have HRR := Lib.hid hr; clear hr
                  have hbw := HV.out.below.trans (hbz.mono HV.out.below.size)
                  go_wp2_with (first
                    | (with_reducible refine wpList_load_row rfl 34 (.tmp 17) rfl wa.heap.size rfl 34 arr (0, 0) _ ?rg Tryd.underlying34 rfl ?ri ?_)
                    | (with_reducible refine wpList_store_row rfl 34 (.tmp 2) (.tmp 188) rfl w.heap.size arr rfl rfl 34 z ?tg ?ti ?tp ?t1 ?_)
                    | fail)
                  case rg => exact HAR.out
                  case ri => rw [info29, HAS.out]
                  case tg => exact HRR.out
                  case ti => rw [info29, HAS.out]
                  case tp => rw [HZS.out, HAS.out]
                  case t1 => exact HALL.out
                  refine bodyPost_ret (results_cell_row Tryd.results20 _ _ w.heap.size 34 arr (0, 0) _ rfl (setRow_heap wz w.heap.size z arr _ (0, 0) HRR.out) Tryd.underlying34 rfl (by rw [info29, HAS.out])) rfl ⟨by rw [HARR.out]; rfl, below_setRow hbw (Nat.le_refl _) arr⟩
end Go.Proofs.YtbcbbkdfdfgnfaaDoor
