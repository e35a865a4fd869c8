/-
  slices.Grow of nil, slices.Concat.
-/
import Derived.Test.YtbcbbkdfdfgnfaaDoorCb
import Derived.Test.YtbcbbkdfdfgnfaaDoorPi
import Derived.Lib.AppendZeros
namespace Go.Proofs.YtbcbbkdfdfgnfaaDoor
set_option maxRecDepth 20000
open Go.RowKit
set_option linter.unusedVariables false

set_option maxHeartbeats 4000000 in
theorem Grow_any (n : Nat) (h0 : 0 < n) (hn : n ≤ 16777216) (w : World) :
    Calls Tryd.prog 38 #[.slice none 0 0, .int .i64 n] w fun e w' => ∃ v', e = .returned v' ∧ Row w' v' [] ∧ (∀ g, foot v' = some g → w.heap.size ≤ g) ∧ Below w.heap.size w w' := by
  obtain ⟨i0, hi, hz0, hz1, hz2⟩ := info_parts info5
  have happ := Lib.run_append_nil_zeros (P := Tryd.prog) w 22 3 22 5 i0 (.int .u8 0) .i64 .i64 Tryd.underlying22 Tryd.underlying3 hi hz0 n h0 (by omega) (by omega) (by rw [hz2]; omega)
  have hge := grownCap_ge w n 0 5
  have hcm : grownCap w n 0 5 ≤ maxLen := grownCap_le_maxLen w n 0 5 (by unfold maxLen; omega)
  obtain ⟨cap, hcap⟩ : ∃ cap, grownCap w n 0 5 = cap + 1 := ⟨grownCap w n 0 5 - 1, by omega⟩
  rw [hcap] at happ hge hcm
  obtain ⟨cs, hcs⟩ : ∃ cs, cs = Builtin.zeroCells (Value.int .u8 0).cells n ++ Builtin.zeroCells (Value.int .u8 0).cells (cap + 1 - n) := ⟨_, rfl⟩
  rw [← hcs] at happ
  have hsz : cs.size = cap + 1 := by rw [hcs]; simp [size_zeroCells, Value.cells]; omega
  have HA := Lib.hid happ
  have hrow : Row (w.drew.alloc (.cells cs 5)) (.slice (some ⟨w.heap.size, 0, none⟩) 0 (cap + 1)) [] :=
    .inr ⟨w.heap.size, cap, cs, rfl, heap_alloc_new w.drew _, Nat.zero_le _, hcm, hsz, rfl⟩
  have hbel : Below w.heap.size w (w.drew.alloc (.cells cs 5)) := ((Below.refl _ w).drew).alloc (Nat.le_refl _) _
  have hsl := fun u => slice_head (some ⟨w.heap.size, 0, none⟩) n (cap + 1) 0 0 rfl (Nat.zero_le _) u
  have HR := Lib.hid hrow; have HB := Lib.hid hbel
  clear happ hcs hsz hrow hbel hge hcm hcap
  go_enter Tryd.func38, Tryd.ntmps38
  go_wp2_with (at_builtin; refine Lib.wpList_append_run _ rfl _ _ _ _ rfl _ _ rfl rfl _ _ HA.out ?_)
  go_ret
  exact ⟨_, rfl, HR.out, (fun g hg => by cases hg; exact Nat.le_refl _), HB.out⟩
theorem Appended.new {w w' : World} {v v' : Value} {l : List UInt8} (h : Appended w v l v' w') {B : Nat} (hf : ∀ g, foot v = some g → B ≤ g) (hB : B ≤ w.heap.size) : ∀ g, foot v' = some g → B ≤ g := fun g hg => by
  rcases h.2.2 with h3 | h3 | h3
  · rw [h3] at hg; exact hf g hg
  · rw [h3] at hg; cases hg
  · rw [h3] at hg; cases hg; exact hB
theorem Appended.below {w w' w0 : World} {v v' : Value} {l : List UInt8} (h : Appended w v l v' w') {B : Nat} (hb : Below B w0 w) (hf : ∀ g, foot v = some g → B ≤ g) (hB : B ≤ w.heap.size) : Below B w0 w' :=
  hb.grown h.2.1 hB hf
set_option maxHeartbeats 8000000 in
theorem Concat_any (D : Nat → Prop) (pa : Option Addr) (np pc : Nat) (ls : List (List UInt8)) (w : World) (hp : PartsIn D w pa ls) (hn : np = ls.length) (hm : np ≤ 1000) (h0 : 0 < total ls) (ht : total ls ≤ 16777216) :
    Calls Tryd.prog 24 #[.slice pa np pc] w fun e w' => ∃ v', e = .returned v' ∧ Row w' v' ls.flatten ∧ (∀ g, foot v' = some g → w.heap.size ≤ g) ∧ Below w.heap.size w w' := by
  have HP := Lib.hid hp; have HN := Lib.hid hn
  obtain ⟨t, ht2⟩ : ∃ t, total ls = t := ⟨_, rfl⟩
  rw [ht2] at h0 ht
  have HT := Lib.hid ht2
  clear hp hn ht2
  go_enter Tryd.func24, Tryd.ntmps24
  go_wp2_with fail
  go_loop [3, 11] (fun sv i => ∃ k s : Nat, k ≤ np ∧ i = .int .i64 k ∧ sv = .int .i64 s ∧ s = total (ls.take k)) (fun _ i => np - (intOf i).toNat)
  case atStart => exact ⟨0, 0, Nat.zero_le _, rfl, rfl, by simp [total]⟩
  case round =>
    obtain ⟨k, s, hk, rfl, rfl, hs⟩ := hrel
    have HS := Lib.hid hs
    clear hs
    by_cases hlt : k < np
    · have hkl : k < ls.length := by rw [← HN.out]; exact hlt
      obtain ⟨pb, po, rfl, _, hpb, hcell⟩ := HP.out (by omega)
      obtain ⟨xa, xc, hx, _, _, hxm⟩ := hcell k hkl
      have hts := total_step ls k hkl
      have htl := total_le ls (k + 1)
      rw [HT.out] at htl
      obtain ⟨m, hm2⟩ : ∃ m, (ls[k]).length = m := ⟨_, rfl⟩
      rw [hm2] at hx hxm hts
      rw [← HS.out] at hts
      have h1 : s + m ≤ 16777216 := by omega
      have HTS := Lib.hid hts
      clear hts htl hcell hm2
      go_wp2
      go_round
      case rel => exact ⟨k + 1, s + m, by omega, by go_num, by go_num, HTS.out.symm⟩
      case measure => simp [intOf]; omega
    · have hk2 : k = ls.length := by rw [← HN.out]; omega
      have hst : s = t := by rw [HS.out, hk2, List.take_length, HT.out]
      have hkn : k = np := by omega
      subst hst
      subst hkn
      clear hk2
      have G := Lib.hid (Grow_any s h0 ht w)
      go_wp2_with fail
      refine G.out.mono ?_
      rintro e w1 ⟨v1, rfl, hr1, hf1, hb1⟩
      have HR1 := Lib.hid hr1; have HF1 := Lib.hid hf1
      clear hr1 hf1 G
      go_wp2_with fail
      go_loopw [6, 27] (fun v i wr => ∃ j : Nat, j ≤ k ∧ i = .int .i64 j ∧ Row wr v (ls.take j).flatten ∧ (∀ g, foot v = some g → w.heap.size ≤ g) ∧ Below w.heap.size w wr) (fun _ i _ => k - (intOf i).toNat)
      case atStart => exact ⟨0, Nat.zero_le _, rfl, by simpa using HR1.out, HF1.out, hb1⟩
      case round =>
        clear hb1
        obtain ⟨j, hj, rfl, hrow, hfo, hbr⟩ := hrel
        have HR := Lib.hid hrow; have HF := Lib.hid hfo
        clear hrow hfo
        by_cases hlt2 : j < k
        · have hjl : j < ls.length := by rw [← HN.out]; exact hlt2
          obtain ⟨pb, po, rfl, _, hpb, hcell⟩ := HP.out (by omega)
          obtain ⟨xa, xc, hx, hbin, hxno, hxm⟩ := hcell j hjl
          have hts := total_step ls j hjl
          have htl := total_le ls (j + 1)
          rw [HT.out] at htl
          have hbat : BAt wr xa ls[j] := (hbin.bat.below hbr (Nat.le_refl _))
          have q : wr.cell? ⟨pb, po + j, none⟩ = some (.slice xa (ls[j]).length xc) := (hbr.cell (p := ⟨pb, po + j, none⟩) hpb).trans hx
          obtain ⟨m, hm2⟩ : ∃ m, ls[j] = m := ⟨_, rfl⟩
          have hfl : (ls.take (j + 1)).flatten = (ls.take j).flatten ++ m := by rw [List.take_succ_eq_append_getElem hjl, List.flatten_append, hm2]; simp
          rw [hm2] at hxno hxm hts hbat q
          have hlen : (ls.take j).flatten.length + m.length ≤ 1099511627776 := by unfold total at hts htl; omega
          obtain ⟨q1, hq1⟩ : ∃ q1, m.length = q1 := ⟨_, rfl⟩
          have HBA := Lib.hid hbat; have HXN := Lib.hid hxno; have HFL := Lib.hid hfl; have HLE := Lib.hid hlen; have HQ1 := Lib.hid hq1
          rw [hq1] at q
          obtain ⟨a1, c1, hv1, _, _, _, _⟩ := HR.out.shape
          clear hts htl hcell hx hbin hm2 hbat hxno hfl hlen hxm hq1
          go_wp2_with (first
            | (at_builtin; refine wpList_append_row rfl (.tmp 31) (.tmp 32) rfl u6 rfl _ m HR.out xa q1 xc rfl HBA.out HQ1.out.symm (fun h => by rw [← HQ1.out]; exact HXN.out h) HLE.out ?_; intro v' w' hap)
            | fail)
          exact ⟨⟨j + 1, by omega, congrArg (Value.int .i64) (by omega), by rw [HFL.out]; exact hap.1, hap.new HF.out hbr.size, hap.below hbr HF.out hbr.size⟩, by simp only [intOf]; omega⟩
        · obtain rfl : j = k := by omega
          have hend : (ls.take j).flatten = ls.flatten := by rw [show j = ls.length from HN.out, List.take_length]
          rw [hend] at HR
          clear hend
          go_wp2
          go_ret
          exact ⟨_, rfl, HR.out, HF.out, hbr⟩
end Go.Proofs.YtbcbbkdfdfgnfaaDoor
