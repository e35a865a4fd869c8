/-
  Texts that belong together, one behind the other.
-/
import Derived.Test.YtnbcbiglkmdepaaGreatDoorFu20
import Derived.Lib.AppendZeros
set_option maxHeartbeats 64000000
set_option linter.unusedVariables false
set_option linter.unusedSimpArgs false
open Go.Lib renaming hid → hyd
open List renaming getElem_toArray → lgA, getElem_cons_succ → lgS, getElem_cons_zero → lgZ
namespace Go.Proofs.YtnbcbiglkmdepaaGreatDoor
set_option maxRecDepth 20000
open Go.RowKit
theorem Grow_any (n : Nat) (h0 : 0 < n) (hn : n ≤ 16777216) (w : World) :
  Calls Tryz.prog 72 #[.slice none 0 0, .int .i64 n] w fun e w' => ∃ v', e = .returned v' ∧ Row w' v' [] ∧ (∀ g, foot v' = some g → w.heap.size ≤ g) ∧ Below w.heap.size w w' := by
 obtain ⟨i0, hi, hz0, hz1, hz2⟩ := info_parts info5; have happ := Lib.run_append_nil_zeros (P := Tryz.prog) w 32 3 32 5 i0 (.int .u8 0) .i64 .i64 Tryz.underlying32 Tryz.underlying3 hi hz0 n h0 (by omega) (by omega) (by rw [hz2]; omega); have hge := grownCap_ge w n 0 5; have hcm : grownCap w n 0 5 ≤ maxLen := grownCap_le_maxLen w n 0 5 (by unfold maxLen; omega); obtain ⟨cap, hcap⟩ : ∃ cap, grownCap w n 0 5 = cap + 1 := ⟨grownCap w n 0 5 - 1, by omega⟩; rw [hcap] at happ hge hcm; obtain ⟨cs, hcs⟩ : ∃ cs, cs = Builtin.zeroCells (Value.int .u8 0).cells n ++ Builtin.zeroCells (Value.int .u8 0).cells (cap + 1 - n) := ⟨_, rfl⟩; rw [← hcs] at happ
 have hsz : cs.size = cap + 1 := by rw [hcs]; simp [size_zeroCells, Value.cells]; omega
 have HA := hyd happ
 have hrow : Row (w.drew.alloc (.cells cs 5)) (.slice (some ⟨w.heap.size, 0, none⟩) 0 (cap + 1)) [] :=
  .inr ⟨w.heap.size, cap, cs, rfl, heap_alloc_new w.drew _, Nat.zero_le _, hcm, hsz, rfl⟩
 have hbel : Below w.heap.size w (w.drew.alloc (.cells cs 5)) := ((Below.refl _ w).drew).alloc (Nat.le_refl _) _
 have hsl := fun u => slice_head (some ⟨w.heap.size, 0, none⟩) n (cap + 1) 0 0 rfl (Nat.zero_le _) u
 have HR := hyd hrow; have HB := hyd hbel; clear happ hcs hsz hrow hbel hge hcm hcap
 go_enter Tryz.func72, Tryz.ntmps72
 go_wp2_with (at_builtin; refine Lib.wpList_append_run _ rfl _ _ _ _ rfl _ _ rfl rfl _ _ HA.out ?_)
 go_ret; exact ⟨_, rfl, HR.out, (fun g hg => by cases hg; exact Nat.le_refl _), HB.out⟩
theorem Appended.new {w w' : World} {v v' : Value} {l : List UInt8} (h : Appended w v l v' w') {B : Nat} (hf : ∀ g, foot v = some g → B ≤ g) (hB : B ≤ w.heap.size) : ∀ g, foot v' = some g → B ≤ g := fun g hg => by
 rcases h.2.2 with h3 | h3 | h3
 ·rw [h3] at hg; exact hf g hg
 ·rw [h3] at hg; cases hg
 ·rw [h3] at hg; cases hg; exact hB
theorem Appended.below {w w' w0 : World} {v v' : Value} {l : List UInt8} (h : Appended w v l v' w') {B : Nat} (hb : Below B w0 w) (hf : ∀ g, foot v = some g → B ≤ g) (hB : B ≤ w.heap.size) : Below B w0 w' :=
 hb.grown h.2.1 hB hf
theorem Concat_any (D : Nat → Prop) (pa : Option Addr) (np pc : Nat) (ls : List (List UInt8)) (w : World) (hp : PartsIn D w pa ls) (hn : np = ls.length) (hm : np ≤ 1000) (h0 : 0 < total ls) (ht : total ls ≤ 16777216) :
  Calls Tryz.prog 47 #[.slice pa np pc] w fun e w' => ∃ v', e = .returned v' ∧ Row w' v' ls.flatten ∧ (∀ g, foot v' = some g → w.heap.size ≤ g) ∧ Below w.heap.size w w' := by
 have HP := hyd hp; have HN := hyd hn; obtain ⟨t, ht2⟩ : ∃ t, total ls = t := ⟨_, rfl⟩; rw [ht2] at h0 ht; have HT := hyd ht2; clear hp hn ht2
 go_enter Tryz.func47, Tryz.ntmps47
 go_wp2_with fail
 go_loop [3, 11] (fun sv i => ∃ k s : Nat, k ≤ np ∧ i = .int .i64 k ∧ sv = .int .i64 s ∧ s = total (ls.take k)) (fun _ i => np - (intOf i).toNat)
 case atStart => exact ⟨0, 0, Nat.zero_le _, rfl, rfl, by simp [total]⟩
 case round =>
  obtain ⟨k, s, hk, rfl, rfl, hs⟩ := hrel; have HS := hyd hs; clear hs
  by_cases hlt : k < np
  ·have hkl : k < ls.length := by rw [← HN.out]; exact hlt
   obtain ⟨pb, po, rfl, _, hpb, hcell⟩ := HP.out (by omega); obtain ⟨xa, xc, hx, _, _, hxm⟩ := hcell k hkl; have hts := total_step ls k hkl; have htl := total_le ls (k + 1); rw [HT.out] at htl; obtain ⟨m, hm2⟩ : ∃ m, (ls[k]).length = m := ⟨_, rfl⟩; rw [hm2] at hx hxm hts; rw [← HS.out] at hts
   have h1 : s + m ≤ 16777216 := by omega
   have HTS := hyd hts; clear hts htl hcell hm2; go_wp2
   go_round
   case rel => exact ⟨k + 1, s + m, by omega, by go_num, by go_num, HTS.out.symm⟩
   case measure => simp [intOf]; omega
  ·have hk2 : k = ls.length := by rw [← HN.out]; omega
   have hst : s = t := by rw [HS.out, hk2, List.take_length, HT.out]
   have hkn : k = np := by omega
   subst hst; subst hkn; clear hk2; have G := hyd (Grow_any s h0 ht w)
   go_wp2_with fail
   refine G.out.mono ?_; rintro e w1 ⟨v1, rfl, hr1, hf1, hb1⟩; have HR1 := hyd hr1; have HF1 := hyd hf1; clear hr1 hf1 G
   go_wp2_with fail
   go_loopw [6, 27] (fun v i wr => ∃ j : Nat, j ≤ k ∧ i = .int .i64 j ∧ Row wr v (ls.take j).flatten ∧ (∀ g, foot v = some g → w.heap.size ≤ g) ∧ Below w.heap.size w wr) (fun _ i _ => k - (intOf i).toNat)
   case atStart => exact ⟨0, Nat.zero_le _, rfl, by simpa using HR1.out, HF1.out, hb1⟩
   case round =>
    clear hb1; obtain ⟨j, hj, rfl, hrow, hfo, hbr⟩ := hrel; have HR := hyd hrow; have HF := hyd hfo; clear hrow hfo
    by_cases hlt2 : j < k
    ·have hjl : j < ls.length := by rw [← HN.out]; exact hlt2
     obtain ⟨pb, po, rfl, _, hpb, hcell⟩ := HP.out (by omega); obtain ⟨xa, xc, hx, hbin, hxno, hxm⟩ := hcell j hjl; have hts := total_step ls j hjl; have htl := total_le ls (j + 1); rw [HT.out] at htl; have hbat : BAt wr xa ls[j] := (hbin.bat.below hbr (Nat.le_refl _)); have q : wr.cell? ⟨pb, po + j, none⟩ = some (.slice xa (ls[j]).length xc) := (hbr.cell (p := ⟨pb, po + j, none⟩) hpb).trans hx; obtain ⟨m, hm2⟩ : ∃ m, ls[j] = m := ⟨_, rfl⟩
     have hfl : (ls.take (j + 1)).flatten = (ls.take j).flatten ++ m := by rw [List.take_succ_eq_append_getElem hjl, List.flatten_append, hm2]; simp
     rw [hm2] at hxno hxm hts hbat q
     have hlen : (ls.take j).flatten.length + m.length ≤ 1099511627776 := by unfold total at hts htl; omega
     obtain ⟨q1, hq1⟩ : ∃ q1, m.length = q1 := ⟨_, rfl⟩; have HBA := hyd hbat; have HXN := hyd hxno; have HFL := hyd hfl; have HLE := hyd hlen; have HQ1 := hyd hq1; rw [hq1] at q; obtain ⟨a1, c1, hv1, _, _, _, _⟩ := HR.out.shape; clear hts htl hcell hx hbin hm2 hbat hxno hfl hlen hxm hq1
     go_wp2_with (first
      | (at_builtin; refine wpList_append_row rfl (.tmp 31) (.tmp 32) rfl u6 rfl _ m HR.out xa q1 xc rfl HBA.out HQ1.out.symm (fun h => by rw [← HQ1.out]; exact HXN.out h) HLE.out ?_; intro v' w' hap)
      | fail)
     exact ⟨⟨j + 1, by omega, congrArg (Value.int .i64) (by omega), by rw [HFL.out]; exact hap.1, hap.new HF.out hbr.size, hap.below hbr HF.out hbr.size⟩, by simp only [intOf]; omega⟩
    ·obtain rfl : j = k := by omega
     have hend : (ls.take j).flatten = ls.flatten := by rw [show j = ls.length from HN.out, List.take_length]
     rw [hend] at HR; clear hend; go_wp2; go_ret; exact ⟨_, rfl, HR.out, HF.out, hbr⟩
def thingV (k : Int) (v : Value) : Value := if k = 1 then .iface 118 (.agg #[v]) else if k = 2 then .iface 119 (.agg #[v]) else if k = 3 then .iface 120 (.agg #[v]) else .nilIface
theorem thing1 (v : Value) : thingV 1 v = .iface 118 (.agg #[v]) := rfl
theorem thing2 (v : Value) : thingV 2 v = .iface 119 (.agg #[v]) := rfl
theorem thing3 (v : Value) : thingV 3 v = .iface 120 (.agg #[v]) := rfl
theorem thing_none (k : Int) (v : Value) (h : ¬ kindO k) : thingV k v = .nilIface := by
 unfold kindO at h; unfold thingV; rw [if_neg (fun e => h (.inl e)), if_neg (fun e => h (.inr (.inl e))), if_neg (fun e => h (.inr (.inr e)))]
theorem wordO_not (k : Int) (h : ¬ kindO k) : wordO k = [] := (wordO_nil k).2 h
theorem typed_is (k : Int) (a : Option Addr) (n c : Nat) (w : World) :
  Calls Tryz.prog 46 #[.agg #[.int .i64 k, .slice a n c]] w fun e w' => e = .returned (thingV k (.slice a n c)) ∧ Below w.heap.size w w' := by
 by_cases h1 : k = 1
 ·subst h1
  rw [thing1]; have B0 := hyd ((Below.refl w.heap.size w).alloc (Nat.le_refl _) (.cells #[.int .i64 1, .slice a n c] 34))
  go_enter Tryz.func46, Tryz.ntmps46
  go_wp2; go_ret; exact ⟨rfl, B0.out⟩
 ·by_cases h2 : k = 2
  ·subst h2
   rw [thing2]; have B0 := hyd ((Below.refl w.heap.size w).alloc (Nat.le_refl _) (.cells #[.int .i64 2, .slice a n c] 34))
   go_enter Tryz.func46, Tryz.ntmps46
   go_wp2; go_ret; exact ⟨rfl, B0.out⟩
  ·by_cases h3 : k = 3
   ·subst h3
    rw [thing3]; have B0 := hyd ((Below.refl w.heap.size w).alloc (Nat.le_refl _) (.cells #[.int .i64 3, .slice a n c] 34))
    go_enter Tryz.func46, Tryz.ntmps46
    go_wp2; go_ret; exact ⟨rfl, B0.out⟩
   ·rw [thing_none k _ (by unfold kindO; omega)]
    have B0 := hyd ((Below.refl w.heap.size w).alloc (Nat.le_refl _) (.cells #[.int .i64 k, .slice a n c] 34))
    go_enter Tryz.func46, Tryz.ntmps46
    go_wp2; go_ret; exact ⟨rfl, B0.out⟩
theorem ta_same (T : TypeId) (hT : T = 118 ∨ T = 119 ∨ T = 120) (x : Value) (w : World) : (Instr.typeAssert (.iface T x) 90 T true).run Tryz.prog w = .ok (.tuple #[x, .bool true]) w := by
 rcases hT with rfl | rfl | rfl <;> kernel_rfl
theorem ta_21 (x : Value) (w : World) : (Instr.typeAssert (.iface 119 x) 90 118 true).run Tryz.prog w = .ok (.tuple #[.agg #[.slice none 0 0], .bool false]) w := by kernel_rfl
theorem ta_31 (x : Value) (w : World) : (Instr.typeAssert (.iface 120 x) 90 118 true).run Tryz.prog w = .ok (.tuple #[.agg #[.slice none 0 0], .bool false]) w := by kernel_rfl
theorem ta_32 (x : Value) (w : World) : (Instr.typeAssert (.iface 120 x) 90 119 true).run Tryz.prog w = .ok (.tuple #[.agg #[.slice none 0 0], .bool false]) w := by kernel_rfl
theorem ta_n1 (w : World) : (Instr.typeAssert .nilIface 90 118 true).run Tryz.prog w = .ok (.tuple #[.agg #[.slice none 0 0], .bool false]) w := by kernel_rfl
theorem ta_n2 (w : World) : (Instr.typeAssert .nilIface 90 119 true).run Tryz.prog w = .ok (.tuple #[.agg #[.slice none 0 0], .bool false]) w := by kernel_rfl
theorem ta_n3 (w : World) : (Instr.typeAssert .nilIface 90 120 true).run Tryz.prog w = .ok (.tuple #[.agg #[.slice none 0 0], .bool false]) w := by kernel_rfl
theorem word_blob (a : Option Addr) (n c : Nat) (w : World) :
  Calls Tryz.prog 70 #[.iface 118 (.agg #[.slice a n c])] w fun e w' => e = .returned (.string ⟨#[98, 108, 111, 98]⟩) ∧ Below w.heap.size w w' := by
 have t1 := ta_same 118 (by simp) (.agg #[.slice a n c]); have B0 := (Below.refl w.heap.size w).alloc (Nat.le_refl _) (.cells #[.slice a n c] 118); have B := hyd B0; clear B0
 go_enter Tryz.func70, Tryz.ntmps70
 go_wp2; go_ret; exact ⟨rfl, B.out⟩
theorem word_tree (a : Option Addr) (n c : Nat) (w : World) :
  Calls Tryz.prog 70 #[.iface 119 (.agg #[.slice a n c])] w fun e w' => e = .returned (.string ⟨#[116, 114, 101, 101]⟩) ∧ Below w.heap.size w w' := by
 have t1 := ta_21 (.agg #[.slice a n c]); have t2 := ta_same 119 (by simp) (.agg #[.slice a n c]); have B0 := (Below.refl w.heap.size w).alloc (Nat.le_refl _) (.cells #[.slice none 0 0] 118); have B1 := B0.alloc B0.size (.cells #[.slice a n c] 119); have B := hyd B1; clear B0 B1
 go_enter Tryz.func70, Tryz.ntmps70
 go_wp2; go_ret; exact ⟨rfl, B.out⟩
theorem word_commit (a : Option Addr) (n c : Nat) (w : World) :
  Calls Tryz.prog 70 #[.iface 120 (.agg #[.slice a n c])] w fun e w' => e = .returned (.string ⟨#[99, 111, 109, 109, 105, 116]⟩) ∧ Below w.heap.size w w' := by
 have t1 := ta_31 (.agg #[.slice a n c]); have t2 := ta_32 (.agg #[.slice a n c]); have t3 := ta_same 120 (by simp) (.agg #[.slice a n c]); have B0 := (Below.refl w.heap.size w).alloc (Nat.le_refl _) (.cells #[.slice none 0 0] 118); have B1 := B0.alloc B0.size (.cells #[.slice none 0 0] 119); have B2 := B1.alloc B1.size (.cells #[.slice a n c] 120); have B := hyd B2; clear B0 B1 B2
 go_enter Tryz.func70, Tryz.ntmps70
 go_wp2; go_ret; exact ⟨rfl, B.out⟩
theorem word_nil (w : World) :
  Calls Tryz.prog 70 #[.nilIface] w fun e w' => e = .returned (.string ⟨#[]⟩) ∧ Below w.heap.size w w' := by
 have t1 := ta_n1; have t2 := ta_n2; have t3 := ta_n3; have B0 := (Below.refl w.heap.size w).alloc (Nat.le_refl _) (.cells #[.slice none 0 0] 118); have B1 := B0.alloc B0.size (.cells #[.slice none 0 0] 119); have B2 := B1.alloc B1.size (.cells #[.slice none 0 0] 120); have B := hyd B2; clear B0 B1 B2
 go_enter Tryz.func70, Tryz.ntmps70
 go_wp2; go_ret; exact ⟨rfl, B.out⟩
theorem kindO_dec (k : Int) : kindO k ∨ ¬ kindO k := Classical.em _
theorem oword_is (k : Int) (a : Option Addr) (n c : Nat) (w : World) :
  Calls Tryz.prog 70 #[thingV k (.slice a n c)] w fun e w' => e = .returned (.string ⟨(wordO k).toArray⟩) ∧ Below w.heap.size w w' := by
 rcases kindO_dec k with h | h
 ·rcases h with rfl | rfl | rfl
  ·exact word_blob a n c w
  ·exact word_tree a n c w
  ·exact word_commit a n c w
 ·rw [thing_none k _ h, wordO_not k h]
  exact word_nil w
theorem m_size (T : TypeId) (hT : T = 118 ∨ T = 119 ∨ T = 120) (x : Value) (w : World) : (method 404 T (.agg #[x]) "trestle/object.size").run Tryz.prog w = .ok (256, x) w := by
 rcases hT with rfl | rfl | rfl <;> kernel_rfl
theorem size_is (a : Option Addr) (n c : Nat) (w : World) :
  Calls Tryz.prog 256 #[.slice a n c] w fun e w' => e = .returned (.int .i64 n) ∧ w = w' := by
 go_enter Tryz.func256, Tryz.ntmps256
 go_wp2; go_ret; exact ⟨rfl, rfl⟩
theorem head_none (w : World) : Calls Tryz.prog 45 #[.nilIface] w fun e w' => e = .returned (.tuple #[.slice none 0 0, .int .i64 10]) ∧ Below w.heap.size w w' := by
 have cW := fun w => word_nil w
 go_enter Tryz.func45, Tryz.ntmps45
 go_wp2_with fail
 refine (cW _).mono ?_; rintro e w1 ⟨rfl, b1⟩; have B1 := hyd b1; clear b1; go_wp2
 go_ret2
 exact ⟨rfl, B1.out⟩
theorem head_limit (T : TypeId) (hT : T = 118 ∨ T = 119 ∨ T = 120) (a : Option Addr) (n c : Nat) (wd : List UInt8) (hwd : wd ≠ [])
  (hw : ∀ w, Calls Tryz.prog 70 #[.iface T (.agg #[.slice a n c])] w fun e w' => e = .returned (.string ⟨wd.toArray⟩) ∧ Below w.heap.size w w') (hn : 65536 < n) (hm : n ≤ maxLen) (w : World) :
  Calls Tryz.prog 45 #[.iface T (.agg #[.slice a n c])] w fun e w' => e = .returned (.tuple #[.slice none 0 0, .int .i64 5]) ∧ Below w.heap.size w w' := by
 unfold maxLen at hm
 have fe : (wd == ([] : List UInt8)) = false := by rw [beq_eq_false_iff_ne]; exact hwd
 have fi : wd.isEmpty = false := by cases wd with | nil => exact absurd rfl hwd | cons _ _ => rfl
 have m := m_size T hT (.slice a n c)
 have cs := fun w => size_is a n c w
 clear hT hwd
 go_enter Tryz.func45, Tryz.ntmps45
 go_wp2_with fail
 refine (hw _).mono ?_; rintro e w1 ⟨rfl, b1⟩; have B1 := hyd b1; clear b1
 go_wp2_with fail
 refine (cs _).mono ?_; rintro e w2 ⟨rfl, rfl⟩; go_wp2
 go_ret2
 exact ⟨rfl, B1.out⟩
theorem head_ok (T : TypeId) (hT : T = 118 ∨ T = 119 ∨ T = 120) (a : Option Addr) (n c : Nat) (wd : List UInt8) (hwd : wd ≠ []) (wl : wd.length ≤ 6)
  (hw : ∀ w, Calls Tryz.prog 70 #[.iface T (.agg #[.slice a n c])] w fun e w' => e = .returned (.string ⟨wd.toArray⟩) ∧ Below w.heap.size w w') (hn : n ≤ 65536) (w : World) (tab : Tab w) :
  Calls Tryz.prog 45 #[.iface T (.agg #[.slice a n c])] w fun e w' => ∃ g cap, e = .returned (.tuple #[.slice (some ⟨g, 0, none⟩) (wd ++ 32 :: numO n ++ [0]).length cap, .int .i64 0]) ∧ RowX w' g cap (wd ++ 32 :: numO n ++ [0]) ∧ w.heap.size ≤ g ∧ Below w.heap.size w w' := by
 have fe : (wd == ([] : List UInt8)) = false := by rw [beq_eq_false_iff_ne]; exact hwd
 have fi : wd.isEmpty = false := by cases wd with | nil => exact absurd rfl hwd | cons _ _ => rfl
 have m := m_size T hT (.slice a n c)
 have cs := fun w => size_is a n c w
 have hO : wd ++ 32 :: numO n ++ [0] = wd ++ [32] ++ numO n ++ [0] := by simp
 rw [hO]; have nl : (numO n).length ≤ 5 := numO_le n 4 (by omega)
 have cN := fun w t => Number_any (n : Int) (by omega) (by omega) w t
 rw [show Lib.itoa (n : Int) = numO n from rfl] at cN; generalize numO n = nm at cN nl ⊢
 have ad0 := fun w => add_lists (P := Tryz.prog) w wd [32] (by simp; omega)
 have ad1 := fun w => add_lists (P := Tryz.prog) w (wd ++ [32]) nm (by simp; omega)
 have ad2 := fun w => add_lists (P := Tryz.prog) w (wd ++ [32] ++ nm) [0] (by simp; omega)
 obtain ⟨hd, hhd⟩ : ∃ hd, wd ++ [32] ++ nm ++ [0] = hd := ⟨_, rfl⟩
 have hdl : hd.length ≤ 13 := by rw [← hhd]; simp; omega
 rw [hhd] at ad2 ⊢; have SR := hyd (fun w => str_row w hd (by omega)); generalize (⟨hd.toArray⟩ : ByteArray) = s3 at ad2 SR; generalize (⟨(wd ++ [32] ++ nm).toArray⟩ : ByteArray) = s2 at ad1 ad2; generalize (⟨(wd ++ [32]).toArray⟩ : ByteArray) = s1 at ad0 ad1; generalize (⟨nm.toArray⟩ : ByteArray) = sn at ad1 cN; have TB := hyd tab
 have hn2 : n ≤ 1000000 := by omega
 obtain ⟨hl, hhl⟩ : ∃ hl, hd.length = hl := ⟨_, rfl⟩; have HHL := hyd hhl; rw [hhl] at SR hdl ⊢; clear hT hwd tab hO hhd nl hhl
 go_enter Tryz.func45, Tryz.ntmps45
 go_wp2_with fail
 refine (hw _).mono ?_; rintro e w1 ⟨rfl, b1⟩; have B1 := hyd b1; clear b1
 go_wp2_with fail
 refine (cs _).mono ?_; rintro e w2 ⟨rfl, rfl⟩
 go_wp2_with fail
 refine (cN _ (TB.out.keep B1.out)).mono ?_; rintro e w3 ⟨rfl, b3⟩; obtain ⟨cap, w4, cv, b4, r4⟩ := SR.out w3; have B4 := hyd ((B1.out.trans (b3.mono B1.out.size)).trans (b4.mono (Nat.le_trans B1.out.size b3.size))); have HS := hyd (Nat.le_trans B1.out.size b3.size); have R4 := hyd r4; clear b3 b4 r4; go_wp2
 go_ret2
 exact ⟨_, _, rfl, R4.out, HS.out, B4.out⟩
theorem add_zero (w : World) (g : Nat) (T : Nat → UInt8) (p n : Nat) (A : Option Addr) (c : Nat) (hst : StT w g T p n) (hns : n ≤ 1099511627776) :
  Calls Tryz.prog 73 #[.pointer (some ⟨g, 0, none⟩), .slice A 0 c] w fun e w' => e = .returned (.tuple #[]) ∧ w.grownBy w' (some g) ∧ StT w' g T (p + 0) (n + 0) := by
 obtain ⟨cs, hg, hc⟩ := hst; have q70 : w.cell? ⟨g, 70, none⟩ = some (.int .u64 n) := (cell_of_row w g 70 cs _ _ hg).trans hc.len; have z70 := not_frozen hg 70; have hgl := lt_of_heap hg; have HG := hyd hg; clear hg; have HS := hyd hc; clear hc
 go_enter Tryz.func73, Tryz.ntmps73
 go_wp2_with fail
 refine wp_loop_rounds 1 ?_; rw [rounds_succ]
 go_wp2_with fail
 first | go_end0 | (simp only [Exit.inBlock, Exit.then]; refine bodyPost_ret (results_none rfl _ _ _) rfl ?_) | refine bodyPost_ret (results_none rfl _ _ _) rfl ?_
 refine ⟨rfl, grown_set w g 70 _, ?_⟩
 have e : ∀ i, i ≠ 70 → (cs.setIfInBounds 70 (.int .u64 (n : Int)))[i]? = cs[i]? := fun i hi => by rw [set_get _ _ _ _ (by rw [HS.out.words.size]; omega), if_neg hi]
 refine ⟨_, heap_set HG.out 70 _, ⟨⟨by simp [HS.out.words.size], fun i hi => by rw [e i (by omega)]; exact HS.out.words.word i hi⟩, fun i hi => by rw [e _ (by omega)]; exact HS.out.bytes i hi, by rw [e 69 (by omega)]; exact HS.out.fill, ?_⟩⟩; rw [set_get _ _ _ _ (by rw [HS.out.words.size]; omega), if_pos rfl]; rfl
theorem add_part (w : World) (g : Nat) (T : Nat → UInt8) (p n : Nat) (A : Option Addr) (N c : Nat) (hst : StT w g T p n) (hNs : n + N ≤ 1099511627776)
  (hp : 0 < N → ∃ b o, A = some ⟨b, o, none⟩ ∧ b ≠ g ∧ b < w.heap.size ∧ N ≤ c ∧ ∀ i, i < N → w.cell? ⟨b, o + i, none⟩ = some (.int .u8 (T (p + i)).toNat)) :
  Calls Tryz.prog 73 #[.pointer (some ⟨g, 0, none⟩), .slice A N c] w fun e w' => e = .returned (.tuple #[]) ∧ w.grownBy w' (some g) ∧ StT w' g T (p + N) (n + N) := by
 by_cases h : 0 < N
 ·obtain ⟨b, o, rfl, h1, h2, h3, h4⟩ := hp h
  exact add_some w g T p n b o N c hst h1 h2 h3 hNs h4
 ·obtain rfl : N = 0 := by omega
  exact add_zero w g T p n A c hst (by omega)
structure PartsO (w : World) (A : Option Addr) (n : Nat) (l : List UInt8) where
 b : Nat
 o : Nat
 addr : 0 < n → A = some ⟨b, o, none⟩ ∧ b < w.heap.size
 pa : Nat → Option Addr
 pn : Nat → Nat
 pc : Nat → Nat
 ofs : Nat → Nat
 row : ∀ i, i < n → w.cell? ⟨b, o + i, none⟩ = some (.slice (pa i) (pn i) (pc i))
 old : ∀ i, i < n → 0 < pn i → ∃ pb po, pa i = some ⟨pb, po, none⟩ ∧ pb < w.heap.size ∧ pn i ≤ pc i ∧ ∀ k, k < pn i → w.cell? ⟨pb, po + k, none⟩ = some (.int .u8 (l.getD (ofs i + k) 0).toNat)
 zero : ofs 0 = 0
 next : ∀ i, i < n → ofs (i + 1) = ofs i + pn i
 full : ofs n = l.length
theorem PartsO.mono {w : World} {A : Option Addr} {n : Nat} {l : List UInt8} (p : PartsO w A n l) (i : Nat) (hi : i ≤ n) : p.ofs i ≤ l.length := by
 rw [← p.full]
 have : ∀ d, i + d ≤ n → p.ofs i ≤ p.ofs (i + d) := by
  intro d
  induction d with
  | zero => intro _; exact Nat.le_refl _
  | succ d ih => intro h; rw [← Nat.add_assoc, p.next (i + d) (by omega)]; have := ih (by omega); omega
 have h := this (n - i) (by omega)
 rwa [show i + (n - i) = n by omega] at h
theorem SumO_any (w : World) (A : Option Addr) (n c : Nat) (l : List UInt8) (hl : l.length ≤ 1000000) (hn : n ≤ 1000000) (ps : PartsO w A n l) :
  Calls Tryz.prog 48 #[.slice A n c] w fun e w' => e = .returned (idv (sumL l)) ∧ Below w.heap.size w w' := by
 obtain ⟨z, hz, hze⟩ := z29; have hzv := zero_arr hz
 have hzs : z.size = 20 := by rw [hze]; simp
 have hz4 := zero_arr (n := 71) z40; have hb40 := built40; obtain ⟨s0, hs0⟩ : ∃ s0, s0 = st0 := ⟨_, rfl⟩; obtain ⟨zz, hzz⟩ : ∃ zz, zz = zer40 := ⟨_, rfl⟩; rw [← hs0] at hb40; rw [← hzz] at hz4; have HB40 := hyd hb40; have HS0 := hyd hs0; have HZZ := hyd hzz; have HZS := hyd hzs; clear hz hze hb40 hs0 hzz hzs
 go_enter Tryz.func48, Tryz.ntmps48
 go_wp2_with (first
  | (with_reducible refine wpList_build_as rfl 124 _ rfl w5 ?w5 ?_)
  | (with_reducible refine wpList_build_as rfl 128 _ rfl s0 ?b40 ?_)
  | (with_reducible refine wpList_store_row rfl 128 (.tmp 3) (.tmp 7) rfl (w.heap.size + 1) s0 rfl rfl 128 zz ?sg ?si ?so ?s1 ?_))
 case w5 => kernel_rfl
 case b40 => exact HB40.out
 case sg => rw [show w.heap.size + 1 = (w.alloc (.cells z 24)).heap.size by simp]; exact heap_alloc_new _ _
 case si => rw [HS0.out, info40, st0_size]
 case so => rw [HS0.out, HZZ.out, st0_size, zer40_size]
 case s1 => rw [HS0.out]; exact st0_all
 generalize hwS : (((w.alloc (.cells z 24)).alloc (.cells zz 128)).setRow (w.heap.size + 1) s0) = w0
 have hnew : ((w.alloc (.cells z 24)).alloc (.cells zz 128)).heap[w.heap.size + 1]? = some (.cells zz 128 (0, 0)) := by
  rw [show w.heap.size + 1 = (w.alloc (.cells z 24)).heap.size by simp]; exact heap_alloc_new _ _
 have hst0 : StT w0 (w.heap.size + 1) (padF l) 0 0 := by
  subst hwS; exact ⟨s0, setRow_heap _ _ zz s0 _ _ hnew, by rw [HS0.out]; exact st0_StC _⟩
 have hb0 : Below w.heap.size w w0 := by
  subst hwS; exact below_setRow (((Below.refl _ w).alloc (Nat.le_refl _) _).alloc (by simp) _) (by omega) s0
 have hr0 : w0.heap[w.heap.size]? = some (.cells z 24 (0, 0)) := by
  subst hwS; rw [setRow_other _ _ _ _ (by omega)]; exact two_new w _ _
 clear hwS hnew; have hmo := ps.mono; obtain ⟨b, o, addr, pa, pn, pc, ofs, row, old, zero, next, full⟩ := ps; simp only at hmo; have MO := hyd hmo; have AD := hyd addr; have RO := hyd row; have OL := hyd old; have ZE := hyd zero; have NE := hyd next; have FU := hyd full; clear hmo addr row old zero next full
 go_loopw [10] (fun v wr => ∃ k : Nat, k ≤ n ∧ v = .int .i64 k ∧ StT wr (w.heap.size + 1) (padF l) (ofs k) (ofs k) ∧ wr.heap[w.heap.size]? = some (.cells z 24 (0, 0)) ∧ Below w.heap.size w wr) (fun v _ => n - (intOf v).toNat)
 case atStart => exact ⟨0, Nat.zero_le _, rfl, by rw [ZE.out]; exact hst0, hr0, hb0⟩
 case round =>
  clear hst0 hb0 hr0; obtain ⟨k, hk, rfl, hst, hr, hb⟩ := hrel; have HR := hyd hr; clear hr; have HST := hyd hst; clear hst
  by_cases hlt : k < n
  ·obtain ⟨hA, hbl⟩ := AD.out (by omega)
   subst hA; have q : wr.cell? ⟨b, o + k, none⟩ = some (.slice (pa k) (pn k) (pc k)) := (hb.cell (p := ⟨b, o + k, none⟩) hbl).trans (RO.out k hlt); have h1 := NE.out k hlt; have h2 := MO.out (k + 1) (by omega)
   have C := hyd (add_part wr (w.heap.size + 1) (padF l) (ofs k) (ofs k) (pa k) (pn k) (pc k) HST.out (by omega) (fun hp => by
    obtain ⟨xb, xo, o1, o2, o3, o4⟩ := OL.out k hlt hp
    exact ⟨xb, xo, o1, by omega, by have := hb.size; omega, o3, fun i hi => by rw [hb.cell (p := ⟨xb, xo + i, none⟩) o2, o4 i hi, padF_in _ _ (by omega)]⟩))
   have H1 := hyd h1; clear h1 h2 hbl; generalize pa k = pak at q C; generalize hpn : pn k = pnk at q C H1; generalize pc k = pck at q C; clear hpn
   go_wp2_with fail
   refine C.out.mono ?_; rintro e w4 ⟨rfl, hg4, hs4⟩; have hb4 : Below w.heap.size w w4 := hb.grown hg4 hb.size (fun j hj => by cases hj; omega); have hr4 : w4.heap[w.heap.size]? = some (.cells z 24 (0, 0)) := (hg4.block _ (lt_of_heap HR.out) (by simp)).trans HR.out; rw [← H1.out] at hs4; clear C hg4; go_wp2
   go_roundw
   case rel => exact ⟨k + 1, by omega, by go_num, hs4, hr4, hb4⟩
   case measure => simp [intOf]; omega
  ·obtain rfl : k = n := by omega
   have hs := HST.out; rw [FU.out] at hs; have C := hyd (end_any wr (w.heap.size + 1) l hl hs); clear hs
   go_wp2_with fail
   refine C.out.mono ?_; rintro e w4 ⟨rfl, hg4, cs4, hh4, hs4⟩; have hb4 : Below w.heap.size w w4 := hb.grown hg4 hb.size (fun j hj => by cases hj; omega); have hr4 : w4.heap[w.heap.size]? = some (.cells z 24 (0, 0)) := (hg4.block _ (lt_of_heap HR.out) (by simp)).trans HR.out; clear C hg4; have C := hyd (id_any w4 (w.heap.size + 1) cs4 _ hh4 hs4.words); have e1 : (digest (hs (padF l) (padLen l.length / 64))) = sumL l := rfl; rw [e1] at C; clear e1 hs4; have hsl : (sumL l).length = 20 := digest_len _; unfold idv at C; have hall := bc_all (sumL l); obtain ⟨arr, harr⟩ : ∃ arr, arr = (Lib.byteCells (sumL l)).toArray := ⟨_, rfl⟩; rw [← harr] at C hall
   have hasz : arr.size = 20 := by rw [harr]; simp [bc_len, hsl]
   have HARR := hyd harr; have HALL := hyd hall; have HASZ := hyd hasz; clear harr hall hasz hsl
   go_wp2_with fail
   refine C.out.mono ?_; rintro e w5' ⟨rfl, hb5⟩; have hb6 : Below w.heap.size w w5' := hb4.trans (hb5.mono hb4.size); have hr5 : w5'.heap[w.heap.size]? = some (.cells z 24 (0, 0)) := (hb5.block _ (lt_of_heap hr4)).trans hr4; have HR5 := hyd hr5; clear hr5 hr4 hb5 hb4 C hh4
   go_wp2_with (with_reducible refine wpList_store_row rfl 24 (.tmp 2) (.tmp 18) rfl w.heap.size arr rfl rfl 24 z ?tg ?ti ?to9 ?t1 ?_)
   case tg => exact HR5.out
   case ti => rw [info29, HASZ.out]
   case to9 => rw [HZS.out, HASZ.out]
   case t1 => exact HALL.out
   refine bodyPost_ret (results_cell_row Tryz.results48 _ _ w.heap.size 24 arr (0, 0) _ rfl (setRow_heap w5' w.heap.size z arr _ (0, 0) HR5.out) Tryz.underlying24 rfl (by rw [info29, HASZ.out])) rfl ⟨by rw [HARR.out]; rfl, below_setRow hb6 (Nat.le_refl _) arr⟩
def PartAt (w : World) (v : Value) (l : List UInt8) : Prop := ∃ a c, v = .slice a l.length c ∧ BAt w a l ∧ (a = none → l.length = 0 ∧ c = 0) ∧ l.length ≤ c ∧ l.length ≤ maxLen
def PartsC (w : World) (pa : Option Addr) (ls : List (List UInt8)) : Prop :=
 0 < ls.length → ∃ b o, pa = some ⟨b, o, none⟩ ∧ b < w.heap.size ∧ ∀ i (h : i < ls.length), ∃ v, w.cell? ⟨b, o + i, none⟩ = some v ∧ PartAt w v ls[i]
theorem PartAt.below {w w' : World} {v : Value} {l : List UInt8} (h : PartAt w v l) {B : Nat} (hb : Below B w w') (hB : w.heap.size ≤ B) : PartAt w' v l := by
 obtain ⟨a, c, h1, h2, h3⟩ := h; exact ⟨a, c, h1, h2.below hb hB, h3⟩
theorem PartsC.pin {w : World} {pa : Option Addr} {ls : List (List UInt8)} (h : PartsC w pa ls) : PartsIn (fun _ => True) w pa ls := fun hp => by
 obtain ⟨b, o, h1, h2, h3⟩ := h hp; refine ⟨b, o, h1, trivial, h2, fun i hi => ?_⟩; obtain ⟨v, g1, a, c, rfl, g2, g3, g4, g5⟩ := h3 i hi; exact ⟨a, c, g1, (fun hp => by obtain ⟨x, y, k1, k2, k3⟩ := g2 hp; exact ⟨x, y, k1, trivial, k2, k3⟩), g3, g5⟩
theorem flatten_at (ls : List (List UInt8)) (i : Nat) (hi : i < ls.length) (k : Nat) (hk : k < (ls[i]).length) : ls.flatten.getD (total (ls.take i) + k) 0 = (ls[i]).getD k 0 := by
 have e : ls.flatten = (ls.take i).flatten ++ (ls[i] ++ (ls.drop (i + 1)).flatten) := by
  conv => lhs; rw [← List.take_append_drop i ls, List.drop_eq_getElem_cons hi]
  rw [List.flatten_append, List.flatten_cons]
 rw [e, List.getD_eq_getElem?_getD, List.getD_eq_getElem?_getD]; unfold total; rw [List.getElem?_append_right (by omega), Nat.add_sub_cancel_left, List.getElem?_append_left hk]
theorem PartsC.po {w : World} {pa : Option Addr} {ls : List (List UInt8)} (h : PartsC w pa ls) : Nonempty (PartsO w pa ls.length ls.flatten) := by
 by_cases hp : 0 < ls.length
 ·obtain ⟨b, o, h1, h2, h3⟩ := h hp
  have each : ∀ i, ∃ y : Option Addr × Nat, ∀ (hi : i < ls.length), w.cell? ⟨b, o + i, none⟩ = some (.slice y.1 (ls[i]).length y.2) ∧ BAt w y.1 ls[i] ∧ (ls[i]).length ≤ y.2 := fun i => by
   by_cases hi : i < ls.length
   ·obtain ⟨v, g1, a, c, rfl, g2, _, g4, _⟩ := h3 i hi
    exact ⟨(a, c), fun _ => ⟨g1, g2, g4⟩⟩
   ·exact ⟨(none, 0), fun h => absurd h hi⟩
  obtain ⟨y, hy⟩ := Classical.axiomOfChoice each; refine ⟨{ b := b, o := o, addr := fun _ => ⟨h1, h2⟩, pa := fun i => (y i).1, pn := fun i => (ls.getD i []).length, pc := fun i => (y i).2, ofs := fun i => total (ls.take i), row := fun i hi => ?_, old := fun i hi hpos => ?_, zero := by simp [total], next := fun i hi => ?_, full := by rw [List.take_length]; rfl }⟩
  ·rw [List.getD_eq_getElem?_getD, List.getElem?_eq_getElem hi]; exact (hy i hi).1
  ·have e : ls.getD i [] = ls[i] := by rw [List.getD_eq_getElem?_getD, List.getElem?_eq_getElem hi]; rfl
   rw [e] at hpos ⊢; obtain ⟨xb, xo, k1, k2, k3⟩ := (hy i hi).2.1 hpos; refine ⟨xb, xo, k1, k2, (hy i hi).2.2, fun k hk => ?_⟩; rw [k3 k hk, flatten_at ls i hi k hk]
   simp [hk]
  ·have e : ls.getD i [] = ls[i] := by rw [List.getD_eq_getElem?_getD, List.getElem?_eq_getElem hi]; rfl
   rw [e]; exact total_step ls i hi
 ·obtain rfl : ls = [] := List.eq_nil_of_length_eq_zero (by omega)
  exact ⟨{ b := 0, o := 0, addr := fun h => absurd h (Nat.lt_irrefl 0), pa := fun _ => none, pn := fun _ => 0, pc := fun _ => 0, ofs := fun _ => 0, row := fun i h => absurd h (Nat.not_lt_zero _), old := fun i h => absurd h (Nat.not_lt_zero _), zero := rfl, next := fun i h => absurd h (Nat.not_lt_zero _), full := rfl }⟩
theorem Sum_parts (w : World) (A : Option Addr) (n c : Nat) (ls : List (List UInt8)) (hn : n = ls.length) (h1 : n ≤ 1000) (hl : ls.flatten.length ≤ 1000000) (hp : PartsC w A ls) :
  Calls Tryz.prog 48 #[.slice A n c] w fun e w' => e = .returned (idv (sumL ls.flatten)) ∧ Below w.heap.size w w' := by
 subst hn; obtain ⟨po⟩ := hp.po; exact SumO_any w A ls.length c ls.flatten hl (by omega) po
theorem Concat_parts (w : World) (A : Option Addr) (n c : Nat) (ls : List (List UInt8)) (hn : n = ls.length) (h1 : n ≤ 1000) (h0 : 0 < ls.flatten.length) (hl : ls.flatten.length ≤ 16777216) (hp : PartsC w A ls) :
  Calls Tryz.prog 47 #[.slice A n c] w fun e w' => ∃ v', e = .returned v' ∧ Row w' v' ls.flatten ∧ (∀ g, foot v' = some g → w.heap.size ≤ g) ∧ Below w.heap.size w w' :=
 Concat_any _ A n c ls w hp.pin hn h1 h0 hl
theorem parts2 {w : World} {x y : Value} {l m : List UInt8} (t : TypeId) (hx : PartAt w x l) (hy : PartAt w y m) : PartsC (w.alloc (.cells #[x, y] t)) (some ⟨w.heap.size, 0, none⟩) [l, m] := fun _ =>
 ⟨_, _, rfl, by simp, fun i hi => by
  have hi2 : i < 2 := hi
  match i, hi2 with
  | 0, _ => exact ⟨x, (cell_of_row _ _ 0 _ _ _ (heap_alloc_new w _)).trans rfl, hx.below ((Below.refl w.heap.size w).alloc (Nat.le_refl _) _) (Nat.le_refl _)⟩
  | 1, _ => exact ⟨y, (cell_of_row _ _ 1 _ _ _ (heap_alloc_new w _)).trans rfl, hy.below ((Below.refl w.heap.size w).alloc (Nat.le_refl _) _) (Nat.le_refl _)⟩⟩
theorem head_is (k : Int) (hk : kindO k) (a : Option Addr) (n c : Nat) (hn : n ≤ 65536) (w : World) (tab : Tab w) :
  Calls Tryz.prog 45 #[thingV k (.slice a n c)] w fun e w' => ∃ g cap, e = .returned (.tuple #[.slice (some ⟨g, 0, none⟩) (headO k n ++ [0]).length cap, .int .i64 0]) ∧ RowX w' g cap (headO k n ++ [0]) ∧ w.heap.size ≤ g ∧ Below w.heap.size w w' := by
 have hwd : wordO k ≠ [] := fun h => (wordO_nil k).1 h hk
 have cw := fun w => oword_is k a n c w
 unfold headO
 rcases hk with rfl | rfl | rfl
 ·exact head_ok _ (.inl rfl) a n c _ hwd (wordO_len _) cw hn w tab
 ·exact head_ok _ (.inr (.inl rfl)) a n c _ hwd (wordO_len _) cw hn w tab
 ·exact head_ok _ (.inr (.inr rfl)) a n c _ hwd (wordO_len _) cw hn w tab
theorem head_long (k : Int) (hk : kindO k) (a : Option Addr) (n c : Nat) (hn : 65536 < n) (hm : n ≤ maxLen) (w : World) :
  Calls Tryz.prog 45 #[thingV k (.slice a n c)] w fun e w' => e = .returned (.tuple #[.slice none 0 0, .int .i64 5]) ∧ Below w.heap.size w w' := by
 have hwd : wordO k ≠ [] := fun h => (wordO_nil k).1 h hk
 have cw := fun w => oword_is k a n c w
 rcases hk with rfl | rfl | rfl
 ·exact head_limit _ (.inl rfl) a n c _ hwd cw hn hm w
 ·exact head_limit _ (.inr (.inl rfl)) a n c _ hwd cw hn hm w
 ·exact head_limit _ (.inr (.inr rfl)) a n c _ hwd cw hn hm w
theorem head_bad (k : Int) (a : Option Addr) (n c : Nat) (l : List UInt8) (hn : n = l.length) (hm : n ≤ maxLen) (he : (printO k l).2 ≠ 0) (w : World) :
  Calls Tryz.prog 45 #[thingV k (.slice a n c)] w fun e w' => e = .returned (.tuple #[.slice none 0 0, .int .i64 (printO k l).2]) ∧ Below w.heap.size w w' := by
 by_cases hk : kindO k
 ·by_cases hl : l.length ≤ 65536
  ·rw [printO_ok k l hk hl] at he; exact absurd rfl he
  ·rw [printO_limit k l hk (by omega)]
   exact head_long k hk a n c (by omega) hm w
 ·rw [printO_kind k l hk, thing_none k _ hk]
  exact head_none w
theorem oPrint_bad (k : Int) (a : Option Addr) (n c : Nat) (l : List UInt8) (w : World) (hn : n = l.length) (hm : n ≤ maxLen) (he : (printO k l).2 ≠ 0) :
  Calls Tryz.prog 17 #[.agg #[.int .i64 k, .slice a n c]] w fun e w' => e = .returned (.tuple #[.slice none 0 0, .int .i64 (printO k l).2]) ∧ Below w.heap.size w w' := by
 have c1 := fun w => typed_is k a n c w
 have c2 := fun w => head_bad k a n c l hn hm he w
 obtain ⟨x, hx⟩ : ∃ x, (printO k l).2 = x := ⟨_, rfl⟩; rw [hx] at c2 he ⊢
 have hxb : (x != 0) = true := by simp [he]
 generalize thingV k (.slice a n c) = t at c1 c2; have B0 := hyd ((Below.refl w.heap.size w).alloc (Nat.le_refl _) (.cells #[.int .i64 k, .slice a n c] 34)); clear hx hn hm
 go_enter Tryz.func17, Tryz.ntmps17
 go_wp2_with fail
 refine (c1 _).mono ?_; rintro e w1 ⟨rfl, b1⟩; have B1 := hyd (B0.out.trans (b1.mono (by simp))); clear b1
 go_wp2_with fail
 refine (c2 _).mono ?_; rintro e w2 ⟨rfl, b2⟩; have B2 := hyd (B1.out.trans (b2.mono B1.out.size)); clear b2; go_wp2
 go_ret2
 exact ⟨rfl, B2.out⟩
theorem oPrint_good (k : Int) (hk : kindO k) (a : Option Addr) (n c : Nat) (l : List UInt8) (w : World) (hn : n = l.length) (hl : n ≤ 65536) (hb : BAt w a l) (hno : a = none → n = 0 ∧ c = 0) (hc : n ≤ c) (tab : Tab w) :
  Calls Tryz.prog 17 #[.agg #[.int .i64 k, .slice a n c]] w fun e w' => ∃ v, e = .returned (.tuple #[v, .int .i64 0]) ∧ Row w' v (objO k l) ∧ (∀ g, foot v = some g → w.heap.size ≤ g) ∧ Below w.heap.size w w' := by
 have c1 := fun w => typed_is k a n c w
 have c2 := fun w t => head_is k hk a n c hl w t
 have hol := objO_length k l; have w1 := wordO_len k; have w2 := numO_le l.length 4 (by omega)
 have hO : objO k l = [headO k n ++ [0], l].flatten := by subst hn; unfold objO; simp
 have hdl : (headO k n ++ [0]).length ≤ 13 := by subst hn; unfold headO; simp only [List.length_append, List.length_cons, List.length_nil]; omega
 rw [hO] at hol ⊢; have HPA := hyd (show PartAt w (.slice a n c) l from ⟨a, c, by rw [hn], hb, (fun h => by rw [← hn]; exact hno h), by omega, by unfold maxLen; omega⟩); generalize headO k n ++ [0] = hd at c2 hol hdl ⊢; have HO := hyd (show 0 < [hd, l].flatten.length ∧ [hd, l].flatten.length ≤ 16777216 by omega); obtain ⟨hl2, hhl⟩ : ∃ hl2, hd.length = hl2 := ⟨_, rfl⟩; have HHL := hyd hhl; rw [hhl] at c2 hdl; generalize thingV k (.slice a n c) = t at c1 c2; have b0 := (Below.refl w.heap.size w).alloc (Nat.le_refl _) (.cells #[.int .i64 k, .slice a n c] 34); have h0 := heap_alloc_new w (.cells #[.int .i64 k, .slice a n c] 34); have B0 := hyd b0; have H0 := hyd h0; have TB := hyd tab; clear hk hn hl hb hno hc tab hol w1 w2 hO hhl b0 h0
 go_enter Tryz.func17, Tryz.ntmps17
 go_wp2_with fail
 refine (c1 _).mono ?_; rintro e w1 ⟨rfl, b1⟩; have B1 := hyd (B0.out.trans (b1.mono (by simp))); have H1 := hyd ((b1.block w.heap.size (by simp)).trans H0.out); clear b1
 go_wp2_with fail
 refine (c2 _ (TB.out.keep B1.out)).mono ?_; rintro e w2 ⟨g, cap, rfl, r2, hg2, b2⟩; have H2 := (b2.block w.heap.size (Array.getElem?_eq_some_iff.1 H1.out).1).trans H1.out; have B2 := hyd (B1.out.trans (b2.mono B1.out.size)); have q1 : w2.cell? ⟨w.heap.size, 1, none⟩ = some (.slice a n c) := (Lib.cell_of_heap H2 1).trans rfl; have hp2 := HPA.out.below B2.out (Nat.le_refl _)
 have hx2 : PartAt w2 (.slice (some ⟨g, 0, none⟩) hl2 cap) hd := by
  have hb := r2.bat; obtain ⟨cur, fz, hg, h1, h2, _⟩ := r2; exact ⟨_, cap, by rw [HHL.out], hb, (fun e => nomatch e), h1, by unfold maxLen at h2 ⊢; omega⟩
 have C3 := hyd (Concat_parts _ (some ⟨w2.heap.size, 0, none⟩) 2 2 [hd, l] rfl (by omega) HO.out.1 HO.out.2 (parts2 32 hx2 hp2)); clear b2 hp2 hx2 r2 hg2 H2
 go_wp2_with fail
 refine C3.out.mono ?_; rintro e w3 ⟨v, rfl, hr3, hf3, hb3⟩; rw [show (w2.alloc (.cells #[.slice (some ⟨g, 0, none⟩) hl2 cap, .slice a n c] 32)).heap.size = w2.heap.size + 1 by simp] at hf3 hb3; have B3 := hyd (B2.out.trans ((((Below.refl _ w2).alloc (Nat.le_refl _) _).trans (hb3.mono (by omega))).mono B2.out.size)); have F3 := hyd (fun g hg => Nat.le_trans (Nat.le_trans B2.out.size (Nat.le_succ _)) (hf3 g hg) : ∀ g, foot v = some g → w.heap.size ≤ g); have R3 := hyd hr3; obtain ⟨va, vc, hv, _, _, _, _⟩ := hr3.shape; obtain ⟨vl, hvl⟩ : ∃ vl, [hd, l].flatten.length = vl := ⟨_, rfl⟩; rw [hvl] at hv; subst hv; clear hvl C3 hr3 hf3 hb3; go_wp2
 go_ret2
 exact ⟨_, rfl, R3.out, F3.out, B3.out⟩
theorem Print_any (k : Int) (a : Option Addr) (n c : Nat) (l : List UInt8) (w : World) (hn : n = l.length) (hb : BAt w a l) (hno : a = none → n = 0 ∧ c = 0) (hc : n ≤ c) (hm : c ≤ maxLen) (tab : Tab w) :
  Calls Tryz.prog 17 #[.agg #[.int .i64 k, .slice a n c]] w fun e w' => ∃ v, e = .returned (.tuple #[v, .int .i64 (printO k l).2]) ∧ Row w' v (printO k l).1 ∧ (∀ g, foot v = some g → w.heap.size ≤ g) ∧ Below w.heap.size w w' := by
 by_cases he : (printO k l).2 = 0
 ·have hk : kindO k := by
   by_cases hk : kindO k
   ·exact hk
   ·rw [printO_kind k l hk] at he; exact absurd he (by decide)
  have hl : l.length ≤ 65536 := by
   by_cases hl : l.length ≤ 65536
   ·exact hl
   ·rw [printO_limit k l hk (by omega)] at he; exact absurd he (by decide)
  rw [printO_ok k l hk hl]; exact oPrint_good k hk a n c l w hn (by omega) hb hno hc tab
 ·have h1 : (printO k l).1 = [] := by
   by_cases hk : kindO k
   ·by_cases hl : l.length ≤ 65536
    ·rw [printO_ok k l hk hl] at he; exact absurd rfl he
    ·rw [printO_limit k l hk (by omega)]
   ·rw [printO_kind k l hk]
  rw [h1]; refine (oPrint_bad k a n c l w hn (by omega) he).mono ?_; rintro e w' ⟨rfl, b⟩; exact ⟨_, rfl, Row.nil _ _, (fun g hg => by cases hg), b⟩
theorem good_of {k : Int} {l : List UInt8} (he : (printO k l).2 = 0) : kindO k ∧ l.length ≤ 65536 := by
 have hk : kindO k := by
  by_cases hk : kindO k
  ·exact hk
  ·rw [printO_kind k l hk] at he; exact absurd he (by decide)
 refine ⟨hk, ?_⟩
 by_cases hl : l.length ≤ 65536
 ·exact hl
 ·rw [printO_limit k l hk (by omega)] at he; exact absurd he (by decide)
theorem Id_is (k : Int) (a : Option Addr) (n c : Nat) (l : List UInt8) (w : World) (hn : n = l.length) (hb : BAt w a l) (hno : a = none → n = 0 ∧ c = 0) (hc : n ≤ c) (hm : c ≤ maxLen) (tab : Tab w) :
  Calls Tryz.prog 18 #[.agg #[.int .i64 k, .slice a n c]] w fun e w' => e = .returned (idv (sumO k l)) ∧ Below w.heap.size w w' := by
 obtain ⟨z, hz, hze⟩ := z29; have hzv := zero_arr hz
 have hzs : z.size = 20 := by rw [hze]; simp
 have b00 := (Below.refl w.heap.size w).alloc (Nat.le_refl _) (.cells #[.int .i64 k, .slice a n c] 34); have b0 := b00.alloc b00.size (.cells z 24)
 have r0 : ((w.alloc (.cells #[.int .i64 k, .slice a n c] 34)).alloc (.cells z 24)).heap[w.heap.size + 1]? = some (.cells z 24 (0, 0)) := by
  rw [show w.heap.size + 1 = (w.alloc (.cells #[.int .i64 k, .slice a n c] 34)).heap.size by simp]; exact heap_alloc_new _ _
 have o0 : ((w.alloc (.cells #[.int .i64 k, .slice a n c] 34)).alloc (.cells z 24)).heap[w.heap.size]? = some (.cells #[.int .i64 k, .slice a n c] 34 (0, 0)) :=
  (((Below.refl _ _).alloc (Nat.le_refl _) _ : Below (w.alloc (.cells #[.int .i64 k, .slice a n c] 34)).heap.size _ _).block w.heap.size (by simp)).trans (heap_alloc_new w _)
 have s0 : w.heap.size + 1 < ((w.alloc (.cells #[.int .i64 k, .slice a n c] 34)).alloc (.cells z 24)).heap.size := (Array.getElem?_eq_some_iff.1 r0).1
 have hall : z.all (·.oneCell') = true := by rw [hze]; exact bc_all (List.replicate 20 0)
 have c1 := fun w => typed_is k a n c w
 unfold sumO
 by_cases he : (printO k l).2 = 0
 ·rw [if_pos he]
  obtain ⟨hk, hl⟩ := good_of he
  have c2 := fun w t => head_is k hk a n c (by omega) w t
  have hO : (printO k l).1 = [headO k n ++ [0], l].flatten := by rw [printO_ok k l hk hl]; subst hn; unfold objO; simp
  have hpl := printO_len k l he; rw [hO] at hpl ⊢; have HPA := hyd (show PartAt w (.slice a n c) l from ⟨a, c, by rw [hn], hb, (fun h => by rw [← hn]; exact hno h), by omega, by omega⟩); generalize headO k n ++ [0] = hd at c2 hpl ⊢; generalize thingV k (.slice a n c) = t at c1 c2; obtain ⟨hl2, hhl⟩ : ∃ hl2, hd.length = hl2 := ⟨_, rfl⟩; have HHL := hyd hhl; rw [hhl] at c2; obtain ⟨m, hfm⟩ : ∃ m, [hd, l].flatten = m := ⟨_, rfl⟩; have HFM := hyd hfm; rw [hfm] at hpl ⊢; obtain ⟨arr, hia, haa⟩ := idv_cells (sumL m)
  have hasz : arr.size = 20 := by rw [haa]; simp [bc_len, sumL, digest_len]
  have hall : arr.all (·.oneCell') = true := by rw [haa]; exact bc_all _
  have HASZ := hyd hasz; have HALL := hyd hall; have HIA := hyd hia; have HPL := hyd hpl; have HB0 := hyd b0; have HR0 := hyd r0; have HO0 := hyd o0; have HZS := hyd hzs; have HS0 := hyd s0; have TB := hyd tab; clear b00 b0 r0 o0 s0 he hn hb hno hc hm hz hze hzs hk hl hO hhl hfm hpl hasz hall hia haa tab
  go_enter Tryz.func18, Tryz.ntmps18
  go_wp2_with fail
  refine (c1 _).mono ?_; rintro e w1 ⟨rfl, b1⟩; have B1 := hyd (HB0.out.trans (b1.mono HB0.out.size)); have R1 := hyd ((b1.block (w.heap.size + 1) HS0.out).trans HR0.out); have O1 := hyd ((b1.block w.heap.size (Nat.lt_of_succ_lt HS0.out)).trans HO0.out); clear b1 HB0 HR0 HO0 HS0
  go_wp2_with fail
  refine (c2 _ (TB.out.keep B1.out)).mono ?_; rintro e w2 ⟨g, cap, rfl, r2, hg2, b2⟩; have R2 := hyd ((b2.block (w.heap.size + 1) (Array.getElem?_eq_some_iff.1 R1.out).1).trans R1.out); have h2 := (b2.block w.heap.size (Array.getElem?_eq_some_iff.1 O1.out).1).trans O1.out; have B2 := hyd (B1.out.trans (b2.mono B1.out.size)); have q1 : w2.cell? ⟨w.heap.size, 1, none⟩ = some (.slice a n c) := (Lib.cell_of_heap h2 1).trans rfl; have hp2 := HPA.out.below B2.out (Nat.le_refl _)
  have hx2 : PartAt w2 (.slice (some ⟨g, 0, none⟩) hl2 cap) hd := by
   have hb := r2.bat; obtain ⟨cur, fz, hg, h1, h2, _⟩ := r2; exact ⟨_, cap, by rw [HHL.out], hb, (fun e => nomatch e), h1, by unfold maxLen at h2 ⊢; omega⟩
  have C3 := Sum_parts _ (some ⟨w2.heap.size, 0, none⟩) 2 2 [hd, l] rfl (by omega) (by rw [HFM.out]; exact HPL.out) (parts2 32 hx2 hp2); rw [HFM.out, HIA.out] at C3; have C4 := hyd C3; clear b2 hp2 hx2 r2 hg2 h2 C3 B1 R1 O1
  go_wp2_with fail
  refine C4.out.mono ?_; rintro e w3 ⟨rfl, hb3⟩; have hb23 := (((Below.refl w2.heap.size w2).alloc (Nat.le_refl _) (.cells #[.slice (some ⟨g, 0, none⟩) hl2 cap, .slice a n c] 32)).trans (hb3.mono (by simp))); have R3 := hyd ((hb23.block (w.heap.size + 1) (Array.getElem?_eq_some_iff.1 R2.out).1).trans R2.out); have B3 := hyd (B2.out.trans (hb23.mono B2.out.size)); clear C4 hb3 hb23
  go_wp2_with (first
   | (with_reducible refine wpList_store_row rfl 24 (.tmp 2) (.tmp 18) rfl (w.heap.size + 1) arr rfl rfl 24 z ?sg ?si ?so ?s1 ?_)
   | fail)
  case sg => exact R3.out
  case si => rw [info29, HASZ.out]
  case so => rw [HZS.out, HASZ.out]
  case s1 => exact HALL.out
  refine bodyPost_ret (results_cell_row Tryz.results18 _ _ (w.heap.size + 1) 24 arr (0, 0) _ rfl (setRow_heap w3 (w.heap.size + 1) z arr _ (0, 0) R3.out) Tryz.underlying24 rfl (by rw [info29, HASZ.out])) rfl ⟨by rw [HIA.out], below_setRow B3.out (Nat.le_succ _) arr⟩
 ·rw [if_neg he]
  have hzi : idv (List.replicate 20 0) = .agg z := by rw [hze]; rfl
  rw [hzi]
  have c2 := fun w => head_bad k a n c l hn (by omega) he w
  obtain ⟨x, hx⟩ : ∃ x, (printO k l).2 = x := ⟨_, rfl⟩; rw [hx] at he c2
  have hxb : (x != 0) = true := by simp [he]
  generalize thingV k (.slice a n c) = t at c1 c2; have HB0 := hyd b0; have HR0 := hyd r0; have HZS := hyd hzs; have HALL := hyd hall; have HS0 := hyd s0; clear b00 b0 r0 o0 s0 hn hb hno hc hm hz hze hzs hzi hx hall tab
  go_enter Tryz.func18, Tryz.ntmps18
  go_wp2_with fail
  refine (c1 _).mono ?_; rintro e w1 ⟨rfl, b1⟩; have B1 := hyd (HB0.out.trans (b1.mono HB0.out.size)); have R1 := hyd ((b1.block (w.heap.size + 1) HS0.out).trans HR0.out); clear b1 HB0 HR0 HS0
  go_wp2_with fail
  refine (c2 _).mono ?_; rintro e w2 ⟨rfl, b2⟩; have R2 := hyd ((b2.block (w.heap.size + 1) (Array.getElem?_eq_some_iff.1 R1.out).1).trans R1.out); have B2 := hyd (B1.out.trans (b2.mono B1.out.size)); clear b2 B1 R1
  go_wp2_with (first
   | (with_reducible refine wpList_store_row rfl 24 (.tmp 2) (.tmp 13) rfl (w.heap.size + 1) z rfl rfl 24 z ?sg ?si ?so ?s1 ?_)
   | fail)
  case sg => exact R2.out
  case si => rw [info29, HZS.out]
  case so => rfl
  case s1 => exact HALL.out
  refine bodyPost_ret (results_cell_row Tryz.results18 _ _ (w.heap.size + 1) 24 z (0, 0) _ rfl (setRow_heap w2 (w.heap.size + 1) z z _ (0, 0) R2.out) Tryz.underlying24 rfl (by rw [info29, HZS.out])) rfl ⟨rfl, below_setRow B2.out (Nat.le_succ _) z⟩
theorem PutP_bad {w : World} {g : Nat} (k : Int) (v : Value) (b : List UInt8) (hv : Red w v b) (tab : Tab w) (he : (printO k b).2 ≠ 0) :
  Calls Tryz.prog 7 #[.pointer (some ⟨g, 0, none⟩), .agg #[.int .i64 k, v]] w fun e w' => e = .returned (.tuple #[.agg (arrD idZ), .int .i64 (printO k b).2]) ∧ Below w.heap.size w w' := by
 obtain ⟨a, c, rfl, hb, hno, hc, hm⟩ := hv; obtain ⟨n, hn⟩ : ∃ n, b.length = n := ⟨_, rfl⟩; rw [hn] at hno hc ⊢; obtain ⟨z, hz0, hzs, hzv, hzb, hz1⟩ := zId_any; have b1 := (Below.refl w.heap.size w).alloc (Nat.le_refl _) (.cells #[.int .i64 k, .slice a n c] 34); have b2 := b1.alloc b1.size (.cells z 24)
 have hs1 : (w.alloc (.cells #[.int .i64 k, .slice a n c] 34)).heap.size = w.heap.size + 1 := by simp
 have h02 := heap_alloc_new (w.alloc (.cells #[.int .i64 k, .slice a n c] 34)) (.cells z 24); rw [hs1] at h02; have H2 := hyd h02; have B2 := hyd b2; have ZB := hyd hzb; have Z1 := hyd hz1; have Z0 := hyd hz0; have ZS := hyd hzs; have IZ := hyd (show (Tryz.prog.info? 24).map (·.size) = some z.size from by rw [hzs]; exact infoD_n); have CP := hyd (fun u (hu : Below w.heap.size w u) => Print_any k a n c b u hn.symm (hb.keep hu) hno hc hm (tab.keep hu)); obtain ⟨er, her⟩ : ∃ er, (printO k b).2 = er := ⟨_, rfl⟩; rw [her] at CP he ⊢
 have hxb : (er != 0) = true := by simp [he]
 rw [← hz0]; clear b1 b2 h02 hs1 hb hno hc hm hz0 hzs hzb hz1 her hn
 go_enter Tryz.func7, Tryz.ntmps7
 go_wp2_with fail
 refine (CP.out _ B2.out).mono ?_; rintro e w3 ⟨v3, rfl, hr3, -, hb3⟩; have H3 := hyd ((hb3.block (w.heap.size + 1) (lt_of_heap H2.out)).trans H2.out); have HB3 := hyd (B2.out.trans (hb3.mono B2.out.size)); clear hb3 CP hr3
 go_wp2_with (first
  | (refine wpList_build_none rfl 24 rfl z ZB.out ?_)
  | (with_reducible refine wpList_store_all rfl 24 (.tmp 4) (.tmp 20) rfl (w.heap.size + 1) z rfl rfl 24 z H3.out IZ.out rfl Z1.out ?_)
  | fail)
 intro w5 r5 off5 sz5; have HB5 := hyd (HB3.out.trans (off5.below (Nat.le_succ _) HB3.out.size)); go_wp2; exact bodyPost_ret (results_id9 Tryz.results7 _ _ (w.heap.size + 1) z (0, 0) _ rfl rfl r5 ZS.out) rfl ⟨rfl, HB5.out⟩
theorem PutP_any {w : World} {g : Nat} (k : Int) (v : Value) (b : List UInt8) (hv : Red w v b) (tab : Tab w) (he : (printO k b).2 = 0) (S0 : Nat → Prop) (hS0 : ∀ j, S0 j → j < w.heap.size) (er : Int) (R : World → World → Prop)
  (hK : ∀ u, Below w.heap.size w u → Calls Tryz.prog 19 #[.pointer (some ⟨g, 0, none⟩), .agg (arrD (sumO k b)), .agg #[.int .i64 k, v]] u fun e u' => e = .returned (.int .i64 er) ∧ R u u' ∧ Chg S0 u u') :
  Calls Tryz.prog 7 #[.pointer (some ⟨g, 0, none⟩), .agg #[.int .i64 k, v]] w fun e w' => e = .returned (.tuple #[.agg (arrD (pickI (er == 0) (sumO k b))), .int .i64 er]) ∧
   ∃ u u', Below w.heap.size w u ∧ R u u' ∧ Chg S0 u u' ∧ Chg (fun j => w.heap.size ≤ j ∧ j < u.heap.size) u' w' := by
 obtain ⟨a, c, rfl, hb, hno, hc, hmx⟩ := hv; obtain ⟨n, hn⟩ : ∃ n, b.length = n := ⟨_, rfl⟩; rw [hn] at hno hc hK ⊢; obtain ⟨z, hz0, hzs, hzv, hzb, hz1⟩ := zId_any; have b1 := (Below.refl w.heap.size w).alloc (Nat.le_refl _) (.cells #[.int .i64 k, .slice a n c] 34); have b2 := b1.alloc b1.size (.cells z 24)
 have hs1 : (w.alloc (.cells #[.int .i64 k, .slice a n c] 34)).heap.size = w.heap.size + 1 := by simp
 have h02 := heap_alloc_new (w.alloc (.cells #[.int .i64 k, .slice a n c] 34)) (.cells z 24); have h01 := (((Below.refl (w.alloc (.cells #[.int .i64 k, .slice a n c] 34)).heap.size (w.alloc (.cells #[.int .i64 k, .slice a n c] 34))).alloc (Nat.le_refl _) (.cells z 24)).block w.heap.size (by simp)).trans (heap_alloc_new w (.cells #[.int .i64 k, .slice a n c] 34)); rw [hs1] at h02; have H1 := hyd h01; have H2 := hyd h02; have B2 := hyd b2; have ZB := hyd hzb; have Z1 := hyd hz1; have Z0 := hyd hz0; have ZS := hyd hzs; have IZ := hyd (show (Tryz.prog.info? 24).map (·.size) = some z.size from by rw [hzs]; exact infoD_n); have CP := hyd (fun u (hu : Below w.heap.size w u) => Print_any k a n c b u hn.symm (hb.keep hu) hno hc hmx (tab.keep hu)); have CI := hyd (fun u (hu : Below w.heap.size w u) => Id_is k a n c b u hn.symm (hb.keep hu) hno hc hmx (tab.keep hu))
 have sl : (sumO k b).length = 20 := by
  unfold sumO; rw [if_pos he]
  simp [sumL, digest_len]
 obtain ⟨I, hI⟩ : ∃ I, arrD (sumO k b) = I := ⟨_, rfl⟩; have HI := hyd hI; have IS := hyd (show I.size = 20 by rw [← hI]; exact arrD_size _ sl); have IO := hyd (show I.all (·.oneCell') = true by rw [← hI]; exact arrD_one _); have II := hyd (show (Tryz.prog.info? 24).map (·.size) = some I.size from by rw [IS.out]; exact infoD_n); rw [he] at CP; rw [hI] at hK
 have ei : idv (sumO k b) = .agg I := by rw [idv_arrD, hI]
 rw [ei] at CI; have HK := hyd hK; have HS := hyd hS0; clear b1 b2 h01 h02 hs1 hb hno hc hmx hz0 hzs hzb hz1 hn hI ei sl hK hS0 tab
 go_enter Tryz.func7, Tryz.ntmps7
 go_wp2_with fail
 refine (CP.out _ B2.out).mono ?_; rintro e w3 ⟨v3, rfl, hr3, -, hb3⟩; have H31 := hyd ((hb3.block w.heap.size (lt_of_heap H1.out)).trans H1.out); have H32 := hyd ((hb3.block (w.heap.size + 1) (lt_of_heap H2.out)).trans H2.out); have HB3 := hyd (B2.out.trans (hb3.mono B2.out.size)); clear hb3 CP hr3; obtain ⟨y0, y1⟩ := cells2 H31.out
 go_wp2_with fail
 refine (CI.out _ HB3.out).mono ?_; rintro e w4 ⟨rfl, hb4⟩; have H41 := hyd ((hb4.block w.heap.size (lt_of_heap H31.out)).trans H31.out); have H42 := hyd ((hb4.block (w.heap.size + 1) (lt_of_heap H32.out)).trans H32.out); have HB4 := hyd (HB3.out.trans (hb4.mono HB3.out.size)); clear hb4 CI y0 y1
 go_wp2_with (first
  | (with_reducible refine wpList_store_all rfl 24 (.tmp 8) (.tmp 23) rfl w4.heap.size I rfl rfl 24 z (heap_alloc_new w4 _) II.out (IS.out.trans ZS.out.symm) IO.out ?_)
  | fail)
 intro w5 r5 off5 sz5; have b45 : Below w4.heap.size w4 w5 := ((Below.refl w4.heap.size w4).alloc (Nat.le_refl _) (.cells z 24)).trans (off5.below (Nat.le_refl _) (by simp)); have H51 := hyd ((b45.block w.heap.size (lt_of_heap H41.out)).trans H41.out); have H52 := hyd ((b45.block (w.heap.size + 1) (lt_of_heap H42.out)).trans H42.out); have HB5 := hyd (HB4.out.trans (b45.mono HB4.out.size)); have R5 := hyd r5; have L4 := hyd HB4.out.size; clear b45 r5 off5 sz5; obtain ⟨y0, y1⟩ := cells2 H51.out
 go_wp2_with (first
  | (with_reducible refine wpList_load_all 24 (.tmp 8) rfl (by kernel_rfl) w4.heap.size I 24 (0, 0) rfl R5.out _ Tryz.underlying24 rfl II.out ?_)
  | fail)
 refine (HK.out _ HB5.out).mono ?_; rintro e w6 ⟨rfl, hR, hC⟩; have H62 := hyd ((hC.block (w.heap.size + 1) (lt_of_heap H52.out) (fun hs => by have := HS.out _ hs; omega)).trans H52.out); have R6 := hyd ((hC.block w4.heap.size (lt_of_heap R5.out) (fun hs => by have h8 := HS.out _ hs; have h9 := L4.out; omega)).trans R5.out); have HR := hyd (And.intro hR hC); have L5 := hyd (lt_of_heap H52.out); clear hR hC y0 y1
 by_cases her : er = 0
 ·subst her
  go_wp2_with (first
   | (with_reducible refine wpList_load_all 24 (.tmp 8) rfl (by kernel_rfl) w4.heap.size I 24 (0, 0) rfl R6.out _ Tryz.underlying24 rfl II.out ?_)
   | (with_reducible refine wpList_store_all rfl 24 (.tmp 4) (.tmp 32) rfl (w.heap.size + 1) I rfl rfl 24 z H62.out II.out (IS.out.trans ZS.out.symm) IO.out ?_)
   | fail)
  intro w8 r8 off8 sz8; have C8 := hyd (show Chg (fun j => w.heap.size ≤ j ∧ j < w5.heap.size) w6 w8 from ⟨off8.os, off8.tape, off8.output, off8.size, fun j hj hn => off8.block j hj (fun e => hn (by rw [e]; exact ⟨Nat.le_succ _, L5.out⟩))⟩); clear off8 sz8; go_wp2; exact bodyPost_ret (results_id9 Tryz.results7 _ _ (w.heap.size + 1) I (0, 0) _ rfl rfl r8 IS.out) rfl ⟨by rw [← HI.out]; rfl, w5, w6, HB5.out, HR.out.1, HR.out.2, C8.out⟩
 ·have hxb : (er != 0) = true := by simp [her]
  have hz : (er == 0) = false := by simp [her]
  have HZ := hyd hz; clear her hz
  go_wp2_with (first
   | (refine wpList_build_none rfl 24 rfl z ZB.out ?_)
   | (with_reducible refine wpList_store_all rfl 24 (.tmp 4) (.tmp 30) rfl (w.heap.size + 1) z rfl rfl 24 z H62.out IZ.out rfl Z1.out ?_)
   | fail)
  intro w8 r8 off8 sz8; have C8 := hyd (show Chg (fun j => w.heap.size ≤ j ∧ j < w5.heap.size) w6 w8 from ⟨off8.os, off8.tape, off8.output, off8.size, fun j hj hn => off8.block j hj (fun e => hn (by rw [e]; exact ⟨Nat.le_succ _, L5.out⟩))⟩); clear off8 sz8; go_wp2; exact bodyPost_ret (results_id9 Tryz.results7 _ _ (w.heap.size + 1) z (0, 0) _ rfl rfl r8 ZS.out) rfl ⟨by rw [HZ.out, Z0.out]; rfl, w5, w6, HB5.out, HR.out.1, HR.out.2, C8.out⟩
set_option maxRecDepth 100000
theorem sameP_is (k1 k2 : Int) (hk : kindO k1) (v1 v2 : Value) (l1 l2 : List UInt8) (w : World) (h1 : Red w v1 l1) (h2 : Red w v2 l2) :
  Calls Tryz.prog 49 #[thingP k1 v1, .agg #[.int .i64 k2, v2]] w fun e w' => e = .returned (.bool (k1 == k2 && l1 == l2)) ∧ Below w.heap.size w w' := by
 obtain ⟨a1, c1, rfl, hb1, hn1, hc1, hm1⟩ := h1; obtain ⟨a2, c2, rfl, hb2, hn2, hc2, hm2⟩ := h2; obtain ⟨T, hT, hth⟩ := kind_ty hk; have CK := hyd (fun u => hth (.slice a1 l1.length c1) ▸ kind_is k1 hk a1 l1.length c1 u); have m := m_bytes T hT (.slice a1 l1.length c1); have CB := hyd (fun u => obytes_is a1 l1.length c1 u); have b1 := (Below.refl w.heap.size w).alloc (Nat.le_refl _) (.cells #[.int .i64 k2, .slice a2 l2.length c2] 34); have h0 := heap_alloc_new w (.cells #[.int .i64 k2, .slice a2 l2.length c2] 34); have CE := hyd (fun u (hu : Below w.heap.size w u) => bEqual_any a1 a2 _ _ c1 c2 l1 l2 u (hb1.keep hu) (hb2.keep hu) rfl rfl); have B1 := hyd b1; rw [hth]; obtain ⟨n1, e1⟩ : ∃ n, l1.length = n := ⟨_, rfl⟩; obtain ⟨n2, e2⟩ : ∃ n, l2.length = n := ⟨_, rfl⟩; rw [e1] at CK CB m CE; rw [e2] at h0 CE B1; rw [e1, e2]; clear b1 hb1 hb2 hn1 hn2 hc1 hc2 hm1 hm2 e1 e2 hk hT hth; obtain ⟨w1, hw1⟩ : ∃ w1, w.alloc (.cells #[.int .i64 k2, .slice a2 n2 c2] 34) = w1 := ⟨_, rfl⟩; rw [hw1] at B1 h0
 have P0 := hyd (fun u (hu : Below w1.heap.size w1 u) => (by
  rw [Lib.cell_of_heap ((hu.block w.heap.size (lt_of_heap h0)).trans h0)]
  rfl : u.cell? ⟨w.heap.size, 0, none⟩ = some (.int .i64 k2)))
 have P1 := hyd (fun u (hu : Below w1.heap.size w1 u) => (by
  rw [Lib.cell_of_heap ((hu.block w.heap.size (lt_of_heap h0)).trans h0)]
  rfl : u.cell? ⟨w.heap.size, 1, none⟩ = some (.slice a2 n2 c2)))
 clear h0
 by_cases hkk : k1 = k2
 ·subst hkk
  have hr : (k1 == k1 && l1 == l2) = (l1 == l2) := by simp
  rw [hr]; obtain ⟨r, hr2⟩ : ∃ r, (l1 == l2) = r := ⟨_, rfl⟩; rw [hr2] at CE ⊢; clear hr hr2
  go_enter Tryz.func49, Tryz.ntmps49
  go_wp2_with fail
  refine rgB w1 (fun hd => ?_); refine tkW 0 rfl hd ?_; refine tkW 2 rfl hd ?_; refine tkV 3 rfl (.int .i64 k1) ?py3x hd ?_
  case py3x => intro u hu; have q := P0.out u hu; go_simp
  refine rdH 1 rfl (fun K hK => ?_)
  go_simp
  refine (CK.out _).mono ?_; rintro e u1 ⟨rfl, hI⟩; have hH := hd.trans (hI.mono hd.size); clear hd hI; refine hK.out _ _ hH (fun hd => ?_); clear hK K
  try simp only [Act.put, lsA, lsZ, lsS]
  refine tkW 4 rfl hd ?_; refine tkW 5 rfl hd ?_; refine tkW 6 rfl hd ?_; refine tkW 8 rfl hd ?_; refine tkV 9 rfl (.slice a2 n2 c2) ?py9x hd ?_
  case py9x => intro u hu; have q := P1.out u hu; go_simp
  refine rdH 7 rfl (fun K hK => ?_)
  go_simp
  refine (CB.out _).mono ?_; rintro e u1 ⟨rfl, rfl⟩; have hH := hd; clear hd; refine hK.out _ _ hH (fun hd => ?_); clear hK K
  try simp only [Act.put, lsA, lsZ, lsS]
  refine rdH 10 rfl (fun K hK => ?_)
  go_simp
  refine (CE.out _ (B1.out.trans (hd.mono B1.out.size))).mono ?_; rintro e u1 ⟨rfl, rfl⟩; have hH := hd; clear hd; refine hK.out _ _ hH (fun hd => ?_); clear hK K
  try simp only [Act.put, lsA, lsZ, lsS]
  refine tkW 11 rfl hd ?_; refine tkW 12 rfl hd ?_
  try simp only [Act.put, lgA, lgS, lgZ, lsA, lsZ, lsS]
  refine wpAnyH_done (by kernel_rfl) ?_ _; have HB := hyd (B1.out.trans (hd.mono B1.out.size)); clear hd; go_wp2; go_ret; exact ⟨rfl, HB.out⟩
 ·have hr : (k1 == k2 && l1 == l2) = false := by simp [hkk]
  have hf : (k1 == k2) = false := beq_false_of_ne hkk; rw [hr]; clear hr hkk CE CB m
  go_enter Tryz.func49, Tryz.ntmps49
  go_wp2_with fail
  refine rgB w1 (fun hd => ?_); refine tkW 0 rfl hd ?_; refine tkW 2 rfl hd ?_; refine tkV 3 rfl (.int .i64 k2) ?fy3x hd ?_
  case fy3x => intro u hu; have q := P0.out u hu; go_simp
  refine rdH 1 rfl (fun K hK => ?_)
  go_simp
  refine (CK.out _).mono ?_; rintro e u1 ⟨rfl, hI⟩; have hH := hd.trans (hI.mono hd.size); clear hd hI; refine hK.out _ _ hH (fun hd => ?_); clear hK K
  try simp only [Act.put, lsA, lsZ, lsS]
  refine tkW 4 rfl hd ?_; refine tkW 5 rfl hd ?_; refine tkU 6 rfl hd ?_; refine tkU 7 rfl hd ?_; refine tkU 8 rfl hd ?_; refine tkU 9 rfl hd ?_; refine tkU 10 rfl hd ?_; refine tkW 11 rfl hd ?_; refine tkW 12 rfl hd ?_
  try simp only [Act.put, lgA, lgS, lgZ, lsA, lsZ, lsS]
  refine wpAnyH_done (by kernel_rfl) ?_ _; have HB := hyd (B1.out.trans (hd.mono B1.out.size)); clear hd; go_wp2; go_ret; exact ⟨rfl, HB.out⟩
end Go.Proofs.YtnbcbiglkmdepaaGreatDoor
namespace Go.Proofs.YtnbcbiglkmdepaaGreatDoor
set_option maxRecDepth 20000
open Go.RowKit Go.Maps
structure KeepAt (S C : Nat → Prop) (w w5 : World) (g b : Nat) (E : List Ent) : Prop where
 chg : Chg C w w5
 blk : w5.heap[g]? = some (.cells #[.map (some b)] 48 (0, 0))
 map : MapAt w5 b (celP E)
 inS : S b ∨ w.heap.size ≤ b
 inC : C b ∨ w.heap.size ≤ b
 ne : b ≠ g
 sg : S g
 ent : ∀ e ∈ E, okE e ∧ kindO e.c.kind ∧ RedS (fun k => S k ∧ k ≠ g ∧ k ≠ b) w5 e.v e.c.body
theorem redS_of_row {S : Nat → Prop} {w : World} {v : Value} {l : List UInt8} (h : Row w v l) (hS : ∀ g, foot v = some g → S g) : RedS S w v l := by
 obtain ⟨a, c, e, h1, h2, h3, h4⟩ := h.shape; refine ⟨a, c, e, h3, h4, h1, h2, fun ad hp ha => ?_⟩
 rcases h with ⟨a', e', rfl⟩ | ⟨g, cap, cur, e', _⟩
 ·exact absurd hp (Nat.lt_irrefl 0)
 ·rw [e'] at e
  obtain ⟨rfl, -, -⟩ := Value.slice.inj e
  cases ha
  exact hS g (by rw [e']; rfl)
theorem KeepAt.put {S C : Nat → Prop} {w w5 u u' : World} {g b : Nat} {E : List Ent} (h : KeepAt S C w w5 g b E) (hu : Below w5.heap.size w5 u) {i : List UInt8} (hi : i.length = 20) {k : Int} (hk : kindO k) {v : Value} {l : List UInt8} (hr : Row u v l) (hf : ∀ g, foot v = some g → w5.heap.size ≤ g)
  (hm : MapAt u' b (celP E ++ [(.agg (arrD i), thingP k v)])) (hg : u.grownBy u' (some b)) :
  StoreP (fun j => S j ∨ w.heap.size ≤ j) u' g (E.map Ent.c ++ [⟨i, k, l⟩]) ∧ Chg C w u' := by
 have hb5 : b < w5.heap.size := h.map.lt; have hg5 : g < w5.heap.size := lt_of_heap h.blk
 have hkeep : ∀ j, j < w5.heap.size → j ≠ b → u'.heap[j]? = w5.heap[j]? := fun j hj hn => (hg.block j (Nat.lt_of_lt_of_le hj hu.size) (fun e => hn (Option.some.inj e))).trans (hu.block j hj)
 have hsz : w5.heap.size ≤ u'.heap.size := Nat.le_trans hu.size hg.size; have hr' : Row u' v l := hr.keep (fun j hj => hg.block j (hr.lt j hj) (fun e => by have h8 := hf j hj; have h9 := Option.some.inj e; omega)); refine ⟨⟨.inl h.sg, E ++ [⟨⟨i, k, l⟩, v⟩], some b, by simp, (hkeep g hg5 (fun e => h.ne e.symm)).trans h.blk, ?_, fun e => (by cases e), ?_⟩, ?_⟩
 ·intro e he
  rcases List.mem_append.1 he with he | he
  ·obtain ⟨h1, h2, h3⟩ := h.ent e he
   refine ⟨h1, h2, ?_⟩
   have h4 : RedS (fun k => S k ∧ k ≠ g ∧ k ≠ b) u' e.v e.c.body := by
    obtain ⟨a, c, e1, e2, e3, e4, e5, e6⟩ := h3; refine ⟨a, c, e1, e2.same hsz (fun ad hp ha => ?_), e3, e4, e5, e6⟩; obtain ⟨q, o, q1, q2, _⟩ := e2 hp; have q3 := e6 ad hp ha; rw [q1] at ha
    cases ha
    exact hkeep q q2 q3.2.2
   exact h4.mono (fun j _ hj => ⟨.inl hj.1, hj.2.1, fun e => hj.2.2 (Option.some.inj e).symm⟩)
  ·rw [List.mem_singleton] at he
   subst he; refine ⟨⟨hi, ?_⟩, hk, redS_of_row hr' (fun j hj => ?_)⟩
   ·obtain ⟨a, n, c, e⟩ := row_shape hr
    exact ⟨a, n, c, e⟩
   ·have h8 := hf j hj
    have h9 := h.chg.size; exact ⟨.inr (by omega), fun e => by omega, fun e => by have := Option.some.inj e; omega⟩
 ·intro b' hb'
  cases hb'
  refine ⟨h.inS, h.ne, ?_⟩
  have e : celP (E ++ [⟨⟨i, k, l⟩, v⟩]) = celP E ++ [(.agg (arrD i), thingP k v)] := by simp [celP]
  rw [e]; exact hm
 ·refine (h.chg.more (Chg.of_below (S := fun _ => False) hu) (fun _ _ h => h.elim)).grown hg (fun j e hj => ?_)
  have e := Option.some.inj e; subst e
  rcases h.inC with h | h
  ·exact h
  ·omega
end Go.Proofs.YtnbcbiglkmdepaaGreatDoor
namespace Go.Proofs.YtnbcbiglkmdepaaGreatDoor
set_option maxRecDepth 100000
open Go.RowKit Go.Maps
theorem keep_there {S : Nat → Prop} {w : World} {g : Nat} {M : List Cel} (h : StoreP S w g M) (i : List UInt8) (hi : i.length = 20) (k : Int) (v : Value) (l : List UInt8) (hv : Red w v l) (x : Cel) (hx : getM M i = some x) :
  Calls Tryz.prog 19 #[.pointer (some ⟨g, 0, none⟩), .agg (arrD i), .agg #[.int .i64 k, v]] w fun e w' => e = .returned (.int .i64 (pickE (x.kind == k && x.body == l))) ∧ Below w.heap.size w w' := by
 have hvr := hv; obtain ⟨a, c, rfl, hb, hno, hc, hmx⟩ := hv; obtain ⟨n, hn⟩ : ∃ n, l.length = n := ⟨_, rfl⟩; obtain ⟨A1, hA1⟩ : ∃ A, arrD i = A := ⟨_, rfl⟩
 have sA : A1.size = 20 := by rw [← hA1]; exact arrD_size i hi
 rw [hn] at hno hc ⊢; have b1 := (Below.refl w.heap.size w).alloc (Nat.le_refl _) (.cells A1 24); have b2 := b1.alloc b1.size (.cells #[.int .i64 k, .slice a n c] 34)
 have hs1 : (w.alloc (.cells A1 24)).heap.size = w.heap.size + 1 := by simp
 have h02 := heap_alloc_new (w.alloc (.cells A1 24)) (.cells #[.int .i64 k, .slice a n c] 34); have h01 := (((Below.refl (w.alloc (.cells A1 24)).heap.size (w.alloc (.cells A1 24))).alloc (Nat.le_refl _) (.cells #[.int .i64 k, .slice a n c] 34)).block w.heap.size (by simp)).trans (heap_alloc_new w (.cells A1 24)); rw [hs1] at h02; have B1 := hyd b2; obtain ⟨w1, hw1⟩ : ∃ w1, (w.alloc (.cells A1 24)).alloc (.cells #[.int .i64 k, .slice a n c] 34) = w1 := ⟨_, rfl⟩; rw [hw1] at B1 h01 h02; have H1 := hyd h01; have H2 := hyd h02; have LA := hyd (show (Tryz.prog.info? 24).map (·.size) = some A1.toList.length from by rw [Array.length_toList, sA]; exact infoD_n); obtain ⟨mb, tv, hl, hr, hkx, a', n', c', rfl⟩ := h.look_some hx; obtain ⟨T, hT, hth⟩ := kind_ty hkx; rw [hA1] at hl ⊢; rw [hth] at hl; have HL := hyd (fun u (hu : Below w1.heap.size w1 u) => hl u (B1.out.trans (hu.mono B1.out.size))); have RA := hyd (fun u (hu : Below w1.heap.size w1 u) => (row_arrD ((hu.block w.heap.size (lt_of_heap H1.out)).trans H1.out)))
 have CS := hyd (fun u (hu : Below w.heap.size w u) => (by
  have q := sameP_is x.kind k hkx (.slice a' n' c') (.slice a n c) x.body l u ((hr.keep (Stays.of hu)).red) (by rw [← hn]; exact hvr.below hu (Nat.le_refl _)); rw [hth] at q
  exact q : Calls Tryz.prog 49 #[.iface T (.agg #[.slice a' n' c']), .agg #[.int .i64 k, .slice a n c]] u _))
 obtain ⟨r, hrr⟩ : ∃ r, (x.kind == k && x.body == l) = r := ⟨_, rfl⟩; rw [hrr] at CS ⊢; clear h hl hr b1 b2 h01 h02 hs1 hb hno hc hmx hn sA hT hth hkx hvr hrr hx
 go_enter Tryz.func19, Tryz.ntmps19
 go_wp2_with fail
 refine rgB w1 (fun hd => ?_); refine tkW 0 rfl hd ?_; refine tkW 1 rfl hd ?_; refine tkW 2 rfl hd ?_; refine tkV 3 rfl (.map mb) ?py3x hd ?_
 case py3x => intro u hu; have q := (HL.out u hu).1; go_simp
 refine tkH 4 rfl (yieldsIf_load_mid (by kernel_rfl) 24 (.tmp 4) (by kernel_rfl) w.heap.size 0 (by kernel_rfl) A1.toList _ (fun u hu => RA.out u hu) Tryz.underlying24 rfl LA.out) hd ?_; refine tkV 5 rfl (.tuple #[.iface T (.agg #[.slice a' n' c']), .bool true]) ?py5x hd ?_
 case py5x => intro u hu; have q := (HL.out u hu).2; go_simp
 refine tkW 6 rfl hd ?_; refine tkW 7 rfl hd ?_; refine tkW 8 rfl hd ?_; refine tkW 9 rfl hd ?_; refine tkW 10 rfl hd ?_
 try simp only [Act.put, lgA, lgS, lgZ, lsA, lsZ, lsS]
 refine wpAnyH_done (by kernel_rfl) ?_ _; obtain ⟨w2, hw2⟩ : ∃ w2, w1.drew = w2 := ⟨_, rfl⟩; rw [hw2] at hd ⊢; have HB := hyd (B1.out.trans (hd.mono B1.out.size)); have h2b := (hd.block (w.heap.size + 1) (lt_of_heap H2.out)).trans H2.out
 have p0 : w2.cell? ⟨w.heap.size + 1, 0, none⟩ = some (.int .i64 k) := by rw [Lib.cell_of_heap h2b]; rfl
 have p1 : w2.cell? ⟨w.heap.size + 1, 1, none⟩ = some (.slice a n c) := by rw [Lib.cell_of_heap h2b]; rfl
 clear hd h2b hw2
 cases r with
 | true =>
  go_wp2_with fail
  refine (CS.out _ HB.out).mono ?_; rintro e w3 ⟨rfl, hb3⟩; have HB3 := hyd (HB.out.trans (hb3.mono HB.out.size)); clear hb3 p0 p1; go_wp2; go_ret; exact ⟨rfl, HB3.out⟩
 | false =>
  go_wp2_with fail
  refine (CS.out _ HB.out).mono ?_; rintro e w3 ⟨rfl, hb3⟩; have HB3 := hyd (HB.out.trans (hb3.mono HB.out.size)); clear hb3 p0 p1; go_wp2; go_ret; exact ⟨rfl, HB3.out⟩
end Go.Proofs.YtnbcbiglkmdepaaGreatDoor
