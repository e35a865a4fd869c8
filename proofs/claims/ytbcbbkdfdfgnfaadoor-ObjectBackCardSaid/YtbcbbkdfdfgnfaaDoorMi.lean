/-
  Layer 2: mix: a full block goes into the words.
-/
import Derived.Test.YtbcbbkdfdfgnfaaDoorSc
namespace Go.Proofs.YtbcbbkdfdfgnfaaDoor
open Go.RowKit
set_option linter.unusedVariables false
set_option linter.unusedSimpArgs false

/-- What lies in the block of a state. -/
structure StB (cs : Array Value) (h : H5) : Prop where
  size : cs.size = 71
  word : ∀ i, i < 5 → cs[i]? = some (.int .u32 (h.get i).toNat)
theorem grown_of_below {w w' : World} (h : Below w.heap.size w w') (row : Option Nat) : w.grownBy w' row := ⟨h.os, h.tape, h.output, h.size, fun k hk _ => h.block k hk⟩
theorem grown_trans {a b c : World} {row : Option Nat} (h : a.grownBy b row) (k : b.grownBy c row) : a.grownBy c row :=
  ⟨k.os.trans h.os, k.tape.trans h.tape, k.output.trans h.output, Nat.le_trans h.size k.size, fun i hi hr => (k.block i (Nat.lt_of_lt_of_le hi h.size) hr).trans (h.block i hi hr)⟩
theorem grown_set (w : World) (g i : Nat) (v : Value) : w.grownBy (w.setCell ⟨g, i, none⟩ v) (some g) :=
  ⟨rfl, rfl, rfl, by simp [World.setCell], fun k hk hr => Below.heap_setCell _ _ _ _ (fun e => hr (by rw [e]))⟩
theorem grown_drew {w w' : World} {row : Option Nat} (h : w.grownBy w' row) : w.grownBy w'.drew row := ⟨h.os, h.tape, h.output, h.size, h.block⟩
theorem step_heap {u u' : World} {g : Nat} {cs : Array Value} {t : TypeId} {i : Nat} {v : Value} (h : u.heap[g]? = some (.cells cs t (0, 0))) (hw : (u.setCell ⟨g, i, none⟩ v).drew = u') : u'.heap[g]? = some (.cells (cs.setIfInBounds i v) t (0, 0)) := by
  subst hw; exact heap_set h i v
theorem step_grown {w u u' : World} {g i : Nat} {v : Value} (h : w.grownBy u (some g)) (hw : (u.setCell ⟨g, i, none⟩ v).drew = u') : w.grownBy u' (some g) := by
  subst hw; exact grown_drew (grown_trans h (grown_set u g i v))
theorem old_at1 {cs : Array Value} {v0 x : Value} (hs : cs.size = 71) (h : cs[1]? = some x) : (cs.setIfInBounds 0 v0)[1]? = some x := by
  rw [set_get _ _ _ _ (by simp [hs]), if_neg (by omega)]; exact h
theorem old_at2 {cs : Array Value} {v0 v1 x : Value} (hs : cs.size = 71) (h : cs[2]? = some x) : ((cs.setIfInBounds 0 v0).setIfInBounds 1 v1)[2]? = some x := by
  rw [set_get _ _ _ _ (by simp [hs]), if_neg (by omega), set_get _ _ _ _ (by simp [hs]), if_neg (by omega)]; exact h
theorem old_at3 {cs : Array Value} {v0 v1 v2 x : Value} (hs : cs.size = 71) (h : cs[3]? = some x) : (((cs.setIfInBounds 0 v0).setIfInBounds 1 v1).setIfInBounds 2 v2)[3]? = some x := by
  rw [set_get _ _ _ _ (by simp [hs]), if_neg (by omega), set_get _ _ _ _ (by simp [hs]), if_neg (by omega), set_get _ _ _ _ (by simp [hs]), if_neg (by omega)]; exact h
theorem old_at4 {cs : Array Value} {v0 v1 v2 v3 x : Value} (hs : cs.size = 71) (h : cs[4]? = some x) : ((((cs.setIfInBounds 0 v0).setIfInBounds 1 v1).setIfInBounds 2 v2).setIfInBounds 3 v3)[4]? = some x := by
  rw [set_get _ _ _ _ (by simp [hs]), if_neg (by omega), set_get _ _ _ _ (by simp [hs]), if_neg (by omega), set_get _ _ _ _ (by simp [hs]), if_neg (by omega), set_get _ _ _ _ (by simp [hs]), if_neg (by omega)]; exact h
theorem stB_added {cs : Array Value} (hz : cs.size = 71) (h s : H5) : StB (((((cs.setIfInBounds 0 (.int .u32 (((h.a.toNat : Int) + s.a.toNat) % 4294967296))).setIfInBounds 1 (.int .u32 (((h.b.toNat : Int) + s.b.toNat) % 4294967296))).setIfInBounds 2 (.int .u32 (((h.c.toNat : Int) + s.c.toNat) % 4294967296))).setIfInBounds 3 (.int .u32 (((h.d.toNat : Int) + s.d.toNat) % 4294967296))).setIfInBounds 4 (.int .u32 (((h.e.toNat : Int) + s.e.toNat) % 4294967296))) (addH h s) where
  size := by simp [hz]
  word := by
    intro i hi
    rw [b_add, b_add, b_add, b_add, b_add]
    match i, hi with
    | 0, _ => rw [set_get _ _ _ _ (by simp [hz]), if_neg (by omega), set_get _ _ _ _ (by simp [hz]), if_neg (by omega), set_get _ _ _ _ (by simp [hz]), if_neg (by omega), set_get _ _ _ _ (by simp [hz]), if_neg (by omega), set_get _ _ _ _ (by simp [hz]), if_pos rfl]; rfl
    | 1, _ => rw [set_get _ _ _ _ (by simp [hz]), if_neg (by omega), set_get _ _ _ _ (by simp [hz]), if_neg (by omega), set_get _ _ _ _ (by simp [hz]), if_neg (by omega), set_get _ _ _ _ (by simp [hz]), if_pos rfl]; rfl
    | 2, _ => rw [set_get _ _ _ _ (by simp [hz]), if_neg (by omega), set_get _ _ _ _ (by simp [hz]), if_neg (by omega), set_get _ _ _ _ (by simp [hz]), if_pos rfl]; rfl
    | 3, _ => rw [set_get _ _ _ _ (by simp [hz]), if_neg (by omega), set_get _ _ _ _ (by simp [hz]), if_pos rfl]; rfl
    | 4, _ => rw [set_get _ _ _ _ (by simp [hz]), if_pos rfl]; rfl
set_option maxRecDepth 10000 in
set_option maxHeartbeats 4000000 in
theorem mix_any (w : World) (g : Nat) (cs : Array Value) (h : H5) (m : Nat → UInt8) (hg : w.heap[g]? = some (.cells cs 77 (0, 0))) (hs : StB cs h) (hb : ∀ i, i < 64 → cs[5 + i]? = some (.int .u8 (m i).toNat)) :
    Calls Tryd.prog 46 #[.pointer (some ⟨g, 0, none⟩)] w fun e w' => e = .returned (.tuple #[]) ∧ w.grownBy w' (some g) ∧
      ∃ cs', w'.heap[g]? = some (.cells cs' 77 (0, 0)) ∧ StB cs' (comp m h) ∧ ∀ i, 5 ≤ i → cs'[i]? = cs[i]? := by
  have hc : ∀ i, i < 5 → w.cell? ⟨g, i, none⟩ = some (.int .u32 (h.get i).toNat) := fun i hi => by rw [cell_of_row w g i cs _ _ hg, hs.word i hi]
  have q0 : w.cell? ⟨g, 0, none⟩ = some (.int .u32 h.a.toNat) := hc 0 (by omega)
  have q1 : w.cell? ⟨g, 1, none⟩ = some (.int .u32 h.b.toNat) := hc 1 (by omega)
  have q2 : w.cell? ⟨g, 2, none⟩ = some (.int .u32 h.c.toNat) := hc 2 (by omega)
  have q3 : w.cell? ⟨g, 3, none⟩ = some (.int .u32 h.d.toNat) := hc 3 (by omega)
  have q4 : w.cell? ⟨g, 4, none⟩ = some (.int .u32 h.e.toNat) := hc 4 (by omega)
  clear hc
  have i0 := fun u => index_arr5 u g 0 (by omega) 0 rfl
  have i1 := fun u => index_arr5 u g 1 (by omega) 1 rfl
  have i2 := fun u => index_arr5 u g 2 (by omega) 2 rfl
  have i3 := fun u => index_arr5 u g 3 (by omega) 3 rfl
  have i4 := fun u => index_arr5 u g 4 (by omega) 4 rfl
  have C := Lib.hid (fun u (hu : Below w.heap.size w u) => schedule_any u g cs (0, 0) m ((hu.block g (lt_of_heap hg)).trans hg) hb)
  have HG := Lib.hid hg; clear hg
  have HS := Lib.hid hs; clear hs
  have HB := Lib.hid hb; clear hb
  go_enter Tryd.func46, Tryd.ntmps46
  go_wp2_with fail
  go_quiet (fail)
  clear q0 q1 q2 q3 q4
  go_wp2_with fail
  refine (C.out _ (below_drewN (Below.refl _ _) _)).mono ?_
  rintro e w1 ⟨rfl, hb1⟩
  have hb : Below w.heap.size w w1 := (below_drewN (Below.refl _ _) _).trans (hb1.mono (Nat.le_refl _))
  clear hb1 C
  generalize hlst : wv (sched m 80) = lst
  have hwl : ∀ j, j < 80 → lst.toArray[j]? = some (.int .u32 (W80 m j).toNat) := fun j hj => by
    rw [← hlst, List.getElem?_toArray, wv_at _ _ (by rw [sched_len]; exact hj)]; rfl
  generalize lst.toArray = arr at hwl
  clear hlst
  have HWL := Lib.hid hwl; clear hwl
  go_wp2_with fail
  go_loopw [2, 3, 4, 5, 6, 36] (fun a b c d e i wr => ∃ (k : Nat) (s : H5), k ≤ 80 ∧ i = .int .i64 k ∧ a = .int .u32 s.a.toNat ∧ b = .int .u32 s.b.toNat ∧ c = .int .u32 s.c.toNat ∧ d = .int .u32 s.d.toNat ∧ e = .int .u32 s.e.toNat ∧
      s = rounds (sched m 80) h k ∧ Below w.heap.size w wr) (fun _ _ _ _ _ i _ => 80 - (intOf i).toNat)
  case atStart => exact ⟨0, h, Nat.zero_le _, rfl, rfl, rfl, rfl, rfl, rfl, rfl, hb⟩
  case round =>
    clear hb
    obtain ⟨k, s, hk, rfl, rfl, rfl, rfl, rfl, rfl, hs, hbr⟩ := hrel
    have HSK := Lib.hid hs; clear hs
    by_cases hlt : k < 80
    · have hk1 : k + 1 ≤ 80 := hlt
      have hix := index_agg80 wr arr k hlt _ (HWL.out k hlt) k rfl
      obtain ⟨y, hy⟩ : ∃ y : Int, y = (W80 m k).toNat := ⟨_, rfl⟩
      rw [← hy] at hix
      have HY := Lib.hid hy; clear hy
      go_wp2_with fail
      clear hix
      refine (rot_5 s.a _).mono ?_
      rintro e w2 ⟨rfl, rfl⟩
      generalize hr5 : (((rl s.a 5).toNat : Nat) : Int) = r5
      have H5 := Lib.hid hr5; clear hr5
      go_wp2_with fail
      refine (join_any k hlt s.b s.c s.d _).mono ?_
      rintro e w2 ⟨rfl, rfl⟩
      generalize hrj : (((fk k s.b s.c s.d).toNat : Nat) : Int) = rj
      have HJ := Lib.hid hrj; clear hrj
      go_wp2_with fail
      refine (rot_30 s.b _).mono ?_
      rintro e w2 ⟨rfl, rfl⟩
      generalize hr30 : (((rl s.b 30).toNat : Nat) : Int) = r30
      have H30 := Lib.hid hr30; clear hr30
      go_wp2
      go_roundw
      case rel =>
        refine ⟨k + 1, stepH k (W80 m k) s, hk1, by go_num, ?_, ?_, ?_, ?_, ?_, ?_, hbr⟩
        · rw [← H5.out, ← HJ.out, HY.out]
          exact congrArg (Value.int .u32) (step_a2 k _ s)
        · rw [step_b]
        · rw [← H30.out, step_c]
        · rw [step_d]
        · rw [step_e]
        · rw [HSK.out, rounds80]
      case measure => simp [intOf]; omega
    · obtain rfl : k = 80 := by omega
      clear HWL
      have hgr : wr.heap[g]? = some (.cells cs 77 (0, 0)) := (hbr.block g (lt_of_heap HG.out)).trans HG.out
      have hcs : ∀ i, i < 5 → cs[i]? = some (.int .u32 (h.get i).toNat) := HS.out.word
      have hsz := HS.out.size
      have HCS := Lib.hid hcs; clear hcs
      have HSZ := Lib.hid hsz; clear hsz
      have GR0 := Lib.hid (grown_of_below hbr (some g))
      have HGR0 := Lib.hid hgr
      clear hgr
      go_wp2_with fail
      have q : wr.cell? ⟨g, 0, none⟩ = some (.int .u32 h.a.toNat) := (cell_of_row wr g 0 _ _ _ HGR0.out).trans (HCS.out 0 (by omega))
      have z := not_frozen HGR0.out 0
      go_still_tail 10, (by kernel_rfl)
      change wpList _ _ _ _ _ (World.drew wr)
      go_wp2_with fail
      clear q z
      generalize hw : (wr.setCell ⟨g, 0, none⟩ (Value.int .u32 (((h.a.toNat : Int) + s.a.toNat) % 4294967296))).drew = w1
      have HGR1 := Lib.hid (step_heap HGR0.out hw)
      have GR1 := Lib.hid (step_grown GR0.out hw)
      clear hw
      have q : w1.cell? ⟨g, 1, none⟩ = some (.int .u32 h.b.toNat) := (cell_of_row w1 g 1 _ _ _ HGR1.out).trans (old_at1 HSZ.out (HCS.out 1 (by omega)))
      have z := not_frozen HGR1.out 1
      go_still_tail 10, (by kernel_rfl)
      change wpList _ _ _ _ _ (World.drew w1)
      go_wp2_with fail
      clear q z
      generalize hw : (w1.setCell ⟨g, 1, none⟩ (Value.int .u32 (((h.b.toNat : Int) + s.b.toNat) % 4294967296))).drew = w2
      have HGR2 := Lib.hid (step_heap HGR1.out hw)
      have GR2 := Lib.hid (step_grown GR1.out hw)
      clear hw
      have q : w2.cell? ⟨g, 2, none⟩ = some (.int .u32 h.c.toNat) := (cell_of_row w2 g 2 _ _ _ HGR2.out).trans (old_at2 HSZ.out (HCS.out 2 (by omega)))
      have z := not_frozen HGR2.out 2
      go_still_tail 10, (by kernel_rfl)
      change wpList _ _ _ _ _ (World.drew w2)
      go_wp2_with fail
      clear q z
      generalize hw : (w2.setCell ⟨g, 2, none⟩ (Value.int .u32 (((h.c.toNat : Int) + s.c.toNat) % 4294967296))).drew = w3
      have HGR3 := Lib.hid (step_heap HGR2.out hw)
      have GR3 := Lib.hid (step_grown GR2.out hw)
      clear hw
      have q : w3.cell? ⟨g, 3, none⟩ = some (.int .u32 h.d.toNat) := (cell_of_row w3 g 3 _ _ _ HGR3.out).trans (old_at3 HSZ.out (HCS.out 3 (by omega)))
      have z := not_frozen HGR3.out 3
      go_still_tail 10, (by kernel_rfl)
      change wpList _ _ _ _ _ (World.drew w3)
      go_wp2_with fail
      clear q z
      generalize hw : (w3.setCell ⟨g, 3, none⟩ (Value.int .u32 (((h.d.toNat : Int) + s.d.toNat) % 4294967296))).drew = w4
      have HGR4 := Lib.hid (step_heap HGR3.out hw)
      have GR4 := Lib.hid (step_grown GR3.out hw)
      clear hw
      have q : w4.cell? ⟨g, 4, none⟩ = some (.int .u32 h.e.toNat) := (cell_of_row w4 g 4 _ _ _ HGR4.out).trans (old_at4 HSZ.out (HCS.out 4 (by omega)))
      have z := not_frozen HGR4.out 4
      go_still_tail 10, (by kernel_rfl)
      change wpList _ _ _ _ _ (World.drew w4)
      go_wp2_with fail
      clear q z
      go_end0
      refine ⟨rfl, grown_drew (grown_trans GR4.out (grown_set w4 g 4 _)), _, heap_set HGR4.out 4 _, ?_, ?_⟩
      · rw [comp, ← HSK.out]
        exact stB_added HSZ.out h s
      · intro i hi
        rw [set_get _ _ _ _ (by simp [HSZ.out]), if_neg (by omega), set_get _ _ _ _ (by simp [HSZ.out]), if_neg (by omega), set_get _ _ _ _ (by simp [HSZ.out]), if_neg (by omega), set_get _ _ _ _ (by simp [HSZ.out]), if_neg (by omega), set_get _ _ _ _ (by simp [HSZ.out]), if_neg (by omega)]
end Go.Proofs.YtbcbbkdfdfgnfaaDoor
