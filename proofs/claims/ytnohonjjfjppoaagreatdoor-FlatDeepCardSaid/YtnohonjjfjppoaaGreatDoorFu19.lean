/-
  Texts that belong together, one behind the other.
-/
import Derived.Test.YtnohonjjfjppoaaGreatDoorFu18
import Derived.OwnWalk
import Derived.Test.YtnohonjjfjppoaaGreatDoorFu15
/-
  Layer 2: mix: a full block goes into the words.
-/
namespace Go.Proofs.YtnohonjjfjppoaaGreatDoor
open Go.RowKit
set_option linter.unusedVariables false
set_option linter.unusedSimpArgs false
/-- What lies in the block of a state. -/
structure StB (cs : Array Value) (h : H5) : Prop where
  size : cs.size = 71
  word : ∀ i, i < 5 → cs[i]? = some (.int .u32 (h.get i).toNat)
theorem grown_of_below {w w' : World} (h : Below w.heap.size w w') (row : Option Nat) : w.grownBy w' row := ⟨h.os, h.tape, h.output, h.size, fun k hk _ => h.block k hk⟩
theorem grown_trans {a b c : World} {row : Option Nat} (h : a.grownBy b row) (k : b.grownBy c row) : a.grownBy c row :=
  ⟨k.os.trans h.os, k.tape.trans h.tape, k.output.trans h.output, Nat.le_trans h.size k.size, fun i hi hr => (k.block i (Nat.lt_of_lt_of_le hi h.size) hr).trans (h.block i hi hr)⟩
theorem grown_set (w : World) (g i : Nat) (v : Value) : w.grownBy (w.setCell ⟨g, i, none⟩ v) (some g) :=
  ⟨rfl, rfl, rfl, by simp [World.setCell], fun k hk hr => Below.heap_setCell _ _ _ _ (fun e => hr (by rw [e]))⟩
theorem grown_drew {w w' : World} {row : Option Nat} (h : w.grownBy w' row) : w.grownBy w'.drew row := ⟨h.os, h.tape, h.output, h.size, h.block⟩
theorem step_heap {u u' : World} {g : Nat} {cs : Array Value} {t : TypeId} {i : Nat} {v : Value} (h : u.heap[g]? = some (.cells cs t (0, 0))) (hw : (u.setCell ⟨g, i, none⟩ v).drew = u') : u'.heap[g]? = some (.cells (cs.setIfInBounds i v) t (0, 0)) := by
  subst hw; exact heap_set h i v
theorem step_grown {w u u' : World} {g i : Nat} {v : Value} (h : w.grownBy u (some g)) (hw : (u.setCell ⟨g, i, none⟩ v).drew = u') : w.grownBy u' (some g) := by
  subst hw; exact grown_drew (grown_trans h (grown_set u g i v))
theorem old_at1 {cs : Array Value} {v0 x : Value} (hs : cs.size = 71) (h : cs[1]? = some x) : (cs.setIfInBounds 0 v0)[1]? = some x := by
  rw [set_get _ _ _ _ (by simp [hs]), if_neg (by omega)]; exact h
theorem old_at2 {cs : Array Value} {v0 v1 x : Value} (hs : cs.size = 71) (h : cs[2]? = some x) : ((cs.setIfInBounds 0 v0).setIfInBounds 1 v1)[2]? = some x := by
  rw [set_get _ _ _ _ (by simp [hs]), if_neg (by omega), set_get _ _ _ _ (by simp [hs]), if_neg (by omega)]; exact h
theorem old_at3 {cs : Array Value} {v0 v1 v2 x : Value} (hs : cs.size = 71) (h : cs[3]? = some x) : (((cs.setIfInBounds 0 v0).setIfInBounds 1 v1).setIfInBounds 2 v2)[3]? = some x := by
  rw [set_get _ _ _ _ (by simp [hs]), if_neg (by omega), set_get _ _ _ _ (by simp [hs]), if_neg (by omega), set_get _ _ _ _ (by simp [hs]), if_neg (by omega)]; exact h
theorem old_at4 {cs : Array Value} {v0 v1 v2 v3 x : Value} (hs : cs.size = 71) (h : cs[4]? = some x) : ((((cs.setIfInBounds 0 v0).setIfInBounds 1 v1).setIfInBounds 2 v2).setIfInBounds 3 v3)[4]? = some x := by
  rw [set_get _ _ _ _ (by simp [hs]), if_neg (by omega), set_get _ _ _ _ (by simp [hs]), if_neg (by omega), set_get _ _ _ _ (by simp [hs]), if_neg (by omega), set_get _ _ _ _ (by simp [hs]), if_neg (by omega)]; exact h
theorem stB_added {cs : Array Value} (hz : cs.size = 71) (h s : H5) : StB (((((cs.setIfInBounds 0 (.int .u32 (((h.a.toNat : Int) + s.a.toNat) % 4294967296))).setIfInBounds 1 (.int .u32 (((h.b.toNat : Int) + s.b.toNat) % 4294967296))).setIfInBounds 2 (.int .u32 (((h.c.toNat : Int) + s.c.toNat) % 4294967296))).setIfInBounds 3 (.int .u32 (((h.d.toNat : Int) + s.d.toNat) % 4294967296))).setIfInBounds 4 (.int .u32 (((h.e.toNat : Int) + s.e.toNat) % 4294967296))) (addH h s) where
  size := by simp [hz]
  word := by
    intro i hi
    rw [b_add, b_add, b_add, b_add, b_add]
    match i, hi with
    | 0, _ => rw [set_get _ _ _ _ (by simp [hz]), if_neg (by omega), set_get _ _ _ _ (by simp [hz]), if_neg (by omega), set_get _ _ _ _ (by simp [hz]), if_neg (by omega), set_get _ _ _ _ (by simp [hz]), if_neg (by omega), set_get _ _ _ _ (by simp [hz]), if_pos rfl]; rfl
    | 1, _ => rw [set_get _ _ _ _ (by simp [hz]), if_neg (by omega), set_get _ _ _ _ (by simp [hz]), if_neg (by omega), set_get _ _ _ _ (by simp [hz]), if_neg (by omega), set_get _ _ _ _ (by simp [hz]), if_pos rfl]; rfl
    | 2, _ => rw [set_get _ _ _ _ (by simp [hz]), if_neg (by omega), set_get _ _ _ _ (by simp [hz]), if_neg (by omega), set_get _ _ _ _ (by simp [hz]), if_pos rfl]; rfl
    | 3, _ => rw [set_get _ _ _ _ (by simp [hz]), if_neg (by omega), set_get _ _ _ _ (by simp [hz]), if_pos rfl]; rfl
    | 4, _ => rw [set_get _ _ _ _ (by simp [hz]), if_pos rfl]; rfl
set_option maxRecDepth 10000 in
set_option maxHeartbeats 4000000 in
theorem mix_any (w : World) (g : Nat) (cs : Array Value) (h : H5) (m : Nat → UInt8) (hg : w.heap[g]? = some (.cells cs 177 (0, 0))) (hs : StB cs h) (hb : ∀ i, i < 64 → cs[5 + i]? = some (.int .u8 (m i).toNat)) :
    Calls Tryz.prog 133 #[.pointer (some ⟨g, 0, none⟩)] w fun e w' => e = .returned (.tuple #[]) ∧ w.grownBy w' (some g) ∧
      ∃ cs', w'.heap[g]? = some (.cells cs' 177 (0, 0)) ∧ StB cs' (comp m h) ∧ ∀ i, 5 ≤ i → cs'[i]? = cs[i]? := by
  have hc : ∀ i, i < 5 → w.cell? ⟨g, i, none⟩ = some (.int .u32 (h.get i).toNat) := fun i hi => by rw [cell_of_row w g i cs _ _ hg, hs.word i hi]
  have q0 : w.cell? ⟨g, 0, none⟩ = some (.int .u32 h.a.toNat) := hc 0 (by omega)
  have q1 : w.cell? ⟨g, 1, none⟩ = some (.int .u32 h.b.toNat) := hc 1 (by omega)
  have q2 : w.cell? ⟨g, 2, none⟩ = some (.int .u32 h.c.toNat) := hc 2 (by omega)
  have q3 : w.cell? ⟨g, 3, none⟩ = some (.int .u32 h.d.toNat) := hc 3 (by omega)
  have q4 : w.cell? ⟨g, 4, none⟩ = some (.int .u32 h.e.toNat) := hc 4 (by omega)
  clear hc
  have i0 := fun u => index_arr5 u g 0 (by omega) 0 rfl
  have i1 := fun u => index_arr5 u g 1 (by omega) 1 rfl
  have i2 := fun u => index_arr5 u g 2 (by omega) 2 rfl
  have i3 := fun u => index_arr5 u g 3 (by omega) 3 rfl
  have i4 := fun u => index_arr5 u g 4 (by omega) 4 rfl
  have C := Lib.hid (fun u (hu : Below w.heap.size w u) => schedule_any u g cs (0, 0) m ((hu.block g (lt_of_heap hg)).trans hg) hb)
  have HG := Lib.hid hg; clear hg
  have HS := Lib.hid hs; clear hs
  have HB := Lib.hid hb; clear hb
  go_enter Tryz.func133, Tryz.ntmps133
  go_wp2_with fail
  go_quiet (fail)
  clear q0 q1 q2 q3 q4
  go_wp2_with fail
  refine (C.out _ (_root_.Go.below_drewN (Below.refl _ _) _)).mono ?_
  rintro e w1 ⟨rfl, hb1⟩
  have hb : Below w.heap.size w w1 := (_root_.Go.below_drewN (Below.refl _ _) _).trans (hb1.mono (Nat.le_refl _))
  clear hb1 C
  generalize hlst : wv (sched m 80) = lst
  have hwl : ∀ j, j < 80 → lst.toArray[j]? = some (.int .u32 (W80 m j).toNat) := fun j hj => by
    rw [← hlst, List.getElem?_toArray, wv_at _ _ (by rw [sched_len]; exact hj)]; rfl
  generalize lst.toArray = arr at hwl
  clear hlst
  have HWL := Lib.hid hwl; clear hwl
  go_wp2_with fail
  go_loopw [2, 3, 4, 5, 6, 36] (fun a b c d e i wr => ∃ (k : Nat) (s : H5), k ≤ 80 ∧ i = .int .i64 k ∧ a = .int .u32 s.a.toNat ∧ b = .int .u32 s.b.toNat ∧ c = .int .u32 s.c.toNat ∧ d = .int .u32 s.d.toNat ∧ e = .int .u32 s.e.toNat ∧
      s = rounds (sched m 80) h k ∧ Below w.heap.size w wr) (fun _ _ _ _ _ i _ => 80 - (intOf i).toNat)
  case atStart => exact ⟨0, h, Nat.zero_le _, rfl, rfl, rfl, rfl, rfl, rfl, rfl, hb⟩
  case round =>
    clear hb
    obtain ⟨k, s, hk, rfl, rfl, rfl, rfl, rfl, rfl, hs, hbr⟩ := hrel
    have HSK := Lib.hid hs; clear hs
    by_cases hlt : k < 80
    · have hk1 : k + 1 ≤ 80 := hlt
      have hix := index_agg80 wr arr k hlt _ (HWL.out k hlt) k rfl
      obtain ⟨y, hy⟩ : ∃ y : Int, y = (W80 m k).toNat := ⟨_, rfl⟩
      rw [← hy] at hix
      have HY := Lib.hid hy; clear hy
      go_wp2_with fail
      clear hix
      refine (rot_5 s.a _).mono ?_
      rintro e w2 ⟨rfl, rfl⟩
      generalize hr5 : (((rl s.a 5).toNat : Nat) : Int) = r5
      have H5 := Lib.hid hr5; clear hr5
      go_wp2_with fail
      refine (join_any k hlt s.b s.c s.d _).mono ?_
      rintro e w2 ⟨rfl, rfl⟩
      generalize hrj : (((fk k s.b s.c s.d).toNat : Nat) : Int) = rj
      have HJ := Lib.hid hrj; clear hrj
      go_wp2_with fail
      refine (rot_30 s.b _).mono ?_
      rintro e w2 ⟨rfl, rfl⟩
      generalize hr30 : (((rl s.b 30).toNat : Nat) : Int) = r30
      have H30 := Lib.hid hr30; clear hr30
      go_wp2
      go_roundw
      case rel =>
        refine ⟨k + 1, stepH k (W80 m k) s, hk1, by go_num, ?_, ?_, ?_, ?_, ?_, ?_, hbr⟩
        · rw [← H5.out, ← HJ.out, HY.out]
          exact congrArg (Value.int .u32) (step_a2 k _ s)
        · rw [step_b]
        · rw [← H30.out, step_c]
        · rw [step_d]
        · rw [step_e]
        · rw [HSK.out, rounds80]
      case measure => simp [intOf]; omega
    · obtain rfl : k = 80 := by omega
      clear HWL
      have hgr : wr.heap[g]? = some (.cells cs 177 (0, 0)) := (hbr.block g (lt_of_heap HG.out)).trans HG.out
      have hcs : ∀ i, i < 5 → cs[i]? = some (.int .u32 (h.get i).toNat) := HS.out.word
      have hsz := HS.out.size
      have HCS := Lib.hid hcs; clear hcs
      have HSZ := Lib.hid hsz; clear hsz
      have GR0 := Lib.hid (grown_of_below hbr (some g))
      have HGR0 := Lib.hid hgr
      clear hgr
      go_wp2_with fail
      have q : wr.cell? ⟨g, 0, none⟩ = some (.int .u32 h.a.toNat) := (cell_of_row wr g 0 _ _ _ HGR0.out).trans (HCS.out 0 (by omega))
      have z := not_frozen HGR0.out 0
      go_still_tail 10, (by kernel_rfl)
      change wpList _ _ _ _ _ (World.drew wr)
      go_wp2_with fail
      clear q z
      generalize hw : (wr.setCell ⟨g, 0, none⟩ (Value.int .u32 (((h.a.toNat : Int) + s.a.toNat) % 4294967296))).drew = w1
      have HGR1 := Lib.hid (step_heap HGR0.out hw)
      have GR1 := Lib.hid (step_grown GR0.out hw)
      clear hw
      have q : w1.cell? ⟨g, 1, none⟩ = some (.int .u32 h.b.toNat) := (cell_of_row w1 g 1 _ _ _ HGR1.out).trans (old_at1 HSZ.out (HCS.out 1 (by omega)))
      have z := not_frozen HGR1.out 1
      go_still_tail 10, (by kernel_rfl)
      change wpList _ _ _ _ _ (World.drew w1)
      go_wp2_with fail
      clear q z
      generalize hw : (w1.setCell ⟨g, 1, none⟩ (Value.int .u32 (((h.b.toNat : Int) + s.b.toNat) % 4294967296))).drew = w2
      have HGR2 := Lib.hid (step_heap HGR1.out hw)
      have GR2 := Lib.hid (step_grown GR1.out hw)
      clear hw
      have q : w2.cell? ⟨g, 2, none⟩ = some (.int .u32 h.c.toNat) := (cell_of_row w2 g 2 _ _ _ HGR2.out).trans (old_at2 HSZ.out (HCS.out 2 (by omega)))
      have z := not_frozen HGR2.out 2
      go_still_tail 10, (by kernel_rfl)
      change wpList _ _ _ _ _ (World.drew w2)
      go_wp2_with fail
      clear q z
      generalize hw : (w2.setCell ⟨g, 2, none⟩ (Value.int .u32 (((h.c.toNat : Int) + s.c.toNat) % 4294967296))).drew = w3
      have HGR3 := Lib.hid (step_heap HGR2.out hw)
      have GR3 := Lib.hid (step_grown GR2.out hw)
      clear hw
      have q : w3.cell? ⟨g, 3, none⟩ = some (.int .u32 h.d.toNat) := (cell_of_row w3 g 3 _ _ _ HGR3.out).trans (old_at3 HSZ.out (HCS.out 3 (by omega)))
      have z := not_frozen HGR3.out 3
      go_still_tail 10, (by kernel_rfl)
      change wpList _ _ _ _ _ (World.drew w3)
      go_wp2_with fail
      clear q z
      generalize hw : (w3.setCell ⟨g, 3, none⟩ (Value.int .u32 (((h.d.toNat : Int) + s.d.toNat) % 4294967296))).drew = w4
      have HGR4 := Lib.hid (step_heap HGR3.out hw)
      have GR4 := Lib.hid (step_grown GR3.out hw)
      clear hw
      have q : w4.cell? ⟨g, 4, none⟩ = some (.int .u32 h.e.toNat) := (cell_of_row w4 g 4 _ _ _ HGR4.out).trans (old_at4 HSZ.out (HCS.out 4 (by omega)))
      have z := not_frozen HGR4.out 4
      go_still_tail 10, (by kernel_rfl)
      change wpList _ _ _ _ _ (World.drew w4)
      go_wp2_with fail
      clear q z
      go_end0
      refine ⟨rfl, grown_drew (grown_trans GR4.out (grown_set w4 g 4 _)), _, heap_set HGR4.out 4 _, ?_, ?_⟩
      · rw [comp, ← HSK.out]
        exact stB_added HSZ.out h s
      · intro i hi
        rw [set_get _ _ _ _ (by simp [HSZ.out]), if_neg (by omega), set_get _ _ _ _ (by simp [HSZ.out]), if_neg (by omega), set_get _ _ _ _ (by simp [HSZ.out]), if_neg (by omega), set_get _ _ _ _ (by simp [HSZ.out]), if_neg (by omega), set_get _ _ _ _ (by simp [HSZ.out]), if_neg (by omega)]
end Go.Proofs.YtnohonjjfjppoaaGreatDoor

/-
  Layer 2: add: one more part goes into the state.
-/
namespace Go.Proofs.YtnohonjjfjppoaaGreatDoor
set_option maxRecDepth 20000
open Go.RowKit
set_option linter.unusedVariables false
set_option linter.unusedSimpArgs false
/-- What lies in a state's block behind p bytes of a text. -/
structure StC (cs : Array Value) (T : Nat → UInt8) (p n : Nat) : Prop where
  words : StB cs (hs T (p / 64))
  bytes : ∀ i, i < p % 64 → cs[5 + i]? = some (.int .u8 (T (64 * (p / 64) + i)).toNat)
  fill : cs[69]? = some (.int .i64 ((p % 64 : Nat) : Int))
  len : cs[70]? = some (.int .u64 (n : Int))
def StT (w : World) (g : Nat) (T : Nat → UInt8) (p n : Nat) : Prop := ∃ cs, w.heap[g]? = some (.cells cs 177 (0, 0)) ∧ StC cs T p n
theorem splice_get (cs : Array Value) (off : Nat) (ch : List Value) (hf : off + ch.length ≤ cs.size) (i : Nat) :
    (cs.toList.take off ++ (ch ++ cs.toList.drop (off + ch.length))).toArray[i]? = if i < off then cs[i]? else if i < off + ch.length then ch[i - off]? else cs[i]? := by
  have hl : (cs.toList.take off).length = off := by simp; omega
  have e : (cs.toList.take off ++ (ch ++ cs.toList.drop (off + ch.length))).toArray[i]? = (cs.toList.take off ++ (ch ++ cs.toList.drop (off + ch.length)))[i]? := by simp
  rw [e]
  by_cases h1 : i < off
  · rw [if_pos h1, List.getElem?_append_left (by omega), List.getElem?_take, if_pos h1]; simp
  · rw [if_neg h1, List.getElem?_append_right (by omega), hl]
    by_cases h2 : i < off + ch.length
    · rw [if_pos h2, List.getElem?_append_left (by omega)]
    · rw [if_neg h2, List.getElem?_append_right (by omega), List.getElem?_drop]
      rw [show off + ch.length + (i - off - ch.length) = i by omega]; simp
def chunk (T : Nat → UInt8) (p n : Nat) : List Value := (List.range n).map fun i => .int .u8 (T (p + i)).toNat
theorem chunk_len (T : Nat → UInt8) (p n : Nat) : (chunk T p n).length = n := by simp [chunk]
theorem chunk_at (T : Nat → UInt8) (p n i : Nat) (h : i < n) : (chunk T p n)[i]? = some (.int .u8 (T (p + i)).toNat) := by simp [chunk, h]
theorem chunk_one (T : Nat → UInt8) (p n : Nat) : ∀ v ∈ chunk T p n, v.oneCell' = true := by
  intro v hv; simp [chunk] at hv; obtain ⟨x, _, rfl⟩ := hv; rfl
/-- How long a slice is. -/
def sliceLen : Value → Nat | .slice _ n _ => n | _ => 0
theorem info5' : (Tryz.prog.info? 5).map (·.size) = some 1 := by kernel_rfl
set_option maxHeartbeats 4000000 in
theorem add_some (w : World) (g : Nat) (T : Nat → UInt8) (p n : Nat) (b o N c : Nat) (hst : StT w g T p n) (hbg : b ≠ g) (hbl : b < w.heap.size) (hN : N ≤ c) (hNs : n + N ≤ 1099511627776)
    (hcell : ∀ i, i < N → w.cell? ⟨b, o + i, none⟩ = some (.int .u8 (T (p + i)).toNat)) :
    Calls Tryz.prog 110 #[.pointer (some ⟨g, 0, none⟩), .slice (some ⟨b, o, none⟩) N c] w fun e w' => e = .returned (.tuple #[]) ∧ w.grownBy w' (some g) ∧ StT w' g T (p + N) (n + N) := by
  obtain ⟨cs, hg, hc⟩ := hst
  have HC := Lib.hid hcell; clear hcell
  have q70 : w.cell? ⟨g, 70, none⟩ = some (.int .u64 n) := (cell_of_row w g 70 cs _ _ hg).trans hc.len
  have z70 := not_frozen hg 70
  have hgl := lt_of_heap hg
  have HG := Lib.hid hg; clear hg
  have HS := Lib.hid hc; clear hc
  go_enter Tryz.func110, Tryz.ntmps110
  go_wp2_with fail
  generalize hw1 : w.setCell ⟨g, 70, none⟩ (.int .u64 ((n : Int) + (N : Int))) = w1
  have hst1 : StT w1 g T p (n + N) := by
    subst hw1
    have e : ∀ i, i ≠ 70 → (cs.setIfInBounds 70 (.int .u64 ((n : Int) + (N : Int))))[i]? = cs[i]? := fun i hi => by rw [set_get _ _ _ _ (by rw [HS.out.words.size]; omega), if_neg hi]
    refine ⟨_, heap_set HG.out 70 _, ⟨⟨by simp [HS.out.words.size], fun i hi => by rw [e i (by omega)]; exact HS.out.words.word i hi⟩, fun i hi => by rw [e _ (by omega)]; exact HS.out.bytes i hi, by rw [e 69 (by omega)]; exact HS.out.fill, ?_⟩⟩
    rw [set_get _ _ _ _ (by rw [HS.out.words.size]; omega), if_pos rfl]; rfl
  have hgr1 : w.grownBy w1 (some g) := by subst hw1; exact grown_set w g 70 _
  clear hw1 q70 z70 HS HG
  go_loopw [1] (fun v wr => ∃ (j r : Nat) (A : Option Addr) (C : Nat), j + r = N ∧ v = .slice A r C ∧ r ≤ C ∧ (0 < r → A = some ⟨b, o + j, none⟩) ∧ StT wr g T (p + j) (n + N) ∧ w.grownBy wr (some g)) (fun v _ => sliceLen v)
  case atStart => exact ⟨0, N, _, c, Nat.zero_add _, rfl, hN, fun _ => rfl, hst1, hgr1⟩
  case round =>
    clear hst1 hgr1
    obtain ⟨j, r, A, C, hj, rfl, hC, hA, hst, hgr⟩ := hrel
    by_cases hlt : 0 < r
    · obtain rfl := hA hlt
      clear hA
      obtain ⟨cs, hg, hc⟩ := hst
      obtain ⟨f, hf⟩ : ∃ f, f = (p + j) % 64 := ⟨_, rfl⟩
      obtain ⟨q, hq⟩ : ∃ q, q = (p + j) / 64 := ⟨_, rfl⟩
      have hf64 : f < 64 := by omega
      have hcw := hc.words; have hcb := hc.bytes; have hcf := hc.fill; have hcl := hc.len
      rw [← hf] at hcb hcf; rw [← hq] at hcw hcb
      clear hc
      have hz := hcw.size
      have q69 : wr.cell? ⟨g, 69, none⟩ = some (.int .i64 f) := (cell_of_row wr g 69 cs _ _ hg).trans hcf
      have hsl := fun u => slice64_l u g f hf64 f rfl
      have HF := Lib.hid hf; have HQ := Lib.hid hq; clear hf hq
      have HCW := Lib.hid hcw; have HCB := Lib.hid hcb; have HCF := Lib.hid hcf; have HCL := Lib.hid hcl; have HZ := Lib.hid hz; have HG := Lib.hid hg; have HJ := Lib.hid hj
      clear hcw hcb hcf hcl hz hg hj
      go_wp2_with fail
      go_still_tail 9, (by kernel_rfl)
      change wpList _ _ _ _ _ wr.drew
      obtain ⟨k, hk⟩ : ∃ k, k = min r (64 - f) := ⟨_, rfl⟩
      have hk1 : k ≤ r := by omega
      have hk2 : k ≤ 64 - f := by omega
      have hk3 : 0 < k := by omega
      have hk4 : k < r → k = 64 - f := by omega
      have hj0 := HJ.out
      have hz0 := HZ.out
      refine wpList_copy_own rfl (.tmp 25) (.tmp 26) 50 50 rfl 5 Tryz.underlying50 info5' g (5 + f) (64 - f) (64 - f) ⟨b, o + j, none⟩ r C rfl rfl cs 177 HG.out (chunk T (p + j) k) (by rw [chunk_len, hk]) ?src (by rw [chunk_len]; omega) (chunk_one _ _ _) ?_
      case src =>
        intro i v hv
        have hi : i < k := by
          rcases Nat.lt_or_ge i k with h | h
          · exact h
          · rw [List.getElem?_eq_none (by rw [chunk_len]; exact h)] at hv; cases hv
        rw [chunk_at _ _ _ _ hi] at hv
        have h1 : wr.heap[b]? = w.heap[b]? := hgr.block b hbl (fun e => hbg (by cases e; rfl))
        have h2 := HC.out (j + i) (by omega)
        have h3 : (⟨b, o + j, none⟩ : Addr).add i = ⟨b, o + (j + i), none⟩ := by unfold Addr.add; split <;> simp_all [Nat.add_assoc]
        rw [h3]
        rw [show wr.drew.cell? ⟨b, o + (j + i), none⟩ = w.cell? ⟨b, o + (j + i), none⟩ from World.cell?_of_block (w := w) (w' := wr.drew) h1, h2, show p + (j + i) = p + j + i by omega]
        exact hv
      obtain ⟨cs2, hcs2⟩ : ∃ cs2, cs2 = (cs.toList.take (5 + f) ++ (chunk T (p + j) k ++ cs.toList.drop (5 + f + (chunk T (p + j) k).length))).toArray := ⟨_, rfl⟩
      rw [← hcs2]
      have hget : ∀ i, cs2[i]? = if i < 5 + f then cs[i]? else if i < 5 + f + k then (chunk T (p + j) k)[i - (5 + f)]? else cs[i]? := fun i => by
        rw [hcs2, splice_get _ _ _ (by rw [chunk_len]; omega), chunk_len]
      have hsz2 : cs2.size = 71 := by rw [hcs2]; simp [chunk_len]; omega
      have hg2 : (wr.drew.setRow g cs2).heap[g]? = some (.cells cs2 177 (0, 0)) := setRow_heap wr.drew g cs cs2 _ _ HG.out
      have hgr2 : w.grownBy (wr.drew.setRow g cs2) (some g) := grown_trans hgr ⟨rfl, rfl, rfl, by simp [World.setRow], fun i hi hr => setRow_other wr.drew g i cs2 (fun e => hr (by rw [e]))⟩
      rw [chunk_len]
      generalize wr.drew.setRow g cs2 = w2 at hg2 hgr2 ⊢
      clear hcs2 hgr q69 hsl
      have hlo : ∀ i, i < 5 + f → cs2[i]? = cs[i]? := fun i hi => by rw [hget, if_pos hi]
      have hmid : ∀ i, i < k → cs2[5 + (f + i)]? = some (.int .u8 (T (p + j + i)).toNat) := fun i hi => by
        rw [hget, if_neg (by omega), if_pos (by omega), show 5 + (f + i) - (5 + f) = i by omega, chunk_at _ _ _ _ hi]
      have hhi : ∀ i, 69 ≤ i → cs2[i]? = cs[i]? := fun i hi => by rw [hget, if_neg (by omega), if_neg (by omega)]
      have hpj : p + j = 64 * q + f := by have := HF.out; have := HQ.out; omega
      have hby : ∀ i, i < f + k → cs2[5 + i]? = some (.int .u8 (T (64 * q + i)).toNat) := fun i hi => by
        by_cases h : i < f
        · rw [hlo _ (by omega), HCB.out i h]
        · rw [show 5 + i = 5 + (f + (i - f)) by omega, hmid (i - f) (by omega), show p + j + (i - f) = 64 * q + i by omega]
      have hwd : ∀ i, i < 5 → cs2[i]? = some (.int .u32 ((hs T q).get i).toNat) := fun i hi => by rw [hlo i (by omega), HCW.out.word i hi]
      have q69 : w2.cell? ⟨g, 69, none⟩ = some (.int .i64 f) := (cell_of_row w2 g 69 cs2 _ _ hg2).trans ((hhi 69 (by omega)).trans HCF.out)
      have z69 := not_frozen hg2 69
      have hl70 : cs2[70]? = some (.int .u64 ((n + N : Nat) : Int)) := (hhi 70 (by omega)).trans HCL.out
      have HBY := Lib.hid hby; have HWD := Lib.hid hwd; have HL70 := Lib.hid hl70; have HG2 := Lib.hid hg2; have HS2 := Lib.hid hsz2; have HPJ := Lib.hid hpj
      clear hget hlo hmid hhi hby hwd hl70 hg2 hsz2 hpj HCW HCB HCF HCL HG HZ HF HQ hz0 hj0 hk
      have HK4 := Lib.hid hk4; clear hk4
      have hs2 := fun u => slice_u8_l u (some ⟨b, o + j, none⟩) r C k hk1 k rfl
      obtain ⟨A2, hA2⟩ : ∃ A2, A2 = (if C = k then (some ⟨b, o + j, none⟩ : Option Addr) else (some ⟨b, o + j, none⟩ : Option Addr).map (·.add k)) := ⟨_, rfl⟩
      rw [← hA2] at hs2
      have hA3 : 0 < r - k → A2 = some ⟨b, o + (j + k), none⟩ := fun h => by
        rw [hA2, if_neg (by omega), Option.map_some, addr_add, Nat.add_assoc]
      have HA3 := Lib.hid hA3; clear hA2 hA3
      have hnx : r - k < r := by omega
      by_cases h64 : f + k = 64
      · have hb64 : (((f : Int) + (k : Int)) == 64) = true := by rw [beq_iff_eq]; omega
        have C3 := Lib.hid (mix_any (w2.setCell ⟨g, 69, none⟩ (.int .i64 ((f : Int) + (k : Int)))) g _ (hs T q) (fun i => T (64 * q + i)) (heap_set HG2.out 69 _)
          ⟨by rw [Array.size_setIfInBounds]; exact HS2.out, fun i hi => by rw [set_get _ _ _ _ (by rw [HS2.out]; omega), if_neg (by omega)]; exact HWD.out i hi⟩
          (fun i hi => by rw [set_get _ _ _ _ (by rw [HS2.out]; omega), if_neg (by omega)]; exact HBY.out i (by omega)))
        have hg69 := grown_trans hgr2 (grown_set w2 g 69 (.int .i64 ((f : Int) + (k : Int))))
        go_wp2_with fail
        refine C3.out.mono ?_
        rintro e w4 ⟨rfl, hgr4, cs4, hg4, hst4, hhi4⟩
        have hgr5 := grown_trans hg69 hgr4
        clear C3 hg69 hgr4 q69 z69 hgr2
        have hsz4 := hst4.size
        obtain ⟨old, ho⟩ : ∃ v, w4.cell? ⟨g, 69, none⟩ = some v := ⟨cs4[69]'(by omega), by rw [cell_of_row w4 g 69 cs4 _ _ hg4]; simp⟩
        have z4 := not_frozen hg4 69
        have HG4 := Lib.hid hg4; have HST4 := Lib.hid hst4; have HH4 := Lib.hid hhi4; have HZ4 := Lib.hid hsz4
        clear hg4 hst4 hhi4 hsz4
        go_wp2
        go_roundw
        case rel =>
          have hpj := HPJ.out
          have hj0 := HJ.out
          refine ⟨j + k, r - k, A2, C - k, by omega, rfl, by omega, HA3.out, ⟨_, heap_set HG4.out 69 _, ?_⟩, grown_trans hgr5 (grown_set w4 g 69 _)⟩
          have e1 : (p + (j + k)) % 64 = 0 := by omega
          have e2 : (p + (j + k)) / 64 = q + 1 := by omega
          refine ⟨⟨by rw [Array.size_setIfInBounds]; exact HZ4.out, fun i hi => ?_⟩, fun i hi => by rw [e1] at hi; exact absurd hi (Nat.not_lt_zero _), ?_, ?_⟩
          · rw [set_get _ _ _ _ (by rw [HZ4.out]; omega), if_neg (by omega), e2]
            exact HST4.out.word i hi
          · rw [set_get _ _ _ _ (by rw [HZ4.out]; omega), if_pos rfl, e1]; rfl
          · rw [set_get _ _ _ _ (by rw [HZ4.out]; omega), if_neg (by omega), HH4.out 70 (by omega), set_get _ _ _ _ (by rw [HS2.out]; omega), if_neg (by omega)]
            exact HL70.out
        case measure => exact hnx
      · have hb64 : (((f : Int) + (k : Int)) == 64) = false := by rw [beq_eq_false_iff_ne]; omega
        go_wp2
        refine ⟨?re2, hnx⟩
        case re2 =>
          have hpj := HPJ.out
          have hj0 := HJ.out
          have hk5 := HK4.out
          refine ⟨j + k, r - k, A2, C - k, by omega, rfl, by omega, HA3.out, ⟨_, heap_set HG2.out 69 _, ?_⟩, grown_trans hgr2 (grown_set w2 g 69 _)⟩
          have e1 : (p + (j + k)) % 64 = f + k := by omega
          have e2 : (p + (j + k)) / 64 = q := by omega
          refine ⟨⟨by rw [Array.size_setIfInBounds]; exact HS2.out, fun i hi => ?_⟩, fun i hi => ?_, ?_, ?_⟩
          · rw [set_get _ _ _ _ (by rw [HS2.out]; omega), if_neg (by omega), e2]
            exact HWD.out i hi
          · rw [e1] at hi
            rw [set_get _ _ _ _ (by rw [HS2.out]; omega), if_neg (by omega), e2]
            exact HBY.out i hi
          · rw [set_get _ _ _ _ (by rw [HS2.out]; omega), if_pos rfl, e1]; rfl
          · rw [set_get _ _ _ _ (by rw [HS2.out]; omega), if_neg (by omega)]
            exact HL70.out
    · obtain rfl : r = 0 := by omega
      go_wp2_with fail
      go_end0
      have e : j = N := by omega
      subst e
      exact ⟨rfl, hgr, hst⟩
end Go.Proofs.YtnohonjjfjppoaaGreatDoor

/-
  Layer 2: end: the text is closed.
-/
namespace Go.Proofs.YtnohonjjfjppoaaGreatDoor
set_option maxRecDepth 20000
open Go.RowKit
set_option linter.unusedVariables false
set_option linter.unusedSimpArgs false
theorem StT.grown {w w' : World} {g : Nat} {T : Nat → UInt8} {p n : Nat} {row : Option Nat} (h : StT w g T p n) (hg : w.grownBy w' row) (hr : some g ≠ row) : StT w' g T p n := by
  obtain ⟨cs, h1, h2⟩ := h
  exact ⟨cs, (hg.block g (lt_of_heap h1) hr).trans h1, h2⟩
theorem grown_new {a b c : World} {row : Option Nat} {k : Nat} (h : a.grownBy b row) (h2 : b.grownBy c (some k)) (hk : a.heap.size ≤ k) : a.grownBy c row :=
  ⟨h2.os.trans h.os, h2.tape.trans h.tape, h2.output.trans h.output, Nat.le_trans h.size h2.size, fun i hi hr => (h2.block i (Nat.lt_of_lt_of_le hi h.size) (fun e => by cases e; omega)).trans (h.block i hi hr)⟩
set_option maxHeartbeats 4000000 in
theorem end_any (w : World) (g : Nat) (l : List UInt8) (hl : l.length ≤ 1000000) (hst : StT w g (padF l) l.length l.length) :
    Calls Tryz.prog 111 #[.pointer (some ⟨g, 0, none⟩)] w fun e w' => e = .returned (.tuple #[]) ∧ w.grownBy w' (some g) ∧ StT w' g (padF l) (padLen l.length) (padLen l.length) := by
  obtain ⟨i0, hi, hz0, hz1, hz2⟩ := info_parts info5
  have HST := Lib.hid hst
  obtain ⟨cs, hg, hc⟩ := hst
  obtain ⟨n, hn⟩ : ∃ n, n = l.length := ⟨_, rfl⟩
  have q70 : w.cell? ⟨g, 70, none⟩ = some (.int .u64 n) := by rw [hn]; exact (cell_of_row w g 70 cs _ _ hg).trans hc.len
  obtain ⟨f, hf⟩ : ∃ f, f = n % 64 := ⟨_, rfl⟩
  have q69 : w.cell? ⟨g, 69, none⟩ = some (.int .i64 f) := by rw [hf, hn]; exact (cell_of_row w g 69 cs _ _ hg).trans hc.fill
  have hgl := lt_of_heap hg
  have hf64 : f < 64 := by omega
  have hn6 : n ≤ 1000000 := by omega
  obtain ⟨z, hz⟩ : ∃ z, z = (119 - f) % 64 := ⟨_, rfl⟩
  have hz64 : z < 64 := by omega
  have hzm : IntKind.i64.wrap ((119 - (f : Int)).tmod 64) = z := by rw [IntWalk.rem_in _ _ (by omega), IntKind.wrap_i64]; omega
  have hzm2 : (119 - (f : Int)).tmod 64 = z := by rw [IntWalk.rem_in _ _ (by omega)]; omega
  have HN := Lib.hid hn; have HF := Lib.hid hf; have HZ := Lib.hid hz
  clear hc hg hn hf hz hl
  go_enter Tryz.func111, Tryz.ntmps111
  go_wp2_with (at_make; refine wpList_make_full _ rfl _ _ 50 rfl w.heap.size 5 i0 (.int .u8 0) 1 Tryz.underlying50 hi hz0 hz1 _ _ _ _ (1 + z + 8) rfl rfl (by omega) (by omega) ?b2 ?b3 (Nat.le_refl _) ?_)
  case b2 => rw [hz2]; omega
  case b3 => unfold maxLen; omega
  intro w0 hown0 hgrow0
  have hgr0 : w.grownBy w0 (some g) := ⟨hgrow0.os, hgrow0.tape, hgrow0.output, hgrow0.size, fun k hk _ => hgrow0.block k hk (by simp)⟩
  have hs0 : StT w0 g (padF l) l.length l.length := HST.out.grown hgrow0 (by simp)
  obtain ⟨M, hM⟩ : ∃ M, M = 1 + z + 8 := ⟨_, rfl⟩
  have hM2 : 1 + z + 8 = M := hM.symm
  rw [hM2] at hown0 ⊢
  have hgl2 : w.heap.size ≠ g := by omega
  obtain ⟨y0, hy0⟩ := own_cell hown0 0 (by omega)
  have hf0 := hown0.frozenAt 0
  obtain ⟨hst0, hgs0⟩ := hown0.stored 0 (.int .u8 128)
  have hmade : ∀ j, j < M → (madeCells #[Value.int .u8 0] M).toList[j]? = some (.int .u8 0) := fun j hj => by
    rw [toList_madeCells_one, List.getElem?_replicate, if_pos hj]
  generalize hyz : (madeCells #[Value.int .u8 0] M).toList = ys0 at hown0 hst0 hmade
  have hgr1 := grown_new hgr0 hgs0 (Nat.le_refl _)
  have hs1 := hs0.grown hgs0 (by simp; omega)
  have HO := Lib.hid hown0; have HS0 := Lib.hid hst0; have HMD := Lib.hid hmade; have HM := Lib.hid hM
  clear hown0 hst0 hmade hyz hs0 hgrow0 hgs0 q70 q69 hM
  go_wp2_with fail
  generalize hw1 : w0.setCell ⟨w.heap.size, 0, none⟩ (.int .u8 128) = w1 at hgr1 hs1
  have HS0' := HS0.out
  rw [hw1] at HS0'
  have HSS := Lib.hid HS0'; have HS1 := Lib.hid hs1; clear hs1
  clear HS0' HS0 hw1 hy0 hf0
  go_loopw [23] (fun v wr => ∃ (k : Nat) (ys : List Value), k ≤ 8 ∧ v = .int .i64 k ∧ wr.ownsRow w.heap.size 5 1 (.slice (some ⟨w.heap.size, 0, none⟩) M M) M ys ∧
      (∀ j, j < 1 + z + k → ys[j]? = some (.int .u8 (padF l (n + j)).toNat)) ∧ StT wr g (padF l) l.length l.length ∧ w.grownBy wr (some g)) (fun v _ => 8 - (intOf v).toNat)
  case atStart =>
    refine ⟨0, _, Nat.zero_le _, rfl, HSS.out, fun j hj => ?_, HS1.out, hgr1⟩
    have h1 := HMD.out j (by have := HM.out; omega)
    rw [List.getElem?_set]
    split
    · rename_i e; subst e
      have := own_len HO.out
      rw [if_pos (by omega), Nat.add_zero, HN.out, padF_0]; rfl
    · rw [h1, padF_z l (n + j) (by have := HN.out; omega) (by have := HN.out; have := HF.out; have := HZ.out; have := pad_z l.length; have := HN.out; subst n; subst f; omega)]; rfl
  case round =>
    clear hgr1 HS1 HSS HMD HO
    obtain ⟨k, ys, hk, rfl, hown, hys, hst, hgr⟩ := hrel
    by_cases hlt : k < 8
    · have hb : 1 + z + k < M := by have := HM.out; omega
      have htn : ((1 : Int) + (z : Int) + (k : Int)).toNat = 1 + z + k := by omega
      obtain ⟨y, hy⟩ := own_cell hown (1 + z + k) hb
      have hfz := hown.frozenAt (1 + z + k)
      have HO := Lib.hid hown; have HYS := Lib.hid hys; have HST2 := Lib.hid hst; have HGR := Lib.hid hgr
      clear hown hys hst hgr
      go_wp2
      go_roundw
      case rel =>
        obtain ⟨hst1, hgs1⟩ := HO.out.stored (1 + z + k) (.int .u8 ((n : Int) * 8 / 2 ^ (8 * (7 - k)) % 256))
        refine ⟨k + 1, _, by omega, by go_num, hst1, fun j hj => ?_, HST2.out.grown hgs1 (by simp; omega), grown_new HGR.out hgs1 (Nat.le_refl _)⟩
        rw [List.getElem?_set]
        split
        · rename_i e; subst e
          have h1 := own_len HO.out
          have h2 := HN.out; have h3 := HF.out; have h4 := HZ.out; have h5 := pad_z l.length
          rw [if_pos (by omega), h2, pad_val l (l.length + (1 + z + k)) k (by omega) hlt (by subst n; subst f; omega)]
        · exact HYS.out j (by omega)
      case measure => simp [intOf]; omega
    · obtain rfl : k = 8 := by omega
      have HO := Lib.hid hown; have HYS := Lib.hid hys; have HST2 := Lib.hid hst; have HGR := Lib.hid hgr
      clear hown hys hst hgr
      have C := Lib.hid (add_some wr g (padF l) l.length l.length w.heap.size 0 M M HST2.out hgl2 (own_lt HO.out) (Nat.le_refl _) (by have := HM.out; have := HN.out; omega) (fun i hi => by
        rw [HO.out.cellAt (0 + i) (by omega), Nat.zero_add, HYS.out i (by have := HM.out; omega), HN.out]))
      go_wp2_with fail
      refine C.out.mono ?_
      rintro e w4 ⟨rfl, hgr4, hst4⟩
      have hM2 : l.length + M = padLen l.length := by
        have h2 := HN.out; have h3 := HF.out; have h4 := HZ.out; have h5 := pad_z l.length; have h6 := HM.out
        subst n; subst f; omega
      go_wp2_with fail
      go_end0
      rw [hM2] at hst4
      exact ⟨rfl, grown_trans HGR.out hgr4, hst4⟩
end Go.Proofs.YtnohonjjfjppoaaGreatDoor

/-
  Layer 2: id: the words as twenty bytes.
-/
namespace Go.Proofs.YtnohonjjfjppoaaGreatDoor
set_option maxRecDepth 20000
open Go.RowKit
set_option linter.unusedVariables false
set_option linter.unusedSimpArgs false
theorem digest_at (h : H5) (k : Nat) (hk : k < 20) : (digest h).getD k 0 = outB h k := by
  unfold digest
  rw [List.getD_eq_getElem?_getD, List.getElem?_map, List.getElem?_range hk]; rfl
theorem outB_int (h : H5) (k a b : Nat) (ha : a = k / 4) (hb : b = k % 4) : (((h.get a).toNat : Int) / 2 ^ (8 * (3 - b)) % 256) = ((outB h k).toNat : Int) := by
  subst ha; subst hb
  unfold outB
  rw [UInt8.toNat_ofNat', Int.natCast_emod, Int.natCast_ediv, Int.natCast_pow]
  rfl
set_option maxHeartbeats 4000000 in
theorem id_any (w : World) (g : Nat) (cs : Array Value) (h : H5) (hg : w.heap[g]? = some (.cells cs 177 (0, 0))) (hs : StB cs h) :
    Calls Tryz.prog 112 #[.pointer (some ⟨g, 0, none⟩)] w fun e w' => e = .returned (idv (digest h)) ∧ Below w.heap.size w w' := by
  obtain ⟨z, hz, hze⟩ := z29
  have hzv := zero_arr hz
  have HZ := Lib.hid hz; clear hz
  have HZE := Lib.hid hze; clear hze
  have HG := Lib.hid hg; clear hg
  have HS := Lib.hid hs; clear hs
  go_enter Tryz.func112, Tryz.ntmps112
  go_wp2_with fail
  go_loopw [5] (fun i wr => ∃ (k : Nat) (arr : Array Value), k ≤ 20 ∧ i = .int .i64 k ∧ wr.heap[w.heap.size + 1]? = some (.cells arr 27 (0, 0)) ∧ wr.heap[w.heap.size]? = some (.cells z 27 (0, 0)) ∧ arr.size = 20 ∧
      (∀ j, j < k → arr[j]? = some (.int .u8 ((digest h).getD j 0).toNat)) ∧ Below w.heap.size w wr) (fun i _ => 20 - (intOf i).toNat)
  case atStart => exact ⟨0, z, Nat.zero_le _, rfl, by rw [show w.heap.size + 1 = (w.alloc (.cells z 27)).heap.size by simp]; exact heap_alloc_new _ _, two_new w _ _, by rw [HZE.out]; simp, fun j hj => absurd hj (Nat.not_lt_zero _), ((Below.refl _ w).alloc (Nat.le_refl _) _).alloc (by simp) _⟩
  case round =>
    obtain ⟨k, arr, hk, rfl, ha, h2, hsz, har, hbr⟩ := hrel
    have HA := Lib.hid ha; clear ha
    have H2 := Lib.hid h2; clear h2
    have HAR := Lib.hid har; clear har
    by_cases hlt : k < 20
    · have hgw : wr.heap[g]? = some (.cells cs 177 (0, 0)) := (hbr.block g (lt_of_heap HG.out)).trans HG.out
      obtain ⟨a, ha⟩ : ∃ a, a = k / 4 := ⟨_, rfl⟩
      obtain ⟨b, hb⟩ : ∃ b, b = k % 4 := ⟨_, rfl⟩
      have hd : (k : Int) / 4 = (a : Int) := by omega
      have hm : (k : Int) % 4 = (b : Int) := by omega
      have hb4 : b < 4 := by omega
      have q : wr.cell? ⟨g, a, none⟩ = some (.int .u32 (h.get a).toNat) := (cell_of_row wr g a cs _ _ hgw).trans (HS.out.word a (by omega))
      obtain ⟨x, hx⟩ : ∃ x : Int, x = (h.get a).toNat := ⟨_, rfl⟩
      rw [← hx] at q
      have i5 := fun u => index_arr5 u g a (by omega) a rfl
      have i20 := fun u => index_arr20 u (w.heap.size + 1) k hlt k rfl
      have HA2 := Lib.hid ha; have HB2 := Lib.hid hb; have HX := Lib.hid hx
      clear ha hb hx hgw
      obtain ⟨old, ho⟩ : ∃ v, wr.cell? ⟨w.heap.size + 1, k, none⟩ = some v := ⟨arr[k]'(by omega), by rw [cell_of_row wr _ k arr _ _ HA.out]; simp⟩
      have hf : wr.frozen? ⟨w.heap.size + 1, k, none⟩ = false := not_frozen HA.out k
      go_wp2
      go_roundw
      case rel =>
        refine ⟨k + 1, arr.setIfInBounds k _, by omega, by go_num, heap_set HA.out k _, ?_, by simpa using hsz, ?_, hbr.setCell (by simp) _⟩
        · exact (Below.heap_setCell wr ⟨w.heap.size + 1, k, none⟩ _ w.heap.size (by simp)).trans H2.out
        · intro j hj
          rw [set_get _ _ _ _ (by omega)]
          split
          · rename_i e; subst e
            rw [HX.out, outB_int h j a b HA2.out HB2.out, digest_at h j hlt]
          · exact HAR.out j (by omega)
      case measure => simp [intOf]; omega
    · obtain rfl : k = 20 := by omega
      have harr : arr = (Lib.byteCells (digest h)).toArray := arr_bc (by rw [hsz, digest_len]) (fun j hj => HAR.out j (by rwa [digest_len] at hj))
      have hall := bc_all (digest h)
      rw [← harr] at hall
      have HARR := Lib.hid harr; clear harr
      have HALL := Lib.hid hall; clear hall
      go_wp2_with (first
        | (with_reducible refine wpList_load_row rfl 27 (.tmp 3) rfl (w.heap.size + 1) rfl 27 arr (0, 0) _ ?lg Tryz.underlying27 rfl ?li ?_)
        | (with_reducible refine wpList_store_row rfl 27 _ _ rfl w.heap.size arr rfl rfl 27 z ?sg ?si ?so ?s1 ?_))
      case lg => exact HA.out
      case li => rw [info29, hsz]
      case sg => exact H2.out
      case si => rw [info29, hsz]
      case so => rw [HZE.out, hsz]; simp
      case s1 => exact HALL.out
      refine bodyPost_ret (results_cell_row Tryz.results112 _ _ w.heap.size 27 arr (0, 0) _ rfl (setRow_heap wr w.heap.size z arr _ (0, 0) H2.out) Tryz.underlying27 rfl (by rw [info29, hsz])) rfl ⟨by rw [HARR.out]; rfl, below_setRow hbr (Nat.le_refl _) arr⟩
end Go.Proofs.YtnohonjjfjppoaaGreatDoor
