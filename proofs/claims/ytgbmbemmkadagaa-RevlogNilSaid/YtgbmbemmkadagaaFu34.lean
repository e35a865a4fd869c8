/-
  Texts that belong together, one behind the other.
-/
import Derived.Test.YtgbmbemmkadagaaFu33
import Derived.OwnWalk
/-
  Layer 2: mix: a full block goes into the words.
-/
namespace Go.Proofs.Ytgbmbemmkadagaa
open Go.RowKit
set_option linter.unusedVariables false
set_option linter.unusedSimpArgs false

/-- What lies in the block of a state. -/
structure StB (cs : Array Value) (h : H5) : Prop where
  size : cs.size = 71
  word : ∀ i, i < 5 → cs[i]? = some (.int .u32 (h.get i).toNat)
theorem grown_of_below {w w' : World} (h : Below w.heap.size w w') (row : Option Nat) : w.grownBy w' row := ⟨h.os, h.tape, h.output, h.size, fun k hk _ => h.block k hk⟩
theorem grown_trans {a b c : World} {row : Option Nat} (h : a.grownBy b row) (k : b.grownBy c row) : a.grownBy c row :=
  ⟨k.os.trans h.os, k.tape.trans h.tape, k.output.trans h.output, Nat.le_trans h.size k.size, fun i hi hr => (k.block i (Nat.lt_of_lt_of_le hi h.size) hr).trans (h.block i hi hr)⟩
theorem grown_set (w : World) (g i : Nat) (v : Value) : w.grownBy (w.setCell ⟨g, i, none⟩ v) (some g) :=
  ⟨rfl, rfl, rfl, by simp [World.setCell], fun k hk hr => Below.heap_setCell _ _ _ _ (fun e => hr (by rw [e]))⟩
theorem grown_drew {w w' : World} {row : Option Nat} (h : w.grownBy w' row) : w.grownBy w'.drew row := ⟨h.os, h.tape, h.output, h.size, h.block⟩
theorem step_heap {u u' : World} {g : Nat} {cs : Array Value} {t : TypeId} {i : Nat} {v : Value} (h : u.heap[g]? = some (.cells cs t (0, 0))) (hw : (u.setCell ⟨g, i, none⟩ v).drew = u') : u'.heap[g]? = some (.cells (cs.setIfInBounds i v) t (0, 0)) := by
  subst hw; exact heap_set h i v
theorem step_grown {w u u' : World} {g i : Nat} {v : Value} (h : w.grownBy u (some g)) (hw : (u.setCell ⟨g, i, none⟩ v).drew = u') : w.grownBy u' (some g) := by
  subst hw; exact grown_drew (grown_trans h (grown_set u g i v))
theorem old_at1 {cs : Array Value} {v0 x : Value} (hs : cs.size = 71) (h : cs[1]? = some x) : (cs.setIfInBounds 0 v0)[1]? = some x := by
  rw [set_get _ _ _ _ (by simp [hs]), if_neg (by omega)]; exact h
theorem old_at2 {cs : Array Value} {v0 v1 x : Value} (hs : cs.size = 71) (h : cs[2]? = some x) : ((cs.setIfInBounds 0 v0).setIfInBounds 1 v1)[2]? = some x := by
  rw [set_get _ _ _ _ (by simp [hs]), if_neg (by omega), set_get _ _ _ _ (by simp [hs]), if_neg (by omega)]; exact h
theorem old_at3 {cs : Array Value} {v0 v1 v2 x : Value} (hs : cs.size = 71) (h : cs[3]? = some x) : (((cs.setIfInBounds 0 v0).setIfInBounds 1 v1).setIfInBounds 2 v2)[3]? = some x := by
  rw [set_get _ _ _ _ (by simp [hs]), if_neg (by omega), set_get _ _ _ _ (by simp [hs]), if_neg (by omega), set_get _ _ _ _ (by simp [hs]), if_neg (by omega)]; exact h
theorem old_at4 {cs : Array Value} {v0 v1 v2 v3 x : Value} (hs : cs.size = 71) (h : cs[4]? = some x) : ((((cs.setIfInBounds 0 v0).setIfInBounds 1 v1).setIfInBounds 2 v2).setIfInBounds 3 v3)[4]? = some x := by
  rw [set_get _ _ _ _ (by simp [hs]), if_neg (by omega), set_get _ _ _ _ (by simp [hs]), if_neg (by omega), set_get _ _ _ _ (by simp [hs]), if_neg (by omega), set_get _ _ _ _ (by simp [hs]), if_neg (by omega)]; exact h
theorem stB_added {cs : Array Value} (hz : cs.size = 71) (h s : H5) : StB (((((cs.setIfInBounds 0 (.int .u32 (((h.a.toNat : Int) + s.a.toNat) % 4294967296))).setIfInBounds 1 (.int .u32 (((h.b.toNat : Int) + s.b.toNat) % 4294967296))).setIfInBounds 2 (.int .u32 (((h.c.toNat : Int) + s.c.toNat) % 4294967296))).setIfInBounds 3 (.int .u32 (((h.d.toNat : Int) + s.d.toNat) % 4294967296))).setIfInBounds 4 (.int .u32 (((h.e.toNat : Int) + s.e.toNat) % 4294967296))) (addH h s) where
  size := by simp [hz]
  word := by
    intro i hi
    rw [b_add, b_add, b_add, b_add, b_add]
    match i, hi with
    | 0, _ => rw [set_get _ _ _ _ (by simp [hz]), if_neg (by omega), set_get _ _ _ _ (by simp [hz]), if_neg (by omega), set_get _ _ _ _ (by simp [hz]), if_neg (by omega), set_get _ _ _ _ (by simp [hz]), if_neg (by omega), set_get _ _ _ _ (by simp [hz]), if_pos rfl]; rfl
    | 1, _ => rw [set_get _ _ _ _ (by simp [hz]), if_neg (by omega), set_get _ _ _ _ (by simp [hz]), if_neg (by omega), set_get _ _ _ _ (by simp [hz]), if_neg (by omega), set_get _ _ _ _ (by simp [hz]), if_pos rfl]; rfl
    | 2, _ => rw [set_get _ _ _ _ (by simp [hz]), if_neg (by omega), set_get _ _ _ _ (by simp [hz]), if_neg (by omega), set_get _ _ _ _ (by simp [hz]), if_pos rfl]; rfl
    | 3, _ => rw [set_get _ _ _ _ (by simp [hz]), if_neg (by omega), set_get _ _ _ _ (by simp [hz]), if_pos rfl]; rfl
    | 4, _ => rw [set_get _ _ _ _ (by simp [hz]), if_pos rfl]; rfl
set_option maxRecDepth 10000 in
set_option maxHeartbeats 4000000 in
theorem mix_any (w : World) (g : Nat) (cs : Array Value) (h : H5) (m : Nat → UInt8) (hg : w.heap[g]? = some (.cells cs 98 (0, 0))) (hs : StB cs h) (hb : ∀ i, i < 64 → cs[5 + i]? = some (.int .u8 (m i).toNat)) :
    Calls Try.prog 48 #[.pointer (some ⟨g, 0, none⟩)] w fun e w' => e = .returned (.tuple #[]) ∧ w.grownBy w' (some g) ∧
      ∃ cs', w'.heap[g]? = some (.cells cs' 98 (0, 0)) ∧ StB cs' (comp m h) ∧ ∀ i, 5 ≤ i → cs'[i]? = cs[i]? := by
  have hc : ∀ i, i < 5 → w.cell? ⟨g, i, none⟩ = some (.int .u32 (h.get i).toNat) := fun i hi => by rw [cell_of_row w g i cs _ _ hg, hs.word i hi]
  have q0 : w.cell? ⟨g, 0, none⟩ = some (.int .u32 h.a.toNat) := hc 0 (by omega)
  have q1 : w.cell? ⟨g, 1, none⟩ = some (.int .u32 h.b.toNat) := hc 1 (by omega)
  have q2 : w.cell? ⟨g, 2, none⟩ = some (.int .u32 h.c.toNat) := hc 2 (by omega)
  have q3 : w.cell? ⟨g, 3, none⟩ = some (.int .u32 h.d.toNat) := hc 3 (by omega)
  have q4 : w.cell? ⟨g, 4, none⟩ = some (.int .u32 h.e.toNat) := hc 4 (by omega)
  clear hc
  have i0 := fun u => index_arr5 u g 0 (by omega) 0 rfl
  have i1 := fun u => index_arr5 u g 1 (by omega) 1 rfl
  have i2 := fun u => index_arr5 u g 2 (by omega) 2 rfl
  have i3 := fun u => index_arr5 u g 3 (by omega) 3 rfl
  have i4 := fun u => index_arr5 u g 4 (by omega) 4 rfl
  have C := Lib.hid (fun u (hu : Below w.heap.size w u) => schedule_any u g cs (0, 0) m ((hu.block g (lt_of_heap hg)).trans hg) hb)
  have HG := Lib.hid hg; clear hg
  have HS := Lib.hid hs; clear hs
  have HB := Lib.hid hb; clear hb
  go_enter Try.func48, Try.ntmps48
  go_wp2_with fail
  go_quiet (fail)
  clear q0 q1 q2 q3 q4
  go_wp2_with fail
  refine (C.out _ (_root_.Go.below_drewN (Below.refl _ _) _)).mono ?_
  rintro e w1 ⟨rfl, hb1⟩
  have hb : Below w.heap.size w w1 := (_root_.Go.below_drewN (Below.refl _ _) _).trans (hb1.mono (Nat.le_refl _))
  clear hb1 C
  generalize hlst : wv (sched m 80) = lst
  have hwl : ∀ j, j < 80 → lst.toArray[j]? = some (.int .u32 (W80 m j).toNat) := fun j hj => by
    rw [← hlst, List.getElem?_toArray, wv_at _ _ (by rw [sched_len]; exact hj)]; rfl
  generalize lst.toArray = arr at hwl
  clear hlst
  have HWL := Lib.hid hwl; clear hwl
  go_wp2_with fail
  go_loopw [2, 3, 4, 5, 6, 36] (fun a b c d e i wr => ∃ (k : Nat) (s : H5), k ≤ 80 ∧ i = .int .i64 k ∧ a = .int .u32 s.a.toNat ∧ b = .int .u32 s.b.toNat ∧ c = .int .u32 s.c.toNat ∧ d = .int .u32 s.d.toNat ∧ e = .int .u32 s.e.toNat ∧
      s = rounds (sched m 80) h k ∧ Below w.heap.size w wr) (fun _ _ _ _ _ i _ => 80 - (intOf i).toNat)
  case atStart => exact ⟨0, h, Nat.zero_le _, rfl, rfl, rfl, rfl, rfl, rfl, rfl, hb⟩
  case round =>
    clear hb
    obtain ⟨k, s, hk, rfl, rfl, rfl, rfl, rfl, rfl, hs, hbr⟩ := hrel
    have HSK := Lib.hid hs; clear hs
    by_cases hlt : k < 80
    · have hk1 : k + 1 ≤ 80 := hlt
      have hix := index_agg80 wr arr k hlt _ (HWL.out k hlt) k rfl
      obtain ⟨y, hy⟩ : ∃ y : Int, y = (W80 m k).toNat := ⟨_, rfl⟩
      rw [← hy] at hix
      have HY := Lib.hid hy; clear hy
      go_wp2_with fail
      clear hix
      refine (rot_5 s.a _).mono ?_
      rintro e w2 ⟨rfl, rfl⟩
      generalize hr5 : (((rl s.a 5).toNat : Nat) : Int) = r5
      have H5 := Lib.hid hr5; clear hr5
      go_wp2_with fail
      refine (join_any k hlt s.b s.c s.d _).mono ?_
      rintro e w2 ⟨rfl, rfl⟩
      generalize hrj : (((fk k s.b s.c s.d).toNat : Nat) : Int) = rj
      have HJ := Lib.hid hrj; clear hrj
      go_wp2_with fail
      refine (rot_30 s.b _).mono ?_
      rintro e w2 ⟨rfl, rfl⟩
      generalize hr30 : (((rl s.b 30).toNat : Nat) : Int) = r30
      have H30 := Lib.hid hr30; clear hr30
      go_wp2
      go_roundw
      case rel =>
        refine ⟨k + 1, stepH k (W80 m k) s, hk1, by go_num, ?_, ?_, ?_, ?_, ?_, ?_, hbr⟩
        · rw [← H5.out, ← HJ.out, HY.out]
          exact congrArg (Value.int .u32) (step_a2 k _ s)
        · rw [step_b]
        · rw [← H30.out, step_c]
        · rw [step_d]
        · rw [step_e]
        · rw [HSK.out, rounds80]
      case measure => simp [intOf]; omega
    · obtain rfl : k = 80 := by omega
      clear HWL
      have hgr : wr.heap[g]? = some (.cells cs 98 (0, 0)) := (hbr.block g (lt_of_heap HG.out)).trans HG.out
      have hcs : ∀ i, i < 5 → cs[i]? = some (.int .u32 (h.get i).toNat) := HS.out.word
      have hsz := HS.out.size
      have HCS := Lib.hid hcs; clear hcs
      have HSZ := Lib.hid hsz; clear hsz
      have GR0 := Lib.hid (grown_of_below hbr (some g))
      have HGR0 := Lib.hid hgr
      clear hgr
      go_wp2_with fail
      have q : wr.cell? ⟨g, 0, none⟩ = some (.int .u32 h.a.toNat) := (cell_of_row wr g 0 _ _ _ HGR0.out).trans (HCS.out 0 (by omega))
      have z := not_frozen HGR0.out 0
      go_still_tail 10, (by kernel_rfl)
      change wpList _ _ _ _ _ (World.drew wr)
      go_wp2_with fail
      clear q z
      generalize hw : (wr.setCell ⟨g, 0, none⟩ (Value.int .u32 (((h.a.toNat : Int) + s.a.toNat) % 4294967296))).drew = w1
      have HGR1 := Lib.hid (step_heap HGR0.out hw)
      have GR1 := Lib.hid (step_grown GR0.out hw)
      clear hw
      have q : w1.cell? ⟨g, 1, none⟩ = some (.int .u32 h.b.toNat) := (cell_of_row w1 g 1 _ _ _ HGR1.out).trans (old_at1 HSZ.out (HCS.out 1 (by omega)))
      have z := not_frozen HGR1.out 1
      go_still_tail 10, (by kernel_rfl)
      change wpList _ _ _ _ _ (World.drew w1)
      go_wp2_with fail
      clear q z
      generalize hw : (w1.setCell ⟨g, 1, none⟩ (Value.int .u32 (((h.b.toNat : Int) + s.b.toNat) % 4294967296))).drew = w2
      have HGR2 := Lib.hid (step_heap HGR1.out hw)
      have GR2 := Lib.hid (step_grown GR1.out hw)
      clear hw
      have q : w2.cell? ⟨g, 2, none⟩ = some (.int .u32 h.c.toNat) := (cell_of_row w2 g 2 _ _ _ HGR2.out).trans (old_at2 HSZ.out (HCS.out 2 (by omega)))
      have z := not_frozen HGR2.out 2
      go_still_tail 10, (by kernel_rfl)
      change wpList _ _ _ _ _ (World.drew w2)
      go_wp2_with fail
      clear q z
      generalize hw : (w2.setCell ⟨g, 2, none⟩ (Value.int .u32 (((h.c.toNat : Int) + s.c.toNat) % 4294967296))).drew = w3
      have HGR3 := Lib.hid (step_heap HGR2.out hw)
      have GR3 := Lib.hid (step_grown GR2.out hw)
      clear hw
      have q : w3.cell? ⟨g, 3, none⟩ = some (.int .u32 h.d.toNat) := (cell_of_row w3 g 3 _ _ _ HGR3.out).trans (old_at3 HSZ.out (HCS.out 3 (by omega)))
      have z := not_frozen HGR3.out 3
      go_still_tail 10, (by kernel_rfl)
      change wpList _ _ _ _ _ (World.drew w3)
      go_wp2_with fail
      clear q z
      generalize hw : (w3.setCell ⟨g, 3, none⟩ (Value.int .u32 (((h.d.toNat : Int) + s.d.toNat) % 4294967296))).drew = w4
      have HGR4 := Lib.hid (step_heap HGR3.out hw)
      have GR4 := Lib.hid (step_grown GR3.out hw)
      clear hw
      have q : w4.cell? ⟨g, 4, none⟩ = some (.int .u32 h.e.toNat) := (cell_of_row w4 g 4 _ _ _ HGR4.out).trans (old_at4 HSZ.out (HCS.out 4 (by omega)))
      have z := not_frozen HGR4.out 4
      go_still_tail 10, (by kernel_rfl)
      change wpList _ _ _ _ _ (World.drew w4)
      go_wp2_with fail
      clear q z
      go_end0
      refine ⟨rfl, grown_drew (grown_trans GR4.out (grown_set w4 g 4 _)), _, heap_set HGR4.out 4 _, ?_, ?_⟩
      · rw [comp, ← HSK.out]
        exact stB_added HSZ.out h s
      · intro i hi
        rw [set_get _ _ _ _ (by simp [HSZ.out]), if_neg (by omega), set_get _ _ _ _ (by simp [HSZ.out]), if_neg (by omega), set_get _ _ _ _ (by simp [HSZ.out]), if_neg (by omega), set_get _ _ _ _ (by simp [HSZ.out]), if_neg (by omega), set_get _ _ _ _ (by simp [HSZ.out]), if_neg (by omega)]
end Go.Proofs.Ytgbmbemmkadagaa

/-
  Layer 2: add: one more part goes into the state.
-/
namespace Go.Proofs.Ytgbmbemmkadagaa
set_option maxRecDepth 20000
open Go.RowKit
set_option linter.unusedVariables false
set_option linter.unusedSimpArgs false

/-- What lies in a state's block behind p bytes of a text. -/
structure StC (cs : Array Value) (T : Nat → UInt8) (p n : Nat) : Prop where
  words : StB cs (hs T (p / 64))
  bytes : ∀ i, i < p % 64 → cs[5 + i]? = some (.int .u8 (T (64 * (p / 64) + i)).toNat)
  fill : cs[69]? = some (.int .i64 ((p % 64 : Nat) : Int))
  len : cs[70]? = some (.int .u64 (n : Int))
def StT (w : World) (g : Nat) (T : Nat → UInt8) (p n : Nat) : Prop := ∃ cs, w.heap[g]? = some (.cells cs 98 (0, 0)) ∧ StC cs T p n
theorem splice_get (cs : Array Value) (off : Nat) (ch : List Value) (hf : off + ch.length ≤ cs.size) (i : Nat) :
    (cs.toList.take off ++ (ch ++ cs.toList.drop (off + ch.length))).toArray[i]? = if i < off then cs[i]? else if i < off + ch.length then ch[i - off]? else cs[i]? := by
  have hl : (cs.toList.take off).length = off := by simp; omega
  have e : (cs.toList.take off ++ (ch ++ cs.toList.drop (off + ch.length))).toArray[i]? = (cs.toList.take off ++ (ch ++ cs.toList.drop (off + ch.length)))[i]? := by simp
  rw [e]
  by_cases h1 : i < off
  · rw [if_pos h1, List.getElem?_append_left (by omega), List.getElem?_take, if_pos h1]; simp
  · rw [if_neg h1, List.getElem?_append_right (by omega), hl]
    by_cases h2 : i < off + ch.length
    · rw [if_pos h2, List.getElem?_append_left (by omega)]
    · rw [if_neg h2, List.getElem?_append_right (by omega), List.getElem?_drop]
      rw [show off + ch.length + (i - off - ch.length) = i by omega]; simp
def chunk (T : Nat → UInt8) (p n : Nat) : List Value := (List.range n).map fun i => .int .u8 (T (p + i)).toNat
theorem chunk_len (T : Nat → UInt8) (p n : Nat) : (chunk T p n).length = n := by simp [chunk]
theorem chunk_at (T : Nat → UInt8) (p n i : Nat) (h : i < n) : (chunk T p n)[i]? = some (.int .u8 (T (p + i)).toNat) := by simp [chunk, h]
theorem chunk_one (T : Nat → UInt8) (p n : Nat) : ∀ v ∈ chunk T p n, v.oneCell' = true := by
  intro v hv; simp [chunk] at hv; obtain ⟨x, _, rfl⟩ := hv; rfl
/-- How long a slice is. -/
def sliceLen : Value → Nat | .slice _ n _ => n | _ => 0
theorem info5' : (Try.prog.info? 5).map (·.size) = some 1 := by kernel_rfl
theorem drewN_heap (w : World) (k : Nat) : (w.drewN k).heap = w.heap := rfl
set_option maxHeartbeats 4000000 in
theorem add_some (w : World) (g : Nat) (T : Nat → UInt8) (p n : Nat) (b o N c : Nat) (hst : StT w g T p n) (hbg : b ≠ g) (hbl : b < w.heap.size) (hN : N ≤ c) (hNs : n + N ≤ 1099511627776)
    (hcell : ∀ i, i < N → w.cell? ⟨b, o + i, none⟩ = some (.int .u8 (T (p + i)).toNat)) :
    Calls Try.prog 43 #[.pointer (some ⟨g, 0, none⟩), .slice (some ⟨b, o, none⟩) N c] w fun e w' => e = .returned (.tuple #[]) ∧ w.grownBy w' (some g) ∧ StT w' g T (p + N) (n + N) := by
  obtain ⟨cs, hg, hc⟩ := hst
  have HC := Lib.hid hcell; clear hcell
  have q70 : w.cell? ⟨g, 70, none⟩ = some (.int .u64 n) := (cell_of_row w g 70 cs _ _ hg).trans hc.len
  have z70 := not_frozen hg 70
  have hgl := lt_of_heap hg
  have HG := Lib.hid hg; clear hg
  have HS := Lib.hid hc; clear hc
  go_enter Try.func43, Try.ntmps43
  go_wp2_with fail
  generalize hw1 : w.setCell ⟨g, 70, none⟩ (.int .u64 ((n : Int) + (N : Int))) = w1
  have hst1 : StT w1 g T p (n + N) := by
    subst hw1
    have e : ∀ i, i ≠ 70 → (cs.setIfInBounds 70 (.int .u64 ((n : Int) + (N : Int))))[i]? = cs[i]? := fun i hi => by rw [set_get _ _ _ _ (by rw [HS.out.words.size]; omega), if_neg hi]
    refine ⟨_, heap_set HG.out 70 _, ⟨⟨by simp [HS.out.words.size], fun i hi => by rw [e i (by omega)]; exact HS.out.words.word i hi⟩, fun i hi => by rw [e _ (by omega)]; exact HS.out.bytes i hi, by rw [e 69 (by omega)]; exact HS.out.fill, ?_⟩⟩
    rw [set_get _ _ _ _ (by rw [HS.out.words.size]; omega), if_pos rfl]; rfl
  have hgr1 : w.grownBy w1 (some g) := by subst hw1; exact grown_set w g 70 _
  clear hw1 q70 z70 HS HG
  go_loopw [1] (fun v wr => ∃ (j r : Nat) (A : Option Addr) (C : Nat), j + r = N ∧ v = .slice A r C ∧ r ≤ C ∧ (0 < r → A = some ⟨b, o + j, none⟩) ∧ StT wr g T (p + j) (n + N) ∧ w.grownBy wr (some g)) (fun v _ => sliceLen v)
  case atStart => exact ⟨0, N, _, c, Nat.zero_add _, rfl, hN, fun _ => rfl, hst1, hgr1⟩
  case round =>
    clear hst1 hgr1
    obtain ⟨j, r, A, C, hj, rfl, hC, hA, hst, hgr⟩ := hrel
    by_cases hlt : 0 < r
    · obtain rfl := hA hlt
      clear hA
      obtain ⟨cs, hg, hc⟩ := hst
      obtain ⟨f, hf⟩ : ∃ f, f = (p + j) % 64 := ⟨_, rfl⟩
      obtain ⟨q, hq⟩ : ∃ q, q = (p + j) / 64 := ⟨_, rfl⟩
      have hf64 : f < 64 := by omega
      have hcw := hc.words; have hcb := hc.bytes; have hcf := hc.fill; have hcl := hc.len
      rw [← hf] at hcb hcf; rw [← hq] at hcw hcb
      clear hc
      have hz := hcw.size
      have q69 : wr.cell? ⟨g, 69, none⟩ = some (.int .i64 f) := (cell_of_row wr g 69 cs _ _ hg).trans hcf
      have hsl := fun u => slice64_l u g f hf64 f rfl
      have HF := Lib.hid hf; have HQ := Lib.hid hq; clear hf hq
      have HCW := Lib.hid hcw; have HCB := Lib.hid hcb; have HCF := Lib.hid hcf; have HCL := Lib.hid hcl; have HZ := Lib.hid hz; have HG := Lib.hid hg; have HJ := Lib.hid hj
      clear hcw hcb hcf hcl hz hg hj
      go_wp2_with fail
      go_still_tail 9, (by kernel_rfl)
      change wpList _ _ _ _ _ wr.drew
      obtain ⟨k, hk⟩ : ∃ k, k = min r (64 - f) := ⟨_, rfl⟩
      have hk1 : k ≤ r := by omega
      have hk2 : k ≤ 64 - f := by omega
      have hk3 : 0 < k := by omega
      have hk4 : k < r → k = 64 - f := by omega
      have hj0 := HJ.out
      have hz0 := HZ.out
      refine wpList_copy_own rfl (.tmp 25) (.tmp 26) 32 32 rfl 5 Try.underlying32 info5' g (5 + f) (64 - f) (64 - f) ⟨b, o + j, none⟩ r C rfl rfl cs 98 HG.out (chunk T (p + j) k) (by rw [chunk_len, hk]) ?src (by rw [chunk_len]; omega) (chunk_one _ _ _) ?_
      case src =>
        intro i v hv
        have hi : i < k := by
          rcases Nat.lt_or_ge i k with h | h
          · exact h
          · rw [List.getElem?_eq_none (by rw [chunk_len]; exact h)] at hv; cases hv
        rw [chunk_at _ _ _ _ hi] at hv
        have h1 : wr.heap[b]? = w.heap[b]? := hgr.block b hbl (fun e => hbg (by cases e; rfl))
        have h2 := HC.out (j + i) (by omega)
        have h3 : (⟨b, o + j, none⟩ : Addr).add i = ⟨b, o + (j + i), none⟩ := by unfold Addr.add; split <;> simp_all [Nat.add_assoc]
        rw [h3]
        rw [show wr.drew.cell? ⟨b, o + (j + i), none⟩ = w.cell? ⟨b, o + (j + i), none⟩ from World.cell?_of_block (w := w) (w' := wr.drew) h1, h2, show p + (j + i) = p + j + i by omega]
        exact hv
      obtain ⟨cs2, hcs2⟩ : ∃ cs2, cs2 = (cs.toList.take (5 + f) ++ (chunk T (p + j) k ++ cs.toList.drop (5 + f + (chunk T (p + j) k).length))).toArray := ⟨_, rfl⟩
      rw [← hcs2]
      have hget : ∀ i, cs2[i]? = if i < 5 + f then cs[i]? else if i < 5 + f + k then (chunk T (p + j) k)[i - (5 + f)]? else cs[i]? := fun i => by
        rw [hcs2, splice_get _ _ _ (by rw [chunk_len]; omega), chunk_len]
      have hsz2 : cs2.size = 71 := by rw [hcs2]; simp [chunk_len]; omega
      have hg2 : (wr.drew.setRow g cs2).heap[g]? = some (.cells cs2 98 (0, 0)) := setRow_heap wr.drew g cs cs2 _ _ HG.out
      have hgr2 : w.grownBy (wr.drew.setRow g cs2) (some g) := grown_trans hgr ⟨rfl, rfl, rfl, by simp [World.setRow], fun i hi hr => setRow_other wr.drew g i cs2 (fun e => hr (by rw [e]))⟩
      rw [chunk_len]
      generalize wr.drew.setRow g cs2 = w2 at hg2 hgr2 ⊢
      clear hcs2 hgr q69 hsl
      have hlo : ∀ i, i < 5 + f → cs2[i]? = cs[i]? := fun i hi => by rw [hget, if_pos hi]
      have hmid : ∀ i, i < k → cs2[5 + (f + i)]? = some (.int .u8 (T (p + j + i)).toNat) := fun i hi => by
        rw [hget, if_neg (by omega), if_pos (by omega), show 5 + (f + i) - (5 + f) = i by omega, chunk_at _ _ _ _ hi]
      have hhi : ∀ i, 69 ≤ i → cs2[i]? = cs[i]? := fun i hi => by rw [hget, if_neg (by omega), if_neg (by omega)]
      have hpj : p + j = 64 * q + f := by have := HF.out; have := HQ.out; omega
      have hby : ∀ i, i < f + k → cs2[5 + i]? = some (.int .u8 (T (64 * q + i)).toNat) := fun i hi => by
        by_cases h : i < f
        · rw [hlo _ (by omega), HCB.out i h]
        · rw [show 5 + i = 5 + (f + (i - f)) by omega, hmid (i - f) (by omega), show p + j + (i - f) = 64 * q + i by omega]
      have hwd : ∀ i, i < 5 → cs2[i]? = some (.int .u32 ((hs T q).get i).toNat) := fun i hi => by rw [hlo i (by omega), HCW.out.word i hi]
      have q69 : w2.cell? ⟨g, 69, none⟩ = some (.int .i64 f) := (cell_of_row w2 g 69 cs2 _ _ hg2).trans ((hhi 69 (by omega)).trans HCF.out)
      have z69 := not_frozen hg2 69
      have hl70 : cs2[70]? = some (.int .u64 ((n + N : Nat) : Int)) := (hhi 70 (by omega)).trans HCL.out
      have HBY := Lib.hid hby; have HWD := Lib.hid hwd; have HL70 := Lib.hid hl70; have HG2 := Lib.hid hg2; have HS2 := Lib.hid hsz2; have HPJ := Lib.hid hpj
      clear hget hlo hmid hhi hby hwd hl70 hg2 hsz2 hpj HCW HCB HCF HCL HG HZ HF HQ hz0 hj0 hk
      have HK4 := Lib.hid hk4; clear hk4
      have hs2 := fun u => slice_u8_l u (some ⟨b, o + j, none⟩) r C k hk1 k rfl
      obtain ⟨A2, hA2⟩ : ∃ A2, A2 = (if C = k then (some ⟨b, o + j, none⟩ : Option Addr) else (some ⟨b, o + j, none⟩ : Option Addr).map (·.add k)) := ⟨_, rfl⟩
      rw [← hA2] at hs2
      have hA3 : 0 < r - k → A2 = some ⟨b, o + (j + k), none⟩ := fun h => by
        rw [hA2, if_neg (by omega), Option.map_some, addr_add, Nat.add_assoc]
      have HA3 := Lib.hid hA3; clear hA2 hA3
      have hnx : r - k < r := by omega
      by_cases h64 : f + k = 64
      · have hb64 : (((f : Int) + (k : Int)) == 64) = true := by rw [beq_iff_eq]; omega
        have C3 := Lib.hid (mix_any (w2.setCell ⟨g, 69, none⟩ (.int .i64 ((f : Int) + (k : Int)))) g _ (hs T q) (fun i => T (64 * q + i)) (heap_set HG2.out 69 _)
          ⟨by rw [Array.size_setIfInBounds]; exact HS2.out, fun i hi => by rw [set_get _ _ _ _ (by rw [HS2.out]; omega), if_neg (by omega)]; exact HWD.out i hi⟩
          (fun i hi => by rw [set_get _ _ _ _ (by rw [HS2.out]; omega), if_neg (by omega)]; exact HBY.out i (by omega)))
        have hg69 := grown_trans hgr2 (grown_set w2 g 69 (.int .i64 ((f : Int) + (k : Int))))
        go_wp2_with fail
        refine C3.out.mono ?_
        rintro e w4 ⟨rfl, hgr4, cs4, hg4, hst4, hhi4⟩
        have hgr5 := grown_trans hg69 hgr4
        clear C3 hg69 hgr4 q69 z69 hgr2
        have hsz4 := hst4.size
        obtain ⟨old, ho⟩ : ∃ v, w4.cell? ⟨g, 69, none⟩ = some v := ⟨cs4[69]'(by omega), by rw [cell_of_row w4 g 69 cs4 _ _ hg4]; simp⟩
        have z4 := not_frozen hg4 69
        have HG4 := Lib.hid hg4; have HST4 := Lib.hid hst4; have HH4 := Lib.hid hhi4; have HZ4 := Lib.hid hsz4
        clear hg4 hst4 hhi4 hsz4
        go_wp2
        go_roundw
        case rel =>
          have hpj := HPJ.out
          have hj0 := HJ.out
          refine ⟨j + k, r - k, A2, C - k, by omega, rfl, by omega, HA3.out, ⟨_, heap_set HG4.out 69 _, ?_⟩, grown_trans hgr5 (grown_set w4 g 69 _)⟩
          have e1 : (p + (j + k)) % 64 = 0 := by omega
          have e2 : (p + (j + k)) / 64 = q + 1 := by omega
          refine ⟨⟨by rw [Array.size_setIfInBounds]; exact HZ4.out, fun i hi => ?_⟩, fun i hi => by rw [e1] at hi; exact absurd hi (Nat.not_lt_zero _), ?_, ?_⟩
          · rw [set_get _ _ _ _ (by rw [HZ4.out]; omega), if_neg (by omega), e2]
            exact HST4.out.word i hi
          · rw [set_get _ _ _ _ (by rw [HZ4.out]; omega), if_pos rfl, e1]; rfl
          · rw [set_get _ _ _ _ (by rw [HZ4.out]; omega), if_neg (by omega), HH4.out 70 (by omega), set_get _ _ _ _ (by rw [HS2.out]; omega), if_neg (by omega)]
            exact HL70.out
        case measure => exact hnx
      · have hb64 : (((f : Int) + (k : Int)) == 64) = false := by rw [beq_eq_false_iff_ne]; omega
        go_wp2
        refine ⟨?re2, hnx⟩
        case re2 =>
          have hpj := HPJ.out
          have hj0 := HJ.out
          have hk5 := HK4.out
          refine ⟨j + k, r - k, A2, C - k, by omega, rfl, by omega, HA3.out, ⟨_, heap_set HG2.out 69 _, ?_⟩, grown_trans hgr2 (grown_set w2 g 69 _)⟩
          have e1 : (p + (j + k)) % 64 = f + k := by omega
          have e2 : (p + (j + k)) / 64 = q := by omega
          refine ⟨⟨by rw [Array.size_setIfInBounds]; exact HS2.out, fun i hi => ?_⟩, fun i hi => ?_, ?_, ?_⟩
          · rw [set_get _ _ _ _ (by rw [HS2.out]; omega), if_neg (by omega), e2]
            exact HWD.out i hi
          · rw [e1] at hi
            rw [set_get _ _ _ _ (by rw [HS2.out]; omega), if_neg (by omega), e2]
            exact HBY.out i hi
          · rw [set_get _ _ _ _ (by rw [HS2.out]; omega), if_pos rfl, e1]; rfl
          · rw [set_get _ _ _ _ (by rw [HS2.out]; omega), if_neg (by omega)]
            exact HL70.out
    · obtain rfl : r = 0 := by omega
      go_wp2_with fail
      go_end0
      have e : j = N := by omega
      subst e
      exact ⟨rfl, hgr, hst⟩
end Go.Proofs.Ytgbmbemmkadagaa
