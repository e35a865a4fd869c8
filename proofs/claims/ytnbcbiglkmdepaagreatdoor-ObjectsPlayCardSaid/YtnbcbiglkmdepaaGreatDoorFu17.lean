/-
  Texts that belong together, one behind the other.
-/
import Derived.Test.YtnbcbiglkmdepaaGreatDoorFu16
import Derived.Test.YtnbcbiglkmdepaaGreatDoorFu03
import Derived.Test.YtnbcbiglkmdepaaGreatDoorFu01
import Derived.Test.YtnbcbiglkmdepaaGreatDoorFu05
import Derived.Test.YtnbcbiglkmdepaaGreatDoorFu14
import Derived.Test.YtnbcbiglkmdepaaGreatDoorFu13
import Derived.Test.YtnbcbiglkmdepaaGreatDoorFu15
import Derived.Test.YtnbcbiglkmdepaaGreatDoorFu07
import Derived.Test.YtnbcbiglkmdepaaGreatDoorFu12
import Derived.Test.YtnbcbiglkmdepaaGreatDoorFu10
import Derived.Test.YtnbcbiglkmdepaaGreatDoorRows
import Derived.ProofKit
import Derived.OpenShut
import Derived.Below
import Derived.Carry
import Derived.Test.YtnbcbiglkmdepaaGreatDoorFu08
import Derived.ShutString
import Derived.Lay
import Derived.LaidSub
import Derived.SevenTiedAt
import Derived.Deep.DeepHandedRow
import Derived.Lib.LaidTab
import Derived.Lib.SmallJoins
set_option maxHeartbeats 64000000
set_option linter.unusedVariables false
set_option linter.unusedSimpArgs false
open Go.Lib renaming hid → hyd
open List renaming getElem_toArray → lgA, getElem_cons_succ → lgS, getElem_cons_zero → lgZ
namespace Go.Proofs.YtnbcbiglkmdepaaGreatDoor
set_option maxRecDepth 20000
open Go.RowKit
theorem SameIds_none (a1 a2 : Option Addr) (c1 c2 : Nat) (w : World) :
  Calls Tryz.prog 37 #[.slice a1 0 c1, .slice a2 0 c2, .func (.func 38) #[] #[]] w fun e w' => e = .returned (.bool true) ∧ Below w.heap.size w w' := by
 go_enter Tryz.func37, Tryz.ntmps37
 go_wp2_with fail
 refine wp_loop_rounds 1 ?_; rw [rounds_succ]; go_wp2; go_ret; exact ⟨rfl, Below.refl _ _⟩
theorem SameIds_any (a1 a2 : Option Addr) (n c1 c2 : Nat) (l : List (List UInt8)) (w : World) (h1 : IdsAt w a1 l) (h2 : IdsAt w a2 l) (hn : n = l.length) (hm : n ≤ 1000000) (hid : ∀ i ∈ l, i.length = 20) :
  Calls Tryz.prog 37 #[.slice a1 n c1, .slice a2 n c2, .func (.func 38) #[] #[]] w fun e w' => e = .returned (.bool true) ∧ Below w.heap.size w w' := by
 by_cases hp : 0 < l.length
 ·obtain ⟨b1, o1, rfl, hb1, hc1⟩ := h1 hp
  obtain ⟨b2, o2, rfl, hb2, hc2⟩ := h2 hp; exact SameIds_some b1 o1 b2 o2 c1 c2 n l w hn hm hb1 hb2 hc1 hc2 hid
 ·obtain rfl : n = 0 := by omega
  exact SameIds_none a1 a2 c1 c2 w
theorem PlainIds_any (a1 a2 : Option Addr) (n c1 c2 : Nat) (l : List (List UInt8)) (w : World) (h1 : IdsAt w a1 l) (h2 : IdsAt w a2 l) (hn : n = l.length) (hm : n ≤ 1000000) (hid : ∀ i ∈ l, i.length = 20) :
  Calls Tryz.prog 13 #[.slice a1 n c1, .slice a2 n c2] w fun e w' => e = .returned (.bool true) ∧ Below w.heap.size w w' := by
 have C := hyd (SameIds_any a1 a2 n c1 c2 l w h1 h2 hn hm hid); clear h1 h2 hn hm hid
 go_enter Tryz.func13, Tryz.ntmps13
 go_wp2_with fail
 refine C.out.mono ?_; rintro e w1 ⟨rfl, hb⟩; go_wp2; go_ret; exact ⟨rfl, hb⟩
theorem InIds_some (b1 o1 c1 n : Nat) (l : List (List UInt8)) (x : List UInt8) (w : World) (hn : n = l.length) (hm : n ≤ 1000000) (h1 : b1 < w.heap.size)
  (hc1 : ∀ k (h : k < l.length) j v, (cellsD l[k])[j]? = some v → w.cell? ⟨b1, o1 + k * 20 + j, none⟩ = some v) (hid : ∀ i ∈ l, i.length = 20) (hx : x.length = 20) :
  Calls Tryz.prog 115 #[.slice (some ⟨b1, o1, none⟩) n c1, .agg (arrD x)] w fun e w' => e = .returned (.bool (amongD l x)) ∧ Below w.heap.size w w' := by
 obtain ⟨A, hA⟩ : ∃ A, arrD x = A := ⟨_, rfl⟩; have HAS := hyd (show A.size = 20 by rw [← hA]; exact arrD_size x hx)
 have E := fun (y : List UInt8) (hy : y.length = 20) u => eql_arrD y x hy hx u
 have HERE := hyd (fun (k : Nat) (hk : k < l.length) h => among_here (x := x) hk h); have NONE := hyd (fun h => among_none (l := l) (x := x) h); obtain ⟨R, hR⟩ : ∃ R, amongD l x = R := ⟨_, rfl⟩; rw [hR] at HERE NONE ⊢; rw [hA] at E ⊢; obtain ⟨q, hq⟩ : ∃ q : List UInt8 → Bool, ∀ y, eqD y x = q y := ⟨_, fun _ => rfl⟩; simp only [hq] at E HERE NONE; have HE := hyd E; have b1 := (Below.refl w.heap.size w).alloc (Nat.le_refl _) (.cells A 24); have HX := hyd (heap_alloc_new w (.cells A 24)); have B1 := hyd b1; have HC1 := hyd hc1; have HID := hyd hid; have HN := hyd hn; have LA := hyd (show (Tryz.prog.info? 24).map (·.size) = some A.toList.length by rw [Array.length_toList]; exact infoD_arr A HAS.out); clear hc1 hid hn b1 hR hA hx hq E
 go_enter Tryz.func115, Tryz.ntmps115
 go_wp2_with fail
 go_loopw [5] (fun i wr => ∃ k : Nat, k ≤ n ∧ i = .int .i64 k ∧ (∀ j (hj : j < l.length), j < k → q l[j] = false) ∧ wr.heap[w.heap.size]? = some (.cells A 24 (0, 0)) ∧ Below w.heap.size w wr) (fun i _ => n - (intOf i).toNat)
 case atStart => exact ⟨0, Nat.zero_le _, rfl, fun j _ h => absurd h (Nat.not_lt_zero _), HX.out, B1.out⟩
 case round =>
  obtain ⟨k, hk, rfl, hno, hx, hbr⟩ := hrel; have HBR := hyd hbr; have HNO := hyd hno; have HXR := hyd hx; clear hbr hno hx
  by_cases hlt : k < n
  ·have hkl : k < l.length := by rw [← HN.out]; exact hlt
   obtain ⟨y, hy⟩ : ∃ y, l[k] = y := ⟨_, rfl⟩; have hidy := HID.out y (by rw [← hy]; exact List.getElem_mem _)
   have r1 : ∀ u, Below wr.heap.size wr u → u.rangeAt b1 (o1 + k * 20) (cellsD y) := fun u hu j v hv =>
    (hu.cell (p := ⟨b1, o1 + k * 20 + j, none⟩) (Nat.lt_of_lt_of_le h1 HBR.out.size)).trans ((HBR.out.cell (p := ⟨b1, o1 + k * 20 + j, none⟩) h1).trans (HC1.out k hkl j v (by rw [hy]; exact hv)))
   have R1 := hyd r1; have LX := hyd (show (Tryz.prog.info? 24).map (·.size) = some (cellsD y).length by rw [cellsD_len y hidy]; exact infoD_n); have E1 := HE.out y hidy; unfold arrD at E1; have HERE1 := hyd (HERE.out k hkl)
   have HNO1 := hyd (fun (e : q y = false) (j : Nat) (hj : j < l.length) (hjk : j < k + 1) => (show q l[j] = false from if h : j < k then HNO.out j hj h else by
    obtain rfl : j = k := by omega
    rw [hy]; exact e))
   rw [hy] at HERE1; have HRW := hyd (row_arrD (w := wr) (A := A) HXR.out); clear r1 hidy hy
   generalize cellsD y = cy at *
   go_wp2_with fail
   refine rgB wr (fun hd => ?_); refine tkW 0 rfl hd ?_; refine tkW 1 rfl hd ?_; refine tkW 2 rfl hd ?_; refine tkH 3 rfl (yieldsIf_load_mid (by kernel_rfl) 24 (.tmp 14) (by kernel_rfl) b1 (o1 + k * 20) (by kernel_rfl) cy _ (fun u hu => R1.out u hu) Tryz.underlying24 rfl LX.out) hd ?_; refine tkH 4 rfl (yieldsIf_load_mid (by kernel_rfl) 24 (.tmp 3) (by kernel_rfl) w.heap.size 0 (by kernel_rfl) A.toList _ (fun u hu => row_keepD HRW.out (lt_of_heap HXR.out) hu) Tryz.underlying24 rfl LA.out) hd ?_; refine tkW 5 rfl hd ?_
   try simp only [Act.put, lgA, lgS, lgZ, lsA, lsZ, lsS]
   refine wpAnyH_done (by kernel_rfl) ?_ _; have HB2 := hyd (HBR.out.trans (hd.mono HBR.out.size)); have HX2 := hyd (heap_keep HXR.out hd); clear hd
   cases hqy : q y with
   | true =>
    go_wp2; go_ret; exact ⟨by rw [HERE1.out hqy]; rfl, HB2.out⟩
   | false =>
    go_wp2
    go_roundw
    case rel => exact ⟨k + 1, by omega, by go_num, HNO1.out hqy, HX2.out, HB2.out⟩
    case measure => simp [intOf]; omega
  ·obtain rfl : k = n := by omega
   go_wp2; go_ret; exact ⟨by rw [NONE.out (fun j hj => HNO.out j hj (by rw [HN.out]; exact hj))]; rfl, HBR.out⟩
theorem right_false {c : Rcd} (h : c.tree = idZ ∨ ¬ c.parents.length ≤ 16 ∨ rightI c.author = false ∨ rightI c.committer = false ∨ ¬ c.text.length ≤ 32768 ∨ (∃ d ∈ c.text, d = 0) ∨ parentsR c.parents = false) : rightR c = false := by
 cases e : rightR c with
 | false => rfl
 | true =>
  obtain ⟨h1, h2, h3, h4, h5, h6, h7⟩ := (rightR_iff c).1 e
  rcases h with h | h | h | h | h | ⟨d, hd, h⟩ | h
  ·exact absurd h h1
  ·exact absurd h2 h
  ·rw [h4] at h; cases h
  ·rw [h5] at h; cases h
  ·exact absurd h6 h
  ·exact absurd h (h7 d hd)
  ·rw [h3] at h; cases h
theorem find_zero (s : List UInt8) : (findB s 0 0 = -1 ∧ ∀ d ∈ s, d ≠ 0) ∨ (∃ k : Nat, findB s 0 0 = (k : Int) ∧ ∃ d ∈ s, d = 0) := by
 unfold findB; simp only [List.drop_zero]
 by_cases h : s.findIdx (· == 0) < s.length
 ·rw [if_pos h]
  exact .inr ⟨s.findIdx (· == 0), by simp, _, List.getElem_mem h, beq_iff_eq.1 (List.findIdx_getElem (p := fun c : UInt8 => c == 0) (w := h))⟩
 ·rw [if_neg h]
  refine .inl ⟨rfl, fun d hd e => h (List.findIdx_lt_length.2 ⟨d, hd, by simp [e]⟩)⟩
theorem rRight9 (t : List UInt8) (a1 : Option Addr) (n c1 : Nat) (l : List (List UInt8)) (a c : Idt) (x : List UInt8) (w : World) (tab : T6 w) (ht : t.length = 20) (hit : IdsAt w a1 l) (hn : n = l.length) (hm : n ≤ 1000000) (hnc : n ≤ c1) (hid : ∀ i ∈ l, i.length = 20)
  (s1 : a.name.length ≤ 1000000) (s2 : a.email.length ≤ 1000000) (s3 : c.name.length ≤ 1000000) (s4 : c.email.length ≤ 1000000) (sx : x.length ≤ 1000000) :
  Calls Tryz.prog 91 #[.agg (arrC t (.slice a1 n c1) a c x)] w fun e w' => e = .returned (.bool (rightR ⟨t, l, a, c, x⟩)) ∧ Below w.heap.size w w' := by
 obtain ⟨A1, hA1⟩ : ∃ A, arrC t (.slice a1 n c1) a c x = A := ⟨_, rfl⟩; have b1 : Below w.heap.size w (w.alloc (.cells A1 72)) := (Below.refl w.heap.size w).alloc (Nat.le_refl _) (.cells A1 72); have r1 : RecAt (w.alloc (.cells A1 72)) w.heap.size t (.slice a1 n c1) a c x := recAt_of (ty := 72) (fr := (0, 0)) ht (by rw [hA1]; exact heap_alloc_new w _); have K := hyd (fun u (hb : Below (w.alloc (.cells A1 72)).heap.size (w.alloc (.cells A1 72)) u) => r1.keep hb); obtain ⟨z, hz0, hzs, hzv, hzb, hz1⟩ := zId_any; have HZ0 := hyd hz0; have pZ := hyd hzb
 have ED := fun u => eql_arrD t idZ ht rfl u
 rw [← HZ0.out] at ED; unfold arrD at ED; clear hz0 hzs hz1 hzb hzv; have CA := hyd (fun u (hb : Below w.heap.size w u) => rRight_is a s1 s2 u (tab.keep hb)); have CC := hyd (fun u (hb : Below w.heap.size w u) => rRight_is c s3 s4 u (tab.keep hb)); have FZ := hyd (fun u => Find_byte 0 x 0 sx (Nat.zero_le _) u); have ea : idtV a = .agg (cellsT a).toArray := rfl; have ec : idtV c = .agg (cellsT c).toArray := rfl; rw [ea] at CA; rw [ec] at CC; have LD := hyd (show (Tryz.prog.info? 24).map (·.size) = some (cellsD t).length by rw [cellsD_len t ht]; exact infoD_n); have LA := hyd (show (Tryz.prog.info? 70).map (·.size) = some (cellsT a).length from infoT); have LC := hyd (show (Tryz.prog.info? 70).map (·.size) = some (cellsT c).length from infoT); have B1 := hyd b1; have RD := hyd r1.tree; have RA := hyd r1.author; have p1 := r1.parents; have KP := hyd (fun u (hb : Below (w.alloc (.cells A1 72)).heap.size (w.alloc (.cells A1 72)) u) => (K.out u hb).parents); have KC := hyd (fun u (hb : Below (w.alloc (.cells A1 72)).heap.size (w.alloc (.cells A1 72)) u) => (K.out u hb).committer); have KX := hyd (fun u (hb : Below (w.alloc (.cells A1 72)).heap.size (w.alloc (.cells A1 72)) u) => (K.out u hb).text); have zx := size_toArray x; have HF := find_zero x; have hgt : 0 ≤ n := Nat.zero_le _; rw [hA1]
 have RF : ∀ q, _ → rightR ⟨t, l, a, c, x⟩ = q := fun q (hq : rightR ⟨t, l, a, c, x⟩ = q) => hq
 have F0 := hyd (fun h => right_false (c := ⟨t, l, a, c, x⟩) h); have HN := hyd hn; have HIT := hyd hit; have HID := hyd hid; have HNC := hyd hnc
 have hlw : w.heap.size < (w.alloc (.cells A1 72)).heap.size := by simp
 have HLW := hyd hlw; clear hit hid hnc hlw; clear RF K r1 b1 ea ec hn
 cases hz : eqD t idZ with
 | true =>
  have hr := F0.out (.inl ((eqD_iff _ _).1 hz)); rw [hz] at ED; clear hz HF F0
  generalize cellsD t = cd at *
  go_enter Tryz.func91, Tryz.ntmps91
  go_wp2_with (first
    | (with_reducible refine wpList_load_mid rfl 24 (.tmp 4) rfl w.heap.size 0 rfl cd _ RD.out Tryz.underlying24 rfl LD.out ?_)
    | (refine wpList_build_none rfl 24 rfl _ pZ.out ?_))
  go_ret; exact ⟨by first | (rw [hr]; rfl) | rfl, B1.out⟩
 | false =>
  rw [hz] at ED
  by_cases k1 : n ≤ 16
  case neg =>
   have hr := F0.out (.inr (.inl (by rw [← HN.out]; exact k1)))
   have g1 : (n : Int) > 16 := by omega
   clear k1 HF F0 hz
   generalize cellsD t = cd at *
   go_enter Tryz.func91, Tryz.ntmps91
   go_wp2_with (first
     | (with_reducible refine wpList_load_mid rfl 24 (.tmp 4) rfl w.heap.size 0 rfl cd _ RD.out Tryz.underlying24 rfl LD.out ?_)
     | (refine wpList_build_none rfl 24 rfl _ pZ.out ?_))
   go_ret; exact ⟨by first | (rw [hr]; rfl) | rfl, B1.out⟩
  have g1 : decide ((n : Int) > 16) = false := decide_eq_false (by omega); have g1b : decide (16 < (n : Int)) = false := decide_eq_false (by omega)
  have g1c : ¬ (n : Int) > 16 := by omega
  cases hra : rightI a with
  | false =>
   have hr := F0.out (.inr (.inr (.inl hra))); rw [hra] at CA; clear HF F0 hz
   generalize cellsD t = cd at *
   go_enter Tryz.func91, Tryz.ntmps91
   go_wp2_with (first
     | (with_reducible refine wpList_load_mid rfl 24 (.tmp 4) rfl w.heap.size 0 rfl cd _ RD.out Tryz.underlying24 rfl LD.out ?_)
     | (refine wpList_build_none rfl 24 rfl _ pZ.out ?_)
     | (with_reducible refine wpList_load_midD 70 (.tmp 15) rfl (by kernel_rfl) w.heap.size 21 rfl (cellsT a) _ RA.out Tryz.underlying70 rfl LA.out ?_))
   refine (CA.out _ B1.out).mono ?_; rintro e w2 ⟨rfl, hb2⟩; have HB2 := hyd hb2; have RC := hyd (KC.out _ hb2); clear hb2
   go_wp2_with fail
   go_ret; exact ⟨by first | (rw [hr]; rfl) | rfl, B1.out.trans (HB2.out.mono B1.out.size)⟩
  | true =>
   rw [hra] at CA
   cases hrc : rightI c with
   | false =>
    have hr := F0.out (.inr (.inr (.inr (.inl hrc)))); rw [hrc] at CC; clear HF F0 hz
    generalize cellsD t = cd at *
    go_enter Tryz.func91, Tryz.ntmps91
    go_wp2_with (first
      | (with_reducible refine wpList_load_mid rfl 24 (.tmp 4) rfl w.heap.size 0 rfl cd _ RD.out Tryz.underlying24 rfl LD.out ?_)
      | (refine wpList_build_none rfl 24 rfl _ pZ.out ?_)
      | (with_reducible refine wpList_load_midD 70 (.tmp 15) rfl (by kernel_rfl) w.heap.size 21 rfl (cellsT a) _ RA.out Tryz.underlying70 rfl LA.out ?_))
    refine (CA.out _ B1.out).mono ?_; rintro e w2 ⟨rfl, hb2⟩; have HB2 := hyd hb2; have RC := hyd (KC.out _ hb2); clear hb2
    go_wp2_with (first
      | (with_reducible refine wpList_load_midD 70 (.tmp 21) rfl (by kernel_rfl) w.heap.size 25 rfl (cellsT c) _ RC.out Tryz.underlying70 rfl LC.out ?_))
    refine (CC.out _ (B1.out.trans (HB2.out.mono B1.out.size))).mono ?_; rintro e w3 ⟨rfl, hb3⟩; have HB3 := hyd (HB2.out.trans (hb3.mono HB2.out.size)); have p3 := KX.out _ HB3.out; have p4 := KP.out _ HB3.out; clear hb3
    go_wp2_with fail
    go_ret; exact ⟨by first | (rw [hr]; rfl) | rfl, B1.out.trans (HB3.out.mono B1.out.size)⟩
   | true =>
    rw [hrc] at CC
    by_cases k2 : x.length ≤ 32768
    case neg =>
     have hr := F0.out (.inr (.inr (.inr (.inr (.inl k2)))))
     have g2 : (x.length : Int) > 32768 := by omega
     clear k2 HF F0 hz
     generalize cellsD t = cd at *
     generalize (⟨x.toArray⟩ : ByteArray) = X at *
     go_enter Tryz.func91, Tryz.ntmps91
     go_wp2_with (first
       | (with_reducible refine wpList_load_mid rfl 24 (.tmp 4) rfl w.heap.size 0 rfl cd _ RD.out Tryz.underlying24 rfl LD.out ?_)
       | (refine wpList_build_none rfl 24 rfl _ pZ.out ?_)
       | (with_reducible refine wpList_load_midD 70 (.tmp 15) rfl (by kernel_rfl) w.heap.size 21 rfl (cellsT a) _ RA.out Tryz.underlying70 rfl LA.out ?_))
     refine (CA.out _ B1.out).mono ?_; rintro e w2 ⟨rfl, hb2⟩; have HB2 := hyd hb2; have RC := hyd (KC.out _ hb2); clear hb2
     go_wp2_with (first
       | (with_reducible refine wpList_load_midD 70 (.tmp 21) rfl (by kernel_rfl) w.heap.size 25 rfl (cellsT c) _ RC.out Tryz.underlying70 rfl LC.out ?_))
     refine (CC.out _ (B1.out.trans (HB2.out.mono B1.out.size))).mono ?_; rintro e w3 ⟨rfl, hb3⟩; have HB3 := hyd (HB2.out.trans (hb3.mono HB2.out.size)); have p3 := KX.out _ HB3.out; have p4 := KP.out _ HB3.out; clear hb3
     go_wp2_with fail
     go_ret; exact ⟨by first | (rw [hr]; rfl) | rfl, B1.out.trans (HB3.out.mono B1.out.size)⟩
    have g2 : ¬ (x.length : Int) > 32768 := by omega
    rcases HF with ⟨hf, hno⟩ | ⟨kz, hf, hno⟩
    case inr =>
     have hr := F0.out (.inr (.inr (.inr (.inr (.inr (.inl hno)))))); rw [hf] at FZ
     have g3 : (kz : Int) ≥ 0 := by omega
     clear hf hno F0 hz
     generalize cellsD t = cd at *
     generalize (⟨x.toArray⟩ : ByteArray) = X at *
     go_enter Tryz.func91, Tryz.ntmps91
     go_wp2_with (first
       | (with_reducible refine wpList_load_mid rfl 24 (.tmp 4) rfl w.heap.size 0 rfl cd _ RD.out Tryz.underlying24 rfl LD.out ?_)
       | (refine wpList_build_none rfl 24 rfl _ pZ.out ?_)
       | (with_reducible refine wpList_load_midD 70 (.tmp 15) rfl (by kernel_rfl) w.heap.size 21 rfl (cellsT a) _ RA.out Tryz.underlying70 rfl LA.out ?_))
     refine (CA.out _ B1.out).mono ?_; rintro e w2 ⟨rfl, hb2⟩; have HB2 := hyd hb2; have RC := hyd (KC.out _ hb2); clear hb2
     go_wp2_with (first
       | (with_reducible refine wpList_load_midD 70 (.tmp 21) rfl (by kernel_rfl) w.heap.size 25 rfl (cellsT c) _ RC.out Tryz.underlying70 rfl LC.out ?_))
     refine (CC.out _ (B1.out.trans (HB2.out.mono B1.out.size))).mono ?_; rintro e w3 ⟨rfl, hb3⟩; have HB3 := hyd (HB2.out.trans (hb3.mono HB2.out.size)); have p3 := KX.out _ HB3.out; have p4 := KP.out _ HB3.out; clear hb3
     go_wp2_with fail
     refine (FZ.out _).mono ?_; rintro e w4 ⟨rfl, rfl⟩
     go_wp2_with fail
     go_ret; exact ⟨by first | (rw [hr]; rfl) | rfl, B1.out.trans (HB3.out.mono B1.out.size)⟩
    rw [hf] at FZ
    have hgood : parentsR l = true → rightR ⟨t, l, a, c, x⟩ = true := fun hp => (rightR_iff _).2 ⟨fun e => (by have e2 : t = idZ := e; rw [e2, eqD_same] at hz; cases hz), (by rw [← HN.out]; exact k1), hp, hra, hrc, k2, hno⟩
    have hbad : parentsR l = false → rightR ⟨t, l, a, c, x⟩ = false := fun hp => F0.out (.inr (.inr (.inr (.inr (.inr (.inr hp))))))
    clear hf F0 hz hno k1 k2 hra hrc
    generalize cellsD t = cd at *
    generalize (⟨x.toArray⟩ : ByteArray) = X at *
    go_enter Tryz.func91, Tryz.ntmps91
    go_wp2_with (first
      | (with_reducible refine wpList_load_mid rfl 24 (.tmp 4) rfl w.heap.size 0 rfl cd _ RD.out Tryz.underlying24 rfl LD.out ?_)
      | (refine wpList_build_none rfl 24 rfl _ pZ.out ?_)
      | (with_reducible refine wpList_load_midD 70 (.tmp 15) rfl (by kernel_rfl) w.heap.size 21 rfl (cellsT a) _ RA.out Tryz.underlying70 rfl LA.out ?_))
    refine (CA.out _ B1.out).mono ?_; rintro e w2 ⟨rfl, hb2⟩; have HB2 := hyd hb2; have RC := hyd (KC.out _ hb2); clear hb2
    go_wp2_with (first
      | (with_reducible refine wpList_load_midD 70 (.tmp 21) rfl (by kernel_rfl) w.heap.size 25 rfl (cellsT c) _ RC.out Tryz.underlying70 rfl LC.out ?_))
    refine (CC.out _ (B1.out.trans (HB2.out.mono B1.out.size))).mono ?_; rintro e w3 ⟨rfl, hb3⟩; have HB3 := hyd (HB2.out.trans (hb3.mono HB2.out.size)); have p3 := KX.out _ HB3.out; have p4 := KP.out _ HB3.out; clear hb3
    go_wp2_with fail
    refine (FZ.out _).mono ?_; rintro e w4 ⟨rfl, rfl⟩
    go_wp2_with fail
    go_loopw [3] (fun i wr => ∃ k : Nat, k ≤ n ∧ i = .int .i64 k ∧ (∀ j (hj : j < l.length), j < k → l[j] ≠ idZ ∧ l[j] ∉ l.take j) ∧ Below (w.alloc (.cells A1 72)).heap.size (w.alloc (.cells A1 72)) wr) (fun i _ => n - (intOf i).toNat)
    case atStart => exact ⟨0, Nat.zero_le _, rfl, fun j _ h => absurd h (Nat.not_lt_zero _), HB3.out⟩
    case round =>
     obtain ⟨k, hk, rfl, hok, hbr⟩ := hrel; have HBR := hyd hbr; have HOK := hyd hok; have pp := KP.out _ hbr; have HBW := hyd (B1.out.trans (hbr.mono B1.out.size)); clear hbr hok
     by_cases hlt : k < n
     ·have hkl : k < l.length := by rw [← HN.out]; exact hlt
      obtain ⟨b, o, rfl, hbl, hc⟩ := HIT.out (by omega); have HC := hyd hc; have HBL := hyd hbl; clear hc hbl; obtain ⟨y, hy⟩ : ∃ y, l[k] = y := ⟨_, rfl⟩; have hidy := HID.out y (by rw [← hy]; exact List.getElem_mem _); have PP := hyd (fun u (hu : Below wr.heap.size wr u) => (hu.cell (p := ⟨w.heap.size, 20, none⟩) (Nat.lt_of_lt_of_le HLW.out HBR.out.size)).trans pp)
      have RY := hyd (fun u (hu : Below wr.heap.size wr u) => (fun j v hv =>
       (hu.cell (p := ⟨b, o + k * 20 + j, none⟩) (Nat.lt_of_lt_of_le HBL.out HBW.out.size)).trans ((HBW.out.cell (p := ⟨b, o + k * 20 + j, none⟩) HBL.out).trans (HC.out k hkl j v (by rw [hy]; exact hv))) : u.rangeAt b (o + k * 20) (cellsD y)))
      have LX := hyd (show (Tryz.prog.info? 24).map (·.size) = some (cellsD y).length by rw [cellsD_len y hidy]; exact infoD_n)
      have EY := fun u => eql_arrD y idZ hidy rfl u
      rw [← HZ0.out] at EY; unfold arrD at EY
      have gk : (k : Int) ≤ (c1 : Int) := by have := HNC.out; omega
      have CI := hyd (fun u (hu : Below wr.heap.size wr u) => InIds_some b o c1 k (l.take k) y u (by rw [List.length_take]; omega) (by omega) (Nat.lt_of_lt_of_le HBL.out (Nat.le_trans HBW.out.size hu.size)) (fun q hq j v hv => (hu.cell (p := ⟨b, o + q * 20 + j, none⟩) (Nat.lt_of_lt_of_le HBL.out HBW.out.size)).trans ((HBW.out.cell (p := ⟨b, o + q * 20 + j, none⟩) HBL.out).trans (HC.out q (by rw [List.length_take] at hq; omega) j v (by rw [List.getElem_take] at hv; exact hv)))) (fun i hi => HID.out i (List.mem_of_mem_take hi)) hidy); unfold arrD at CI
      cases hyz : eqD y idZ with
      | true =>
       rw [hyz] at EY; have hr := hbad (parents_bad k hkl (.inl (by rw [hy]; exact (eqD_iff _ _).1 hyz))); clear hyz hbad hgood
       generalize cellsD y = cy at *
       go_wp2_with fail
       refine rgB wr (fun hW => ?_); refine tkW 0 rfl hW ?_; refine tkV 1 rfl (.slice (some ⟨b, o, none⟩) n c1) ?ty1 hW ?_
       case ty1 => intro u hu; have q := PP.out u hu; go_simp
       refine tkW 2 rfl hW ?_; refine tkW 3 rfl hW ?_; refine tkH 4 rfl (yieldsIf_load_mid (by kernel_rfl) 24 (.tmp 48) (by kernel_rfl) b (o + k * 20) (by kernel_rfl) cy _ (fun u hu => RY.out u hu) Tryz.underlying24 rfl LX.out) hW ?_; refine tkH 5 rfl (yields_build0 (by kernel_rfl) 24 rfl _ pZ.out) hW ?_; refine tkW 6 rfl hW ?_; refine tkW 7 rfl hW ?_; refine tkU 8 rfl hW ?_; refine tkU 9 rfl hW ?_; refine tkU 10 rfl hW ?_; refine tkU 11 rfl hW ?_; refine tkU 12 rfl hW ?_; refine tkU 13 rfl hW ?_; refine tkU 14 rfl hW ?_; refine tkU 15 rfl hW ?_; refine tkU 16 rfl hW ?_; refine tkU 17 rfl hW ?_; refine tkW 18 rfl hW ?_
       try simp only [Act.put, lgA, lgS, lgZ, lsA, lsZ, lsS]
       refine wpAnyH_done (by kernel_rfl) ?_ _; have HB5 := hyd (HBW.out.trans (hW.mono HBW.out.size)); clear hW; go_wp2; go_ret; exact ⟨by first | (rw [hr]; rfl) | rfl, HB5.out⟩
      | false =>
       rw [hyz] at EY
       cases hin : amongD (l.take k) y with
       | true =>
        rw [hin] at CI; have hr := hbad (parents_bad k hkl (.inr (by rw [hy]; exact (among_iff _ _).1 hin))); clear hyz hin hbad hgood
        generalize cellsD y = cy at *
        go_wp2_with fail
        refine rgB wr (fun hW => ?_); refine tkW 0 rfl hW ?_; refine tkV 1 rfl (.slice (some ⟨b, o, none⟩) n c1) ?fy1x hW ?_
        case fy1x => intro u hu; have q := PP.out u hu; go_simp
        refine tkW 2 rfl hW ?_; refine tkW 3 rfl hW ?_; refine tkH 4 rfl (yieldsIf_load_mid (by kernel_rfl) 24 (.tmp 48) (by kernel_rfl) b (o + k * 20) (by kernel_rfl) cy _ (fun u hu => RY.out u hu) Tryz.underlying24 rfl LX.out) hW ?_; refine tkH 5 rfl (yields_build0 (by kernel_rfl) 24 rfl _ pZ.out) hW ?_; refine tkW 6 rfl hW ?_; refine tkW 7 rfl hW ?_; refine tkW 8 rfl hW ?_; refine tkV 9 rfl (.slice (some ⟨b, o, none⟩) n c1) ?fy9x hW ?_
        case fy9x => intro u hu; have q := PP.out u hu; go_simp
        refine tkW 10 rfl hW ?_; refine tkW 11 rfl hW ?_; refine tkW 12 rfl hW ?_; refine tkV 13 rfl (.slice (some ⟨b, o, none⟩) n c1) ?fy13x hW ?_
        case fy13x => intro u hu; have q := PP.out u hu; go_simp
        refine tkW 14 rfl hW ?_; refine tkW 15 rfl hW ?_; refine tkH 16 rfl (yieldsIf_load_mid (by kernel_rfl) 24 (.tmp 60) (by kernel_rfl) b (o + k * 20) (by kernel_rfl) cy _ (fun u hu => RY.out u hu) Tryz.underlying24 rfl LX.out) hW ?_; refine rdH 17 rfl (fun K hK => ?_)
        go_simp
        refine (CI.out _ hW).mono ?_; rintro e u1 ⟨rfl, hI⟩; have hH := hW.trans (hI.mono hW.size); clear hW hI; refine hK.out _ _ hH (fun hW => ?_); clear hK K
        try simp only [Act.put, lsA, lsZ, lsS]
        refine tkW 18 rfl hW ?_
        try simp only [Act.put, lgA, lgS, lgZ, lsA, lsZ, lsS]
        refine wpAnyH_done (by kernel_rfl) ?_ _; have HB5 := hyd (HBW.out.trans (hW.mono HBW.out.size)); clear hW; go_wp2; go_ret; exact ⟨by first | (rw [hr]; rfl) | rfl, HB5.out⟩
       | false =>
        rw [hin] at CI
        have HOK1 := hyd (fun (j : Nat) (hj : j < l.length) (hjk : j < k + 1) => (show l[j] ≠ idZ ∧ l[j] ∉ l.take j from if h : j < k then HOK.out j hj h else by
         obtain rfl : j = k := by omega
         rw [hy]
         exact ⟨fun e => (by rw [e, eqD_same] at hyz; cases hyz), fun e => (by rw [(among_iff _ _).2 e] at hin; cases hin)⟩))
        clear hyz hin hbad hgood
        generalize cellsD y = cy at *
        go_wp2_with fail
        refine rgB wr (fun hW => ?_); refine tkW 0 rfl hW ?_; refine tkV 1 rfl (.slice (some ⟨b, o, none⟩) n c1) ?gy1x hW ?_
        case gy1x => intro u hu; have q := PP.out u hu; go_simp
        refine tkW 2 rfl hW ?_; refine tkW 3 rfl hW ?_; refine tkH 4 rfl (yieldsIf_load_mid (by kernel_rfl) 24 (.tmp 48) (by kernel_rfl) b (o + k * 20) (by kernel_rfl) cy _ (fun u hu => RY.out u hu) Tryz.underlying24 rfl LX.out) hW ?_; refine tkH 5 rfl (yields_build0 (by kernel_rfl) 24 rfl _ pZ.out) hW ?_; refine tkW 6 rfl hW ?_; refine tkW 7 rfl hW ?_; refine tkW 8 rfl hW ?_; refine tkV 9 rfl (.slice (some ⟨b, o, none⟩) n c1) ?gy9x hW ?_
        case gy9x => intro u hu; have q := PP.out u hu; go_simp
        refine tkW 10 rfl hW ?_; refine tkW 11 rfl hW ?_; refine tkW 12 rfl hW ?_; refine tkV 13 rfl (.slice (some ⟨b, o, none⟩) n c1) ?gy13x hW ?_
        case gy13x => intro u hu; have q := PP.out u hu; go_simp
        refine tkW 14 rfl hW ?_; refine tkW 15 rfl hW ?_; refine tkH 16 rfl (yieldsIf_load_mid (by kernel_rfl) 24 (.tmp 60) (by kernel_rfl) b (o + k * 20) (by kernel_rfl) cy _ (fun u hu => RY.out u hu) Tryz.underlying24 rfl LX.out) hW ?_; refine rdH 17 rfl (fun K hK => ?_)
        go_simp
        refine (CI.out _ hW).mono ?_; rintro e u1 ⟨rfl, hI⟩; have hH := hW.trans (hI.mono hW.size); clear hW hI; refine hK.out _ _ hH (fun hW => ?_); clear hK K
        try simp only [Act.put, lsA, lsZ, lsS]
        refine tkW 18 rfl hW ?_
        try simp only [Act.put, lgA, lgS, lgZ, lsA, lsZ, lsS]
        refine wpAnyH_done (by kernel_rfl) ?_ _; have HB5 := hyd (HBR.out.trans (hW.mono HBR.out.size)); clear hW; go_wp2
        go_roundw
        case rel => exact ⟨k + 1, by omega, by go_num, HOK1.out, HB5.out⟩
        case measure => simp [intOf]; omega
     ·obtain rfl : k = n := by omega
      have hr := hgood ((parentsR_iff l).2 (fun j hj => HOK.out j hj (by rw [HN.out]; exact hj))); clear hbad hgood; go_wp2; go_ret; exact ⟨by first | (rw [hr]; rfl) | rfl, HBW.out⟩
def strLen9 : Value → Nat
 | .string s => s.size
 | _ => 0
theorem strLen9_string (s : ByteArray) : strLen9 (.string s) = s.size := rfl
theorem lineR_none {s w : List UInt8} (h : lineL s w = none) : lineR s w = ([], s, false) := by unfold lineR; rw [h]
theorem lineR_some {s w x r : List UInt8} (h : lineL s w = some (x, r)) : lineR s w = (x, r, true) := by unfold lineR; rw [h]
abbrev RcAt (w : World) (g : Nat) (t : List UInt8) (v : Value) (a c : Idt) (x : List UInt8) : Prop := w.heap[g]? = some (.cells (arrC t v a c x) 72 (0, 0))
theorem rc_parents {w : World} {g : Nat} {t : List UInt8} {v v' : Value} {a c : Idt} {x : List UInt8} (h : RcAt w g t v a c x) (ht : t.length = 20) : RcAt (w.setCell ⟨g, 20, none⟩ v') g t v' a c x := by
 have := heap_set h 20 v'
 rwa [put_parents t v v' a c x ht] at this
theorem rc_text {w : World} {g : Nat} {t : List UInt8} {v : Value} {a c : Idt} {x : List UInt8} (h : RcAt w g t v a c x) (ht : t.length = 20) (y : List UInt8) : RcAt (w.setCell ⟨g, 29, none⟩ (.string ⟨y.toArray⟩)) g t v a c y := by
 have := heap_set h 29 (.string ⟨y.toArray⟩)
 rwa [put_text t v a c x y ht] at this
theorem Off.far {g k : Nat} {w w' : World} (h : Off g w w') (hn : g ≠ k) {o : Obj} (ho : w.heap[k]? = some o) : w'.heap[k]? = some o := (h.block k (lt_of_heap ho) (fun e => hn e.symm)).trans ho
theorem ownD_mono2 {B g : Nat} {v : Value} {l : List (List UInt8)} {w w' : World} (h : OwnD B v l w) (ho : Off g w w') (hg : v.ownBlock ≠ some g) : OwnD B v l w' :=
 World.ownsRow.kept (row := some g) h ⟨ho.os, ho.tape, ho.output, ho.size, fun k hk hn => ho.block k hk (fun e => hn (by rw [e]))⟩ (.inr hg)
theorem off_setRow (w : World) (g : Nat) (cs : Array Value) : Off g w (w.setRow g cs) := by
 have b := below_setRow (B := g) (Below.refl g w) (Nat.le_refl _) cs; refine ⟨b.os, b.tape, b.output, b.size, fun k _ hk => ?_⟩
 have hkg : ¬ g = k := fun e => hk e.symm
 simp [World.setRow, Array.getElem?_modify, hkg]
theorem unD_nil : unD [] = none := by decide
theorem parseR_nil : parseR Lib.itoa takeN [] = none := by rw [← parse_alike]; exact parse_nil
theorem rParse9_is (a : Option Addr) (n cp : Nat) (bs : List UInt8) (w : World) (tab : T6 w) (hn : n = bs.length) (hb : BAt w a bs) (hs : n ≤ 1000000) :
  Calls Tryz.prog 63 #[.slice a n cp] w fun e w' => ∃ A, e = .returned (.tuple #[.agg A, .int .i64 (parsedR bs).2]) ∧ RecRed w' A (parsedR bs).1 ∧ Below w.heap.size w w' := by
 subst hn; obtain ⟨z, hz0, hzs, hzv, hzb, hz1⟩ := zRec_any; obtain ⟨y, hy0, hys, hyv, hyb, hy1⟩ := zId_any; obtain ⟨x4, hx0, hxs, hxv, hxb, hx1⟩ := zIdt_any; have ZS := hyd hzs; have ZB := hyd hzb; have Z1 := hyd hz1; have Z0 := hyd hz0; have YS := hyd hys; have XS := hyd hxs; have IZ := hyd (infoC_arr z hzs); have hb1 := ((Below.refl w.heap.size w).alloc (Nat.le_refl _) (.cells z 72)).alloc (by simp) (.cells z 72); have hg1 := (Below.heap_alloc (w.alloc (.cells z 72)) (.cells z 72) w.heap.size (by simp)).trans (heap_alloc_new w (.cells z 72)); have hc1 := heap_alloc_new (w.alloc (.cells z 72)) (.cells z 72); rw [show (w.alloc (.cells z 72)).heap.size = w.heap.size + 1 by simp] at hc1; have cv := (hb.keep hb1).conv (P := Tryz.prog) cp 32 5 Tryz.underlying32 Tryz.underlying5 9 Tryz.underlying9; have TB := hyd (fun (u : World) (hu : Below w.heap.size w u) => tab.keep hu); have HS := hyd hs; obtain ⟨PR, hPR⟩ : ∃ PR, parsedR bs = PR := ⟨_, rfl⟩; have HQ := hyd (show PR = match parseC unD (parseR Lib.itoa takeN) bs with | none => (rcdZ, 4) | some c => (c, 0) from hPR.symm); unfold parseC at HQ; rw [hPR]
 have c1 := fun u => rline_is bs treeW hs (by decide) u
 clear hz0 hzs hzb hz1 hb1 hb tab hPR hs hy0 hys hyb hy1 hx0 hxs hxb hx1 hg1 hc1; obtain ⟨SB, hSB⟩ : ∃ SB : ByteArray, ⟨bs.toArray⟩ = SB := ⟨_, rfl⟩; rw [hSB] at cv c1; clear hSB
 cases hl1 : lineL bs treeW with
 | none =>
  rw [lineR_none hl1, show treeW = [116, 114, 101, 101, 32] from rfl] at c1; rw [hl1] at HQ; simp only at c1; have NONE := hyd (show PR = (rcdZ, 4) from HQ.out); have C2 := hyd (fun u => (show Calls Tryz.prog 89 #[.string ⟨([] : List UInt8).toArray⟩] u fun e u' => e = .returned (.tuple #[.agg (arrD idZ), .int .i64 4]) ∧ Below u.heap.size u u' from (rId_all [] (by decide) u).mono (fun e u' h => ⟨h.1.trans (by rw [idR_none unD_nil]; rfl), h.2⟩))); obtain ⟨Y, hY⟩ : ∃ Y, arrD idZ = Y := ⟨_, rfl⟩; have HYS := hyd (show Y.size = 20 by rw [← hY]; exact arrD_size _ rfl); have HY1 := hyd (show Y.all (·.oneCell') = true by rw [← hY]; exact arrD_one _); have IY := hyd (show (Tryz.prog.info? 24).map (·.size) = some Y.size by rw [HYS.out]; exact infoD_n); have HY := hyd hY; rw [hY] at C2; clear hY; clear hl1
  go_enter Tryz.func63, Tryz.ntmps63
  go_wp2_with fail
  have hb1 := ((Below.refl w.heap.size w).alloc (Nat.le_refl _) (.cells z 72)).alloc (by simp) (.cells z 72); have hg1 := (Below.heap_alloc (w.alloc (.cells z 72)) (.cells z 72) w.heap.size (by simp)).trans (heap_alloc_new w (.cells z 72)); have hc1 := heap_alloc_new (w.alloc (.cells z 72)) (.cells z 72); rw [show (w.alloc (.cells z 72)).heap.size = w.heap.size + 1 by simp] at hc1
  generalize hwa : (w.alloc (.cells z 72)).alloc (.cells z 72) = wa at *
  have BA := hyd hb1; have GA := hyd hg1; have CA := hyd (show RcAt wa (w.heap.size + 1) idZ (.slice none 0 0) zT zT [] from by unfold RcAt; rw [show arrC idZ (.slice none 0 0) zT zT [] = z from Z0.out.symm]; exact hc1); clear hb1 hg1 hc1 hwa cv; refine (c1 _).mono ?_; rintro e wb ⟨rfl, hbb⟩; have BB := hyd (BA.out.trans (hbb.mono BA.out.size)); have GB := hyd (heap_keep GA.out hbb); have CB := hyd (heap_keep CA.out hbb); clear hbb
  go_wp2_with fail
  refine (C2.out _).mono ?_; rintro e wc ⟨rfl, hbc⟩; have BC := hyd (BB.out.trans (hbc.mono BB.out.size)); have GC := hyd (heap_keep GB.out hbc); have CC := hyd (heap_keep CB.out hbc); clear hbc; have LT8 := hyd (show w.heap.size + 1 < wc.heap.size from lt_of_heap CC.out)
  go_wp2_with (first
   | (with_reducible refine wpList_store_all rfl 24 (.tmp 8) (.tmp 21) rfl wc.heap.size Y rfl rfl 24 y (heap_alloc_new wc _) IY.out (HYS.out.trans YS.out.symm) HY1.out ?_)
   | fail)
  intro wc2 hn hon hsn; have hbn := ((Below.refl wc.heap.size wc).alloc (Nat.le_refl _) (.cells y 24)).trans (hon.below (Nat.le_refl _) (by simp)); have KD := hyd hn; have BD := hyd (BC.out.trans (hbn.mono BC.out.size)); have GD := hyd (heap_keep GC.out hbn); have CD := hyd (heap_keep CC.out hbn); clear hbn; clear hn hon hsn
  go_wp2_with (first
   | (refine wpList_build_none rfl 72 rfl _ ZB.out ?_)
   | (with_reducible refine wpList_store_all rfl 72 (.tmp 2) (.tmp 29) rfl w.heap.size z rfl rfl 72 z GD.out IZ.out rfl Z1.out ?_)
   | fail)
  intro wz hgz hoz hsz; have BZ := hyd (BD.out.trans (hoz.below (B := w.heap.size) (Nat.le_refl _) BD.out.size)); have GZ := hyd hgz; clear hgz hoz hsz; obtain rfl := NONE.out; go_wp2; exact bodyPost_ret (results_rec Tryz.results63 _ _ w.heap.size z (0, 0) _ rfl rfl GZ.out ZS.out) rfl ⟨_, rfl, by rw [Z0.out]; exact recRed_zero _, BZ.out⟩
 | some y1 =>
  obtain ⟨x1, r1⟩ := y1; have hll := line_len hl1; rw [lineR_some hl1, show treeW = [116, 114, 101, 101, 32] from rfl] at c1; rw [hl1] at HQ
  dsimp only at HQ
  simp only at c1; have HR1 := hyd (show r1.length ≤ bs.length by omega)
  have hx1 : x1.length ≤ 1000000 := by have := HS.out; omega
  cases hu1 : unD x1 with
  | none =>
   rw [hu1] at HQ; have NONE := hyd (show PR = (rcdZ, 4) from HQ.out); have C2 := hyd (fun u => (show Calls Tryz.prog 89 #[.string ⟨(x1 : List UInt8).toArray⟩] u fun e u' => e = .returned (.tuple #[.agg (arrD idZ), .int .i64 4]) ∧ Below u.heap.size u u' from (rId_all x1 (hx1) u).mono (fun e u' h => ⟨h.1.trans (by rw [idR_none hu1]; rfl), h.2⟩))); obtain ⟨Y, hY⟩ : ∃ Y, arrD idZ = Y := ⟨_, rfl⟩; have HYS := hyd (show Y.size = 20 by rw [← hY]; exact arrD_size _ rfl); have HY1 := hyd (show Y.all (·.oneCell') = true by rw [← hY]; exact arrD_one _); have IY := hyd (show (Tryz.prog.info? 24).map (·.size) = some Y.size by rw [HYS.out]; exact infoD_n); have HY := hyd hY; rw [hY] at C2; clear hY; clear hl1 hll hx1 hu1
   generalize (⟨x1.toArray⟩ : ByteArray) = sx1 at *
   generalize (⟨r1.toArray⟩ : ByteArray) = sr1 at *
   go_enter Tryz.func63, Tryz.ntmps63
   go_wp2_with fail
   have hb1 := ((Below.refl w.heap.size w).alloc (Nat.le_refl _) (.cells z 72)).alloc (by simp) (.cells z 72); have hg1 := (Below.heap_alloc (w.alloc (.cells z 72)) (.cells z 72) w.heap.size (by simp)).trans (heap_alloc_new w (.cells z 72)); have hc1 := heap_alloc_new (w.alloc (.cells z 72)) (.cells z 72); rw [show (w.alloc (.cells z 72)).heap.size = w.heap.size + 1 by simp] at hc1
   generalize hwa : (w.alloc (.cells z 72)).alloc (.cells z 72) = wa at *
   have BA := hyd hb1; have GA := hyd hg1; have CA := hyd (show RcAt wa (w.heap.size + 1) idZ (.slice none 0 0) zT zT [] from by unfold RcAt; rw [show arrC idZ (.slice none 0 0) zT zT [] = z from Z0.out.symm]; exact hc1); clear hb1 hg1 hc1 hwa cv; refine (c1 _).mono ?_; rintro e wb ⟨rfl, hbb⟩; have BB := hyd (BA.out.trans (hbb.mono BA.out.size)); have GB := hyd (heap_keep GA.out hbb); have CB := hyd (heap_keep CA.out hbb); clear hbb
   go_wp2_with fail
   refine (C2.out _).mono ?_; rintro e wc ⟨rfl, hbc⟩; have BC := hyd (BB.out.trans (hbc.mono BB.out.size)); have GC := hyd (heap_keep GB.out hbc); have CC := hyd (heap_keep CB.out hbc); clear hbc; have LT8 := hyd (show w.heap.size + 1 < wc.heap.size from lt_of_heap CC.out)
   go_wp2_with (first
    | (with_reducible refine wpList_store_all rfl 24 (.tmp 8) (.tmp 21) rfl wc.heap.size Y rfl rfl 24 y (heap_alloc_new wc _) IY.out (HYS.out.trans YS.out.symm) HY1.out ?_)
    | fail)
   intro wc2 hn hon hsn; have hbn := ((Below.refl wc.heap.size wc).alloc (Nat.le_refl _) (.cells y 24)).trans (hon.below (Nat.le_refl _) (by simp)); have KD := hyd hn; have BD := hyd (BC.out.trans (hbn.mono BC.out.size)); have GD := hyd (heap_keep GC.out hbn); have CD := hyd (heap_keep CC.out hbn); clear hbn; clear hn hon hsn
   go_wp2_with (first
    | (refine wpList_build_none rfl 72 rfl _ ZB.out ?_)
    | (with_reducible refine wpList_store_all rfl 72 (.tmp 2) (.tmp 29) rfl w.heap.size z rfl rfl 72 z GD.out IZ.out rfl Z1.out ?_)
    | fail)
   intro wz hgz hoz hsz; have BZ := hyd (BD.out.trans (hoz.below (B := w.heap.size) (Nat.le_refl _) BD.out.size)); have GZ := hyd hgz; clear hgz hoz hsz; obtain rfl := NONE.out; go_wp2; exact bodyPost_ret (results_rec Tryz.results63 _ _ w.heap.size z (0, 0) _ rfl rfl GZ.out ZS.out) rfl ⟨_, rfl, by rw [Z0.out]; exact recRed_zero _, BZ.out⟩
  | some t =>
   rw [hu1] at HQ; have HT := hyd (un_len hu1); have HQ2 := hyd (show PR = match (match parsL unD 16 r1 with | none => none | some (ps, q) => match whoL (parseR Lib.itoa takeN) q with | none => none | some (a, c, tx) => if rightR ⟨t, ps, a, c, tx⟩ = true then some ⟨t, ps, a, c, tx⟩ else none : Option Rcd) with | none => (rcdZ, 4) | some c => (c, 0) from HQ.out); clear HQ; obtain ⟨PL, hPL⟩ : ∃ PL, parsL unD 16 r1 = PL := ⟨_, rfl⟩; rw [hPL] at HQ2; have HP0 := hyd (show parsK unD [] 16 r1 = PL by rw [parsK_nil, hPL]); clear hPL; have C2 := hyd (fun u => (show Calls Tryz.prog 89 #[.string ⟨(x1 : List UInt8).toArray⟩] u fun e u' => e = .returned (.tuple #[.agg (arrD t), .int .i64 0]) ∧ Below u.heap.size u u' from (rId_all x1 (hx1) u).mono (fun e u' h => ⟨h.1.trans (by rw [idR_some hu1]; rfl), h.2⟩))); obtain ⟨Y, hY⟩ : ∃ Y, arrD t = Y := ⟨_, rfl⟩; have HYS := hyd (show Y.size = 20 by rw [← hY]; exact arrD_size _ HT.out); have HY1 := hyd (show Y.all (·.oneCell') = true by rw [← hY]; exact arrD_one _); have IY := hyd (show (Tryz.prog.info? 24).map (·.size) = some Y.size by rw [HYS.out]; exact infoD_n); have HY := hyd hY; rw [hY] at C2; clear hY; clear hl1 hll hx1 hu1
   generalize (⟨x1.toArray⟩ : ByteArray) = sx1 at *
   go_enter Tryz.func63, Tryz.ntmps63
   go_wp2_with fail
   have hb1 := ((Below.refl w.heap.size w).alloc (Nat.le_refl _) (.cells z 72)).alloc (by simp) (.cells z 72); have hg1 := (Below.heap_alloc (w.alloc (.cells z 72)) (.cells z 72) w.heap.size (by simp)).trans (heap_alloc_new w (.cells z 72)); have hc1 := heap_alloc_new (w.alloc (.cells z 72)) (.cells z 72); rw [show (w.alloc (.cells z 72)).heap.size = w.heap.size + 1 by simp] at hc1
   generalize hwa : (w.alloc (.cells z 72)).alloc (.cells z 72) = wa at *
   have BA := hyd hb1; have GA := hyd hg1; have CA := hyd (show RcAt wa (w.heap.size + 1) idZ (.slice none 0 0) zT zT [] from by unfold RcAt; rw [show arrC idZ (.slice none 0 0) zT zT [] = z from Z0.out.symm]; exact hc1); clear hb1 hg1 hc1 hwa cv; refine (c1 _).mono ?_; rintro e wb ⟨rfl, hbb⟩; have BB := hyd (BA.out.trans (hbb.mono BA.out.size)); have GB := hyd (heap_keep GA.out hbb); have CB := hyd (heap_keep CA.out hbb); clear hbb
   go_wp2_with fail
   refine (C2.out _).mono ?_; rintro e wc ⟨rfl, hbc⟩; have BC := hyd (BB.out.trans (hbc.mono BB.out.size)); have GC := hyd (heap_keep GB.out hbc); have CC := hyd (heap_keep CB.out hbc); clear hbc; have LT8 := hyd (show w.heap.size + 1 < wc.heap.size from lt_of_heap CC.out)
   go_wp2_with (first
    | (with_reducible refine wpList_store_all rfl 24 (.tmp 8) (.tmp 21) rfl wc.heap.size Y rfl rfl 24 y (heap_alloc_new wc _) IY.out (HYS.out.trans YS.out.symm) HY1.out ?_)
    | fail)
   intro wc2 hn hon hsn; have hbn := ((Below.refl wc.heap.size wc).alloc (Nat.le_refl _) (.cells y 24)).trans (hon.below (Nat.le_refl _) (by simp)); have KD := hyd hn; have BD := hyd (BC.out.trans (hbn.mono BC.out.size)); have GD := hyd (heap_keep GC.out hbn); have CD := hyd (heap_keep CC.out hbn); clear hbn; clear hn hon hsn
   go_wp2_with (first
    | (with_reducible refine wpList_load_all 24 (.tmp 8) rfl (by kernel_rfl) wc.heap.size Y 24 (0, 0) rfl KD.out _ Tryz.underlying24 rfl IY.out ?_)
    | (with_reducible refine wpList_store_any rfl 24 (.tmp 31) (.tmp 30) rfl (w.heap.size + 1) 0 Y rfl rfl 72 (arrC idZ (.slice none 0 0) zT zT []) CD.out IY.out (by rw [HYS.out, arrC_size _ _ _ _ _ rfl]; decide) HY1.out ?_)
    | fail)
   intro we hge hoe hse; have BE := hyd (BD.out.trans (hoe.below (B := w.heap.size) (Nat.le_succ _) BD.out.size)); have GE := hyd (hoe.far (Nat.ne_of_gt (Nat.lt_succ_self _)) GD.out); have KE := hyd (hoe.far (Nat.ne_of_lt LT8.out) KD.out)
   have CE := hyd (show RcAt we (w.heap.size + 1) t (.slice none 0 0) zT zT [] from by
    have e := put_tree idZ t (.slice none 0 0) zT zT [] rfl HT.out; rw [HY.out, List.take_zero, List.nil_append, Nat.zero_add] at e
    unfold RcAt; rw [← e]; exact hge)
   have LTE := hyd (show wc.heap.size < we.heap.size from lt_of_heap KE.out); clear hge hoe hse C2
   go_wp2_with fail
   go_loopw [6] (fun v6 wr => ∃ (ps : List (List UInt8)) (r : List UInt8) (pv : Value) (Y8 : Array Value), v6 = .string ⟨r.toArray⟩ ∧ RcAt wr (w.heap.size + 1) t pv zT zT [] ∧ OwnD we.heap.size pv ps wr ∧ ps.length ≤ 16 ∧ (∀ p ∈ ps, p.length = 20) ∧ r.length ≤ bs.length ∧ parsK unD ps (16 - ps.length) r = PL ∧ wr.heap[wc.heap.size]? = some (.cells Y8 24 (0, 0)) ∧ Y8.size = 20 ∧ wr.heap[w.heap.size]? = some (.cells z 72 (0, 0)) ∧ Below w.heap.size w wr ∧ we.heap.size ≤ wr.heap.size) (fun v6 _ => strLen9 v6)
   case atStart => exact ⟨[], r1, _, Y, rfl, CE.out, ownD_nil _ _, by decide, (fun p hp => by cases hp), HR1.out, HP0.out, KE.out, HYS.out, GE.out, BE.out, Nat.le_refl _⟩
   case round =>
    obtain ⟨ps, r, pv, Y8, rfl, hc, hown, h16, hpi, hrl, hpk, hk8, hy8, hg, hbr, hse⟩ := hrel; have CR := hyd hc; have OWR := hyd hown; have H16 := hyd h16; have HPI := hyd hpi; have HRL := hyd hrl; have HPK := hyd hpk; have KR := hyd hk8; have HY8 := hyd hy8; have GR := hyd hg; have BR := hyd hbr; have SR := hyd hse; clear hc hown h16 hpi hrl hpk hk8 hy8 hg hbr hse; have MS := hyd (show strLen9 (.string ⟨r.toArray⟩) = r.length by rw [strLen9_string, size_toArray])
    have hr6 : r.length ≤ 1000000 := by have := HRL.out; have := HS.out; omega
    have c3 := rline_is r parentW hr6 (by decide) wr
    cases hl : lineL r parentW with
    | some y3 =>
     obtain ⟨x3, r3⟩ := y3; have hll := line_len hl; rw [lineR_some hl, show parentW = [112, 97, 114, 101, 110, 116, 32] from rfl] at c3; simp only at c3
     have hx3 : x3.length ≤ 1000000 := by omega
     have MS3 := hyd (show r3.length < r.length by omega); have HR3 := hyd (show r3.length ≤ bs.length by have := HRL.out; omega); obtain ⟨pa, pcap, hpv, hcap, hcm, hids, hnil⟩ := ownD_ids OWR.out HPI.out; have HPV := hyd hpv; clear hcap hcm hids hnil; obtain ⟨pn, hpn⟩ : ∃ pn, ps.length = pn := ⟨_, rfl⟩; have HPN := hyd hpn; rw [hpn] at hpv
     have H16n : pn ≤ 16 := by rw [← hpn]; exact H16.out
     subst hpv; clear hpn
     cases hu3 : unD x3 with
     | none =>
      have NONE := hyd (show PR = (rcdZ, 4) by rw [HQ2.out, ← HPK.out, parsK_bad hl hu3]); have C2 := hyd (fun u => (show Calls Tryz.prog 89 #[.string ⟨(x3 : List UInt8).toArray⟩] u fun e u' => e = .returned (.tuple #[.agg (arrD idZ), .int .i64 4]) ∧ Below u.heap.size u u' from (rId_all x3 (hx3) u).mono (fun e u' h => ⟨h.1.trans (by rw [idR_none hu3]; rfl), h.2⟩))); obtain ⟨Y, hY⟩ : ∃ Y, arrD idZ = Y := ⟨_, rfl⟩; have HYS := hyd (show Y.size = 20 by rw [← hY]; exact arrD_size _ rfl); have HY1 := hyd (show Y.all (·.oneCell') = true by rw [← hY]; exact arrD_one _); have IY := hyd (show (Tryz.prog.info? 24).map (·.size) = some Y.size by rw [HYS.out]; exact infoD_n); have HY := hyd hY; rw [hY] at C2; clear hY; clear hu3 hx3 hll; clear hl hr6
      generalize (⟨x3.toArray⟩ : ByteArray) = sx3 at *
      generalize (⟨r.toArray⟩ : ByteArray) = sr at *
      go_wp2_with fail
      refine c3.mono ?_; rintro e wg ⟨rfl, hbg⟩; have BG := hyd (BR.out.trans (hbg.mono BR.out.size)); have GG := hyd (heap_keep GR.out hbg); have CG := hyd (heap_keep CR.out hbg); have KG := hyd (heap_keep KR.out hbg); have OWG := hyd (ownD_below OWR.out hbg); have SG := hyd (Nat.le_trans SR.out hbg.size); clear hbg
      go_wp2_with fail
      refine (C2.out _).mono ?_; rintro e wh ⟨rfl, hbh⟩; have BH := hyd (BG.out.trans (hbh.mono BG.out.size)); have GH := hyd (heap_keep GG.out hbh); have CH := hyd (heap_keep CG.out hbh); have KH := hyd (heap_keep KG.out hbh); have OWH := hyd (ownD_below OWG.out hbh); have SH := hyd (Nat.le_trans SG.out hbh.size); clear hbh
      go_wp2_with (first
       | (with_reducible refine wpList_store_all rfl 24 (.tmp 8) (.tmp 43) rfl wc.heap.size Y rfl rfl 24 Y8 KH.out IY.out (HYS.out.trans HY8.out.symm) HY1.out ?_)
       | fail)
      intro wi hgi hoi hsi; have BI := hyd (BH.out.trans (hoi.below (B := w.heap.size) (Nat.le_of_lt (Nat.lt_trans (Nat.lt_succ_self _) LT8.out)) BH.out.size)); have GI := hyd (hoi.far (Nat.ne_of_gt (Nat.lt_trans (Nat.lt_succ_self _) LT8.out)) GH.out); have CI := hyd (hoi.far (Nat.ne_of_gt LT8.out) CH.out); have OWI := hyd (ownD_off OWH.out hoi LTE.out); have SI := hyd (Nat.le_trans SH.out hoi.size); have KI := hyd hgi; clear hgi hoi hsi C2; have p20 : wi.cell? ⟨w.heap.size + 1, 20, none⟩ = some (.slice pa pn pcap) := (recAt_of HT.out (show RcAt wi (w.heap.size + 1) t (.slice pa pn pcap) zT zT [] from CI.out)).parents
      go_wp2_with (first
       | (refine wpList_build_none rfl 72 rfl _ ZB.out ?_)
       | (with_reducible refine wpList_store_all rfl 72 (.tmp 2) (.tmp 53) rfl w.heap.size z rfl rfl 72 z GI.out IZ.out rfl Z1.out ?_)
       | fail)
      intro wz hgz hoz hsz; have BZ := hyd (BI.out.trans (hoz.below (B := w.heap.size) (Nat.le_refl _) BI.out.size)); have GZ := hyd hgz; clear hgz hoz hsz; obtain rfl := NONE.out; go_wp2; exact bodyPost_ret (results_rec Tryz.results63 _ _ w.heap.size z (0, 0) _ rfl rfl GZ.out ZS.out) rfl ⟨_, rfl, by rw [Z0.out]; exact recRed_zero _, BZ.out⟩
     | some p =>
      have HP20 := hyd (un_len hu3); have C2 := hyd (fun u => (show Calls Tryz.prog 89 #[.string ⟨(x3 : List UInt8).toArray⟩] u fun e u' => e = .returned (.tuple #[.agg (arrD p), .int .i64 0]) ∧ Below u.heap.size u u' from (rId_all x3 (hx3) u).mono (fun e u' h => ⟨h.1.trans (by rw [idR_some hu3]; rfl), h.2⟩))); obtain ⟨Y, hY⟩ : ∃ Y, arrD p = Y := ⟨_, rfl⟩; have HYS := hyd (show Y.size = 20 by rw [← hY]; exact arrD_size _ HP20.out); have HY1 := hyd (show Y.all (·.oneCell') = true by rw [← hY]; exact arrD_one _); have IY := hyd (show (Tryz.prog.info? 24).map (·.size) = some Y.size by rw [HYS.out]; exact infoD_n); have HY := hyd hY; rw [hY] at C2; clear hY
      by_cases hfull : pn = 16
      ·have NONE := hyd (show PR = (rcdZ, 4) by rw [HQ2.out, ← HPK.out, HPN.out, hfull, parsK_full hl])
       have g16 : decide ((pn : Int) ≥ 16) = true := decide_eq_true (by omega)
       have g16b : (16 : Int) ≤ (pn : Int) := by omega
       clear hu3 hx3 hll hfull H16n; clear hl hr6
       generalize (⟨x3.toArray⟩ : ByteArray) = sx3 at *
       generalize (⟨r.toArray⟩ : ByteArray) = sr at *
       go_wp2_with fail
       refine c3.mono ?_; rintro e wg ⟨rfl, hbg⟩; have BG := hyd (BR.out.trans (hbg.mono BR.out.size)); have GG := hyd (heap_keep GR.out hbg); have CG := hyd (heap_keep CR.out hbg); have KG := hyd (heap_keep KR.out hbg); have OWG := hyd (ownD_below OWR.out hbg); have SG := hyd (Nat.le_trans SR.out hbg.size); clear hbg
       go_wp2_with fail
       refine (C2.out _).mono ?_; rintro e wh ⟨rfl, hbh⟩; have BH := hyd (BG.out.trans (hbh.mono BG.out.size)); have GH := hyd (heap_keep GG.out hbh); have CH := hyd (heap_keep CG.out hbh); have KH := hyd (heap_keep KG.out hbh); have OWH := hyd (ownD_below OWG.out hbh); have SH := hyd (Nat.le_trans SG.out hbh.size); clear hbh
       go_wp2_with (first
        | (with_reducible refine wpList_store_all rfl 24 (.tmp 8) (.tmp 43) rfl wc.heap.size Y rfl rfl 24 Y8 KH.out IY.out (HYS.out.trans HY8.out.symm) HY1.out ?_)
        | fail)
       intro wi hgi hoi hsi; have BI := hyd (BH.out.trans (hoi.below (B := w.heap.size) (Nat.le_of_lt (Nat.lt_trans (Nat.lt_succ_self _) LT8.out)) BH.out.size)); have GI := hyd (hoi.far (Nat.ne_of_gt (Nat.lt_trans (Nat.lt_succ_self _) LT8.out)) GH.out); have CI := hyd (hoi.far (Nat.ne_of_gt LT8.out) CH.out); have OWI := hyd (ownD_off OWH.out hoi LTE.out); have SI := hyd (Nat.le_trans SH.out hoi.size); have KI := hyd hgi; clear hgi hoi hsi C2; have p20 : wi.cell? ⟨w.heap.size + 1, 20, none⟩ = some (.slice pa pn pcap) := (recAt_of HT.out (show RcAt wi (w.heap.size + 1) t (.slice pa pn pcap) zT zT [] from CI.out)).parents
       go_wp2_with (first
        | (refine wpList_build_none rfl 72 rfl _ ZB.out ?_)
        | (with_reducible refine wpList_store_all rfl 72 (.tmp 2) (.tmp 53) rfl w.heap.size z rfl rfl 72 z GI.out IZ.out rfl Z1.out ?_)
        | fail)
       intro wz hgz hoz hsz; have BZ := hyd (BI.out.trans (hoz.below (B := w.heap.size) (Nat.le_refl _) BI.out.size)); have GZ := hyd hgz; clear hgz hoz hsz; obtain rfl := NONE.out; go_wp2; exact bodyPost_ret (results_rec Tryz.results63 _ _ w.heap.size z (0, 0) _ rfl rfl GZ.out ZS.out) rfl ⟨_, rfl, by rw [Z0.out]; exact recRed_zero _, BZ.out⟩
      ·have g16 : decide ((pn : Int) ≥ 16) = false := decide_eq_false (by omega)
       have g16b : decide ((16 : Int) ≤ (pn : Int)) = false := decide_eq_false (by omega)
       have g16c : ¬ (pn : Int) ≥ 16 := by omega
       have HNX := hyd (show parsK unD (ps ++ [p]) (16 - (ps ++ [p]).length) r3 = PL by rw [← HPK.out, show 16 - ps.length = (16 - (ps ++ [p]).length) + 1 by (rw [List.length_append, HPN.out]; simp only [List.length_cons, List.length_nil]; omega)]; exact (parsK_next hl hu3 ps _).symm); have HL2 := hyd (show (ps ++ [p]).length ≤ 16 by rw [List.length_append, HPN.out]; simp only [List.length_cons, List.length_nil]; omega)
       have HPI2 := hyd (show ∀ q ∈ ps ++ [p], q.length = 20 from fun q hq => by
        rcases List.mem_append.1 hq with hq | hq
        ·exact HPI.out q hq
        ·rw [List.mem_singleton.1 hq]; exact HP20.out)
       clear hu3 hx3 hll hfull; clear hl hr6
       generalize (⟨x3.toArray⟩ : ByteArray) = sx3 at *
       generalize (⟨r.toArray⟩ : ByteArray) = sr at *
       go_wp2_with fail
       refine c3.mono ?_; rintro e wg ⟨rfl, hbg⟩; have BG := hyd (BR.out.trans (hbg.mono BR.out.size)); have GG := hyd (heap_keep GR.out hbg); have CG := hyd (heap_keep CR.out hbg); have KG := hyd (heap_keep KR.out hbg); have OWG := hyd (ownD_below OWR.out hbg); have SG := hyd (Nat.le_trans SR.out hbg.size); clear hbg
       go_wp2_with fail
       refine (C2.out _).mono ?_; rintro e wh ⟨rfl, hbh⟩; have BH := hyd (BG.out.trans (hbh.mono BG.out.size)); have GH := hyd (heap_keep GG.out hbh); have CH := hyd (heap_keep CG.out hbh); have KH := hyd (heap_keep KG.out hbh); have OWH := hyd (ownD_below OWG.out hbh); have SH := hyd (Nat.le_trans SG.out hbh.size); clear hbh
       go_wp2_with (first
        | (with_reducible refine wpList_store_all rfl 24 (.tmp 8) (.tmp 43) rfl wc.heap.size Y rfl rfl 24 Y8 KH.out IY.out (HYS.out.trans HY8.out.symm) HY1.out ?_)
        | fail)
       intro wi hgi hoi hsi; have BI := hyd (BH.out.trans (hoi.below (B := w.heap.size) (Nat.le_of_lt (Nat.lt_trans (Nat.lt_succ_self _) LT8.out)) BH.out.size)); have GI := hyd (hoi.far (Nat.ne_of_gt (Nat.lt_trans (Nat.lt_succ_self _) LT8.out)) GH.out); have CI := hyd (hoi.far (Nat.ne_of_gt LT8.out) CH.out); have OWI := hyd (ownD_off OWH.out hoi LTE.out); have SI := hyd (Nat.le_trans SH.out hoi.size); have KI := hyd hgi; clear hgi hoi hsi C2; have p20 : wi.cell? ⟨w.heap.size + 1, 20, none⟩ = some (.slice pa pn pcap) := (recAt_of HT.out (show RcAt wi (w.heap.size + 1) t (.slice pa pn pcap) zT zT [] from CI.out)).parents; have hb5 := (Below.refl wi.heap.size wi).alloc (Nat.le_refl _) (.cells Y 24); have BJ := hyd (BI.out.trans (hb5.mono BI.out.size)); have GJ := hyd (heap_keep GI.out hb5); have CJ := hyd (heap_keep CI.out hb5); have KJ := hyd (heap_keep KI.out hb5); have OWJ := hyd (ownD_below OWI.out hb5); have SJ := hyd (Nat.le_trans SI.out hb5.size); clear hb5
       go_wp2_with (first
        | (with_reducible refine wpList_load_all 24 (.tmp 8) rfl (by kernel_rfl) wc.heap.size Y 24 (0, 0) rfl KI.out _ Tryz.underlying24 rfl IY.out ?_)
        | (with_reducible refine wpList_build_idD rfl (.tmp 56) rfl Y HYS.out rfl ?_)
        | (at_builtin; refine wpList_append_idD rfl _ _ rfl we.heap.size _ ps p wi.heap.size Y HY.out.symm rfl rfl (heap_alloc_new wi _) HP20.out OWJ.out (by rw [HPN.out]; omega) SJ.out ?_)
        | fail)
       intro v6 w6 o6 g6; obtain ⟨pa6, pcap6, hv6, _, _, _, _⟩ := ownD_ids o6 HPI2.out; obtain ⟨pn6, hpn6⟩ : ∃ pn6, (ps ++ [p]).length = pn6 := ⟨_, rfl⟩; rw [hpn6] at hv6; subst hv6; clear hpn6; have hb6 := (Below.refl we.heap.size (wi.alloc (.cells Y 24))).grown g6 SJ.out (fun j hj => (OWJ.out.lt j hj).1); have G6 := hyd ((hb6.block w.heap.size (by have := LT8.out; have := LTE.out; omega)).trans GJ.out); have C6 := hyd ((hb6.block (w.heap.size + 1) (by have := LT8.out; have := LTE.out; omega)).trans CJ.out); have K6 := hyd ((hb6.block wc.heap.size LTE.out).trans KJ.out); have B6 := hyd (BJ.out.trans (hb6.mono (by have := LT8.out; have := LTE.out; omega))); have S6 := hyd (Nat.le_trans SJ.out hb6.size); have O6 := hyd o6; have q20 : w6.cell? ⟨w.heap.size + 1, 20, none⟩ = some (.slice pa pn pcap) := (recAt_of HT.out (show RcAt w6 (w.heap.size + 1) t (.slice pa pn pcap) zT zT [] from C6.out)).parents; have z20 := not_frozen (show w6.heap[w.heap.size + 1]? = _ from C6.out) 20; clear hb6 o6 g6 p20; have F6 := hyd (off_set w6 (w.heap.size + 1) 20 (.slice pa6 pn6 pcap6)); have C7 := hyd (rc_parents (v' := .slice pa6 pn6 pcap6) (show RcAt w6 (w.heap.size + 1) t (.slice pa pn pcap) zT zT [] from C6.out) HT.out); have G7 := hyd (F6.out.far (Nat.ne_of_gt (Nat.lt_succ_self _)) G6.out); have K7 := hyd (F6.out.far (Nat.ne_of_lt LT8.out) K6.out); have B7 := hyd (B6.out.trans (F6.out.below (B := w.heap.size) (Nat.le_succ _) B6.out.size)); have O7 := hyd (ownD_off O6.out F6.out (by have := LT8.out; have := LTE.out; omega))
       have S7 := hyd (Nat.le_trans S6.out F6.out.size); go_wp2
       go_roundw
       case rel => exact ⟨ps ++ [p], r3, .slice pa6 pn6 pcap6, Y, rfl, C7.out, O7.out, HL2.out, HPI2.out, HR3.out, HNX.out, K7.out, HYS.out, G7.out, B7.out, S7.out⟩
       case measure => rw [MS.out, strLen9_string, size_toArray]; exact MS3.out
    | none =>
     rw [lineR_none hl, show parentW = [112, 97, 114, 101, 110, 116, 32] from rfl] at c3; simp only at c3; clear MS; have HQ3 := hyd (show PR = match (match whoL (parseR Lib.itoa takeN) r with | none => none | some (a, c, tx) => if rightR ⟨t, ps, a, c, tx⟩ = true then some ⟨t, ps, a, c, tx⟩ else none : Option Rcd) with | none => (rcdZ, 4) | some c => (c, 0) by rw [HQ2.out, ← HPK.out, parsK_stop hl]); clear HQ2; unfold whoL at HQ3; clear hl HPK HP0
     have c4 := fun u => rline_is r authorW hr6 (by decide) u
     cases hl4 : lineL r authorW with
     | none =>
      rw [lineR_none hl4, show authorW = [97, 117, 116, 104, 111, 114, 32] from rfl] at c4; rw [hl4] at HQ3; simp only at c4; have NONE := hyd (show PR = (rcdZ, 4) from HQ3.out); have C2 := hyd (fun u (hu : Below w.heap.size w u) => (show Calls Tryz.prog 90 #[.string ⟨([] : List UInt8).toArray⟩] u fun e u' => e = .returned (.tuple #[.agg (arrI9 zT), .int .i64 4]) ∧ Below u.heap.size u u' from (rParse_is [] (by decide) u (TB.out u hu)).mono (fun e u' h => ⟨h.1.trans (by rw [parseR_nil]; rfl), h.2⟩))); obtain ⟨Y, hY⟩ : ∃ Y, arrI9 zT = Y := ⟨_, rfl⟩; have HYS := hyd (show Y.size = 4 by rw [← hY]; exact arrI9_size _); have HY1 := hyd (show Y.all (·.oneCell') = true by rw [← hY]; exact arrI9_one _); have IY := hyd (show (Tryz.prog.info? 70).map (·.size) = some Y.size by rw [HYS.out]; exact infoT); have HY := hyd hY; rw [hY] at C2; clear hY; clear hl4 hr6
      generalize (⟨r.toArray⟩ : ByteArray) = sr at *
      go_wp2_with fail
      refine c3.mono ?_; rintro e wg ⟨rfl, hbg⟩; have BG := hyd (BR.out.trans (hbg.mono BR.out.size)); have GG := hyd (heap_keep GR.out hbg); have CG := hyd (heap_keep CR.out hbg); have OWG := hyd (ownD_below OWR.out hbg); clear hbg
      go_wp2_with fail
      refine (c4 _).mono ?_; rintro e wh ⟨rfl, hbh⟩; have BH := hyd (BG.out.trans (hbh.mono BG.out.size)); have GH := hyd (heap_keep GG.out hbh); have CH := hyd (heap_keep CG.out hbh); have OWH := hyd (ownD_below OWG.out hbh); clear hbh
      go_wp2_with fail
      refine (C2.out _ BH.out).mono ?_; rintro e wk ⟨rfl, hbk⟩; have BK := hyd (BH.out.trans (hbk.mono BH.out.size)); have GK := hyd (heap_keep GH.out hbk); have CK := hyd (heap_keep CH.out hbk); have OWK := hyd (ownD_below OWH.out hbk); clear hbk; have LTK := hyd (show w.heap.size + 1 < wk.heap.size from lt_of_heap CK.out); have NOW := hyd (show pv.ownBlock ≠ some wk.heap.size from fun e => absurd (OWK.out.lt _ e).2 (Nat.lt_irrefl _))
      go_wp2_with (first
       | (with_reducible refine wpList_store_all rfl 70 (.tmp 10) (.tmp 69) rfl wk.heap.size Y rfl rfl 70 x4 (heap_alloc_new wk _) IY.out (HYS.out.trans XS.out.symm) HY1.out ?_)
       | fail)
      intro wk2 hn hon hsn; have hbn := ((Below.refl wk.heap.size wk).alloc (Nat.le_refl _) (.cells x4 70)).trans (hon.below (Nat.le_refl _) (by simp)); have WL := hyd hn; have BL := hyd (BK.out.trans (hbn.mono BK.out.size)); have GL := hyd (heap_keep GK.out hbn); have CL := hyd (heap_keep CK.out hbn); have OWL := hyd (ownD_below OWK.out hbn); clear hbn; clear hn hon hsn
      go_wp2_with (first
       | (refine wpList_build_none rfl 72 rfl _ ZB.out ?_)
       | (with_reducible refine wpList_store_all rfl 72 (.tmp 2) (.tmp 77) rfl w.heap.size z rfl rfl 72 z GL.out IZ.out rfl Z1.out ?_)
       | fail)
      intro wz hgz hoz hsz; have BZ := hyd (BL.out.trans (hoz.below (B := w.heap.size) (Nat.le_refl _) BL.out.size)); have GZ := hyd hgz; clear hgz hoz hsz; obtain rfl := NONE.out; go_wp2; exact bodyPost_ret (results_rec Tryz.results63 _ _ w.heap.size z (0, 0) _ rfl rfl GZ.out ZS.out) rfl ⟨_, rfl, by rw [Z0.out]; exact recRed_zero _, BZ.out⟩
     | some y4 =>
      obtain ⟨x5, r4⟩ := y4; have hll := line_len hl4; rw [lineR_some hl4, show authorW = [97, 117, 116, 104, 111, 114, 32] from rfl] at c4; rw [hl4] at HQ3
      dsimp only at HQ3
      simp only at c4
      have hx5 : x5.length ≤ 1000000 := by omega
      have hr4 : r4.length ≤ 1000000 := by omega
      cases hp5 : parseR Lib.itoa takeN x5 with
      | none =>
       rw [hp5] at HQ3; have NONE := hyd (show PR = (rcdZ, 4) from HQ3.out); have C2 := hyd (fun u (hu : Below w.heap.size w u) => (show Calls Tryz.prog 90 #[.string ⟨(x5 : List UInt8).toArray⟩] u fun e u' => e = .returned (.tuple #[.agg (arrI9 zT), .int .i64 4]) ∧ Below u.heap.size u u' from (rParse_is x5 (hx5) u (TB.out u hu)).mono (fun e u' h => ⟨h.1.trans (by rw [hp5]; rfl), h.2⟩))); obtain ⟨Y, hY⟩ : ∃ Y, arrI9 zT = Y := ⟨_, rfl⟩; have HYS := hyd (show Y.size = 4 by rw [← hY]; exact arrI9_size _); have HY1 := hyd (show Y.all (·.oneCell') = true by rw [← hY]; exact arrI9_one _); have IY := hyd (show (Tryz.prog.info? 70).map (·.size) = some Y.size by rw [HYS.out]; exact infoT); have HY := hyd hY; rw [hY] at C2; clear hY; clear hl4 hr6 hll hx5 hp5 hr4
       generalize (⟨r.toArray⟩ : ByteArray) = sr at *
       generalize (⟨x5.toArray⟩ : ByteArray) = sx5 at *
       go_wp2_with fail
       refine c3.mono ?_; rintro e wg ⟨rfl, hbg⟩; have BG := hyd (BR.out.trans (hbg.mono BR.out.size)); have GG := hyd (heap_keep GR.out hbg); have CG := hyd (heap_keep CR.out hbg); have OWG := hyd (ownD_below OWR.out hbg); clear hbg
       go_wp2_with fail
       refine (c4 _).mono ?_; rintro e wh ⟨rfl, hbh⟩; have BH := hyd (BG.out.trans (hbh.mono BG.out.size)); have GH := hyd (heap_keep GG.out hbh); have CH := hyd (heap_keep CG.out hbh); have OWH := hyd (ownD_below OWG.out hbh); clear hbh
       go_wp2_with fail
       refine (C2.out _ BH.out).mono ?_; rintro e wk ⟨rfl, hbk⟩; have BK := hyd (BH.out.trans (hbk.mono BH.out.size)); have GK := hyd (heap_keep GH.out hbk); have CK := hyd (heap_keep CH.out hbk); have OWK := hyd (ownD_below OWH.out hbk); clear hbk; have LTK := hyd (show w.heap.size + 1 < wk.heap.size from lt_of_heap CK.out); have NOW := hyd (show pv.ownBlock ≠ some wk.heap.size from fun e => absurd (OWK.out.lt _ e).2 (Nat.lt_irrefl _))
       go_wp2_with (first
        | (with_reducible refine wpList_store_all rfl 70 (.tmp 10) (.tmp 69) rfl wk.heap.size Y rfl rfl 70 x4 (heap_alloc_new wk _) IY.out (HYS.out.trans XS.out.symm) HY1.out ?_)
        | fail)
       intro wk2 hn hon hsn; have hbn := ((Below.refl wk.heap.size wk).alloc (Nat.le_refl _) (.cells x4 70)).trans (hon.below (Nat.le_refl _) (by simp)); have WL := hyd hn; have BL := hyd (BK.out.trans (hbn.mono BK.out.size)); have GL := hyd (heap_keep GK.out hbn); have CL := hyd (heap_keep CK.out hbn); have OWL := hyd (ownD_below OWK.out hbn); clear hbn; clear hn hon hsn
       go_wp2_with (first
        | (refine wpList_build_none rfl 72 rfl _ ZB.out ?_)
        | (with_reducible refine wpList_store_all rfl 72 (.tmp 2) (.tmp 77) rfl w.heap.size z rfl rfl 72 z GL.out IZ.out rfl Z1.out ?_)
        | fail)
       intro wz hgz hoz hsz; have BZ := hyd (BL.out.trans (hoz.below (B := w.heap.size) (Nat.le_refl _) BL.out.size)); have GZ := hyd hgz; clear hgz hoz hsz; obtain rfl := NONE.out; go_wp2; exact bodyPost_ret (results_rec Tryz.results63 _ _ w.heap.size z (0, 0) _ rfl rfl GZ.out ZS.out) rfl ⟨_, rfl, by rw [Z0.out]; exact recRed_zero _, BZ.out⟩
      | some au =>
       rw [hp5] at HQ3
       dsimp only at HQ3
       have C2 := hyd (fun u (hu : Below w.heap.size w u) => (show Calls Tryz.prog 90 #[.string ⟨(x5 : List UInt8).toArray⟩] u fun e u' => e = .returned (.tuple #[.agg (arrI9 au), .int .i64 0]) ∧ Below u.heap.size u u' from (rParse_is x5 (hx5) u (TB.out u hu)).mono (fun e u' h => ⟨h.1.trans (by rw [hp5]; rfl), h.2⟩))); obtain ⟨Y, hY⟩ : ∃ Y, arrI9 au = Y := ⟨_, rfl⟩; have HYS := hyd (show Y.size = 4 by rw [← hY]; exact arrI9_size _); have HY1 := hyd (show Y.all (·.oneCell') = true by rw [← hY]; exact arrI9_one _); have IY := hyd (show (Tryz.prog.info? 70).map (·.size) = some Y.size by rw [HYS.out]; exact infoT); have HY := hyd hY; rw [hY] at C2; clear hY; have HAU := hyd (right_len au (parse_only hp5).1)
       have c6 := fun u => rline_is r4 committerW hr4 (by decide) u
       clear hl4 hr6 hll hx5 hp5
       generalize (⟨r.toArray⟩ : ByteArray) = sr at *
       generalize (⟨x5.toArray⟩ : ByteArray) = sx5 at *
       go_wp2_with fail
       refine c3.mono ?_; rintro e wg ⟨rfl, hbg⟩; have BG := hyd (BR.out.trans (hbg.mono BR.out.size)); have GG := hyd (heap_keep GR.out hbg); have CG := hyd (heap_keep CR.out hbg); have OWG := hyd (ownD_below OWR.out hbg); clear hbg
       go_wp2_with fail
       refine (c4 _).mono ?_; rintro e wh ⟨rfl, hbh⟩; have BH := hyd (BG.out.trans (hbh.mono BG.out.size)); have GH := hyd (heap_keep GG.out hbh); have CH := hyd (heap_keep CG.out hbh); have OWH := hyd (ownD_below OWG.out hbh); clear hbh
       go_wp2_with fail
       refine (C2.out _ BH.out).mono ?_; rintro e wk ⟨rfl, hbk⟩; have BK := hyd (BH.out.trans (hbk.mono BH.out.size)); have GK := hyd (heap_keep GH.out hbk); have CK := hyd (heap_keep CH.out hbk); have OWK := hyd (ownD_below OWH.out hbk); clear hbk; have LTK := hyd (show w.heap.size + 1 < wk.heap.size from lt_of_heap CK.out); have NOW := hyd (show pv.ownBlock ≠ some wk.heap.size from fun e => absurd (OWK.out.lt _ e).2 (Nat.lt_irrefl _))
       go_wp2_with (first
        | (with_reducible refine wpList_store_all rfl 70 (.tmp 10) (.tmp 69) rfl wk.heap.size Y rfl rfl 70 x4 (heap_alloc_new wk _) IY.out (HYS.out.trans XS.out.symm) HY1.out ?_)
        | fail)
       intro wk2 hn hon hsn; have hbn := ((Below.refl wk.heap.size wk).alloc (Nat.le_refl _) (.cells x4 70)).trans (hon.below (Nat.le_refl _) (by simp)); have WL := hyd hn; have BL := hyd (BK.out.trans (hbn.mono BK.out.size)); have GL := hyd (heap_keep GK.out hbn); have CL := hyd (heap_keep CK.out hbn); have OWL := hyd (ownD_below OWK.out hbn); clear hbn; clear hn hon hsn
       cases hl6 : lineL r4 committerW with
       | none =>
        rw [lineR_none hl6, show committerW = [99, 111, 109, 109, 105, 116, 116, 101, 114, 32] from rfl] at c6; rw [hl6] at HQ3; simp only at c6; have NONE := hyd (show PR = (rcdZ, 4) from HQ3.out); have C3 := hyd (fun u (hu : Below w.heap.size w u) => (show Calls Tryz.prog 90 #[.string ⟨([] : List UInt8).toArray⟩] u fun e u' => e = .returned (.tuple #[.agg (arrI9 zT), .int .i64 4]) ∧ Below u.heap.size u u' from (rParse_is [] (by decide) u (TB.out u hu)).mono (fun e u' h => ⟨h.1.trans (by rw [parseR_nil]; rfl), h.2⟩))); obtain ⟨Y6, hY6⟩ : ∃ Y6, arrI9 zT = Y6 := ⟨_, rfl⟩; have HYS6 := hyd (show Y6.size = 4 by rw [← hY6]; exact arrI9_size _); have HY16 := hyd (show Y6.all (·.oneCell') = true by rw [← hY6]; exact arrI9_one _); have IY6 := hyd (show (Tryz.prog.info? 70).map (·.size) = some Y6.size by rw [HYS6.out]; exact infoT); have HY6 := hyd hY6; rw [hY6] at C3; clear hY6; clear hl6 hr4
        generalize (⟨r4.toArray⟩ : ByteArray) = sr4 at *
        go_wp2_with (first
         | (with_reducible refine wpList_load_all 70 (.tmp 10) rfl (by kernel_rfl) wk.heap.size Y 70 (0, 0) rfl WL.out _ Tryz.underlying70 rfl IY.out ?_)
         | (with_reducible refine wpList_store_any rfl 70 (.tmp 79) (.tmp 78) rfl (w.heap.size + 1) 21 Y rfl rfl 72 (arrC t pv zT zT []) CL.out IY.out (by rw [HYS.out, arrC_size _ _ _ _ _ HT.out]; decide) HY1.out ?_)
         | fail)
        intro wm hgm hom hsm; have BM := hyd (BL.out.trans (hom.below (B := w.heap.size) (Nat.le_succ _) BL.out.size)); have GM := hyd (hom.far (Nat.ne_of_gt (Nat.lt_succ_self _)) GL.out); have WM := hyd (hom.far (Nat.ne_of_lt LTK.out) WL.out); have OWM := hyd (ownD_off OWL.out hom (by have := LT8.out; have := LTE.out; omega))
        have CM := hyd (show RcAt wm (w.heap.size + 1) t pv au zT [] from by
         have e := put_author t pv zT au zT [] HT.out; rw [show (cellsT au).toArray = Y from HY.out, List.append_assoc] at e
         unfold RcAt; rw [← e]; exact hgm)
        clear hgm hom hsm
        go_wp2_with fail
        refine (c6 _).mono ?_; rintro e wn ⟨rfl, hbn⟩; have BN := hyd (BM.out.trans (hbn.mono BM.out.size)); have GN := hyd (heap_keep GM.out hbn); have CN := hyd (heap_keep CM.out hbn); have WN := hyd (heap_keep WM.out hbn); have OWN := hyd (ownD_below OWM.out hbn); clear hbn
        go_wp2_with fail
        refine (C3.out _ BN.out).mono ?_; rintro e wo ⟨rfl, hbo⟩; have BO := hyd (BN.out.trans (hbo.mono BN.out.size)); have GO := hyd (heap_keep GN.out hbo); have CO := hyd (heap_keep CN.out hbo); have WO := hyd (heap_keep WN.out hbo); have OWO := hyd (ownD_below OWN.out hbo); clear hbo
        go_wp2_with (first
         | (with_reducible refine wpList_store_all rfl 70 (.tmp 10) (.tmp 89) rfl wk.heap.size Y6 rfl rfl 70 Y WO.out IY6.out (HYS6.out.trans HYS.out.symm) HY16.out ?_)
         | fail)
        intro wp hgp hop hsp; have BP := hyd (BO.out.trans (hop.below (B := w.heap.size) (Nat.le_of_lt (Nat.lt_trans (Nat.lt_succ_self _) LTK.out)) BO.out.size)); have GP := hyd (hop.far (Nat.ne_of_gt (Nat.lt_trans (Nat.lt_succ_self _) LTK.out)) GO.out); have CP := hyd (hop.far (Nat.ne_of_gt LTK.out) CO.out); have WP := hyd hgp; have OWP := hyd (ownD_mono2 OWO.out hop NOW.out); clear hgp hop hsp
        go_wp2_with (first
         | (refine wpList_build_none rfl 72 rfl _ ZB.out ?_)
         | (with_reducible refine wpList_store_all rfl 72 (.tmp 2) (.tmp 102) rfl w.heap.size z rfl rfl 72 z GP.out IZ.out rfl Z1.out ?_)
         | fail)
        intro wz hgz hoz hsz; have BZ := hyd (BP.out.trans (hoz.below (B := w.heap.size) (Nat.le_refl _) BP.out.size)); have GZ := hyd hgz; clear hgz hoz hsz; obtain rfl := NONE.out; go_wp2; exact bodyPost_ret (results_rec Tryz.results63 _ _ w.heap.size z (0, 0) _ rfl rfl GZ.out ZS.out) rfl ⟨_, rfl, by rw [Z0.out]; exact recRed_zero _, BZ.out⟩
       | some y6 =>
        obtain ⟨x7, r5⟩ := y6; have hll := line_len hl6; rw [lineR_some hl6, show committerW = [99, 111, 109, 109, 105, 116, 116, 101, 114, 32] from rfl] at c6; rw [hl6] at HQ3
        dsimp only at HQ3
        simp only at c6
        have hx7 : x7.length ≤ 1000000 := by omega
        have hr5 : r5.length ≤ 1000000 := by omega
        cases hp7 : parseR Lib.itoa takeN x7 with
        | none =>
         rw [hp7] at HQ3; have NONE := hyd (show PR = (rcdZ, 4) from HQ3.out); have C3 := hyd (fun u (hu : Below w.heap.size w u) => (show Calls Tryz.prog 90 #[.string ⟨(x7 : List UInt8).toArray⟩] u fun e u' => e = .returned (.tuple #[.agg (arrI9 zT), .int .i64 4]) ∧ Below u.heap.size u u' from (rParse_is x7 (hx7) u (TB.out u hu)).mono (fun e u' h => ⟨h.1.trans (by rw [hp7]; rfl), h.2⟩))); obtain ⟨Y6, hY6⟩ : ∃ Y6, arrI9 zT = Y6 := ⟨_, rfl⟩; have HYS6 := hyd (show Y6.size = 4 by rw [← hY6]; exact arrI9_size _); have HY16 := hyd (show Y6.all (·.oneCell') = true by rw [← hY6]; exact arrI9_one _); have IY6 := hyd (show (Tryz.prog.info? 70).map (·.size) = some Y6.size by rw [HYS6.out]; exact infoT); have HY6 := hyd hY6; rw [hY6] at C3; clear hY6; clear hl6 hr4 hll hx7 hp7 hr5
         generalize (⟨r4.toArray⟩ : ByteArray) = sr4 at *
         generalize (⟨x7.toArray⟩ : ByteArray) = sx7 at *
         generalize (⟨r5.toArray⟩ : ByteArray) = sr5 at *
         go_wp2_with (first
          | (with_reducible refine wpList_load_all 70 (.tmp 10) rfl (by kernel_rfl) wk.heap.size Y 70 (0, 0) rfl WL.out _ Tryz.underlying70 rfl IY.out ?_)
          | (with_reducible refine wpList_store_any rfl 70 (.tmp 79) (.tmp 78) rfl (w.heap.size + 1) 21 Y rfl rfl 72 (arrC t pv zT zT []) CL.out IY.out (by rw [HYS.out, arrC_size _ _ _ _ _ HT.out]; decide) HY1.out ?_)
          | fail)
         intro wm hgm hom hsm; have BM := hyd (BL.out.trans (hom.below (B := w.heap.size) (Nat.le_succ _) BL.out.size)); have GM := hyd (hom.far (Nat.ne_of_gt (Nat.lt_succ_self _)) GL.out); have WM := hyd (hom.far (Nat.ne_of_lt LTK.out) WL.out); have OWM := hyd (ownD_off OWL.out hom (by have := LT8.out; have := LTE.out; omega))
         have CM := hyd (show RcAt wm (w.heap.size + 1) t pv au zT [] from by
          have e := put_author t pv zT au zT [] HT.out; rw [show (cellsT au).toArray = Y from HY.out, List.append_assoc] at e
          unfold RcAt; rw [← e]; exact hgm)
         clear hgm hom hsm
         go_wp2_with fail
         refine (c6 _).mono ?_; rintro e wn ⟨rfl, hbn⟩; have BN := hyd (BM.out.trans (hbn.mono BM.out.size)); have GN := hyd (heap_keep GM.out hbn); have CN := hyd (heap_keep CM.out hbn); have WN := hyd (heap_keep WM.out hbn); have OWN := hyd (ownD_below OWM.out hbn); clear hbn
         go_wp2_with fail
         refine (C3.out _ BN.out).mono ?_; rintro e wo ⟨rfl, hbo⟩; have BO := hyd (BN.out.trans (hbo.mono BN.out.size)); have GO := hyd (heap_keep GN.out hbo); have CO := hyd (heap_keep CN.out hbo); have WO := hyd (heap_keep WN.out hbo); have OWO := hyd (ownD_below OWN.out hbo); clear hbo
         go_wp2_with (first
          | (with_reducible refine wpList_store_all rfl 70 (.tmp 10) (.tmp 89) rfl wk.heap.size Y6 rfl rfl 70 Y WO.out IY6.out (HYS6.out.trans HYS.out.symm) HY16.out ?_)
          | fail)
         intro wp hgp hop hsp; have BP := hyd (BO.out.trans (hop.below (B := w.heap.size) (Nat.le_of_lt (Nat.lt_trans (Nat.lt_succ_self _) LTK.out)) BO.out.size)); have GP := hyd (hop.far (Nat.ne_of_gt (Nat.lt_trans (Nat.lt_succ_self _) LTK.out)) GO.out); have CP := hyd (hop.far (Nat.ne_of_gt LTK.out) CO.out); have WP := hyd hgp; have OWP := hyd (ownD_mono2 OWO.out hop NOW.out); clear hgp hop hsp
         go_wp2_with (first
          | (refine wpList_build_none rfl 72 rfl _ ZB.out ?_)
          | (with_reducible refine wpList_store_all rfl 72 (.tmp 2) (.tmp 102) rfl w.heap.size z rfl rfl 72 z GP.out IZ.out rfl Z1.out ?_)
          | fail)
         intro wz hgz hoz hsz; have BZ := hyd (BP.out.trans (hoz.below (B := w.heap.size) (Nat.le_refl _) BP.out.size)); have GZ := hyd hgz; clear hgz hoz hsz; obtain rfl := NONE.out; go_wp2; exact bodyPost_ret (results_rec Tryz.results63 _ _ w.heap.size z (0, 0) _ rfl rfl GZ.out ZS.out) rfl ⟨_, rfl, by rw [Z0.out]; exact recRed_zero _, BZ.out⟩
        | some co =>
         rw [hp7] at HQ3
         dsimp only at HQ3
         have C3 := hyd (fun u (hu : Below w.heap.size w u) => (show Calls Tryz.prog 90 #[.string ⟨(x7 : List UInt8).toArray⟩] u fun e u' => e = .returned (.tuple #[.agg (arrI9 co), .int .i64 0]) ∧ Below u.heap.size u u' from (rParse_is x7 (hx7) u (TB.out u hu)).mono (fun e u' h => ⟨h.1.trans (by rw [hp7]; rfl), h.2⟩))); obtain ⟨Y6, hY6⟩ : ∃ Y6, arrI9 co = Y6 := ⟨_, rfl⟩; have HYS6 := hyd (show Y6.size = 4 by rw [← hY6]; exact arrI9_size _); have HY16 := hyd (show Y6.all (·.oneCell') = true by rw [← hY6]; exact arrI9_one _); have IY6 := hyd (show (Tryz.prog.info? 70).map (·.size) = some Y6.size by rw [HYS6.out]; exact infoT); have HY6 := hyd hY6; rw [hY6] at C3; clear hY6; have HCO := hyd (right_len co (parse_only hp7).1); have HR5 := hyd hr5
         have cb := fun u => Begins_is r5 [10] hr5 (by decide) u
         clear hl6 hr4 hll hx7 hp7 hr5
         generalize (⟨r4.toArray⟩ : ByteArray) = sr4 at *
         generalize (⟨x7.toArray⟩ : ByteArray) = sx7 at *
         rcases (show (∃ tx, r5 = 10 :: tx) ∨ ((r5.take ([10] : List UInt8).length == [10]) = false ∧ PR = (rcdZ, 4)) from by
          rw [HQ3.out]
          cases r5 with
          | nil => exact .inr ⟨rfl, rfl⟩
          | cons d tx =>
           by_cases hd : d = 10
           ·exact .inl ⟨tx, by rw [hd]⟩
           ·refine .inr ⟨by simp [hd], ?_⟩
            simp only [if_neg hd]) with ⟨tx, htx⟩ | ⟨hbeg, hnone⟩
         case inr =>
          have NONE := hyd hnone; rw [hbeg] at cb; clear hbeg hnone
          generalize (⟨r5.toArray⟩ : ByteArray) = sr5 at *
          go_wp2_with (first
           | (with_reducible refine wpList_load_all 70 (.tmp 10) rfl (by kernel_rfl) wk.heap.size Y 70 (0, 0) rfl WL.out _ Tryz.underlying70 rfl IY.out ?_)
           | (with_reducible refine wpList_store_any rfl 70 (.tmp 79) (.tmp 78) rfl (w.heap.size + 1) 21 Y rfl rfl 72 (arrC t pv zT zT []) CL.out IY.out (by rw [HYS.out, arrC_size _ _ _ _ _ HT.out]; decide) HY1.out ?_)
           | fail)
          intro wm hgm hom hsm; have BM := hyd (BL.out.trans (hom.below (B := w.heap.size) (Nat.le_succ _) BL.out.size)); have GM := hyd (hom.far (Nat.ne_of_gt (Nat.lt_succ_self _)) GL.out); have WM := hyd (hom.far (Nat.ne_of_lt LTK.out) WL.out); have OWM := hyd (ownD_off OWL.out hom (by have := LT8.out; have := LTE.out; omega))
          have CM := hyd (show RcAt wm (w.heap.size + 1) t pv au zT [] from by
           have e := put_author t pv zT au zT [] HT.out; rw [show (cellsT au).toArray = Y from HY.out, List.append_assoc] at e
           unfold RcAt; rw [← e]; exact hgm)
          clear hgm hom hsm
          go_wp2_with fail
          refine (c6 _).mono ?_; rintro e wn ⟨rfl, hbn⟩; have BN := hyd (BM.out.trans (hbn.mono BM.out.size)); have GN := hyd (heap_keep GM.out hbn); have CN := hyd (heap_keep CM.out hbn); have WN := hyd (heap_keep WM.out hbn); have OWN := hyd (ownD_below OWM.out hbn); clear hbn
          go_wp2_with fail
          refine (C3.out _ BN.out).mono ?_; rintro e wo ⟨rfl, hbo⟩; have BO := hyd (BN.out.trans (hbo.mono BN.out.size)); have GO := hyd (heap_keep GN.out hbo); have CO := hyd (heap_keep CN.out hbo); have WO := hyd (heap_keep WN.out hbo); have OWO := hyd (ownD_below OWN.out hbo); clear hbo
          go_wp2_with (first
           | (with_reducible refine wpList_store_all rfl 70 (.tmp 10) (.tmp 89) rfl wk.heap.size Y6 rfl rfl 70 Y WO.out IY6.out (HYS6.out.trans HYS.out.symm) HY16.out ?_)
           | fail)
          intro wp hgp hop hsp; have BP := hyd (BO.out.trans (hop.below (B := w.heap.size) (Nat.le_of_lt (Nat.lt_trans (Nat.lt_succ_self _) LTK.out)) BO.out.size)); have GP := hyd (hop.far (Nat.ne_of_gt (Nat.lt_trans (Nat.lt_succ_self _) LTK.out)) GO.out); have CP := hyd (hop.far (Nat.ne_of_gt LTK.out) CO.out); have WP := hyd hgp; have OWP := hyd (ownD_mono2 OWO.out hop NOW.out); clear hgp hop hsp
          go_wp2_with fail
          refine (cb _).mono ?_; rintro e wq ⟨rfl, hE⟩; subst hE
          go_wp2_with (first
           | (refine wpList_build_none rfl 72 rfl _ ZB.out ?_)
           | (with_reducible refine wpList_store_all rfl 72 (.tmp 2) (.tmp 102) rfl w.heap.size z rfl rfl 72 z GP.out IZ.out rfl Z1.out ?_)
           | fail)
          intro wz hgz hoz hsz; have BZ := hyd (BP.out.trans (hoz.below (B := w.heap.size) (Nat.le_refl _) BP.out.size)); have GZ := hyd hgz; clear hgz hoz hsz; obtain rfl := NONE.out; go_wp2; exact bodyPost_ret (results_rec Tryz.results63 _ _ w.heap.size z (0, 0) _ rfl rfl GZ.out ZS.out) rfl ⟨_, rfl, by rw [Z0.out]; exact recRed_zero _, BZ.out⟩
         subst htx; rw [show ((10 :: tx).take ([10] : List UInt8).length == [10]) = true from rfl] at cb
         dsimp only at HQ3
         rw [if_pos rfl] at HQ3
         dsimp only at HQ3
         go_wp2_with (first
          | (with_reducible refine wpList_load_all 70 (.tmp 10) rfl (by kernel_rfl) wk.heap.size Y 70 (0, 0) rfl WL.out _ Tryz.underlying70 rfl IY.out ?_)
          | (with_reducible refine wpList_store_any rfl 70 (.tmp 79) (.tmp 78) rfl (w.heap.size + 1) 21 Y rfl rfl 72 (arrC t pv zT zT []) CL.out IY.out (by rw [HYS.out, arrC_size _ _ _ _ _ HT.out]; decide) HY1.out ?_)
          | fail)
         intro wm hgm hom hsm; have BM := hyd (BL.out.trans (hom.below (B := w.heap.size) (Nat.le_succ _) BL.out.size)); have GM := hyd (hom.far (Nat.ne_of_gt (Nat.lt_succ_self _)) GL.out); have WM := hyd (hom.far (Nat.ne_of_lt LTK.out) WL.out); have OWM := hyd (ownD_off OWL.out hom (by have := LT8.out; have := LTE.out; omega))
         have CM := hyd (show RcAt wm (w.heap.size + 1) t pv au zT [] from by
          have e := put_author t pv zT au zT [] HT.out; rw [show (cellsT au).toArray = Y from HY.out, List.append_assoc] at e
          unfold RcAt; rw [← e]; exact hgm)
         clear hgm hom hsm
         go_wp2_with fail
         refine (c6 _).mono ?_; rintro e wn ⟨rfl, hbn⟩; have BN := hyd (BM.out.trans (hbn.mono BM.out.size)); have GN := hyd (heap_keep GM.out hbn); have CN := hyd (heap_keep CM.out hbn); have WN := hyd (heap_keep WM.out hbn); have OWN := hyd (ownD_below OWM.out hbn); clear hbn
         go_wp2_with fail
         refine (C3.out _ BN.out).mono ?_; rintro e wo ⟨rfl, hbo⟩; have BO := hyd (BN.out.trans (hbo.mono BN.out.size)); have GO := hyd (heap_keep GN.out hbo); have CO := hyd (heap_keep CN.out hbo); have WO := hyd (heap_keep WN.out hbo); have OWO := hyd (ownD_below OWN.out hbo); clear hbo
         go_wp2_with (first
          | (with_reducible refine wpList_store_all rfl 70 (.tmp 10) (.tmp 89) rfl wk.heap.size Y6 rfl rfl 70 Y WO.out IY6.out (HYS6.out.trans HYS.out.symm) HY16.out ?_)
          | fail)
         intro wp hgp hop hsp; have BP := hyd (BO.out.trans (hop.below (B := w.heap.size) (Nat.le_of_lt (Nat.lt_trans (Nat.lt_succ_self _) LTK.out)) BO.out.size)); have GP := hyd (hop.far (Nat.ne_of_gt (Nat.lt_trans (Nat.lt_succ_self _) LTK.out)) GO.out); have CP := hyd (hop.far (Nat.ne_of_gt LTK.out) CO.out); have WP := hyd hgp; have OWP := hyd (ownD_mono2 OWO.out hop NOW.out); clear hgp hop hsp
         go_wp2_with fail
         refine (cb _).mono ?_; rintro e wq ⟨rfl, hE⟩; subst hE; have LY6 := hyd (show (Tryz.prog.info? 70).map (·.size) = some Y6.toList.length by rw [Array.length_toList]; exact IY6.out); have EX := hyd (show (⟨(10 :: tx).toArray⟩ : ByteArray).extract 1 (tx.length + 1) = ⟨tx.toArray⟩ from ext_from (10 :: tx) 1 (tx.length + 1) rfl); have HCP := hyd (show RcAt wp (w.heap.size + 1) t pv au zT [] from CP.out)
         go_wp2_with fail
         refine wp_region_held_drew (S := fun u => u.heap[wk.heap.size]? = some (.cells Y6 70 (0, 0))) (by kernel_rfl) (show wp.drew.heap[wk.heap.size]? = _ from WP.out) (fun hz => ?_); refine tkH 0 rfl (yieldsIf_load_mid (by kernel_rfl) 70 (.tmp 10) (by kernel_rfl) wk.heap.size 0 (by kernel_rfl) Y6.toList _ (fun u hu => row_arrD hu) Tryz.underlying70 rfl LY6.out) hz ?_; refine tkW 1 rfl hz ?_; refine tkV 2 rfl (.string ⟨tx.toArray⟩) ?hy2x hz ?_
         case hy2x => intro u hu; go_simp; rw [if_pos (by omega), EX.out]
         refine tkW 3 rfl hz ?_; refine rdH 4 rfl (fun K hK => ?_)
         go_simp
         rw [if_pos HYS6.out]; have hst := run_storeCells_at Tryz.prog (w.heap.size + 1) 25 72 Y6.toList 0 (arrC t pv au zT []) wp.drew HCP.out (by rw [Array.length_toList, HYS6.out, arrC_size _ _ _ _ _ HT.out]; decide) (fun v hv => (Array.all_eq_true_iff_forall_mem.1 HY16.out) v (by simpa using hv)); have hE := put_committer t pv au zT co [] HT.out; rw [show (cellsT co).toArray = Y6 from HY6.out] at hE; simp only [Nat.add_zero, Array.length_toList] at hst; rw [hE] at hst; rw [hst]; simp only [Result.andThen_ok, Oper.upon]; obtain ⟨wr1, hwr1⟩ : ∃ wr1, wp.drew.setRow (w.heap.size + 1) (arrC t pv au co []) = wr1 := ⟨_, rfl⟩; rw [hwr1]
         have hcr : RcAt wr1 (w.heap.size + 1) t pv au co [] := by rw [← hwr1]; exact setRow_heap wp.drew (w.heap.size + 1) _ _ _ (0, 0) HCP.out
         have hor : Off (w.heap.size + 1) wp wr1 := by rw [← hwr1]; exact (off_of (Below.refl wp.heap.size wp).drew).trans (off_setRow _ _ _)
         have hH : wr1.heap[wk.heap.size]? = some (.cells Y6 70 (0, 0)) := hor.far (Nat.ne_of_lt LTK.out) WP.out; have HCR := hyd hcr; have HOR := hyd hor; have q29 : wr1.cell? ⟨w.heap.size + 1, 29, none⟩ = some (.string ⟨[].toArray⟩) := (recAt_of HT.out hcr).text; have z29 := not_frozen hcr 29; clear hst hE hwr1 hcr hor hz; refine hK.out _ _ hH (fun hz => ?_); clear hK K
         try simp only [Act.put, lsA, lsZ, lsS]
         refine tkW 5 rfl hz ?_; refine rdH 6 rfl (fun K hK => ?_)
         go_simp
         obtain ⟨wr2, hwr2⟩ : ∃ wr2, wr1.setCell ⟨w.heap.size + 1, 29, none⟩ (.string ⟨tx.toArray⟩) = wr2 := ⟨_, rfl⟩; rw [hwr2]
         have hcr2 : RcAt wr2 (w.heap.size + 1) t pv au co tx := by rw [← hwr2]; exact rc_text HCR.out HT.out tx
         have hor2 : Off (w.heap.size + 1) wp wr2 := by rw [← hwr2]; exact HOR.out.trans (off_set _ _ _ _)
         have hH : wr2.heap[wk.heap.size]? = some (.cells Y6 70 (0, 0)) := hor2.far (Nat.ne_of_lt LTK.out) WP.out; have CQ := hyd hcr2; have HOQ := hyd hor2; clear hwr2 hcr2 hor2 hz q29 z29; refine hK.out _ _ hH (fun hz => ?_); clear hK K
         try simp only [Act.put, lgA, lgS, lgZ, lsA, lsZ, lsS]
         refine wpAnyH_done (by kernel_rfl) ?_ _; clear hz; have BQ := hyd (BP.out.trans (HOQ.out.below (B := w.heap.size) (Nat.le_succ _) BP.out.size)); have GQ := hyd (HOQ.out.far (Nat.ne_of_gt (Nat.lt_succ_self _)) GP.out); have OWQ := hyd (ownD_off OWP.out HOQ.out (by have := LT8.out; have := LTE.out; omega)); obtain ⟨pa, pcap, hpv, hcap, hcm, hids, hnil⟩ := ownD_ids OWQ.out HPI.out; subst hpv; have CRR := hyd (rRight9 t pa ps.length pcap ps au co tx wr2 (TB.out _ BQ.out) HT.out hids rfl (by have := H16.out; omega) hcap HPI.out (by have := HAU.out; omega) (by have := HAU.out; omega) (by have := HCO.out; omega) (by have := HCO.out; omega) (by have := HR5.out; simp only [List.length_cons] at this; omega)); have HFIT := hyd (show Rcd.Fit ⟨t, ps, au, co, tx⟩ from ⟨HT.out, HPI.out⟩); have HAS := hyd (arrC_size t (.slice pa ps.length pcap) au co tx HT.out); have HA1 := hyd (arrC_one t pa ps.length pcap au co tx); have HRED := hyd (fun (u : World) (hu : OwnD we.heap.size (.slice pa ps.length pcap) ps u) => (ownD_red (c := ⟨t, ps, au, co, tx⟩) hu HFIT.out)); clear hcap hcm hids hnil; obtain ⟨pn, hpn⟩ : ∃ pn, ps.length = pn := ⟨_, rfl⟩; have HPN := hyd hpn; have HRED2 := hyd (fun (u : World) (hu : OwnD we.heap.size (.slice pa pn pcap) ps u) => (show RecRed u (arrC t (.slice pa pn pcap) au co tx) ⟨t, ps, au, co, tx⟩ from by have h := HRED.out u (by rw [← HPN.out] at hu; exact hu); rw [HPN.out] at h; exact h)); have OWQ := hyd (show OwnD we.heap.size (.slice pa pn pcap) ps wr2 from by rw [← hpn]; exact OWQ.out)
         clear HRED; rw [hpn] at CRR HAS HA1 CQ; clear hpn; obtain ⟨A, hA⟩ : ∃ A, arrC t (.slice pa pn pcap) au co tx = A := ⟨_, rfl⟩; have CQ2 := hyd (show wr2.heap[w.heap.size + 1]? = some (.cells A 72 (0, 0)) from by rw [← hA]; exact CQ.out); rw [hA] at CRR HAS HA1 HRED2; have IAA := hyd (infoC_arr A HAS.out); clear hA CQ
         cases hr : rightR ⟨t, ps, au, co, tx⟩ with
         | false =>
          have NONE := hyd (show PR = (rcdZ, 4) by rw [HQ3.out, hr]; rfl); rw [hr] at CRR; clear hr
          go_wp2_with (first
           | (with_reducible refine wpList_load_all 72 (.tmp 4) rfl (by kernel_rfl) (w.heap.size + 1) A 72 (0, 0) rfl CQ2.out _ Tryz.underlying72 rfl IAA.out ?_)
           | fail)
          refine CRR.out.mono ?_; rintro e ws ⟨rfl, hbs⟩; have BS := hyd (BQ.out.trans (hbs.mono BQ.out.size)); have GS := hyd (heap_keep GQ.out hbs); clear hbs
          go_wp2_with (first
           | (refine wpList_build_none rfl 72 rfl _ ZB.out ?_)
           | (with_reducible refine wpList_store_all rfl 72 (.tmp 2) (.tmp 111) rfl w.heap.size z rfl rfl 72 z GS.out IZ.out rfl Z1.out ?_)
           | fail)
          intro wz hgz hoz hsz; have BZ := hyd (BS.out.trans (hoz.below (B := w.heap.size) (Nat.le_refl _) BS.out.size)); have GZ := hyd hgz; clear hgz hoz hsz; obtain rfl := NONE.out; go_wp2; exact bodyPost_ret (results_rec Tryz.results63 _ _ w.heap.size z (0, 0) _ rfl rfl GZ.out ZS.out) rfl ⟨_, rfl, by rw [Z0.out]; exact recRed_zero _, BZ.out⟩
         | true =>
          have HE := hyd (show PR = (⟨t, ps, au, co, tx⟩, 0) by rw [HQ3.out, hr]; rfl); rw [hr] at CRR; clear hr
          go_wp2_with (first
           | (with_reducible refine wpList_load_all 72 (.tmp 4) rfl (by kernel_rfl) (w.heap.size + 1) A 72 (0, 0) rfl CQ2.out _ Tryz.underlying72 rfl IAA.out ?_)
           | fail)
          refine CRR.out.mono ?_; rintro e ws ⟨rfl, hbs⟩; have CS := hyd (heap_keep CQ2.out hbs); have BS := hyd (BQ.out.trans (hbs.mono BQ.out.size)); have GS := hyd (heap_keep GQ.out hbs); have OWS := hyd (ownD_below OWQ.out hbs); clear hbs
          go_wp2_with (first
           | (with_reducible refine wpList_load_all 72 (.tmp 4) rfl (by kernel_rfl) (w.heap.size + 1) A 72 (0, 0) rfl CS.out _ Tryz.underlying72 rfl IAA.out ?_)
           | (with_reducible refine wpList_store_all rfl 72 (.tmp 2) (.tmp 112) rfl w.heap.size A rfl rfl 72 z GS.out IAA.out (HAS.out.trans ZS.out.symm) HA1.out ?_)
           | fail)
          intro wz hgz hoz hsz; have BZ := hyd (BS.out.trans (hoz.below (B := w.heap.size) (Nat.le_refl _) BS.out.size)); have GZ := hyd hgz; have OWZ := hyd (ownD_off OWS.out hoz (by have := LT8.out; have := LTE.out; omega)); clear hgz hoz hsz; obtain rfl := HE.out; go_wp2; exact bodyPost_ret (results_rec Tryz.results63 _ _ w.heap.size A (0, 0) _ rfl rfl GZ.out HAS.out) rfl ⟨_, rfl, HRED2.out _ OWZ.out, BZ.out⟩
def isU8 : Option Value → Bool
 | some (.int .u8 _) => true
 | _ => false
theorem recZ_odd : ∀ o : Fin 30, o.1 ≠ 0 → ∃ j : Fin 20, isU8 recZ[o.1 + j.1]? = false := by decide +kernel
def isZ : Option Value → Bool
 | some (.int .u8 z) => z == 0
 | _ => false
theorem recZ_zero : ∀ j : Fin 20, isZ recZ[j.1]? = true := by decide +kernel
theorem cellsD_u8 (i : List UInt8) (h : i.length = 20) (j : Nat) (hj : j < 20) : (cellsD i)[j]? = some (.int .u8 (i.getD j 0).toNat) := by
 unfold cellsD Lib.byteCells; rw [List.getElem?_map, List.getElem?_eq_getElem (by omega)]
 simp [List.getD, h, hj]
theorem id_in_recZ {w : World} {g o : Nat} {i : List UInt8} (h : i.length = 20) (hg : w.heap[g]? = some (.cells recZ 72 (0, 0))) (hc : ∀ j v, (cellsD i)[j]? = some v → w.cell? ⟨g, o + j, none⟩ = some v) : i = idZ := by
 have at_ : ∀ j, j < 20 → recZ[o + j]? = some (.int .u8 (i.getD j 0).toNat) := fun j hj => by
  have := hc j _ (cellsD_u8 i h j hj)
  rwa [Lib.cell_of_heap hg] at this
 have ho : o = 0 := by
  by_cases h30 : o < 30
  ·by_cases h0 : o = 0
   ·exact h0
   ·obtain ⟨j, hj⟩ := recZ_odd ⟨o, h30⟩ h0
    have := at_ j.1 j.2; simp only at hj; rw [this] at hj
    cases hj
  ·have := at_ 0 (by omega)
   rw [Array.getElem?_eq_none (by rw [recZ_size]; omega)] at this
   cases this
 subst ho
 apply List.ext_getElem
 ·rw [h]; rfl
 ·intro j h1 h2
  have a1 := at_ j (by omega); have a2 := recZ_zero ⟨j, by omega⟩; simp only [Nat.zero_add] at a1 a2; rw [a1] at a2
  have a3 : (i.getD j 0).toNat = 0 := by simpa [isZ] using a2
  have a4 : i.getD j 0 = i[j] := by rw [List.getD_eq_getElem?_getD, List.getElem?_eq_getElem h1]; rfl
  rw [a4] at a3; have a5 : i[j] = 0 := UInt8.toNat_inj.1 a3; rw [a5]; exact (List.getElem_replicate (a := (0 : UInt8)) (n := 20) (by simpa [idZ] using h2)).symm
theorem parsed_parents (bs : List UInt8) : ∀ i ∈ (parsedR bs).1.parents, i ≠ idZ := by
 unfold parsedR
 cases e : parseK bs with
 | none => intro i hi; cases hi
 | some c =>
  intro i hi; have hr : rightR c = true := (parse_onlyC wr9 e).2.1; obtain ⟨-, -, h3, -⟩ := (rightR_iff c).1 hr; obtain ⟨j, hj, rfl⟩ := List.getElem_of_mem hi; exact ((parentsR_iff _).1 h3 j hj).1
theorem RecRed.off {w u : World} {A : Array Value} {c : Rcd} {g : Nat} (h : RecRed w A c) (hp : ∀ i ∈ c.parents, i ≠ idZ) (hg : w.heap[g]? = some (.cells recZ 72 (0, 0))) (ho : Off g w u) : RecRed u A c := by
 obtain ⟨h1, pa, cap, h2, h3, h4, h5, h6⟩ := h; refine ⟨h1, pa, cap, h2, h3, h4, fun hl => ?_, h6⟩; obtain ⟨b, o, e, hb, hc⟩ := h5 hl
 have hne : b ≠ g := fun e2 => by
  subst e2
  exact hp _ (List.getElem_mem hl) (id_in_recZ (o := o) (h1.parents _ (List.getElem_mem hl)) hg (fun j v hv => by
   have := hc 0 hl j v hv
   rwa [Nat.zero_mul, Nat.add_zero] at this))
 refine ⟨b, o, e, Nat.lt_of_lt_of_le hb ho.size, fun k hk j v hv => ?_⟩; exact ho.cell (hc k hk j v hv) hne
def comS (o : Option Cel) : Rcd × Int := if (ofS o 3).2 = 0 then parsedR (ofS o 3).1 else (rcdZ, (ofS o 3).2)
theorem ofS_len {o : Option Cel} {k : Int} (h : ∀ c, o = some c → c.body.length ≤ 65536) : (ofS o k).1.length ≤ 65536 := by
 unfold ofS
 cases o with
 | none => exact Nat.zero_le _
 | some c =>
  by_cases hk : c.kind = k
  ·simp only [if_pos hk]; exact h c rfl
  ·simp only [if_neg hk]; exact Nat.zero_le _
theorem rCommit_is {S : Nat → Prop} {w : World} {g : Nat} {L : List Cel} (h : StoreAt S w g L) (i : List UInt8) (hi : i.length = 20) (hm : L.length ≤ 1000000) (hb : ∀ c, getS L i = some c → c.body.length ≤ 65536) (tab : T6 w) :
  Calls Tryz.prog 32 #[.pointer (some ⟨g, 0, none⟩), .agg (arrD i)] w fun e w' => ∃ A, e = .returned (.tuple #[.agg A, .int .i64 (comS (getS L i)).2]) ∧ RecRed w' A (comS (getS L i)).1 ∧ Below w.heap.size w w' := by
 obtain ⟨A1, hA1⟩ : ∃ A, arrD i = A := ⟨_, rfl⟩
 have sA : A1.size = 20 := by rw [← hA1]; exact arrD_size i hi
 have b1 : Below w.heap.size w (w.alloc (.cells A1 24)) := (Below.refl w.heap.size w).alloc (Nat.le_refl _) (.cells A1 24); obtain ⟨z, hz0, hzs, hzv, hzb, hz1⟩ := zRec_any; have b2 := b1.alloc b1.size (.cells z 72)
 have hs1 : (w.alloc (.cells A1 24)).heap.size = w.heap.size + 1 := by simp
 have h02 := heap_alloc_new (w.alloc (.cells A1 24)) (.cells z 72); have h01 := (((Below.refl (w.alloc (.cells A1 24)).heap.size (w.alloc (.cells A1 24))).alloc (Nat.le_refl _) (.cells z 72)).block w.heap.size (by simp)).trans (heap_alloc_new w (.cells A1 24)); rw [hs1] at h02; have H1 := hyd h01; have H2 := hyd h02; have B2 := hyd b2; have IA := hyd (show (Tryz.prog.info? 24).map (·.size) = some A1.size from by rw [sA]; exact infoD_n); have IZ := hyd (show (Tryz.prog.info? 72).map (·.size) = some z.size from by rw [hzs]; exact infoC); have ZB := hyd hzb; have Z1 := hyd hz1; have Z0 := hyd hz0; have ZS := hyd hzs; have CO := hyd (fun u (hu : Below w.heap.size w u) => rOf_is (h.below hu) i hi 3 hm); have TB := hyd tab; have OL := hyd (ofS_len (k := 3) hb); unfold comS; rw [hA1] at CO ⊢; obtain ⟨r, hr⟩ : ∃ r, ofS (getS L i) 3 = r := ⟨_, rfl⟩; rw [hr] at CO OL ⊢; obtain ⟨bs, er⟩ := r; simp only at CO OL ⊢; clear h b1 b2 h01 h02 hs1 sA hr tab hzb hz1 hz0 hzs hb
 by_cases he : er = 0
 ·subst he
  go_enter Tryz.func32, Tryz.ntmps32
  go_wp2_with (first
   | (with_reducible refine wpList_load_all 24 (.tmp 3) rfl (by kernel_rfl) w.heap.size A1 24 (0, 0) rfl H1.out _ Tryz.underlying24 rfl IA.out ?_)
   | fail)
  refine (CO.out _ B2.out).mono ?_; rintro e w3 ⟨v, rfl, ⟨va, vc, rfl, hba, -, hvc, -, -⟩, hb3⟩; have HB3 := hyd (B2.out.trans (hb3.mono B2.out.size)); have H3 := hyd ((hb3.block (w.heap.size + 1) (lt_of_heap H2.out)).trans H2.out); have CP := hyd (rParse9_is va bs.length vc bs w3 (TB.out.keep HB3.out) rfl hba (Nat.le_trans OL.out (by omega))); clear hb3 CO hba hvc; obtain ⟨n, hn⟩ : ∃ n, bs.length = n := ⟨_, rfl⟩; rw [hn] at CP; rw [hn]
  go_wp2_with fail
  refine CP.out.mono ?_; rintro e w4 ⟨A, rfl, hp, hb4⟩; have HB4 := hyd (HB3.out.trans (hb4.mono HB3.out.size)); have H4 := hyd ((hb4.block (w.heap.size + 1) (lt_of_heap H3.out)).trans H3.out); have HP := hyd hp; have AS := hyd (show A.size = 30 by obtain ⟨hf, pa, cap, e, -⟩ := hp; rw [e]; exact arrC_size _ _ _ _ _ hf.tree); have AO := hyd (show A.all (·.oneCell') = true by obtain ⟨hf, pa, cap, e, -⟩ := hp; rw [e]; exact arrC_one _ _ _ _ _ _ _); have AI := hyd (show (Tryz.prog.info? 72).map (·.size) = some A.size from by rw [AS.out]; exact infoC); clear hb4 CP hp
  go_wp2_with (first
   | (with_reducible refine wpList_store_all rfl 72 (.tmp 4) (.tmp 20) rfl (w.heap.size + 1) A rfl rfl 72 z H4.out AI.out (AS.out.trans ZS.out.symm) AO.out ?_)
   | fail)
  intro w5 r5 off5 sz5; have HB5 := hyd (HB4.out.trans (off5.below (Nat.le_succ _) HB4.out.size)); have HP5 := hyd (HP.out.off (parsed_parents bs) (by rw [← Z0.out]; exact H4.out) off5); go_wp2; exact bodyPost_ret (results_rec Tryz.results32 _ _ (w.heap.size + 1) A (0, 0) _ rfl rfl r5 AS.out) rfl ⟨A, rfl, HP5.out, HB5.out⟩
 ·go_enter Tryz.func32, Tryz.ntmps32
  go_wp2_with (first
   | (with_reducible refine wpList_load_all 24 (.tmp 3) rfl (by kernel_rfl) w.heap.size A1 24 (0, 0) rfl H1.out _ Tryz.underlying24 rfl IA.out ?_)
   | fail)
  refine (CO.out _ B2.out).mono ?_; rintro e w3 ⟨v, rfl, hr, hb3⟩; have HB3 := hyd (B2.out.trans (hb3.mono B2.out.size)); have H3 := hyd ((hb3.block (w.heap.size + 1) (lt_of_heap H2.out)).trans H2.out); clear hb3 CO hr
  go_wp2_with (first
   | (refine wpList_build_none rfl 72 rfl z ZB.out ?_)
   | (with_reducible refine wpList_store_all rfl 72 (.tmp 4) (.tmp 16) rfl (w.heap.size + 1) z rfl rfl 72 z H3.out IZ.out rfl Z1.out ?_)
   | fail)
  intro w5 r5 off5 sz5; have HB5 := hyd (HB3.out.trans (off5.below (Nat.le_succ _) HB3.out.size)); go_wp2; exact bodyPost_ret (results_rec Tryz.results32 _ _ (w.heap.size + 1) z (0, 0) _ rfl rfl r5 ZS.out) rfl ⟨z, rfl, by rw [Z0.out]; exact recRed_zero _, HB5.out⟩
theorem TreeP_is {S : Nat → Prop} {w : World} {g : Nat} {M : List Cel} (h : StoreP S w g M) (i : List UInt8) (hi : i.length = 20) (tab : QTab w) :
  Calls Tryz.prog 29 #[.pointer (some ⟨g, 0, none⟩), .agg (arrD i)] w fun e w' => ∃ v p err, e = .returned (.tuple #[v, .int .i64 err]) ∧ RedI w' v p ∧ TreeS (getM M i) p err ∧ Below w.heap.size w w' := by
 obtain ⟨A1, hA1⟩ : ∃ A, arrD i = A := ⟨_, rfl⟩
 have sA : A1.size = 20 := by rw [← hA1]; exact arrD_size i hi
 have b1 : Below w.heap.size w (w.alloc (.cells A1 24)) := (Below.refl w.heap.size w).alloc (Nat.le_refl _) (.cells A1 24); have H1 := hyd (heap_alloc_new w (.cells A1 24)); have B1 := hyd b1; have IA := hyd (show (Tryz.prog.info? 24).map (·.size) = some A1.size from by rw [sA]; exact infoD_n); have CO := hyd (fun u (hu : Below w.heap.size w u) => bodyP_is (h.below hu) i hi 2); have TB := hyd tab; unfold TreeS; rw [hA1] at CO ⊢; obtain ⟨r, hr⟩ : ∃ r, ofS (getM M i) 2 = r := ⟨_, rfl⟩; rw [hr] at CO ⊢; obtain ⟨bs, er⟩ := r; simp only at CO ⊢; clear h b1 sA hr tab
 by_cases he : er = 0
 ·subst he
  go_enter Tryz.func29, Tryz.ntmps29
  go_wp2_with (first
   | (with_reducible refine wpList_load_all 24 (.tmp 3) rfl (by kernel_rfl) w.heap.size A1 24 (0, 0) rfl H1.out _ Tryz.underlying24 rfl IA.out ?_)
   | fail)
  refine (CO.out _ B1.out).mono ?_; rintro e w3 ⟨v, rfl, ⟨va, vc, rfl, hba, -, hvc, -, -⟩, hb3⟩; have HB3 := hyd (B1.out.trans (hb3.mono B1.out.size)); have CP := hyd (pParse_is va bs.length vc bs w3 rfl hba (TB.out.below HB3.out)); clear hb3 CO hba hvc; obtain ⟨n, hn⟩ : ∃ n, bs.length = n := ⟨_, rfl⟩; rw [hn] at CP; rw [hn]
  go_wp2_with fail
  refine CP.out.mono ?_; rintro e w4 ⟨v, p, err, rfl, hp, hpt, hb4⟩; have HB4 := hyd (HB3.out.trans (hb4.mono HB3.out.size)); have HP := hyd hp; have HPT := hyd hpt; clear hb4 CP hp hpt; go_wp2
  go_ret2
  exact ⟨_, p, err, rfl, HP.out, HPT.out, HB4.out⟩
 ·go_enter Tryz.func29, Tryz.ntmps29
  go_wp2_with (first
   | (with_reducible refine wpList_load_all 24 (.tmp 3) rfl (by kernel_rfl) w.heap.size A1 24 (0, 0) rfl H1.out _ Tryz.underlying24 rfl IA.out ?_)
   | fail)
  refine (CO.out _ B1.out).mono ?_; rintro e w3 ⟨v, rfl, hr, hb3⟩; have HB3 := hyd (B1.out.trans (hb3.mono B1.out.size)); clear hb3 CO hr; go_wp2
  go_ret2
  exact ⟨_, [], er, rfl, RedI.none _, ⟨rfl, rfl⟩, HB3.out⟩
theorem CommitP_is {S : Nat → Prop} {w : World} {g : Nat} {M : List Cel} (h : StoreP S w g M) (i : List UInt8) (hi : i.length = 20) (hb : ∀ c, getM M i = some c → c.body.length ≤ 65536) (tab : T7 w) :
  Calls Tryz.prog 31 #[.pointer (some ⟨g, 0, none⟩), .agg (arrD i)] w fun e w' => ∃ A, e = .returned (.tuple #[.agg A, .int .i64 (comS (getM M i)).2]) ∧ RecRed w' A (comS (getM M i)).1 ∧ Below w.heap.size w w' := by
 obtain ⟨A1, hA1⟩ : ∃ A, arrD i = A := ⟨_, rfl⟩
 have sA : A1.size = 20 := by rw [← hA1]; exact arrD_size i hi
 have b1 : Below w.heap.size w (w.alloc (.cells A1 24)) := (Below.refl w.heap.size w).alloc (Nat.le_refl _) (.cells A1 24); obtain ⟨z, hz0, hzs, hzv, hzb, hz1⟩ := zRec_any; have b2 := b1.alloc b1.size (.cells z 72)
 have hs1 : (w.alloc (.cells A1 24)).heap.size = w.heap.size + 1 := by simp
 have h02 := heap_alloc_new (w.alloc (.cells A1 24)) (.cells z 72); have h01 := (((Below.refl (w.alloc (.cells A1 24)).heap.size (w.alloc (.cells A1 24))).alloc (Nat.le_refl _) (.cells z 72)).block w.heap.size (by simp)).trans (heap_alloc_new w (.cells A1 24)); rw [hs1] at h02; have H1 := hyd h01; have H2 := hyd h02; have B2 := hyd b2; have IA := hyd (show (Tryz.prog.info? 24).map (·.size) = some A1.size from by rw [sA]; exact infoD_n); have IZ := hyd (show (Tryz.prog.info? 72).map (·.size) = some z.size from by rw [hzs]; exact infoC); have ZB := hyd hzb; have Z1 := hyd hz1; have Z0 := hyd hz0; have ZS := hyd hzs; have CO := hyd (fun u (hu : Below w.heap.size w u) => bodyP_is (h.below hu) i hi 3); have TB := hyd tab; have OL := hyd (ofS_len (k := 3) hb); unfold comS; rw [hA1] at CO ⊢; obtain ⟨r, hr⟩ : ∃ r, ofS (getM M i) 3 = r := ⟨_, rfl⟩; rw [hr] at CO OL ⊢; obtain ⟨bs, er⟩ := r; simp only at CO OL ⊢; clear h b1 b2 h01 h02 hs1 sA hr tab hzb hz1 hz0 hzs hb
 by_cases he : er = 0
 ·subst he
  go_enter Tryz.func31, Tryz.ntmps31
  go_wp2_with (first
   | (with_reducible refine wpList_load_all 24 (.tmp 3) rfl (by kernel_rfl) w.heap.size A1 24 (0, 0) rfl H1.out _ Tryz.underlying24 rfl IA.out ?_)
   | fail)
  refine (CO.out _ B2.out).mono ?_; rintro e w3 ⟨v, rfl, ⟨va, vc, rfl, hba, -, hvc, -, -⟩, hb3⟩; have HB3 := hyd (B2.out.trans (hb3.mono B2.out.size)); have H3 := hyd ((hb3.block (w.heap.size + 1) (lt_of_heap H2.out)).trans H2.out); have CP := hyd (Parse9_is va bs.length vc bs w3 (TB.out.keep HB3.out) rfl hba (Nat.le_trans OL.out (by omega))); clear hb3 CO hba hvc; obtain ⟨n, hn⟩ : ∃ n, bs.length = n := ⟨_, rfl⟩; rw [hn] at CP; rw [hn]
  go_wp2_with fail
  refine CP.out.mono ?_; rintro e w4 ⟨A, rfl, hp, hb4⟩; have HB4 := hyd (HB3.out.trans (hb4.mono HB3.out.size)); have H4 := hyd ((hb4.block (w.heap.size + 1) (lt_of_heap H3.out)).trans H3.out); have HP := hyd hp; have AS := hyd (show A.size = 30 by obtain ⟨hf, pa, cap, e, -⟩ := hp; rw [e]; exact arrC_size _ _ _ _ _ hf.tree); have AO := hyd (show A.all (·.oneCell') = true by obtain ⟨hf, pa, cap, e, -⟩ := hp; rw [e]; exact arrC_one _ _ _ _ _ _ _); have AI := hyd (show (Tryz.prog.info? 72).map (·.size) = some A.size from by rw [AS.out]; exact infoC); clear hb4 CP hp
  go_wp2_with (first
   | (with_reducible refine wpList_store_all rfl 72 (.tmp 4) (.tmp 20) rfl (w.heap.size + 1) A rfl rfl 72 z H4.out AI.out (AS.out.trans ZS.out.symm) AO.out ?_)
   | fail)
  intro w5 r5 off5 sz5; have HB5 := hyd (HB4.out.trans (off5.below (Nat.le_succ _) HB4.out.size)); have HP5 := hyd (HP.out.off (parsed_parents bs) (by rw [← Z0.out]; exact H4.out) off5); go_wp2; exact bodyPost_ret (results_rec Tryz.results31 _ _ (w.heap.size + 1) A (0, 0) _ rfl rfl r5 AS.out) rfl ⟨A, rfl, HP5.out, HB5.out⟩
 ·go_enter Tryz.func31, Tryz.ntmps31
  go_wp2_with (first
   | (with_reducible refine wpList_load_all 24 (.tmp 3) rfl (by kernel_rfl) w.heap.size A1 24 (0, 0) rfl H1.out _ Tryz.underlying24 rfl IA.out ?_)
   | fail)
  refine (CO.out _ B2.out).mono ?_; rintro e w3 ⟨v, rfl, hr, hb3⟩; have HB3 := hyd (B2.out.trans (hb3.mono B2.out.size)); have H3 := hyd ((hb3.block (w.heap.size + 1) (lt_of_heap H2.out)).trans H2.out); clear hb3 CO hr
  go_wp2_with (first
   | (refine wpList_build_none rfl 72 rfl z ZB.out ?_)
   | (with_reducible refine wpList_store_all rfl 72 (.tmp 4) (.tmp 16) rfl (w.heap.size + 1) z rfl rfl 72 z H3.out IZ.out rfl Z1.out ?_)
   | fail)
  intro w5 r5 off5 sz5; have HB5 := hyd (HB3.out.trans (off5.below (Nat.le_succ _) HB3.out.size)); go_wp2; exact bodyPost_ret (results_rec Tryz.results31 _ _ (w.heap.size + 1) z (0, 0) _ rfl rfl r5 ZS.out) rfl ⟨z, rfl, by rw [Z0.out]; exact recRed_zero _, HB5.out⟩
theorem row_turn {w u : World} {v : Value} {l : List UInt8} (h : Row w v l) (hk : ∀ g, foot v = some g → u.heap[g]? = w.heap[g]?) : Row u v l := by
 rcases h with h | ⟨g, cap, cur, e, hg, rest⟩
 ·exact .inl h
 ·exact .inr ⟨g, cap, cur, e, (hk g (by rw [e]; rfl)).trans hg, rest⟩
theorem bodies_le {M : List Cel} {i : List UInt8} {k : Int} (h : ∀ c, getM M i = some c → c.body.length ≤ 65536) : (ofS (getM M i) k).1.length ≤ 65536 := by
 unfold ofS
 cases e : getM M i with
 | none => exact Nat.zero_le _
 | some c =>
  by_cases hk : c.kind = k
  ·simp only [if_pos hk]; exact h c e
  ·simp only [if_neg hk]; exact Nat.zero_le _
theorem BlobP_is {S : Nat → Prop} {w : World} {g : Nat} {M : List Cel} (h : StoreP S w g M) (i : List UInt8) (hi : i.length = 20) (hb : ∀ c, getM M i = some c → c.body.length ≤ 65536) :
  Calls Tryz.prog 16 #[.pointer (some ⟨g, 0, none⟩), .agg (arrD i)] w fun e w' => ∃ v, e = .returned (.tuple #[v, .int .i64 (ofS (getM M i) 1).2]) ∧ Row w' v (ofS (getM M i) 1).1 ∧ (∀ g, foot v = some g → w.heap.size ≤ g) ∧ Below w.heap.size w w' := by
 obtain ⟨A1, hA1⟩ : ∃ A, arrD i = A := ⟨_, rfl⟩
 have sA : A1.size = 20 := by rw [← hA1]; exact arrD_size i hi
 have H1 := hyd (heap_alloc_new w (.cells A1 24)); have B1 := hyd ((Below.refl w.heap.size w).alloc (Nat.le_refl _) (.cells A1 24)); have IA := hyd (show (Tryz.prog.info? 24).map (·.size) = some A1.size from by rw [sA]; exact infoD_n); have CO := hyd (fun u (hu : Below w.heap.size w u) => bodyP_is (h.below hu) i hi 1); have OL := hyd (bodies_le (k := 1) hb); rw [hA1] at CO ⊢; obtain ⟨r, hr⟩ : ∃ r, ofS (getM M i) 1 = r := ⟨_, rfl⟩; rw [hr] at CO OL ⊢; obtain ⟨bs, er⟩ := r; simp only at CO OL ⊢; clear h sA hr hb
 go_enter Tryz.func16, Tryz.ntmps16
 go_wp2_with (first
  | (with_reducible refine wpList_load_all 24 (.tmp 3) rfl (by kernel_rfl) w.heap.size A1 24 (0, 0) rfl H1.out _ Tryz.underlying24 rfl IA.out ?_)
  | fail)
 refine (CO.out _ B1.out).mono ?_; rintro e w3 ⟨v, rfl, ⟨va, vc, rfl, hba, hno, hvc, -, -⟩, hb3⟩; have HB3 := hyd (B1.out.trans (hb3.mono B1.out.size)); have CC := hyd (bClone_any bs w3 va bs.length vc hba rfl hno (Nat.le_trans OL.out (by omega))); clear hb3 CO hba hvc hno; obtain ⟨n, hn⟩ : ∃ n, bs.length = n := ⟨_, rfl⟩; rw [hn] at CC; rw [hn]
 go_wp2_with fail
 refine CC.out.mono ?_; rintro e w4 ⟨v', rfl, hr4, hf4, hb4⟩; have F := hyd (And.intro hr4 (And.intro (fun g hg => Nat.le_trans HB3.out.size (hf4 g hg)) (HB3.out.trans (hb4.mono HB3.out.size)))); clear hr4 hf4 hb4 CC; go_wp2
 go_ret2
 exact ⟨_, rfl, F.out⟩
theorem GetP_is {S : Nat → Prop} {w : World} {g : Nat} {M : List Cel} (h : StoreP S w g M) (i : List UInt8) (hi : i.length = 20) (hb : ∀ c, getM M i = some c → c.body.length ≤ 65536) :
  Calls Tryz.prog 27 #[.pointer (some ⟨g, 0, none⟩), .agg (arrD i)] w fun e w' => ∃ v, e = .returned (.tuple #[.agg #[.int .i64 (gotK (getM M i)), v], .bool (getM M i).isSome]) ∧ Row w' v (gotB (getM M i)) ∧ (∀ g, foot v = some g → w.heap.size ≤ g) ∧ Below w.heap.size w w' := by
 obtain ⟨A1, hA1⟩ : ∃ A, arrD i = A := ⟨_, rfl⟩
 have sA : A1.size = 20 := by rw [← hA1]; exact arrD_size i hi
 have b1 : Below w.heap.size w (w.alloc (.cells A1 24)) := (Below.refl w.heap.size w).alloc (Nat.le_refl _) (.cells A1 24); have b2 := b1.alloc b1.size (.cells #[.int .i64 0, .slice none 0 0] 34); have h0 := heap_alloc_new w (.cells A1 24)
 have hs1 : (w.alloc (.cells A1 24)).heap.size = w.heap.size + 1 := by simp
 have h02 := heap_alloc_new (w.alloc (.cells A1 24)) (.cells #[.int .i64 0, .slice none 0 0] 34); have h01 := (((Below.refl (w.alloc (.cells A1 24)).heap.size (w.alloc (.cells A1 24))).alloc (Nat.le_refl _) (.cells #[.int .i64 0, .slice none 0 0] 34)).block w.heap.size (by simp)).trans h0; rw [hs1] at h02; have H1 := hyd h01; have H2 := hyd h02; have B2 := hyd b2; have IA := hyd (show (Tryz.prog.info? 24).map (·.size) = some A1.size from by rw [sA]; exact infoD_n)
 cases hx : getM M i with
 | none =>
  have CF := hyd (findP_gone h i hi hx); rw [hA1] at CF ⊢; clear sA h b1 b2 h0 h01 h02 hs1 hb
  go_enter Tryz.func27, Tryz.ntmps27
  go_wp2_with (first
   | (with_reducible refine wpList_load_all 24 (.tmp 3) rfl (by kernel_rfl) w.heap.size A1 24 (0, 0) rfl H1.out _ Tryz.underlying24 rfl IA.out ?_)
   | fail)
  refine (CF.out _ B2.out).mono ?_; rintro e w3 ⟨rfl, hb3⟩; have H3 := hyd ((hb3.block (w.heap.size + 1) (lt_of_heap H2.out)).trans H2.out); have HB3 := hyd (B2.out.trans (hb3.mono B2.out.size)); clear hb3
  go_wp2_with (first
   | (refine wpList_build_none rfl 34 rfl _ built_ob0 ?_)
   | (with_reducible refine wpList_store_obj rfl (.tmp 4) (.tmp 16) rfl (w.heap.size + 1) (.int .i64 0) (.slice none 0 0) (.int .i64 0) (.slice none 0 0) rfl rfl H3.out (one_obj 0 none 0 0) ?_)
   | fail)
  intro w4 r4 bl4 off4 sz4; have HB4 := hyd (bl4 _ _ (Nat.le_succ _) HB3.out); go_wp2; exact bodyPost_ret (results_ob10 Tryz.results27 _ _ (w.heap.size + 1) _ (0, 0) _ rfl rfl r4 rfl) rfl ⟨_, rfl, Row.nil _ _, fun g hg => by simp [foot] at hg, HB4.out⟩
 | some x =>
  obtain ⟨T, v, hT, ⟨a, n, c, rfl⟩, hth, hk, hr, hf⟩ := findP_some h i hi hx; have CF := hyd hf; have CK := hyd (fun u => hth ▸ kind_is x.kind hk a n c u); have HR := hyd hr; have OL := hyd (hb x hx); have m := m_bytes T hT (.slice a n c)
  have cb := fun w => obytes_is a n c w
  obtain ⟨kd, hkd⟩ : ∃ kd, x.kind = kd := ⟨_, rfl⟩; have GK := hyd (show gotK (some x) = kd from hkd); rw [hA1] at CF ⊢; rw [hkd] at CK; clear sA h b1 b2 h0 h01 h02 hs1 hb hT hf hr hk hth hkd
  go_enter Tryz.func27, Tryz.ntmps27
  go_wp2_with (first
   | (with_reducible refine wpList_load_all 24 (.tmp 3) rfl (by kernel_rfl) w.heap.size A1 24 (0, 0) rfl H1.out _ Tryz.underlying24 rfl IA.out ?_)
   | fail)
  refine (CF.out _ B2.out).mono ?_; rintro e w3 ⟨rfl, hb3⟩; have H3 := hyd ((hb3.block (w.heap.size + 1) (lt_of_heap H2.out)).trans H2.out); have HB3 := hyd (B2.out.trans (hb3.mono B2.out.size)); have S3 := hyd (show w.heap.size + 2 ≤ w3.heap.size by have h9 := hb3.size; simp at h9; omega); clear hb3
  go_wp2_with fail
  refine (CK.out _).mono ?_; rintro e w4 ⟨rfl, hb4⟩; have H4 := hyd ((hb4.block (w.heap.size + 1) (lt_of_heap H3.out)).trans H3.out); have HB4 := hyd (HB3.out.trans (hb4.mono HB3.out.size)); have S4 := hyd (Nat.le_trans S3.out hb4.size); clear hb4
  go_wp2_with fail
  refine (cb _).mono ?_; rintro e w5 ⟨rfl, rfl⟩
  have CC := hyd (by
   obtain ⟨va, vc, e, hba, hno, hvc, -, -⟩ := HR.out.keep (Stays.of HB4.out); obtain ⟨rfl, rfl, rfl⟩ := Value.slice.inj e
   exact bClone_any x.body w4 a x.body.length c hba rfl hno (Nat.le_trans OL.out (by omega)) : Calls Tryz.prog 44 #[.slice a n c] w4 _)
  go_wp2_with fail
  refine CC.out.mono ?_; rintro e w6 ⟨v', rfl, hr6, hf6, hb6⟩; obtain ⟨a6, n6, c6, rfl⟩ := row_shape hr6; have H6 := hyd ((hb6.block (w.heap.size + 1) (lt_of_heap H4.out)).trans H4.out); have HB6 := hyd (HB4.out.trans (hb6.mono HB4.out.size)); have F6 := hyd (fun g hg => Nat.le_trans S4.out (hf6 g hg)); have R6 := hyd hr6; clear hr6 hf6 hb6 CC
  go_wp2_with (first
   | (with_reducible refine wpList_store_obj rfl (.tmp 4) (.tmp 22) rfl (w.heap.size + 1) (.int .i64 kd) (.slice a6 n6 c6) (.int .i64 0) (.slice none 0 0) rfl rfl H6.out (one_obj kd a6 n6 c6) ?_)
   | fail)
  intro w7 r7 bl7 off7 sz7; have HB7 := hyd (bl7 _ _ (Nat.le_succ _) HB6.out); go_wp2; exact bodyPost_ret (results_ob10 Tryz.results27 _ _ (w.heap.size + 1) _ (0, 0) _ rfl rfl r7 rfl) rfl ⟨_, by rw [GK.out]; rfl, row_turn R6.out (fun g hg => off7 g (by have := F6.out g hg; omega)), fun g hg => by have := F6.out g hg; omega, HB7.out⟩
end Go.Proofs.YtnbcbiglkmdepaaGreatDoor
namespace Go.Proofs.YtnbcbiglkmdepaaGreatDoor
open Go.ChangeShapes Go.WideShapes Go.ChangeAt Go.RowKit
theorem laidOut : laidOutB Tryz.prog = true := by kernel_rfl
theorem lt_of_cell {w : World} {a : Addr} {v : Value} (h : w.cell? a = some v) : a.block < w.heap.size := by
 rcases Nat.lt_or_ge a.block w.heap.size with h' | h'
 ·exact h'
 ·simp [World.cell?, Array.getElem?_eq_none h'] at h
theorem bounds_byte {n : Int} (h : (Lit.int .u8 n).wf = true) : 0 ≤ n ∧ n ≤ 255 := by
 have e1 : IntKind.u8.min = 0 := rfl; have e2 : IntKind.u8.max = 255 := rfl
 simpa [Lit.wf, e1, e2] using h
theorem open_bytes {H : Type} {enc : TypeId × Value → H} {W : World} {base : Nat} {a : Option Addr} {n c : Nat} {d : DataW H} {p : List MemPlace} (h : DataW.Trod enc Tryz.prog W base (fun _ => true) true 32 (.slice a n c) d p) :
  ∃ l : List UInt8, n = l.length ∧ BAt W a l ∧ (a = none → n = 0 ∧ c = 0) ∧ (n ≤ c ∧ c ≤ maxLen) := by
 obtain ⟨fuel, hf⟩ := h
 rcases open_ints Tryz.underlying32 Tryz.underlying5 (by kernel_rfl) hf with ⟨hcs, _⟩ | ⟨x, l, c', zs, hcs, _, hl, hm, hz, _, hcell, hwz⟩
 ·simp [Value.cells] at hcs
  obtain ⟨rfl, rfl, rfl⟩ := hcs; exact ⟨[], rfl, BAt.nil _ _, fun _ => ⟨rfl, rfl⟩, Nat.le_refl _, Nat.zero_le _⟩
 ·simp [Value.cells] at hcs
  obtain ⟨rfl, rfl, rfl⟩ := hcs
  have hzl : zs.length = c := by simpa using hz
  refine ⟨(zs.take n).map fun z => UInt8.ofNat z.toNat, by simp; omega, fun hp => ?_, (fun h => by cases h), hl, hm⟩
  have hn : 0 < n := by simp at hp; omega
  obtain ⟨b, o, rfl, hc⟩ := ints_at hcell (by omega); refine ⟨b, o, rfl, lt_of_cell (a := ⟨b, o + 0, none⟩) (hc 0 (by omega)), fun i hi => ?_⟩
  have hi2 : i < n := by simp at hi; omega
  have hi3 : i < zs.length := by omega
  rw [hc i hi3]; have hw := bounds_byte (hwz (zs.getD i 0) (by rw [List.getD_eq_getElem?_getD, List.getElem?_eq_getElem hi3]; exact List.getElem_mem _)); simp only [List.getElem_map, List.getElem_take]; rw [List.getD_eq_getElem?_getD, List.getElem?_eq_getElem hi3] at hw ⊢; simp only [Option.getD_some] at hw ⊢
  congr 2
  rw [UInt8.toNat_ofNat']
  omega
end Go.Proofs.YtnbcbiglkmdepaaGreatDoor
namespace Go.Proofs.YtnbcbiglkmdepaaGreatDoor
open Go.ChangeShapes Go.WideShapes Go.ChangeAt Go.RowKit Go.Lib Go.Joins
open Go.ChangeMaps (open_string shut_string)
theorem own : ownKnob Tryz.prog.godebug = none := by kernel_rfl
theorem acc_data : Rows.laid_unicode_utf8_acceptRanges (H := Unit) = acceptData := by kernel_rfl
theorem first_data : Rows.laid_unicode_utf8_first = firstData := Pinned.utf8First_eq
theorem pow_data : Rows.laid_internal_strconv_uint64pow10 (H := Unit) = Lib.tabData .u64 Lib.pow10Tab := by kernel_rfl
theorem pow_of {W : World} {l : List (String × DataW Unit)} (hl : (l.filter fun x => x.1 == "internal/strconv.uint64pow10") = [("internal/strconv.uint64pow10", Rows.laid_internal_strconv_uint64pow10)]) (h : laidMetH Tryz.prog l W) : Tab W := by
 have h1 := ((laidMetH_iff.1 h).1).filter (fun x => x.1 == "internal/strconv.uint64pow10")
 have e : (l.filter fun a => a.1 == "internal/strconv.uint64pow10" && a.2.handleName?.isNone) = (l.filter fun a => a.1 == "internal/strconv.uint64pow10").filter fun a => a.2.handleName?.isNone := by
  rw [List.filter_filter]; congr 1; funext a; exact Bool.and_comm _ _
 rw [List.filter_filter, e, hl] at h1
 have h2 : laidMet Tryz.prog (("internal/strconv.uint64pow10", Lib.tabData .u64 Lib.pow10Tab) :: []) W := by rw [← pow_data]; exact h1
 have ht : Lib.TabIs Tryz.prog W "internal/strconv.uint64pow10" .u64 Lib.pow10Tab := Lib.tabIs_of_head gPow (by kernel_rfl) Tryz.underlying226 Tryz.underlying126 (by kernel_rfl) (by kernel_rfl) h2; exact ⟨ht, lt_of_cell (a := ⟨1, 0, none⟩) (ht.cell gPow 0 (by decide))⟩
theorem t6_of {W : World} {l : List (String × DataW Unit)} (h : laidMetH Tryz.prog l W)
  (hl : (l.filter fun x => x.1 == "internal/strconv.uint64pow10") = [("internal/strconv.uint64pow10", Rows.laid_internal_strconv_uint64pow10)])
  (h1 : ("unicode/utf8.first", Rows.laid_unicode_utf8_first) ∈ l.filter fun a => a.2.handleName?.isNone)
  (h2 : ("unicode/utf8.acceptRanges", Rows.laid_unicode_utf8_acceptRanges) ∈ l.filter fun a => a.2.handleName?.isNone) : T6 W := by
 have h0 := (laidMetH_iff.1 h).1; have r1 := Lib.laidMet.reads h0 h1; have r2 := Lib.laidMet.reads h0 h2; rw [first_data] at r1; rw [acc_data] at r2; exact ⟨pow_of hl h, tabs_of W r1 r2⟩
theorem bd_i64 {n : Int} (h : (Lit.int .i64 n).wf = true) : -9223372036854775808 ≤ n ∧ n ≤ 9223372036854775807 := by
 have e1 : IntKind.i64.min = -9223372036854775808 := rfl; have e2 : IntKind.i64.max = 9223372036854775807 := rfl
 simpa [Lit.wf, e1, e2] using h
end Go.Proofs.YtnbcbiglkmdepaaGreatDoor
