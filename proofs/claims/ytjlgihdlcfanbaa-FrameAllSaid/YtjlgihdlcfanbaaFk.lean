/-
  Layer 5: Pack of the program.
-/
import Derived.Test.YtjlgihdlcfanbaaFo
import Derived.Test.YtjlgihdlcfanbaaFp
import Derived.Test.YtjlgihdlcfanbaaIv
namespace Go.Proofs.Ytjlgihdlcfanbaa
open Go.RowKit
set_option linter.unusedVariables false
set_option linter.unusedSimpArgs false

set_option maxHeartbeats 4000000 in
theorem Pack_bad (kind : Int) (v : Value) (w : World) (h : kind < 0 ∨ 255 < kind) :
    Calls Try.prog 10 #[.int .i64 kind, v] w fun e w' => e = .returned (.tuple #[.slice none 0 0, .int .i64 1]) ∧ w = w' := by
  rcases h with h | h
  · go_enter Try.func10, Try.ntmps10
    go_wp2
    go_ret2
    exact ⟨rfl, rfl⟩
  · have h2 : ¬ kind < 0 := by omega
    go_enter Try.func10, Try.ntmps10
    go_wp2
    go_ret2
    exact ⟨rfl, rfl⟩
set_option maxHeartbeats 4000000 in
theorem Pack_long (kind : Int) (a : Option Addr) (n c : Nat) (w : World) (h0 : 0 ≤ kind) (h1 : kind ≤ 255) (hn : 131172 < n) (hm : n ≤ maxLen) :
    Calls Try.prog 10 #[.int .i64 kind, .slice a n c] w fun e w' => e = .returned (.tuple #[.slice none 0 0, .int .i64 5]) ∧ w = w' := by
  unfold maxLen at hm
  go_enter Try.func10, Try.ntmps10
  go_wp2
  go_ret2
  exact ⟨rfl, rfl⟩
theorem alloc_size (w : World) (o : Obj) : (w.alloc o).heap.size = w.heap.size + 1 := by simp
/-- A head's cells. -/
def headV (k n : Int) : Array Value := #[.int .u8 254, .int .u8 k, .int .u8 (n / 16777216), .int .u8 (n / 65536), .int .u8 (n / 256 % 256), .int .u8 (n % 256)]
theorem head_part (w : World) (k n : Nat) (hk : k ≤ 255) (hn : n ≤ 131172) (t : TypeId) : PartAt (w.alloc (.cells (headV k n) t)) (.slice (some ⟨w.heap.size, 0, none⟩) 6 6) (headL k n) :=
  ⟨_, _, rfl, fun _ => ⟨_, _, rfl, by simp, fun i hi => by
    have hi2 : i < 6 := hi
    rw [Nat.zero_add, cell_of_row _ _ i _ _ _ (heap_alloc_new w _)]
    match i, hi2 with
    | 0, _ => rfl
    | 1, _ => show some (Value.int .u8 (k : Int)) = some (.int .u8 ((UInt8.ofNat k).toNat : Int)); rw [UInt8.toNat_ofNat', Nat.mod_eq_of_lt (by omega)]
    | 2, _ => show some (Value.int .u8 ((n : Int) / 16777216)) = some (.int .u8 ((UInt8.ofNat (n / 16777216)).toNat : Int)); rw [UInt8.toNat_ofNat', Nat.mod_eq_of_lt (by omega)]; rfl
    | 3, _ => show some (Value.int .u8 ((n : Int) / 65536)) = some (.int .u8 ((UInt8.ofNat (n / 65536)).toNat : Int)); rw [UInt8.toNat_ofNat', Nat.mod_eq_of_lt (by omega)]; rfl
    | 4, _ => show some (Value.int .u8 ((n : Int) / 256 % 256)) = some (.int .u8 ((UInt8.ofNat (n / 256)).toNat : Int)); rw [UInt8.toNat_ofNat']; rfl
    | 5, _ => show some (Value.int .u8 ((n : Int) % 256)) = some (.int .u8 ((UInt8.ofNat n).toNat : Int)); rw [UInt8.toNat_ofNat']; rfl⟩, (fun h => by cases h), Nat.le_refl _, by rw [headL_len]; unfold maxLen; omega⟩
set_option maxHeartbeats 8000000 in
theorem Pack_ok (k : Nat) (a : Option Addr) (n c : Nat) (l : List UInt8) (w : World) (hk : k ≤ 255) (hn : n = l.length) (hb : BAt w a l) (hno : a = none → n = 0 ∧ c = 0) (hc : n ≤ c) (hl : n ≤ 131172) :
    Calls Try.prog 10 #[.int .i64 k, .slice a n c] w fun e w' => ∃ v, e = .returned (.tuple #[v, .int .i64 0]) ∧ Row w' v (packL k l) ∧ (∀ g, foot v = some g → w.heap.size ≤ g) ∧ Below w.heap.size w w' := by
  obtain ⟨z, hz, hze⟩ := z29
  have hzv := zero_arr hz
  have hzs : z.size = 20 := by rw [hze]; simp
  have hpa : PartAt w (.slice a n c) l := ⟨a, c, by rw [hn], hb, (fun h => by rw [← hn]; exact hno h), by omega, by unfold maxLen; omega⟩
  have HPA := Lib.hid hpa; have HN := Lib.hid hn; have HZS := Lib.hid hzs
  have hk2 : ¬ ((k : Int) < 0) := by omega
  have hk3 : ¬ (255 < (k : Int)) := by omega
  have hkw : (k : Int) % 256 = k := by omega
  clear hb hno hc hpa hn hze hz hzs
  go_enter Try.func10, Try.ntmps10
  have hH := head_part w k n hk hl 5
  have hP : PartAt (w.alloc (.cells (headV k n) 5)) (.slice a n c) l := HPA.out.below ((Below.refl w.heap.size w).alloc (Nat.le_refl _) _) (Nat.le_refl _)
  have hps := parts2 22 hH hP
  obtain ⟨arr, hia, haa⟩ := idv_cells (sumL (bodyL k l))
  have hfl : [headL k n, l].flatten = bodyL k l := by rw [HN.out]; simp [bodyL]
  have hbl : (bodyL k l).length ≤ 1000000 := by rw [bodyL_len, ← HN.out]; omega
  have C1 := Sum_parts _ (some ⟨(w.alloc (.cells (headV k n) 5)).heap.size, 0, none⟩) 2 2 [headL k n, l] rfl (by omega) (by rw [hfl]; exact hbl) hps
  rw [hfl, hia] at C1
  have hasz : arr.size = 20 := by rw [haa]; simp [bc_len, sumL, digest_len]
  have hall : arr.all (·.oneCell') = true := by rw [haa]; exact bc_all _
  have HASZ := Lib.hid hasz; have HALL := Lib.hid hall; have HAA := Lib.hid haa; have HH := Lib.hid hH; have HP := Lib.hid hP
  unfold headV at C1
  rw [alloc_size] at C1
  have CS := Lib.hid C1
  have hds : decide ((131172 : Int) < (n : Int)) = false := decide_eq_false (by omega)
  clear hia haa hasz hall hH hP hps hfl C1
  go_wp2_with fail
  refine CS.out.mono ?_
  rintro e w1 ⟨rfl, hb1⟩
  have hb01 : Below w.heap.size w w1 := (((Below.refl _ w).alloc (Nat.le_refl _) _).alloc (by simp) _).trans (hb1.mono (by simp; omega))
  have hbH : Below (w.alloc (.cells (headV k n) 5)).heap.size (w.alloc (.cells (headV k n) 5)) w1 := (((Below.refl _ _).alloc (Nat.le_refl _) _).trans (hb1.mono (by simp)))
  have hH1 := HH.out.below hbH (Nat.le_refl _)
  have hP1 := HP.out.below hbH (Nat.le_refl _)
  have hsl := fun u => slice20_h u w1.heap.size 8 (by omega) 8 rfl
  have HH1 := Lib.hid hH1; have HP1 := Lib.hid hP1; have HB01 := Lib.hid hb01
  clear CS HH HP hb1 hbH hH1 hP1 hb01
  go_wp2_with (first
    | (with_reducible refine wpList_store_row rfl 47 (.tmp 8) (.tmp 36) rfl w1.heap.size arr rfl rfl 47 z ?sg ?si ?so ?s1 ?_)
    | fail)
  case sg => exact heap_alloc_new w1 _
  case si => rw [info29, HASZ.out]
  case so => rw [HZS.out, HASZ.out]
  case s1 => exact HALL.out
  generalize hw2 : ((w1.alloc (.cells z 47)).setRow w1.heap.size arr) = w2
  have h2 : w2.heap[w1.heap.size]? = some (.cells arr 47 (0, 0)) := by
    subst hw2; exact setRow_heap _ _ z arr _ _ (heap_alloc_new w1 _)
  have hb12 : Below w1.heap.size w1 w2 := by
    subst hw2; exact below_setRow ((Below.refl _ w1).alloc (Nat.le_refl _) _) (Nat.le_refl _) arr
  have hs2 : w2.heap.size = w1.heap.size + 1 := by subst hw2; simp [World.setRow]
  clear hw2 hsl hzv
  have hid : PartAt w2 (.slice (some ⟨w1.heap.size, 0, none⟩) 8 20) ((sumL (bodyL k l)).take 8) :=
    ⟨_, _, by rw [List.length_take, sumL_len]; rfl, id_bat h2 HAA.out 8, (fun h => by cases h), by rw [List.length_take, sumL_len]; decide, by rw [List.length_take, sumL_len]; decide⟩
  have hps := parts3 22 (HH1.out.below hb12 (Nat.le_refl _)) (HP1.out.below hb12 (Nat.le_refl _)) hid
  have hfl : [headL k n, l, (sumL (bodyL k l)).take 8].flatten = packL k l := by rw [HN.out]; simp [packL, bodyL]
  have hpl : (packL k l).length = n + 14 := by rw [packL_len, HN.out]
  have C2 := Concat_parts _ (some ⟨w2.heap.size, 0, none⟩) 3 3 [headL k n, l, (sumL (bodyL k l)).take 8] rfl (by omega) (by rw [hfl, hpl]; omega) (by rw [hfl, hpl]; omega) hps
  rw [hfl, hs2] at C2
  refine C2.mono ?_
  rintro e w3 ⟨v, rfl, hr3, hf3, hb3⟩
  rw [alloc_size, hs2] at hf3 hb3
  have hb03 : Below w.heap.size w w3 := (HB01.out.trans (hb12.mono HB01.out.size)).trans (((Below.refl _ w2).alloc (Nat.le_refl _) _).trans (hb3.mono (by omega)) |>.mono (by have := HB01.out.size; omega))
  have hf03 : ∀ g, foot v = some g → w.heap.size ≤ g := fun g hg => by have := hf3 g hg; have := HB01.out.size; omega
  have HR3 := Lib.hid hr3; have HF3 := Lib.hid hf03
  clear C2 hps hid hr3 hf3 hf03 HH1 HP1 hb12 h2 HAA hfl
  go_wp2
  go_ret2
  exact ⟨_, rfl, HR3.out, HF3.out, hb03⟩
/-- Pack, whatever comes. -/
theorem Pack_any (kind : Int) (a : Option Addr) (n c : Nat) (l : List UInt8) (w : World) (hn : n = l.length) (hb : BAt w a l) (hno : a = none → n = 0 ∧ c = 0) (hc : n ≤ c) (hm : c ≤ maxLen) :
    Calls Try.prog 10 #[.int .i64 kind, .slice a n c] w fun e w' => ∃ v, e = .returned (.tuple #[v, .int .i64 (packE kind n)]) ∧ Row w' v (packR kind l) ∧ (∀ g, foot v = some g → w.heap.size ≤ g) ∧ Below w.heap.size w w' := by
  by_cases h1 : kind < 0 ∨ 255 < kind
  · have he : packE kind n = 1 := by unfold packE; rw [if_pos h1]
    have hr : packR kind l = [] := by unfold packR; rw [← hn, he, if_neg (by decide)]
    refine (Pack_bad kind _ w h1).mono ?_
    rintro e w' ⟨rfl, rfl⟩
    exact ⟨_, by rw [he], by rw [hr]; exact Row.nil _ _, (fun g hg => by cases hg), Below.refl _ _⟩
  · by_cases h2 : 131172 < n
    · have he : packE kind n = 5 := by unfold packE; rw [if_neg h1, if_pos h2]
      have hr : packR kind l = [] := by unfold packR; rw [← hn, he, if_neg (by decide)]
      refine (Pack_long kind a n c w (by omega) (by omega) h2 (by omega)).mono ?_
      rintro e w' ⟨rfl, rfl⟩
      exact ⟨_, by rw [he], by rw [hr]; exact Row.nil _ _, (fun g hg => by cases hg), Below.refl _ _⟩
    · have he : packE kind n = 0 := by unfold packE; rw [if_neg h1, if_neg h2]
      have hr : packR kind l = packL kind.toNat l := by unfold packR; rw [← hn, he, if_pos rfl]
      obtain ⟨k, rfl⟩ : ∃ k : Nat, kind = k := ⟨kind.toNat, by omega⟩
      rw [he, hr]
      exact Pack_ok k a n c l w (by omega) hn hb hno hc (by omega)
end Go.Proofs.Ytjlgihdlcfanbaa
