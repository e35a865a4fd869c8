/-
  Layer 5: Pack of the document's answers.
-/
import Derived.Test.YtjlgihdlcfanbaaFk
import Derived.Test.YtjlgihdlcfanbaaRs
namespace Go.Proofs.Ytjlgihdlcfanbaa
open Go.RowKit
set_option linter.unusedVariables false
set_option linter.unusedSimpArgs false

set_option maxHeartbeats 4000000 in
theorem rPack_bad (kind : Int) (v : Value) (w : World) (h : kind < 0 ∨ 255 < kind) :
    Calls Try.prog 11 #[.int .i64 kind, v] w fun e w' => e = .returned (.tuple #[.slice none 0 0, .int .i64 1]) ∧ w = w' := by
  rcases h with h | h
  · go_enter Try.func11, Try.ntmps11
    go_wp2
    go_ret2
    exact ⟨rfl, rfl⟩
  · have h2 : ¬ kind < 0 := by omega
    go_enter Try.func11, Try.ntmps11
    go_wp2
    go_ret2
    exact ⟨rfl, rfl⟩
set_option maxHeartbeats 4000000 in
theorem rPack_long (kind : Int) (a : Option Addr) (n c : Nat) (w : World) (h0 : 0 ≤ kind) (h1 : kind ≤ 255) (hn : 131172 < n) (hm : n ≤ maxLen) :
    Calls Try.prog 11 #[.int .i64 kind, .slice a n c] w fun e w' => e = .returned (.tuple #[.slice none 0 0, .int .i64 5]) ∧ w = w' := by
  unfold maxLen at hm
  go_enter Try.func11, Try.ntmps11
  go_wp2
  go_ret2
  exact ⟨rfl, rfl⟩
theorem rSum_of (w : World) (A : Option Addr) (n c : Nat) (l : List UInt8) (hn : n = l.length) (hl : l.length ≤ 1000000) (hbat : BAt w A l) (hnone : A = none → l.length = 0 ∧ c = 0) :
    Calls Try.prog 23 #[.slice A n c] w fun e w' => e = .returned (idv (sumL l)) ∧ Below w.heap.size w w' := by
  subst hn; exact rSum_any w A c l hl hbat hnone
theorem head_row (w : World) (k n : Nat) (hk : k ≤ 255) (hn : n ≤ 131172) : Row (w.alloc (.cells (headV k n) 5)) (.slice (some ⟨w.heap.size, 0, none⟩) 6 6) (headL k n) := by
  refine .inr ⟨w.heap.size, 5, headV k n, rfl, heap_alloc_new w _, by rw [headL_len]; exact Nat.le_refl _, by unfold maxLen; omega, rfl, ?_⟩
  show [Value.int .u8 254, .int .u8 (k : Int), .int .u8 ((n : Int) / 16777216), .int .u8 ((n : Int) / 65536), .int .u8 ((n : Int) / 256 % 256), .int .u8 ((n : Int) % 256)] = [Value.int .u8 254, .int .u8 ((UInt8.ofNat k).toNat : Int), .int .u8 ((UInt8.ofNat (n / 16777216)).toNat : Int), .int .u8 ((UInt8.ofNat (n / 65536)).toNat : Int), .int .u8 ((UInt8.ofNat (n / 256)).toNat : Int), .int .u8 ((UInt8.ofNat n).toNat : Int)]
  simp only [UInt8.toNat_ofNat']
  rw [Nat.mod_eq_of_lt (a := k) (by omega), Nat.mod_eq_of_lt (a := n / 16777216) (by omega), Nat.mod_eq_of_lt (a := n / 65536) (by omega)]
  rfl
set_option maxHeartbeats 8000000 in
theorem rPack_ok (k : Nat) (a : Option Addr) (n c : Nat) (l : List UInt8) (w : World) (hk : k ≤ 255) (hn : n = l.length) (hb : BAt w a l) (hno : a = none → n = 0 ∧ c = 0) (hc : n ≤ c) (hl : n ≤ 131172) :
    Calls Try.prog 11 #[.int .i64 k, .slice a n c] w fun e w' => ∃ v, e = .returned (.tuple #[v, .int .i64 0]) ∧ Row w' v (packL k l) ∧ (∀ g, foot v = some g → w.heap.size ≤ g) ∧ Below w.heap.size w w' := by
  obtain ⟨z, hz, hze⟩ := z29
  have hzv := zero_arr hz
  have hzs : z.size = 20 := by rw [hze]; simp
  have HN := Lib.hid hn; have HZS := Lib.hid hzs; have HB := Lib.hid hb; have HNO := Lib.hid hno
  have hk2 : ¬ ((k : Int) < 0) := by omega
  have hk3 : ¬ (255 < (k : Int)) := by omega
  have hkw : (k : Int) % 256 = k := by omega
  have hH := head_row w k n hk hl
  unfold headV at hH
  have hb0 : Below w.heap.size w (w.alloc (.cells (headV k n) 5)) := (Below.refl _ w).alloc (Nat.le_refl _) _
  unfold headV at hb0
  have HH := Lib.hid hH; have HB0 := Lib.hid hb0
  have hds : decide ((131172 : Int) < (n : Int)) = false := decide_eq_false (by omega)
  clear hb hno hn hze hz hzs hH hb0
  go_enter Try.func11, Try.ntmps11
  go_wp2_with (first
    | (at_builtin; refine wpList_append_row rfl (.tmp 34) (.tmp 35) rfl _ rfl _ l HH.out a n c rfl (HB.out.below HB0.out (Nat.le_refl _)) HN.out HNO.out ?len ?_)
    | fail)
  case len => rw [headL_len]; have := HN.out; omega
  intro v1 w1 hap
  have hf0 : ∀ g, foot (.slice (some ⟨w.heap.size, 0, none⟩) 6 6) = some g → w.heap.size ≤ g := fun g hg => by cases hg; exact Nat.le_refl _
  have hb1 := hap.below HB0.out hf0 HB0.out.size
  have hf1 := hap.new hf0 HB0.out.size
  have hr1 := hap.1
  have hbe : headL k n ++ l = bodyL k l := by rw [bodyL, HN.out]
  rw [hbe] at hr1
  clear hap hf0 hbe HH HB0
  obtain ⟨a1, c1, hv1, hlc1, hcm1, hbat1, hno1⟩ := hr1.shape
  have hbl : (bodyL k l).length = n + 6 := by rw [bodyL_len, ← HN.out]; omega
  have HR1 := Lib.hid hr1; have HF1 := Lib.hid hf1
  subst hv1
  rw [hbl] at HR1 HF1 hno1
  rw [hbl]
  obtain ⟨arr, hia, haa⟩ := idv_cells (sumL (bodyL k l))
  have C1 := rSum_of w1 a1 (n + 6) c1 (bodyL k l) hbl.symm (by rw [hbl]; omega) hbat1 (fun h => by rw [hbl]; exact hno1 h)
  rw [hia] at C1
  have hasz : arr.size = 20 := by rw [haa]; simp [bc_len, sumL, digest_len]
  have hall : arr.all (·.oneCell') = true := by rw [haa]; exact bc_all _
  have HASZ := Lib.hid hasz; have HALL := Lib.hid hall; have HAA := Lib.hid haa; have HB1 := Lib.hid hb1
  have CS := Lib.hid C1
  clear hia haa hasz hall C1 hbat1 hno1 hr1 hf1 hb1 hlc1 hcm1
  go_wp2_with fail
  refine CS.out.mono ?_
  rintro e w2 ⟨rfl, hb2⟩
  have HR2 := Lib.hid (HR1.out.chg (Chg.of_below (S := fun _ => False) hb2) (fun _ _ h => h))
  have HB2 := Lib.hid (HB1.out.trans (hb2.mono HB1.out.size))
  have hsl := fun u => slice20_h u w2.heap.size 8 (by omega) 8 rfl
  clear CS hb2 HR1
  have h3 : ((w2.alloc (.cells z 47)).setRow w2.heap.size arr).heap[w2.heap.size]? = some (.cells arr 47 (0, 0)) := setRow_heap _ _ z arr _ _ (heap_alloc_new w2 _)
  have hb23 : Below w2.heap.size w2 ((w2.alloc (.cells z 47)).setRow w2.heap.size arr) := below_setRow ((Below.refl _ w2).alloc (Nat.le_refl _) _) (Nat.le_refl _) arr
  have HR3 := Lib.hid (HR2.out.chg (Chg.of_below (S := fun _ => False) hb23) (fun _ _ h => h))
  have HI3 := Lib.hid (id_bat h3 HAA.out 8)
  have HB3 := Lib.hid (HB2.out.trans (hb23.mono HB2.out.size))
  have hl8 : ((sumL (bodyL k l)).take 8).length = 8 := by rw [List.length_take, sumL_len]; rfl
  have HL8 := Lib.hid hl8
  clear h3 hb23 hl8 HR2
  go_wp2_with (first
    | (with_reducible refine wpList_store_row rfl 47 (.tmp 8) (.tmp 38) rfl w2.heap.size arr rfl rfl 47 z ?sg ?si ?so ?s1 ?_)
    | (at_builtin; refine wpList_append_row rfl (.tmp 39) (.tmp 40) rfl _ rfl _ ((sumL (bodyL k l)).take 8) HR3.out (some ⟨w2.heap.size, 0, none⟩) 8 20 rfl HI3.out HL8.out.symm (fun h => by cases h) ?len2 ?_)
    | fail)
  case sg => exact heap_alloc_new w2 _
  case si => rw [info29, HASZ.out]
  case so => rw [HZS.out, HASZ.out]
  case s1 => exact HALL.out
  case len2 => rw [HL8.out, hbl]; omega
  intro v4 w4 hap
  have hb4 := hap.below HB3.out HF1.out HB3.out.size
  have hf4 := hap.new HF1.out HB3.out.size
  have hr4 := hap.1
  rw [show bodyL k l ++ (sumL (bodyL k l)).take 8 = packL k l from rfl] at hr4
  have HR4 := Lib.hid hr4; have HF4 := Lib.hid hf4
  clear hap hr4 hf4 HR3 HI3 HB3 HF1
  go_wp2
  go_ret2
  exact ⟨_, rfl, HR4.out, HF4.out, hb4⟩
/-- The reference, whatever comes. -/
theorem rPack_any (kind : Int) (a : Option Addr) (n c : Nat) (l : List UInt8) (w : World) (hn : n = l.length) (hb : BAt w a l) (hno : a = none → n = 0 ∧ c = 0) (hc : n ≤ c) (hm : c ≤ maxLen) :
    Calls Try.prog 11 #[.int .i64 kind, .slice a n c] w fun e w' => ∃ v, e = .returned (.tuple #[v, .int .i64 (packE kind n)]) ∧ Row w' v (packR kind l) ∧ (∀ g, foot v = some g → w.heap.size ≤ g) ∧ Below w.heap.size w w' := by
  by_cases h1 : kind < 0 ∨ 255 < kind
  · have he : packE kind n = 1 := by unfold packE; rw [if_pos h1]
    have hr : packR kind l = [] := by unfold packR; rw [← hn, he, if_neg (by decide)]
    refine (rPack_bad kind _ w h1).mono ?_
    rintro e w' ⟨rfl, rfl⟩
    exact ⟨_, by rw [he], by rw [hr]; exact Row.nil _ _, (fun g hg => by cases hg), Below.refl _ _⟩
  · by_cases h2 : 131172 < n
    · have he : packE kind n = 5 := by unfold packE; rw [if_neg h1, if_pos h2]
      have hr : packR kind l = [] := by unfold packR; rw [← hn, he, if_neg (by decide)]
      refine (rPack_long kind a n c w (by omega) (by omega) h2 (by omega)).mono ?_
      rintro e w' ⟨rfl, rfl⟩
      exact ⟨_, by rw [he], by rw [hr]; exact Row.nil _ _, (fun g hg => by cases hg), Below.refl _ _⟩
    · have he : packE kind n = 0 := by unfold packE; rw [if_neg h1, if_neg h2]
      have hr : packR kind l = packL kind.toNat l := by unfold packR; rw [← hn, he, if_pos rfl]
      obtain ⟨k, rfl⟩ : ∃ k : Nat, kind = k := ⟨kind.toNat, by omega⟩
      rw [he, hr]
      exact rPack_ok k a n c l w (by omega) hn hb hno hc (by omega)
end Go.Proofs.Ytjlgihdlcfanbaa
