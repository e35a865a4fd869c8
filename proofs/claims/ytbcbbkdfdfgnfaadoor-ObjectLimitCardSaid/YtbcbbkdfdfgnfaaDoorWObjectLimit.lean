/-
  The law ObjectLimit: its walk.
-/
import Derived.Test.YtbcbbkdfdfgnfaaDoorNx
namespace Go.Proofs.YtbcbbkdfdfgnfaaDoor.objectLimit
set_option maxRecDepth 20000
open Go.RowKit
set_option linter.unusedVariables false
set_option linter.unusedSimpArgs false

theorem zeros_bat {w : World} {g n : Nat} (h : w.ownsRow g 5 1 (.slice (some ⟨g, 0, none⟩) n n) n (madeCells #[Value.int .u8 0] n).toList) : BAt w (some ⟨g, 0, none⟩) (List.replicate n 0) := by
  have e : (madeCells #[Value.int .u8 0] n).toList = Lib.byteCells (List.replicate n 0) := by
    rw [toList_madeCells_one]; simp [Lib.byteCells]
  rw [e] at h
  have hl : (List.replicate n (0 : UInt8)).length = n := List.length_replicate
  exact own_bat (l := List.replicate n 0) (cap := n) (by rw [hl]; exact h)
theorem own_u8 : (Tryd.prog.info? 5).map (fun i => (i.zero, i.size, i.bytes)) = some (some (.int .u8 0), 1, 1) := by kernel_rfl
set_option maxHeartbeats 8000000 in
theorem walk_more_lo (w : World) (x : Int) (hk : x < 1) (tab : Tab w) :
    Calls Tryd.prog 5 #[.bool true, .int .i64 x] w fun e w' => e = .returned (.bool true) ∧ Below w.heap.size w w' := by
  obtain ⟨i0, hi, hz0, hz1, hz2⟩ := info_parts own_u8
  obtain ⟨z, hz, hze⟩ := z29
  have hzv := zero_arr hz
  have hzi : idv (List.replicate 20 0) = .agg z := by rw [hze]; rfl
  have hb : ¬ kindO x := by unfold kindO; omega
  have hP := printO_kind x [] hb
  have hS : sumO x [] = List.replicate 20 0 := by unfold sumO; rw [hP, if_neg (by decide)]
  have ids := fun u => eql_idv u (List.replicate 20 0) (List.replicate 20 0) (by simp) (by simp)
  rw [show (List.replicate 20 (0 : UInt8) == List.replicate 20 0) = true by simp, hzi] at ids
  have CK := Lib.hid (fun u (t : Tab u) => hP ▸ Print_any x none 0 0 [] u rfl (BAt.nil _ _) (fun _ => ⟨rfl, rfl⟩) (Nat.le_refl _) (Nat.zero_le _) t)
  have CI := Lib.hid (fun u (t : Tab u) => hzi ▸ hS ▸ Id_is x none 0 0 [] u rfl (BAt.nil _ _) (fun _ => ⟨rfl, rfl⟩) (Nat.le_refl _) (Nat.zero_le _) t)
  have TB := Lib.hid tab
  obtain ⟨N, hN⟩ : ∃ N : Nat, N = 65537 := ⟨_, rfl⟩
  have hb2 : i0.bytes * N ≤ 281474976710656 := by rw [hz2]; omega
  have hb3 : N ≤ maxLen := by unfold maxLen; omega
  have HC := Lib.hid (show (65537 : Int) = (N : Int) by omega)
  have HNN := Lib.hid hN
  clear hN tab hze hzi hP hb hS
  go_enter Tryd.func5, Tryd.ntmps5
  go_wp2_with (at_make; refine wpList_make_full _ rfl _ _ 22 rfl w.heap.size 5 i0 (.int .u8 0) 1 Tryd.underlying22 hi hz0 hz1 _ _ _ _ N rfl rfl HC.out HC.out hb2 hb3 (Nat.le_refl _) ?_)
  intro w0 hown0 hgr0
  have hb0 : Below w.heap.size w w0 := (Below.refl _ w).grown hgr0 (Nat.le_refl _) (fun k h => by cases h)
  have hbat := zeros_bat hown0
  have hlen : N = (List.replicate N (0 : UInt8)).length := List.length_replicate.symm
  have C := Print_any 2 (some ⟨w.heap.size, 0, none⟩) N N (List.replicate N 0) w0 hlen hbat (fun h => by cases h) (Nat.le_refl _) hb3 (TB.out.keep hb0)
  rw [printO_limit 2 (List.replicate N 0) (.inr (.inl rfl)) (by rw [← hlen, HNN.out]; decide)] at C
  have HCC := Lib.hid C
  clear hown0 hgr0 hbat hlen C hb2 hb3
  go_wp2_with fail
  refine HCC.out.mono ?_
  rintro e w1 ⟨v, rfl, hr1, _, hb1⟩
  obtain ⟨a1, c1, hv1, _, _, _, _⟩ := hr1.shape
  subst hv1
  have B1 := Lib.hid (hb0.trans (hb1.mono hb0.size))
  clear HCC hr1 hb1 hb0
  go_wp2_with fail
  refine (CK.out _ (TB.out.keep B1.out)).mono ?_
  rintro e w2 ⟨v2, rfl, hr2, _, hb2⟩
  obtain ⟨a2, c2, hv2, _, _, _, _⟩ := hr2.shape
  subst hv2
  have B2 := Lib.hid (B1.out.trans (hb2.mono B1.out.size))
  clear hr2 hb2
  go_wp2_with fail
  refine (awake7 _ (TB.out.keep B2.out)).mono ?_
  rintro e w3 ⟨rfl, hb3⟩
  have B3 := Lib.hid (B2.out.trans (hb3.mono B2.out.size))
  clear hb3
  go_wp2_with fail
  refine (CI.out _ (TB.out.keep B3.out)).mono ?_
  rintro e w4 ⟨rfl, hb4⟩
  have B4 := Lib.hid (B3.out.trans (hb4.mono B3.out.size))
  clear hb4
  go_wp2
  go_ret
  exact ⟨rfl, B4.out⟩
set_option maxHeartbeats 8000000 in
theorem walk_more_hi (w : World) (x : Int) (hk : 3 < x) (tab : Tab w) :
    Calls Tryd.prog 5 #[.bool true, .int .i64 x] w fun e w' => e = .returned (.bool true) ∧ Below w.heap.size w w' := by
  obtain ⟨i0, hi, hz0, hz1, hz2⟩ := info_parts own_u8
  obtain ⟨z, hz, hze⟩ := z29
  have hzv := zero_arr hz
  have hzi : idv (List.replicate 20 0) = .agg z := by rw [hze]; rfl
  have hb : ¬ kindO x := by unfold kindO; omega
  have hP := printO_kind x [] hb
  have hS : sumO x [] = List.replicate 20 0 := by unfold sumO; rw [hP, if_neg (by decide)]
  have ids := fun u => eql_idv u (List.replicate 20 0) (List.replicate 20 0) (by simp) (by simp)
  rw [show (List.replicate 20 (0 : UInt8) == List.replicate 20 0) = true by simp, hzi] at ids
  have CK := Lib.hid (fun u (t : Tab u) => hP ▸ Print_any x none 0 0 [] u rfl (BAt.nil _ _) (fun _ => ⟨rfl, rfl⟩) (Nat.le_refl _) (Nat.zero_le _) t)
  have CI := Lib.hid (fun u (t : Tab u) => hzi ▸ hS ▸ Id_is x none 0 0 [] u rfl (BAt.nil _ _) (fun _ => ⟨rfl, rfl⟩) (Nat.le_refl _) (Nat.zero_le _) t)
  have TB := Lib.hid tab
  obtain ⟨N, hN⟩ : ∃ N : Nat, N = 65537 := ⟨_, rfl⟩
  have hb2 : i0.bytes * N ≤ 281474976710656 := by rw [hz2]; omega
  have hb3 : N ≤ maxLen := by unfold maxLen; omega
  have HC := Lib.hid (show (65537 : Int) = (N : Int) by omega)
  have HNN := Lib.hid hN
  clear hN tab hze hzi hP hb hS
  go_enter Tryd.func5, Tryd.ntmps5
  go_wp2_with (at_make; refine wpList_make_full _ rfl _ _ 22 rfl w.heap.size 5 i0 (.int .u8 0) 1 Tryd.underlying22 hi hz0 hz1 _ _ _ _ N rfl rfl HC.out HC.out hb2 hb3 (Nat.le_refl _) ?_)
  intro w0 hown0 hgr0
  have hb0 : Below w.heap.size w w0 := (Below.refl _ w).grown hgr0 (Nat.le_refl _) (fun k h => by cases h)
  have hbat := zeros_bat hown0
  have hlen : N = (List.replicate N (0 : UInt8)).length := List.length_replicate.symm
  have C := Print_any 2 (some ⟨w.heap.size, 0, none⟩) N N (List.replicate N 0) w0 hlen hbat (fun h => by cases h) (Nat.le_refl _) hb3 (TB.out.keep hb0)
  rw [printO_limit 2 (List.replicate N 0) (.inr (.inl rfl)) (by rw [← hlen, HNN.out]; decide)] at C
  have HCC := Lib.hid C
  clear hown0 hgr0 hbat hlen C hb2 hb3
  go_wp2_with fail
  refine HCC.out.mono ?_
  rintro e w1 ⟨v, rfl, hr1, _, hb1⟩
  obtain ⟨a1, c1, hv1, _, _, _, _⟩ := hr1.shape
  subst hv1
  have B1 := Lib.hid (hb0.trans (hb1.mono hb0.size))
  clear HCC hr1 hb1 hb0
  go_wp2_with fail
  refine (CK.out _ (TB.out.keep B1.out)).mono ?_
  rintro e w2 ⟨v2, rfl, hr2, _, hb2⟩
  obtain ⟨a2, c2, hv2, _, _, _, _⟩ := hr2.shape
  subst hv2
  have B2 := Lib.hid (B1.out.trans (hb2.mono B1.out.size))
  clear hr2 hb2
  go_wp2_with fail
  refine (awake7 _ (TB.out.keep B2.out)).mono ?_
  rintro e w3 ⟨rfl, hb3⟩
  have B3 := Lib.hid (B2.out.trans (hb3.mono B2.out.size))
  clear hb3
  go_wp2_with fail
  refine (CI.out _ (TB.out.keep B3.out)).mono ?_
  rintro e w4 ⟨rfl, hb4⟩
  have B4 := Lib.hid (B3.out.trans (hb4.mono B3.out.size))
  clear hb4
  go_wp2
  go_ret
  exact ⟨rfl, B4.out⟩
set_option maxHeartbeats 8000000 in
theorem walk_more_ok (w : World) (x : Int) (hk : 1 ≤ x) (hk2 : x ≤ 3) (tab : Tab w) :
    Calls Tryd.prog 5 #[.bool true, .int .i64 x] w fun e w' => e = .returned (.bool true) ∧ Below w.heap.size w w' := by
  obtain ⟨i0, hi, hz0, hz1, hz2⟩ := info_parts own_u8
  obtain ⟨z, hz, hze⟩ := z29
  have hzv := zero_arr hz
  have hzi : idv (List.replicate 20 0) = .agg z := by rw [hze]; rfl
  have hd1 : decide (x < 1) = false := decide_eq_false (by omega)
  have hd2 : decide (3 < x) = false := decide_eq_false (by omega)
  have hb : kindO x := by unfold kindO; omega
  have hP := printO_ok x [] hb (by simp)
  have CK := Lib.hid (fun u (t : Tab u) => hP ▸ Print_any x none 0 0 [] u rfl (BAt.nil _ _) (fun _ => ⟨rfl, rfl⟩) (Nat.le_refl _) (Nat.zero_le _) t)
  have hol : 0 < (objO x []).length := by rw [objO_length]; omega
  obtain ⟨ob, hob⟩ : ∃ ob, objO x [] = ob := ⟨_, rfl⟩
  rw [hob] at CK hol
  have TB := Lib.hid tab
  obtain ⟨N, hN⟩ : ∃ N : Nat, N = 65537 := ⟨_, rfl⟩
  have hb2 : i0.bytes * N ≤ 281474976710656 := by rw [hz2]; omega
  have hb3 : N ≤ maxLen := by unfold maxLen; omega
  have HC := Lib.hid (show (65537 : Int) = (N : Int) by omega)
  have HNN := Lib.hid hN
  clear hN tab hze hzi hP hb hob
  go_enter Tryd.func5, Tryd.ntmps5
  go_wp2_with (at_make; refine wpList_make_full _ rfl _ _ 22 rfl w.heap.size 5 i0 (.int .u8 0) 1 Tryd.underlying22 hi hz0 hz1 _ _ _ _ N rfl rfl HC.out HC.out hb2 hb3 (Nat.le_refl _) ?_)
  intro w0 hown0 hgr0
  have hb0 : Below w.heap.size w w0 := (Below.refl _ w).grown hgr0 (Nat.le_refl _) (fun k h => by cases h)
  have hbat := zeros_bat hown0
  have hlen : N = (List.replicate N (0 : UInt8)).length := List.length_replicate.symm
  have C := Print_any 2 (some ⟨w.heap.size, 0, none⟩) N N (List.replicate N 0) w0 hlen hbat (fun h => by cases h) (Nat.le_refl _) hb3 (TB.out.keep hb0)
  rw [printO_limit 2 (List.replicate N 0) (.inr (.inl rfl)) (by rw [← hlen, HNN.out]; decide)] at C
  have HCC := Lib.hid C
  clear hown0 hgr0 hbat hlen C hb2 hb3
  go_wp2_with fail
  refine HCC.out.mono ?_
  rintro e w1 ⟨v, rfl, hr1, _, hb1⟩
  obtain ⟨a1, c1, hv1, _, _, _, _⟩ := hr1.shape
  subst hv1
  have B1 := Lib.hid (hb0.trans (hb1.mono hb0.size))
  clear HCC hr1 hb1 hb0
  go_wp2_with fail
  refine (CK.out _ (TB.out.keep B1.out)).mono ?_
  rintro e w2 ⟨v2, rfl, hr2, _, hb2⟩
  obtain ⟨a2, c2, hv2, _, _, _, _⟩ := hr2.shape
  obtain ⟨n2, hn2⟩ : ∃ n2, ob.length = n2 := ⟨_, rfl⟩
  rw [hn2] at hv2 hol
  have hol2 : ((n2 : Int) == 0) = false := by rw [beq_eq_false_iff_ne]; omega
  clear hn2
  subst hv2
  have B2 := Lib.hid (B1.out.trans (hb2.mono B1.out.size))
  clear hr2 hb2
  go_wp2_with fail
  refine (awake7 _ (TB.out.keep B2.out)).mono ?_
  rintro e w3 ⟨rfl, hb3⟩
  have B3 := Lib.hid (B2.out.trans (hb3.mono B2.out.size))
  clear hb3
  go_wp2
  go_ret
  exact ⟨rfl, B3.out⟩
set_option maxHeartbeats 8000000 in
theorem walk_full_lo (w : World) (x : Int) (hk : x < 1) (tab : Tab w) :
    Calls Tryd.prog 5 #[.bool false, .int .i64 x] w fun e w' => e = .returned (.bool true) ∧ Below w.heap.size w w' := by
  obtain ⟨i0, hi, hz0, hz1, hz2⟩ := info_parts own_u8
  obtain ⟨z, hz, hze⟩ := z29
  have hzv := zero_arr hz
  have hzi : idv (List.replicate 20 0) = .agg z := by rw [hze]; rfl
  have hb : ¬ kindO x := by unfold kindO; omega
  have hP := printO_kind x [] hb
  have hS : sumO x [] = List.replicate 20 0 := by unfold sumO; rw [hP, if_neg (by decide)]
  have ids := fun u => eql_idv u (List.replicate 20 0) (List.replicate 20 0) (by simp) (by simp)
  rw [show (List.replicate 20 (0 : UInt8) == List.replicate 20 0) = true by simp, hzi] at ids
  have CK := Lib.hid (fun u (t : Tab u) => hP ▸ Print_any x none 0 0 [] u rfl (BAt.nil _ _) (fun _ => ⟨rfl, rfl⟩) (Nat.le_refl _) (Nat.zero_le _) t)
  have CI := Lib.hid (fun u (t : Tab u) => hzi ▸ hS ▸ Id_is x none 0 0 [] u rfl (BAt.nil _ _) (fun _ => ⟨rfl, rfl⟩) (Nat.le_refl _) (Nat.zero_le _) t)
  have TB := Lib.hid tab
  obtain ⟨N, hN⟩ : ∃ N : Nat, N = 65536 := ⟨_, rfl⟩
  have hb2 : i0.bytes * N ≤ 281474976710656 := by rw [hz2]; omega
  have hb3 : N ≤ maxLen := by unfold maxLen; omega
  have HC := Lib.hid (show (65536 : Int) = (N : Int) by omega)
  have HNN := Lib.hid hN
  clear hN tab hze hzi hP hb hS
  go_enter Tryd.func5, Tryd.ntmps5
  go_wp2_with (at_make; refine wpList_make_full _ rfl _ _ 22 rfl w.heap.size 5 i0 (.int .u8 0) 1 Tryd.underlying22 hi hz0 hz1 _ _ _ _ N rfl rfl HC.out HC.out hb2 hb3 (Nat.le_refl _) ?_)
  intro w0 hown0 hgr0
  have hb0 : Below w.heap.size w w0 := (Below.refl _ w).grown hgr0 (Nat.le_refl _) (fun k h => by cases h)
  have hbat := zeros_bat hown0
  have hlen : N = (List.replicate N (0 : UInt8)).length := List.length_replicate.symm
  have C := Print_any 2 (some ⟨w.heap.size, 0, none⟩) N N (List.replicate N 0) w0 hlen hbat (fun h => by cases h) (Nat.le_refl _) hb3 (TB.out.keep hb0)
  rw [printO_ok 2 (List.replicate N 0) (.inr (.inl rfl)) (by rw [← hlen, HNN.out]; decide)] at C
  have HCC := Lib.hid C
  clear hown0 hgr0 hbat hlen C hb2 hb3
  go_wp2_with fail
  refine HCC.out.mono ?_
  rintro e w1 ⟨v, rfl, hr1, _, hb1⟩
  obtain ⟨a1, c1, hv1, _, _, _, _⟩ := hr1.shape
  obtain ⟨n1, hn1⟩ : ∃ n1, (objO 2 (List.replicate N 0)).length = n1 := ⟨_, rfl⟩
  rw [hn1] at hv1
  clear hn1
  subst hv1
  have B1 := Lib.hid (hb0.trans (hb1.mono hb0.size))
  clear HCC hr1 hb1 hb0
  go_wp2_with fail
  refine (CK.out _ (TB.out.keep B1.out)).mono ?_
  rintro e w2 ⟨v2, rfl, hr2, _, hb2⟩
  obtain ⟨a2, c2, hv2, _, _, _, _⟩ := hr2.shape
  subst hv2
  have B2 := Lib.hid (B1.out.trans (hb2.mono B1.out.size))
  clear hr2 hb2
  go_wp2_with fail
  refine (awake7 _ (TB.out.keep B2.out)).mono ?_
  rintro e w3 ⟨rfl, hb3⟩
  have B3 := Lib.hid (B2.out.trans (hb3.mono B2.out.size))
  clear hb3
  go_wp2_with fail
  refine (CI.out _ (TB.out.keep B3.out)).mono ?_
  rintro e w4 ⟨rfl, hb4⟩
  have B4 := Lib.hid (B3.out.trans (hb4.mono B3.out.size))
  clear hb4
  go_wp2
  go_ret
  exact ⟨rfl, B4.out⟩
set_option maxHeartbeats 8000000 in
theorem walk_full_hi (w : World) (x : Int) (hk : 3 < x) (tab : Tab w) :
    Calls Tryd.prog 5 #[.bool false, .int .i64 x] w fun e w' => e = .returned (.bool true) ∧ Below w.heap.size w w' := by
  obtain ⟨i0, hi, hz0, hz1, hz2⟩ := info_parts own_u8
  obtain ⟨z, hz, hze⟩ := z29
  have hzv := zero_arr hz
  have hzi : idv (List.replicate 20 0) = .agg z := by rw [hze]; rfl
  have hb : ¬ kindO x := by unfold kindO; omega
  have hP := printO_kind x [] hb
  have hS : sumO x [] = List.replicate 20 0 := by unfold sumO; rw [hP, if_neg (by decide)]
  have ids := fun u => eql_idv u (List.replicate 20 0) (List.replicate 20 0) (by simp) (by simp)
  rw [show (List.replicate 20 (0 : UInt8) == List.replicate 20 0) = true by simp, hzi] at ids
  have CK := Lib.hid (fun u (t : Tab u) => hP ▸ Print_any x none 0 0 [] u rfl (BAt.nil _ _) (fun _ => ⟨rfl, rfl⟩) (Nat.le_refl _) (Nat.zero_le _) t)
  have CI := Lib.hid (fun u (t : Tab u) => hzi ▸ hS ▸ Id_is x none 0 0 [] u rfl (BAt.nil _ _) (fun _ => ⟨rfl, rfl⟩) (Nat.le_refl _) (Nat.zero_le _) t)
  have TB := Lib.hid tab
  obtain ⟨N, hN⟩ : ∃ N : Nat, N = 65536 := ⟨_, rfl⟩
  have hb2 : i0.bytes * N ≤ 281474976710656 := by rw [hz2]; omega
  have hb3 : N ≤ maxLen := by unfold maxLen; omega
  have HC := Lib.hid (show (65536 : Int) = (N : Int) by omega)
  have HNN := Lib.hid hN
  clear hN tab hze hzi hP hb hS
  go_enter Tryd.func5, Tryd.ntmps5
  go_wp2_with (at_make; refine wpList_make_full _ rfl _ _ 22 rfl w.heap.size 5 i0 (.int .u8 0) 1 Tryd.underlying22 hi hz0 hz1 _ _ _ _ N rfl rfl HC.out HC.out hb2 hb3 (Nat.le_refl _) ?_)
  intro w0 hown0 hgr0
  have hb0 : Below w.heap.size w w0 := (Below.refl _ w).grown hgr0 (Nat.le_refl _) (fun k h => by cases h)
  have hbat := zeros_bat hown0
  have hlen : N = (List.replicate N (0 : UInt8)).length := List.length_replicate.symm
  have C := Print_any 2 (some ⟨w.heap.size, 0, none⟩) N N (List.replicate N 0) w0 hlen hbat (fun h => by cases h) (Nat.le_refl _) hb3 (TB.out.keep hb0)
  rw [printO_ok 2 (List.replicate N 0) (.inr (.inl rfl)) (by rw [← hlen, HNN.out]; decide)] at C
  have HCC := Lib.hid C
  clear hown0 hgr0 hbat hlen C hb2 hb3
  go_wp2_with fail
  refine HCC.out.mono ?_
  rintro e w1 ⟨v, rfl, hr1, _, hb1⟩
  obtain ⟨a1, c1, hv1, _, _, _, _⟩ := hr1.shape
  obtain ⟨n1, hn1⟩ : ∃ n1, (objO 2 (List.replicate N 0)).length = n1 := ⟨_, rfl⟩
  rw [hn1] at hv1
  clear hn1
  subst hv1
  have B1 := Lib.hid (hb0.trans (hb1.mono hb0.size))
  clear HCC hr1 hb1 hb0
  go_wp2_with fail
  refine (CK.out _ (TB.out.keep B1.out)).mono ?_
  rintro e w2 ⟨v2, rfl, hr2, _, hb2⟩
  obtain ⟨a2, c2, hv2, _, _, _, _⟩ := hr2.shape
  subst hv2
  have B2 := Lib.hid (B1.out.trans (hb2.mono B1.out.size))
  clear hr2 hb2
  go_wp2_with fail
  refine (awake7 _ (TB.out.keep B2.out)).mono ?_
  rintro e w3 ⟨rfl, hb3⟩
  have B3 := Lib.hid (B2.out.trans (hb3.mono B2.out.size))
  clear hb3
  go_wp2_with fail
  refine (CI.out _ (TB.out.keep B3.out)).mono ?_
  rintro e w4 ⟨rfl, hb4⟩
  have B4 := Lib.hid (B3.out.trans (hb4.mono B3.out.size))
  clear hb4
  go_wp2
  go_ret
  exact ⟨rfl, B4.out⟩
set_option maxHeartbeats 8000000 in
theorem walk_full_ok (w : World) (x : Int) (hk : 1 ≤ x) (hk2 : x ≤ 3) (tab : Tab w) :
    Calls Tryd.prog 5 #[.bool false, .int .i64 x] w fun e w' => e = .returned (.bool true) ∧ Below w.heap.size w w' := by
  obtain ⟨i0, hi, hz0, hz1, hz2⟩ := info_parts own_u8
  obtain ⟨z, hz, hze⟩ := z29
  have hzv := zero_arr hz
  have hzi : idv (List.replicate 20 0) = .agg z := by rw [hze]; rfl
  have hd1 : decide (x < 1) = false := decide_eq_false (by omega)
  have hd2 : decide (3 < x) = false := decide_eq_false (by omega)
  have hb : kindO x := by unfold kindO; omega
  have hP := printO_ok x [] hb (by simp)
  have CK := Lib.hid (fun u (t : Tab u) => hP ▸ Print_any x none 0 0 [] u rfl (BAt.nil _ _) (fun _ => ⟨rfl, rfl⟩) (Nat.le_refl _) (Nat.zero_le _) t)
  have hol : 0 < (objO x []).length := by rw [objO_length]; omega
  obtain ⟨ob, hob⟩ : ∃ ob, objO x [] = ob := ⟨_, rfl⟩
  rw [hob] at CK hol
  have TB := Lib.hid tab
  obtain ⟨N, hN⟩ : ∃ N : Nat, N = 65536 := ⟨_, rfl⟩
  have hb2 : i0.bytes * N ≤ 281474976710656 := by rw [hz2]; omega
  have hb3 : N ≤ maxLen := by unfold maxLen; omega
  have HC := Lib.hid (show (65536 : Int) = (N : Int) by omega)
  have HNN := Lib.hid hN
  clear hN tab hze hzi hP hb hob
  go_enter Tryd.func5, Tryd.ntmps5
  go_wp2_with (at_make; refine wpList_make_full _ rfl _ _ 22 rfl w.heap.size 5 i0 (.int .u8 0) 1 Tryd.underlying22 hi hz0 hz1 _ _ _ _ N rfl rfl HC.out HC.out hb2 hb3 (Nat.le_refl _) ?_)
  intro w0 hown0 hgr0
  have hb0 : Below w.heap.size w w0 := (Below.refl _ w).grown hgr0 (Nat.le_refl _) (fun k h => by cases h)
  have hbat := zeros_bat hown0
  have hlen : N = (List.replicate N (0 : UInt8)).length := List.length_replicate.symm
  have C := Print_any 2 (some ⟨w.heap.size, 0, none⟩) N N (List.replicate N 0) w0 hlen hbat (fun h => by cases h) (Nat.le_refl _) hb3 (TB.out.keep hb0)
  rw [printO_ok 2 (List.replicate N 0) (.inr (.inl rfl)) (by rw [← hlen, HNN.out]; decide)] at C
  have HCC := Lib.hid C
  clear hown0 hgr0 hbat hlen C hb2 hb3
  go_wp2_with fail
  refine HCC.out.mono ?_
  rintro e w1 ⟨v, rfl, hr1, _, hb1⟩
  obtain ⟨a1, c1, hv1, _, _, _, _⟩ := hr1.shape
  obtain ⟨n1, hn1⟩ : ∃ n1, (objO 2 (List.replicate N 0)).length = n1 := ⟨_, rfl⟩
  rw [hn1] at hv1
  clear hn1
  subst hv1
  have B1 := Lib.hid (hb0.trans (hb1.mono hb0.size))
  clear HCC hr1 hb1 hb0
  go_wp2_with fail
  refine (CK.out _ (TB.out.keep B1.out)).mono ?_
  rintro e w2 ⟨v2, rfl, hr2, _, hb2⟩
  obtain ⟨a2, c2, hv2, _, _, _, _⟩ := hr2.shape
  obtain ⟨n2, hn2⟩ : ∃ n2, ob.length = n2 := ⟨_, rfl⟩
  rw [hn2] at hv2 hol
  have hol2 : ((n2 : Int) == 0) = false := by rw [beq_eq_false_iff_ne]; omega
  clear hn2
  subst hv2
  have B2 := Lib.hid (B1.out.trans (hb2.mono B1.out.size))
  clear hr2 hb2
  go_wp2_with fail
  refine (awake7 _ (TB.out.keep B2.out)).mono ?_
  rintro e w3 ⟨rfl, hb3⟩
  have B3 := Lib.hid (B2.out.trans (hb3.mono B2.out.size))
  clear hb3
  go_wp2
  go_ret
  exact ⟨rfl, B3.out⟩
theorem walk (w : World) (x0 : Bool) (x : Int) (h0 : -9223372036854775808 ≤ x) (h1 : x ≤ 9223372036854775807) (tab : Tab w) :
    Calls Tryd.prog 5 #[.bool x0, .int .i64 x] w fun e w' => e = .returned (.bool true) ∧ Below w.heap.size w w' := by
  by_cases hlo : x < 1
  · cases x0 with
    | true => exact walk_more_lo w x hlo tab
    | false => exact walk_full_lo w x hlo tab
  · by_cases hhi : 3 < x
    · cases x0 with
      | true => exact walk_more_hi w x hhi tab
      | false => exact walk_full_hi w x hhi tab
    · cases x0 with
      | true => exact walk_more_ok w x (by omega) (by omega) tab
      | false => exact walk_full_ok w x (by omega) (by omega) tab
end Go.Proofs.YtbcbbkdfdfgnfaaDoor.objectLimit
