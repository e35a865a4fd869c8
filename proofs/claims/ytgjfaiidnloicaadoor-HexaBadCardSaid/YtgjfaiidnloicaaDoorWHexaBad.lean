/-
  The walk of HexaBad, over the contracts.
-/
import Derived.Test.YtgjfaiidnloicaaDoorAw
import Derived.Test.YtgjfaiidnloicaaDoorHo
import Derived.Test.YtgjfaiidnloicaaDoorHn
import Derived.Test.YtgjfaiidnloicaaDoorHm
import Derived.Test.YtgjfaiidnloicaaDoorSb
namespace Go.Proofs.YtgjfaiidnloicaaDoor.hexaBad
open Go.RowKit
set_option linter.unusedVariables false

theorem takeD_bad (m : Bool) (d : List UInt8) (i : Nat) (hi : i < d.length) (h : ¬ isD (d.getD i 0)) : takeD m d = none := by
  unfold takeD; rw [if_pos]; exact .inr (.inr (.inl fun h2 => h (h2 i hi)))
theorem tv_bad (l : List UInt8) (c : UInt8) (hl : l ≠ []) (hc : l.getD (l.length - 1) 0 = c) (h : ¬ isD c) (h45 : c ≠ 45) : tv l = (0, 4) := by
  have hn : takeN l = none := by
    match l, hl, hc with
    | [a], _, hc =>
      have e : a = c := hc
      simp only [takeN]
      rw [if_neg (by rw [e]; exact h45)]
      exact takeD_bad _ _ 0 (by simp) (by show ¬ isD a; rw [e]; exact h)
    | a :: b :: r, _, hc =>
      simp only [takeN]
      have e : (b :: r).getD r.length 0 = c := hc
      split
      · exact takeD_bad _ _ r.length (by simp) (by rw [e]; exact h)
      · exact takeD_bad _ _ (r.length + 1) (by simp) (by show ¬ isD ((b :: r).getD r.length 0); rw [e]; exact h)
  unfold tv; rw [if_neg hl, hn]
theorem uR_bad (l : List UInt8) (k : Nat) (hk : k < l.length) (h : dg (l.getD k 0) < 0) : uR l = ([], 4) := by
  unfold uR; rw [unhex_bad l k hk h]
set_option maxHeartbeats 400000 in
theorem aw (w : World) (a : Option Addr) (n c : Nat) (v x y : Int) (y0 : 0 ≤ y) (y1 : y ≤ 255) (hm : n ≤ maxLen) (tab : Tab w) (h : n = 0 ∨ 300 < n ∨ (48 ≤ y ∧ y ≤ 57) ∨ (97 ≤ y ∧ y ≤ 102) ∨ y = 45) :
    Calls Tryd.prog 7 #[.slice a n c, .int .i64 v, .int .i64 x, .int .u8 y] w fun e w' => e = .returned (.bool true) ∧ Below w.heap.size w w' := by
  unfold maxLen at hm
  have T := Lib.hid tab; clear tab
  have hy : y < 48 ∨ (48 ≤ y ∧ y ≤ 57) ∨ (57 < y ∧ y < 97) ∨ (97 ≤ y ∧ y ≤ 102) ∨ 102 < y := by omega
  by_cases h0 : n = 0
  · subst h0
    clear h
    rcases hy with hy | ⟨hy, hy'⟩ | ⟨hy, hy'⟩ | ⟨hy, hy'⟩ | hy
    all_goals
      go_enter Tryd.func7, Tryd.ntmps7
      go_wp2_with fail
      refine (awake_any _ T.out).mono ?_
      rintro e w1 ⟨rfl, hb⟩
      go_wp2
      go_ret
      exact ⟨rfl, hb⟩
  have hne : ((n : Int) == 0) = false := by rw [beq_eq_false_iff_ne]; omega
  by_cases h3 : 300 < n
  · clear h
    rcases hy with hy | ⟨hy, hy'⟩ | ⟨hy, hy'⟩ | ⟨hy, hy'⟩ | hy
    all_goals
      go_enter Tryd.func7, Tryd.ntmps7
      go_wp2_with fail
      refine (awake_any _ T.out).mono ?_
      rintro e w1 ⟨rfl, hb⟩
      go_wp2
      go_ret
      exact ⟨rfl, hb⟩
  by_cases h45 : y = 45
  · subst h45
    clear h hy
    go_enter Tryd.func7, Tryd.ntmps7
    go_wp2_with fail
    refine (awake_any _ T.out).mono ?_
    rintro e w1 ⟨rfl, hb⟩
    go_wp2
    go_ret
    exact ⟨rfl, hb⟩
  have hy2 : (48 ≤ y ∧ y ≤ 57) ∨ (97 ≤ y ∧ y ≤ 102) := by omega
  clear h hy
  rcases hy2 with ⟨hy, hy'⟩ | ⟨hy, hy'⟩
  all_goals
    go_enter Tryd.func7, Tryd.ntmps7
    go_wp2_with fail
    refine (awake_any _ T.out).mono ?_
    rintro e w1 ⟨rfl, hb⟩
    go_wp2
    go_ret
    exact ⟨rfl, hb⟩
set_option maxHeartbeats 1000000 in
theorem main (w : World) (a : Option Addr) (n c : Nat) (l : List UInt8) (hb : BAt w a l) (hl : n = l.length) (v : Int) (v0 : -9223372036854775808 ≤ v) (v1 : v ≤ 9223372036854775807) (x y : Int) (y0 : 0 ≤ y) (y1 : y ≤ 255) (tab : Tab w)
    (hn0 : 0 < n) (hn : n ≤ 300) (hd1 : ¬ (48 ≤ y ∧ y ≤ 57)) (hd2 : ¬ (97 ≤ y ∧ y ≤ 102)) (hd3 : y ≠ 45) :
    Calls Tryd.prog 7 #[.slice a n c, .int .i64 v, .int .i64 x, .int .u8 y] w fun e w' => e = .returned (.bool true) ∧ Below w.heap.size w w' := by
  have T := Lib.hid tab; clear tab
  have C1 := Lib.hid (Hex_any a n c l w hb hl (by omega))
  have C2 := Lib.hid (fun w tab => Number_any v v0 v1 w tab)
  have D1 := Lib.hid (fun w => str_bytes w (hexL l))
  have D2 := Lib.hid (fun w => str_bytes w (Lib.itoa v))
  obtain ⟨hx, hhx⟩ : ∃ h, h = hexL l := ⟨_, rfl⟩
  obtain ⟨nm, hnm⟩ : ∃ h, h = Lib.itoa v := ⟨_, rfl⟩
  have hxl : hx.length = 2 * n := by rw [hhx, hexL_length, hl]
  have hnl : 0 < nm.length ∧ nm.length ≤ 21 := by
    obtain ⟨_, h2, h3⟩ := take_itoa v v0 v1
    rw [hnm]; exact ⟨List.length_pos_iff.2 h2, h3⟩
  obtain ⟨hnl0, hnl1⟩ := hnl
  rw [← hhx] at C1 D1
  rw [← hnm] at C2 D2
  clear hhx hnm hl hb
  have hne1 : ((hx.length : Int) != 2 * (n : Int)) = false := by rw [hxl]; simp
  have hne2 : ((nm.length : Int) == 0) = false := by rw [beq_eq_false_iff_ne]; omega
  have hne3 : ((n : Int) == 0) = false := by simp; omega
  have hxb : hx.length ≤ 600 := by omega
  have hxb0 : 0 < hx.length := by omega
  obtain ⟨u, hu⟩ : ∃ u, IntKind.u64.wrap x = u := ⟨_, rfl⟩
  have hu0 : 0 ≤ u := by rw [← hu, IntKind.wrap_u64]; omega
  obtain ⟨k, hk⟩ : ∃ k : Nat, u.tmod (hx.length : Int) = k := ⟨(u % (hx.length : Int)).toNat, by
    rw [IntWalk.rem_in u _ hu0]
    have := Int.emod_nonneg u (show (hx.length : Int) ≠ 0 by omega)
    omega⟩
  have hk1 : k < hx.length := by
    rw [IntWalk.rem_in u _ hu0] at hk
    have := Int.emod_lt_of_pos u (show (0 : Int) < hx.length by omega)
    omega
  have HXL := Lib.hid hxl; clear hxl
  have hyb : (y == 45) = false := by simp; exact hd3
  obtain ⟨cy, hcy⟩ : ∃ cy : UInt8, y = (cy.toNat : Int) := ⟨UInt8.ofNat y.toNat, by rw [UInt8.toNat_ofNat']; omega⟩
  have hdg : dg cy < 0 := by unfold dg dig16; rw [← hcy, if_neg hd1, if_neg hd2]; omega
  have hisd : ¬ isD cy := by unfold isD; intro h; exact hd1 (by omega)
  have h45 : cy ≠ 45 := fun h => hd3 (by rw [hcy, h]; rfl)
  have HCY := Lib.hid hcy; clear hcy
  have C3 := Lib.hid (fun w => Unhex_all (hx.set k cy) (by rw [List.length_set]; omega) w)
  have e3 : uR (hx.set k cy) = ([], 4) := uR_bad _ k (by rw [List.length_set]; exact hk1) (by
    rw [List.getD_eq_getElem?_getD, List.getElem?_set_self hk1]; exact hdg)
  rw [e3] at C3
  obtain ⟨k2, hk2⟩ : ∃ k2, nm.length = k2 + 1 := ⟨nm.length - 1, by omega⟩
  have C4 := Lib.hid (fun w => Take_all (nm.set k2 cy) (by rw [List.length_set]; omega) w)
  have e4 : tv (nm.set k2 cy) = (0, 4) := tv_bad _ cy (by intro h; have := congrArg List.length h; rw [List.length_set] at this; have e : ([] : List UInt8).length = 0 := rfl; omega) (by
    rw [List.length_set, hk2, Nat.add_sub_cancel, List.getD_eq_getElem?_getD, List.getElem?_set_self (by omega)]; rfl) hisd h45
  rw [e4] at C4
  have hs1 : (hx.set k cy).length = hx.length := List.length_set ..
  have hs2 : (nm.set k2 cy).length = nm.length := List.length_set ..
  have HS1 := Lib.hid hs1; have HS2 := Lib.hid hs2; have HK2 := Lib.hid hk2
  have hlast : (nm.length : Int) - 1 = k2 := by omega
  have hk2l : k2 < nm.length := by omega
  clear e3 e4 hdg hisd h45 hs1 hs2 hk2
  have hcase : y < 48 ∨ (57 < y ∧ y < 97) ∨ 102 < y := by omega
  clear hd1 hd2 hd3
  rcases hcase with hy | ⟨hy, hy'⟩ | hy
  all_goals
    go_enter Tryd.func7, Tryd.ntmps7
    go_wp2_with fail
    refine C1.out.mono ?_
    rintro e w1 ⟨rfl, b1⟩
    obtain ⟨cap1, w2, cv1, b2, m2⟩ := D1.out w1
    have b12 := b1.trans (b2.mono b1.size)
    go_wp2_with fail
    refine (C2.out _ (T.out.keep b12)).mono ?_
    rintro e w3 ⟨rfl, b3⟩
    clear cv1
    obtain ⟨cap2, w4, cv2, b4, m4⟩ := D2.out w3
    have b13 := b12.trans (b3.mono b12.size)
    have b14 := b13.trans (b4.mono b13.size)
    go_wp2_with fail
    refine (awake_any _ (T.out.keep b14)).mono ?_
    rintro e w5 ⟨rfl, b5⟩
    have b15 := b14.trans (b5.mono b14.size)
    have q3 := b3.trans (b4.mono b3.size)
    have q5 := q3.trans (b5.mono q3.size)
    have m5 := m2.keep q5 (m2.lt)
    have n5 := m4.keep b5 (m4.lt)
    have HM5 := Lib.hid m5; have HN5 := Lib.hid n5
    have s1 : w.heap.size ≤ w1.heap.size := b1.size
    have s3 : w.heap.size ≤ w3.heap.size := b13.size
    have z5 : w1.heap.size < w3.heap.size := Nat.lt_of_lt_of_le m2.lt b3.size
    clear cv2 b1 b2 b12 b3 b4 b13 b14 b5 q3 q5 m2 m4 m5 n5
    have cell1 := HM5.out.cell k hk1
    have free1 := HM5.out.free k hk1
    have cell2 := HN5.out.cell k2 hk2l
    have free2 := HN5.out.free k2 hk2l
    have hdiff : ¬ w3.heap.size = w1.heap.size := by omega
    have hdiff2 : ¬ w1.heap.size = w3.heap.size := by omega
    have m6 := HM5.out.set k hk1 cy y HCY.out
    have n6 := HN5.out.other ⟨w1.heap.size, k, none⟩ hdiff (.int .u8 y)
    have b6 := b15.setCell (p := ⟨w1.heap.size, k, none⟩) s1 (.int .u8 y)
    have cell3 := n6.cell k2 hk2l
    have free3 := n6.free k2 hk2l
    have m7 := m6.other ⟨w3.heap.size, k2, none⟩ hdiff2 (.int .u8 y)
    have n7 := n6.set k2 hk2l cy y HCY.out
    have b7 := b6.setCell (p := ⟨w3.heap.size, k2, none⟩) s3 (.int .u8 y)
    have cv7 := m7.conv hx.length cap1 HS1.out.symm
    have HN7 := Lib.hid n7; have HB7 := Lib.hid b7
    clear m6 n6 b6 m7 n7 b7 b15
    go_wp2_with fail
    refine (C3.out _).mono ?_
    rintro e w8 ⟨g8, c8, rfl, _, _, b8⟩
    have n8 := HN7.out.keep b8 HN7.out.lt
    have cv8 := n8.conv nm.length cap2 HS2.out.symm
    have b78 := HB7.out.trans (b8.mono HB7.out.size)
    clear cv7 b8 n8
    go_wp2_with fail
    refine (C4.out _).mono ?_
    rintro e w9 ⟨rfl, b9⟩
    have b79 := b78.trans (b9.mono b78.size)
    go_wp2
    go_ret
    exact ⟨rfl, b79⟩

theorem walk (w : World) (a : Option Addr) (n c : Nat) (l : List UInt8) (hb : BAt w a l) (hl : n = l.length) (hn : a = none → n = 0 ∧ c = 0) (hc : n ≤ c ∧ c ≤ maxLen) (v : Int) (v0 : -9223372036854775808 ≤ v) (v1 : v ≤ 9223372036854775807) (x : Int) (x0 : -9223372036854775808 ≤ x) (x1 : x ≤ 9223372036854775807) (y : Int) (y0 : 0 ≤ y) (y1 : y ≤ 255) (tab : Tab w) :
    Calls Tryd.prog 7 #[.slice a n c, .int .i64 v, .int .i64 x, .int .u8 y] w fun e w' => e = .returned (.bool true) ∧ Below w.heap.size w w' := by
  by_cases h : n = 0 ∨ 300 < n ∨ (48 ≤ y ∧ y ≤ 57) ∨ (97 ≤ y ∧ y ≤ 102) ∨ y = 45
  · exact aw w a n c v x y y0 y1 (Nat.le_trans hc.1 hc.2) tab h
  · exact main w a n c l hb hl v v0 v1 x y y0 y1 tab (by omega) (by omega) (by omega) (by omega) (by omega)
end Go.Proofs.YtgjfaiidnloicaaDoor.hexaBad
