/-
  The law RevlogNil: its walk.
-/
import Derived.Test.YtgbmbemmkadagaaFu42
namespace Go.Proofs.Ytgbmbemmkadagaa.revlogNil
set_option maxRecDepth 20000
open Go.RowKit
set_option linter.unusedVariables false
set_option linter.unusedSimpArgs false

theorem eql_zz (w : World) : (binOp .eql 24 (.agg (arrD idZ)) (.agg (arrD idZ))).run Try.prog w = .ok (.bool true) w := by
  have := eql_arrD idZ idZ rfl rfl w
  rw [eqD_same] at this
  exact this
set_option maxHeartbeats 8000000 in
theorem walk_long (w : World) (a : Option Addr) (n c : Nat) (i : List UInt8) (m : Int) (hn : 1000 < n) :
    Calls Try.prog 5 #[.slice a n c, .agg (arrD i), .int .i64 m] w fun e w' => e = .returned (.bool true) ∧ Below w.heap.size w w' := by
  obtain ⟨A, hA⟩ : ∃ A, arrD i = A := ⟨_, rfl⟩
  rw [hA]
  have b1 := (Below.refl w.heap.size w).alloc (Nat.le_refl _) (.cells A 24)
  have B1 := Lib.hid b1
  have CAW := Lib.hid (awake15 (w.alloc (.cells A 24)))
  have d : decide ((n : Int) > 1000) = true := decide_eq_true (by omega)
  clear hn b1 hA
  go_enter Try.func5, Try.ntmps5
  go_wp2_with fail
  refine CAW.out.mono ?_
  rintro e w1 ⟨rfl, hb⟩
  have HB := Lib.hid (B1.out.trans (hb.mono B1.out.size))
  clear hb
  go_wp2
  go_ret
  exact ⟨rfl, HB.out⟩
set_option maxRecDepth 100000 in
set_option maxHeartbeats 16000000 in
theorem walk_short (w : World) (a : Option Addr) (n c : Nat) (i : List UInt8) (hi : i.length = 20) (m : Int) (hn : ¬ 1000 < n) :
    Calls Try.prog 5 #[.slice a n c, .agg (arrD i), .int .i64 m] w fun e w' => e = .returned (.bool true) ∧ Below w.heap.size w w' := by
  obtain ⟨z, hz0, hzs, hzv, hzb, hz1⟩ := zId_any
  have CAD := fun u => addL_nil a n c i i u
  have CTX := fun u => textL_nil i hi u
  have CPA := fun u => parentsL_nil i hi u
  have CND := fun u => nodeN_nil m u
  have ez := fun u => eql_zz u
  rw [← hz0] at CAD CPA CND ez
  obtain ⟨A, hA⟩ : ∃ A, arrD i = A := ⟨_, rfl⟩
  have IA := Lib.hid (infoD_arr A (by rw [← hA]; exact arrD_size i hi))
  rw [hA] at CAD CTX CPA ⊢
  have CAD := Lib.hid CAD; have CTX := Lib.hid CTX; have CPA := Lib.hid CPA; have CND := Lib.hid CND
  have CLN := Lib.hid (fun u => lenL_nil u); have CCH := Lib.hid (fun u => chainN_nil m u)
  have CAW := Lib.hid (fun u => awake15 u)
  have b1 := (Below.refl w.heap.size w).alloc (Nat.le_refl _) (.cells A 24)
  have B1 := Lib.hid b1
  have X1 := Lib.hid (heap_alloc_new w (.cells A 24))
  have ZB := Lib.hid hzb; have Z1 := Lib.hid hz1; have IZ := Lib.hid (infoD_arr z hzs)
  have d : decide ((n : Int) > 1000) = false := decide_eq_false (by omega)
  clear hn b1 hA hz0 hzs hzb hz1 hi
  go_enter Try.func5, Try.ntmps5
  go_wp2_with (first
    | (with_reducible refine wpList_load_all 24 (.tmp 4) rfl (by kernel_rfl) w.heap.size A 24 (0, 0) rfl X1.out _ Try.underlying24 rfl IA.out ?_)
    | fail)
  refine (CAD.out _).mono ?_
  rintro e w2 ⟨rfl, hb2⟩
  have B2 := Lib.hid (B1.out.trans (hb2.mono B1.out.size))
  have B2a := Lib.hid (B2.out.alloc B2.out.size (.cells z 24))
  have N2 := Lib.hid (heap_alloc_new w2 (.cells z 24))
  have X2 := Lib.hid ((Below.heap_alloc w2 (.cells z 24) w.heap.size (Nat.lt_of_lt_of_le (lt_of_heap X1.out) hb2.size)).trans ((hb2.block _ (lt_of_heap X1.out)).trans X1.out))
  have S2 := Lib.hid (show w.heap.size < w2.heap.size from Nat.lt_of_lt_of_le (lt_of_heap X1.out) hb2.size)
  clear hb2
  go_wp2_with (first
    | (with_reducible refine wpList_store_all rfl 24 (.tmp 8) (.tmp 27) rfl w2.heap.size z rfl rfl 24 z N2.out IZ.out rfl Z1.out ?_; intro w3 r3 o3 s3; have R3 := Lib.hid r3; have X3 := Lib.hid ((o3.block w.heap.size (lt_of_heap X2.out) (by have := S2.out; omega)).trans X2.out); have B3 := Lib.hid (B2a.out.trans (o3.below (B := w.heap.size) B2.out.size B2a.out.size)); clear r3 o3 s3)
    | (with_reducible refine wpList_load_all 24 (.tmp 4) rfl (by kernel_rfl) w.heap.size A 24 (0, 0) rfl X3.out _ Try.underlying24 rfl IA.out ?_)
    | fail)
  refine (CTX.out _).mono ?_
  rintro e w4 ⟨rfl, hb4⟩
  have B4 := Lib.hid (B3.out.trans (hb4.mono B3.out.size))
  have X4 := Lib.hid ((hb4.block _ (lt_of_heap X3.out)).trans X3.out)
  have R4 := Lib.hid ((hb4.block _ (lt_of_heap R3.out)).trans R3.out)
  clear hb4 X1 X2 X3 R3 B1 B2 B2a B3 N2
  go_wp2_with (first
    | (with_reducible refine wpList_load_all 24 (.tmp 4) rfl (by kernel_rfl) w.heap.size A 24 (0, 0) rfl X4.out _ Try.underlying24 rfl IA.out ?_)
    | fail)
  refine (CPA.out _).mono ?_
  rintro e w5 ⟨rfl, hb5⟩
  have B5 := Lib.hid (B4.out.trans (hb5.mono B4.out.size))
  have R5 := Lib.hid ((hb5.block _ (lt_of_heap R4.out)).trans R4.out)
  have L5 := Lib.hid (lt_of_heap R5.out)
  have b6 := B5.out.alloc B5.out.size (.cells z 24)
  have b7 := b6.alloc b6.size (.cells z 24)
  have e6 : (w5.alloc (.cells z 24)).heap.size = w5.heap.size + 1 := by simp
  have n6 := (Below.heap_alloc (w5.alloc (.cells z 24)) (.cells z 24) w5.heap.size (by simp)).trans (heap_alloc_new w5 (.cells z 24))
  have n7 := heap_alloc_new (w5.alloc (.cells z 24)) (.cells z 24)
  rw [e6] at n7
  have R6 := Lib.hid ((Below.heap_alloc (w5.alloc (.cells z 24)) (.cells z 24) w2.heap.size (by have := L5.out; simp; omega)).trans ((Below.heap_alloc w5 (.cells z 24) w2.heap.size L5.out).trans R5.out))
  have N6 := Lib.hid n6; have N7 := Lib.hid n7; have B7 := Lib.hid b7
  have S5 := Lib.hid (show w.heap.size ≤ w5.heap.size from B5.out.size)
  clear hb5 n6 n7 b6 b7 e6 X4 R4 B4
  go_wp2_with (first
    | (with_reducible refine wpList_store_all rfl 24 (.tmp 12) (.tmp 39) rfl w5.heap.size z rfl rfl 24 z N6.out IZ.out rfl Z1.out ?_; intro w8 r8 o8 s8; have P8 := Lib.hid r8; have R8 := Lib.hid ((o8.block w2.heap.size (lt_of_heap R6.out) (by have := L5.out; omega)).trans R6.out); have N8 := Lib.hid ((o8.block (w5.heap.size + 1) (lt_of_heap N7.out) (by omega)).trans N7.out); have B8 := Lib.hid (B7.out.trans (o8.below (B := w.heap.size) S5.out B7.out.size)); clear r8 o8 s8)
    | (with_reducible refine wpList_store_all rfl 24 (.tmp 13) (.tmp 40) rfl (w5.heap.size + 1) z rfl rfl 24 z N8.out IZ.out rfl Z1.out ?_; intro w9 r9 o9 s9; have Q9 := Lib.hid r9; have R9 := Lib.hid ((o9.block w2.heap.size (lt_of_heap R8.out) (by have := L5.out; omega)).trans R8.out); have P9 := Lib.hid ((o9.block w5.heap.size (lt_of_heap P8.out) (by omega)).trans P8.out); have B9 := Lib.hid (B8.out.trans (o9.below (B := w.heap.size) (by have := S5.out; omega) B8.out.size)); clear r9 o9 s9)
    | fail)
  refine (CND.out _).mono ?_
  rintro e w10 ⟨rfl, hb10⟩
  have B10 := Lib.hid (B9.out.trans (hb10.mono B9.out.size))
  have R10 := Lib.hid ((hb10.block _ (lt_of_heap R9.out)).trans R9.out)
  have P10 := Lib.hid ((hb10.block _ (lt_of_heap P9.out)).trans P9.out)
  have Q10 := Lib.hid ((hb10.block _ (lt_of_heap Q9.out)).trans Q9.out)
  have N10 := Lib.hid (heap_alloc_new w10 (.cells z 24))
  have B10a := Lib.hid (B10.out.alloc B10.out.size (.cells z 24))
  clear hb10 R5 R6 N6 N7 B5 B7 P8 R8 N8 B8 R9 P9 Q9 B9
  go_wp2_with (first
    | (with_reducible refine wpList_store_all rfl 24 (.tmp 15) (.tmp 46) rfl w10.heap.size z rfl rfl 24 z N10.out IZ.out rfl Z1.out ?_; intro w11 r11 o11 s11; have I11 := Lib.hid r11; have k11 := Below.heap_alloc w10 (.cells z 24); have R11 := Lib.hid ((o11.block w2.heap.size (by have := lt_of_heap R10.out; simp; omega) (by have := lt_of_heap R10.out; omega)).trans ((k11 _ (lt_of_heap R10.out)).trans R10.out)); have P11 := Lib.hid ((o11.block w5.heap.size (by have := lt_of_heap P10.out; simp; omega) (by have := lt_of_heap P10.out; omega)).trans ((k11 _ (lt_of_heap P10.out)).trans P10.out)); have Q11 := Lib.hid ((o11.block (w5.heap.size + 1) (by have := lt_of_heap Q10.out; simp; omega) (by have := lt_of_heap Q10.out; omega)).trans ((k11 _ (lt_of_heap Q10.out)).trans Q10.out)); have B11 := Lib.hid (B10a.out.trans (o11.below (B := w.heap.size) B10.out.size B10a.out.size)); clear r11 o11 s11 k11)
    | fail)
  refine (CAW.out _).mono ?_
  rintro e w12 ⟨rfl, hb12⟩
  have B12 := Lib.hid (B11.out.trans (hb12.mono B11.out.size))
  have R12 := Lib.hid ((hb12.block _ (lt_of_heap R11.out)).trans R11.out)
  have P12 := Lib.hid ((hb12.block _ (lt_of_heap P11.out)).trans P11.out)
  have Q12 := Lib.hid ((hb12.block _ (lt_of_heap Q11.out)).trans Q11.out)
  have I12 := Lib.hid ((hb12.block _ (lt_of_heap I11.out)).trans I11.out)
  clear hb12 R10 P10 Q10 N10 B10 B10a I11 R11 P11 Q11 B11
  go_wp2_with (first
    | (with_reducible refine wpList_load_all 24 (.tmp 8) rfl (by kernel_rfl) w2.heap.size z 24 (0, 0) rfl R12.out _ Try.underlying24 rfl IZ.out ?_)
    | (with_reducible refine wpList_load_all 24 (.tmp 12) rfl (by kernel_rfl) w5.heap.size z 24 (0, 0) rfl P12.out _ Try.underlying24 rfl IZ.out ?_)
    | (with_reducible refine wpList_load_all 24 (.tmp 13) rfl (by kernel_rfl) (w5.heap.size + 1) z 24 (0, 0) rfl Q12.out _ Try.underlying24 rfl IZ.out ?_)
    | fail)
  refine (CLN.out _).mono ?_
  rintro e w13 ⟨rfl, rfl⟩
  go_wp2_with (first
    | (with_reducible refine wpList_load_all 24 (.tmp 15) rfl (by kernel_rfl) w10.heap.size z 24 (0, 0) rfl I12.out _ Try.underlying24 rfl IZ.out ?_)
    | fail)
  refine (CCH.out _).mono ?_
  rintro e w14 ⟨rfl, hb14⟩
  have B14 := Lib.hid (B12.out.trans (hb14.mono B12.out.size))
  clear hb14
  go_wp2
  go_ret
  exact ⟨rfl, B14.out⟩
theorem walk (w : World) (a : Option Addr) (n c : Nat) (l : List UInt8) (e0 : n = l.length) (h0 : BAt w a l) (hno : a = none → n = 0 ∧ c = 0) (hc : n ≤ c ∧ c ≤ maxLen) (i : List UInt8) (hi : i.length = 20) (m : Int) (hm1 : -9223372036854775808 ≤ m) (hm2 : m ≤ 9223372036854775807) :
    Calls Try.prog 5 #[.slice a n c, .agg (arrD i), .int .i64 m] w fun e w' => e = .returned (.bool true) ∧ Below w.heap.size w w' := by
  by_cases hn : 1000 < n
  · exact walk_long w a n c i m hn
  · exact walk_short w a n c i hi m hn
end Go.Proofs.Ytgbmbemmkadagaa.revlogNil
