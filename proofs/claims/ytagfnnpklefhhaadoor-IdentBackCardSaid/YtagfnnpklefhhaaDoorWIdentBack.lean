/-
  The law IdentBack: its walk. (Made by tools/genback.py.)
-/
import Derived.Test.YtagfnnpklefhhaaDoorKg
namespace Go.Proofs.YtagfnnpklefhhaaDoor.identBack
open Go.RowKit
set_option linter.unusedVariables false
set_option linter.unusedSimpArgs false

set_option maxHeartbeats 16000000 in
set_option maxRecDepth 100000 in
theorem back_ty (w : World) (i : Idt) (s : List UInt8) (hn : i.name.length ≤ 500) (he : i.email.length ≤ 500) (hs : s.length ≤ 1000) (hr : rightI i = true) (y : Idt) (hy : parseP Lib.itoa takeN s = some y) (tab : T7 w) :
    Calls Tryd.prog 4 #[idtV i, .string ⟨s.toArray⟩] w fun e w' => e = .returned (.bool true) ∧ Below w.heap.size w w' := by
  have cP := fun w t => Print_is i (by omega) (by omega) w t
  have cX := fun w t => Parse_is (printI Lib.itoa i) (by have := print_len i; omega) w t
  have cY := fun w t => Parse_is s (by omega) w t
  have cA := fun w t => awake_ident w t
  have cR := fun w t => rRight_is i (by omega) (by omega) w t
  rw [hy] at cY
  rw [hr] at cR
  rw [parse_right i hr, idtA_some] at cX
  obtain ⟨ry, py⟩ := parse_some s y hy
  have yl := right_len y ry
  have cRy := fun w t => Right_is y (by omega) (by omega) w t
  have cPy := fun w t => Print_is y (by omega) (by omega) w t
  rw [ry] at cRy
  rw [py] at cPy
  rw [idtA_some] at cY
  unfold idtV at cRy cPy
  unfold idtV at cP cR ⊢
  have zn := size_toArray i.name
  have ze := size_toArray i.email
  have zs := size_toArray s
  have g1 : ¬ ((i.name.length : Nat) : Int) > 500 := by omega
  have g2 : ¬ ((i.email.length : Nat) : Int) > 500 := by omega
  have g3 : ¬ ((s.length : Nat) : Int) > 1000 := by omega
  clear hr hy ry py yl
  generalize (⟨y.name.toArray⟩ : ByteArray) = yn at *
  generalize (⟨y.email.toArray⟩ : ByteArray) = ye at *
  generalize y.whn = yt at *
  generalize y.zone = yz at *
  generalize (⟨i.name.toArray⟩ : ByteArray) = xn at *
  generalize (⟨i.email.toArray⟩ : ByteArray) = xe at *
  generalize (⟨s.toArray⟩ : ByteArray) = xs at *
  generalize i.whn = xt at *
  generalize i.zone = xz at *
  have TAB := Lib.hid tab
  have B0 := Lib.hid ((Below.refl w.heap.size w).alloc (Nat.le_refl _) (.cells #[.string xn, .string xe, .int .i64 xt, .int .i64 xz] 23))
  have T0 := Lib.hid (TAB.out.keep B0.out)
  have A0 := Lib.hid (heap_alloc_new w (.cells #[.string xn, .string xe, .int .i64 xt, .int .i64 xz] 23))
  clear tab
  go_enter Tryd.func4, Tryd.ntmps4
  go_wp2_with fail
  refine (cP _ T0.out.t6).mono ?_
  rintro e w1 ⟨rfl, b1⟩
  have B1 := Lib.hid (B0.out.trans (b1.mono B0.out.size))
  have T1 := Lib.hid (T0.out.keep b1)
  have A1 := Lib.hid ((b1.block _ (lt_heap A0.out)).trans A0.out)
  clear b1 B0 T0 A0 cP
  go_wp2_with fail
  refine (cX _ T1.out).mono ?_
  rintro e w2 ⟨rfl, b2⟩
  have B2 := Lib.hid (B1.out.trans (b2.mono B1.out.size))
  have T2 := Lib.hid (T1.out.keep b2)
  have A2 := Lib.hid ((b2.block _ (lt_heap A1.out)).trans A1.out)
  clear b2 B1 T1 A1 cX
  go_wp2_with (first
    | (with_reducible refine wpList_store_idt rfl (.tmp 5) (.tmp 29) rfl w2.heap.size _ _ _ _ _ _ _ _ rfl rfl (heap_alloc_new w2 _) (by simp [Value.oneCell']) ?_)
    | fail)
  intro w3 h3 d3 k3 z3
  have B3 := Lib.hid (d3 w.heap.size w B2.out.size (B2.out.alloc B2.out.size _))
  have A3 := Lib.hid ((k3 w.heap.size (Nat.ne_of_lt (lt_heap A2.out))).trans ((heap_alloc_old w2 _ (lt_heap A2.out)).trans A2.out))
  have T3 := Lib.hid (TAB.out.keep B3.out)
  have X3 := Lib.hid h3
  have O3 := Lib.hid (lt_heap A2.out)
  clear h3 d3 k3 z3 B2 A2 T2
  generalize w2.heap.size = xa at X3 O3 ⊢
  go_wp2_with fail
  refine (cY _ T3.out).mono ?_
  rintro e w4 ⟨rfl, b4⟩
  have B4 := Lib.hid (B3.out.trans (b4.mono B3.out.size))
  have A4 := Lib.hid ((b4.block _ (lt_heap A3.out)).trans A3.out)
  have X4 := Lib.hid ((b4.block _ (lt_heap X3.out)).trans X3.out)
  clear b4 B3 T3 A3 X3 cY
  go_wp2_with (first
    | (with_reducible refine wpList_store_idt rfl (.tmp 7) (.tmp 34) rfl w4.heap.size _ _ _ _ _ _ _ _ rfl rfl (heap_alloc_new w4 _) (by simp [Value.oneCell']) ?_)
    | fail)
  intro w5 h5 d5 k5 z5
  have B5 := Lib.hid (d5 w.heap.size w B4.out.size (B4.out.alloc B4.out.size _))
  have A5 := Lib.hid ((k5 w.heap.size (Nat.ne_of_lt (lt_heap A4.out))).trans ((heap_alloc_old w4 _ (lt_heap A4.out)).trans A4.out))
  have X5 := Lib.hid ((k5 xa (Nat.ne_of_lt (lt_heap X4.out))).trans ((heap_alloc_old w4 _ (lt_heap X4.out)).trans X4.out))
  have T5 := Lib.hid (TAB.out.keep B5.out)
  have Y5 := Lib.hid h5
  clear h5 d5 k5 z5 B4 A4 X4
  generalize w4.heap.size = ya at Y5 ⊢
  go_wp2_with fail
  refine (cA _ T5.out.t6).mono ?_
  rintro e w6 ⟨rfl, b6⟩
  have B6 := Lib.hid (B5.out.trans (b6.mono B5.out.size))
  have T6' := Lib.hid (T5.out.keep b6)
  have hA6 := (b6.block _ (lt_heap A5.out)).trans A5.out
  have hX6 := (b6.block _ (lt_heap X5.out)).trans X5.out
  have hY6 := (b6.block _ (lt_heap Y5.out)).trans Y5.out
  obtain ⟨a0, a1, a2, a3⟩ := cells4 hA6
  have A6 := Lib.hid hA6; have X6 := Lib.hid hX6; have Y6 := Lib.hid hY6
  clear b6 B5 T5 A5 X5 Y5 hA6 hX6 hY6 cA TAB
  go_wp2_with fail
  refine (cR _ T6'.out.t6).mono ?_
  rintro e w7 ⟨rfl, b7⟩
  have B7 := Lib.hid (B6.out.trans (b7.mono B6.out.size))
  have T7' := Lib.hid (T6'.out.keep b7)
  obtain ⟨p0, p1, p2, p3⟩ := cells4 ((b7.block _ (lt_heap A6.out)).trans A6.out)
  obtain ⟨q0, q1, q2, q3⟩ := cells4 ((b7.block _ (lt_heap X6.out)).trans X6.out)
  have hY7 := (b7.block _ (lt_heap Y6.out)).trans Y6.out
  obtain ⟨r0, r1, r2, r3⟩ := cells4 hY7
  have Y7 := Lib.hid hY7
  clear b7 hY7 B6 T6' A6 X6 Y6 a0 a1 a2 a3 cR
  go_wp2_with fail
  refine (cRy _ T7'.out.t6).mono ?_
  rintro e w8 ⟨rfl, b8⟩
  have B8 := Lib.hid (B7.out.trans (b8.mono B7.out.size))
  have T8' := Lib.hid (T7'.out.keep b8)
  obtain ⟨s0, s1, s2, s3⟩ := cells4 ((b8.block _ (lt_heap Y7.out)).trans Y7.out)
  clear b8 B7 T7' Y7 p0 p1 p2 p3 q0 q1 q2 q3 r0 r1 r2 r3 cRy
  go_wp2_with fail
  refine (cPy _ T8'.out.t6).mono ?_
  rintro e w9 ⟨rfl, b9⟩
  have B9 := Lib.hid (B8.out.trans (b9.mono B8.out.size))
  clear b9 B8 T8' cPy
  go_wp2
  go_ret
  exact ⟨by first | rfl | (apply ret_bool; simp), B9.out⟩
set_option maxHeartbeats 16000000 in
set_option maxRecDepth 100000 in
theorem back_tn (w : World) (i : Idt) (s : List UInt8) (hn : i.name.length ≤ 500) (he : i.email.length ≤ 500) (hs : s.length ≤ 1000) (hr : rightI i = true) (hy : parseP Lib.itoa takeN s = none) (tab : T7 w) :
    Calls Tryd.prog 4 #[idtV i, .string ⟨s.toArray⟩] w fun e w' => e = .returned (.bool true) ∧ Below w.heap.size w w' := by
  have cP := fun w t => Print_is i (by omega) (by omega) w t
  have cX := fun w t => Parse_is (printI Lib.itoa i) (by have := print_len i; omega) w t
  have cY := fun w t => Parse_is s (by omega) w t
  have cA := fun w t => awake_ident w t
  have cR := fun w t => rRight_is i (by omega) (by omega) w t
  rw [hy] at cY
  rw [hr] at cR
  rw [parse_right i hr, idtA_some] at cX
  rw [idtA_none] at cY
  unfold idtV at cP cR ⊢
  have zn := size_toArray i.name
  have ze := size_toArray i.email
  have zs := size_toArray s
  have g1 : ¬ ((i.name.length : Nat) : Int) > 500 := by omega
  have g2 : ¬ ((i.email.length : Nat) : Int) > 500 := by omega
  have g3 : ¬ ((s.length : Nat) : Int) > 1000 := by omega
  clear hr hy
  generalize (⟨i.name.toArray⟩ : ByteArray) = xn at *
  generalize (⟨i.email.toArray⟩ : ByteArray) = xe at *
  generalize (⟨s.toArray⟩ : ByteArray) = xs at *
  generalize i.whn = xt at *
  generalize i.zone = xz at *
  have TAB := Lib.hid tab
  have B0 := Lib.hid ((Below.refl w.heap.size w).alloc (Nat.le_refl _) (.cells #[.string xn, .string xe, .int .i64 xt, .int .i64 xz] 23))
  have T0 := Lib.hid (TAB.out.keep B0.out)
  have A0 := Lib.hid (heap_alloc_new w (.cells #[.string xn, .string xe, .int .i64 xt, .int .i64 xz] 23))
  clear tab
  go_enter Tryd.func4, Tryd.ntmps4
  go_wp2_with fail
  refine (cP _ T0.out.t6).mono ?_
  rintro e w1 ⟨rfl, b1⟩
  have B1 := Lib.hid (B0.out.trans (b1.mono B0.out.size))
  have T1 := Lib.hid (T0.out.keep b1)
  have A1 := Lib.hid ((b1.block _ (lt_heap A0.out)).trans A0.out)
  clear b1 B0 T0 A0 cP
  go_wp2_with fail
  refine (cX _ T1.out).mono ?_
  rintro e w2 ⟨rfl, b2⟩
  have B2 := Lib.hid (B1.out.trans (b2.mono B1.out.size))
  have T2 := Lib.hid (T1.out.keep b2)
  have A2 := Lib.hid ((b2.block _ (lt_heap A1.out)).trans A1.out)
  clear b2 B1 T1 A1 cX
  go_wp2_with (first
    | (with_reducible refine wpList_store_idt rfl (.tmp 5) (.tmp 29) rfl w2.heap.size _ _ _ _ _ _ _ _ rfl rfl (heap_alloc_new w2 _) (by simp [Value.oneCell']) ?_)
    | fail)
  intro w3 h3 d3 k3 z3
  have B3 := Lib.hid (d3 w.heap.size w B2.out.size (B2.out.alloc B2.out.size _))
  have A3 := Lib.hid ((k3 w.heap.size (Nat.ne_of_lt (lt_heap A2.out))).trans ((heap_alloc_old w2 _ (lt_heap A2.out)).trans A2.out))
  have T3 := Lib.hid (TAB.out.keep B3.out)
  have X3 := Lib.hid h3
  have O3 := Lib.hid (lt_heap A2.out)
  clear h3 d3 k3 z3 B2 A2 T2
  generalize w2.heap.size = xa at X3 O3 ⊢
  go_wp2_with fail
  refine (cY _ T3.out).mono ?_
  rintro e w4 ⟨rfl, b4⟩
  have B4 := Lib.hid (B3.out.trans (b4.mono B3.out.size))
  have A4 := Lib.hid ((b4.block _ (lt_heap A3.out)).trans A3.out)
  have X4 := Lib.hid ((b4.block _ (lt_heap X3.out)).trans X3.out)
  clear b4 B3 T3 A3 X3 cY
  go_wp2_with (first
    | (with_reducible refine wpList_store_idt rfl (.tmp 7) (.tmp 34) rfl w4.heap.size _ _ _ _ _ _ _ _ rfl rfl (heap_alloc_new w4 _) (by simp [Value.oneCell']) ?_)
    | fail)
  intro w5 h5 d5 k5 z5
  have B5 := Lib.hid (d5 w.heap.size w B4.out.size (B4.out.alloc B4.out.size _))
  have A5 := Lib.hid ((k5 w.heap.size (Nat.ne_of_lt (lt_heap A4.out))).trans ((heap_alloc_old w4 _ (lt_heap A4.out)).trans A4.out))
  have X5 := Lib.hid ((k5 xa (Nat.ne_of_lt (lt_heap X4.out))).trans ((heap_alloc_old w4 _ (lt_heap X4.out)).trans X4.out))
  have T5 := Lib.hid (TAB.out.keep B5.out)
  have Y5 := Lib.hid h5
  clear h5 d5 k5 z5 B4 A4 X4
  generalize w4.heap.size = ya at Y5 ⊢
  go_wp2_with fail
  refine (cA _ T5.out.t6).mono ?_
  rintro e w6 ⟨rfl, b6⟩
  have B6 := Lib.hid (B5.out.trans (b6.mono B5.out.size))
  have T6' := Lib.hid (T5.out.keep b6)
  have hA6 := (b6.block _ (lt_heap A5.out)).trans A5.out
  have hX6 := (b6.block _ (lt_heap X5.out)).trans X5.out
  have hY6 := (b6.block _ (lt_heap Y5.out)).trans Y5.out
  obtain ⟨a0, a1, a2, a3⟩ := cells4 hA6
  have A6 := Lib.hid hA6; have X6 := Lib.hid hX6; have Y6 := Lib.hid hY6
  clear b6 B5 T5 A5 X5 Y5 hA6 hX6 hY6 cA TAB
  go_wp2_with fail
  refine (cR _ T6'.out.t6).mono ?_
  rintro e w7 ⟨rfl, b7⟩
  have B7 := Lib.hid (B6.out.trans (b7.mono B6.out.size))
  have T7' := Lib.hid (T6'.out.keep b7)
  obtain ⟨p0, p1, p2, p3⟩ := cells4 ((b7.block _ (lt_heap A6.out)).trans A6.out)
  obtain ⟨q0, q1, q2, q3⟩ := cells4 ((b7.block _ (lt_heap X6.out)).trans X6.out)
  have hY7 := (b7.block _ (lt_heap Y6.out)).trans Y6.out
  obtain ⟨r0, r1, r2, r3⟩ := cells4 hY7
  have Y7 := Lib.hid hY7
  clear b7 hY7 B6 T6' A6 X6 Y6 a0 a1 a2 a3 cR
  go_wp2
  go_ret
  exact ⟨by first | rfl | (apply ret_bool; simp), B7.out⟩
set_option maxHeartbeats 16000000 in
set_option maxRecDepth 100000 in
theorem back_fy (w : World) (i : Idt) (s : List UInt8) (hn : i.name.length ≤ 500) (he : i.email.length ≤ 500) (hs : s.length ≤ 1000) (hr : rightI i = false) (y : Idt) (hy : parseP Lib.itoa takeN s = some y) (tab : T7 w) :
    Calls Tryd.prog 4 #[idtV i, .string ⟨s.toArray⟩] w fun e w' => e = .returned (.bool true) ∧ Below w.heap.size w w' := by
  have cP := fun w t => Print_is i (by omega) (by omega) w t
  have cX := fun w t => Parse_is (printI Lib.itoa i) (by have := print_len i; omega) w t
  have cY := fun w t => Parse_is s (by omega) w t
  have cA := fun w t => awake_ident w t
  have cR := fun w t => rRight_is i (by omega) (by omega) w t
  rw [hy] at cY
  rw [hr] at cR
  have hp : printI Lib.itoa i = [] := by unfold printI; rw [hr]; rfl
  rw [hp] at cX cP
  rw [parse_nil, idtA_none] at cX
  obtain ⟨ry, py⟩ := parse_some s y hy
  have yl := right_len y ry
  have cRy := fun w t => Right_is y (by omega) (by omega) w t
  have cPy := fun w t => Print_is y (by omega) (by omega) w t
  rw [ry] at cRy
  rw [py] at cPy
  rw [idtA_some] at cY
  unfold idtV at cRy cPy
  unfold idtV at cP cR ⊢
  have zn := size_toArray i.name
  have ze := size_toArray i.email
  have zs := size_toArray s
  have g1 : ¬ ((i.name.length : Nat) : Int) > 500 := by omega
  have g2 : ¬ ((i.email.length : Nat) : Int) > 500 := by omega
  have g3 : ¬ ((s.length : Nat) : Int) > 1000 := by omega
  clear hr hy ry py yl hp
  generalize (⟨y.name.toArray⟩ : ByteArray) = yn at *
  generalize (⟨y.email.toArray⟩ : ByteArray) = ye at *
  generalize y.whn = yt at *
  generalize y.zone = yz at *
  generalize (⟨i.name.toArray⟩ : ByteArray) = xn at *
  generalize (⟨i.email.toArray⟩ : ByteArray) = xe at *
  generalize (⟨s.toArray⟩ : ByteArray) = xs at *
  generalize i.whn = xt at *
  generalize i.zone = xz at *
  have TAB := Lib.hid tab
  have B0 := Lib.hid ((Below.refl w.heap.size w).alloc (Nat.le_refl _) (.cells #[.string xn, .string xe, .int .i64 xt, .int .i64 xz] 23))
  have T0 := Lib.hid (TAB.out.keep B0.out)
  have A0 := Lib.hid (heap_alloc_new w (.cells #[.string xn, .string xe, .int .i64 xt, .int .i64 xz] 23))
  clear tab
  go_enter Tryd.func4, Tryd.ntmps4
  go_wp2_with fail
  refine (cP _ T0.out.t6).mono ?_
  rintro e w1 ⟨rfl, b1⟩
  have B1 := Lib.hid (B0.out.trans (b1.mono B0.out.size))
  have T1 := Lib.hid (T0.out.keep b1)
  have A1 := Lib.hid ((b1.block _ (lt_heap A0.out)).trans A0.out)
  clear b1 B0 T0 A0 cP
  go_wp2_with fail
  refine (cX _ T1.out).mono ?_
  rintro e w2 ⟨rfl, b2⟩
  have B2 := Lib.hid (B1.out.trans (b2.mono B1.out.size))
  have T2 := Lib.hid (T1.out.keep b2)
  have A2 := Lib.hid ((b2.block _ (lt_heap A1.out)).trans A1.out)
  clear b2 B1 T1 A1 cX
  go_wp2_with (first
    | (with_reducible refine wpList_store_idt rfl (.tmp 5) (.tmp 29) rfl w2.heap.size _ _ _ _ _ _ _ _ rfl rfl (heap_alloc_new w2 _) (by simp [Value.oneCell']) ?_)
    | fail)
  intro w3 h3 d3 k3 z3
  have B3 := Lib.hid (d3 w.heap.size w B2.out.size (B2.out.alloc B2.out.size _))
  have A3 := Lib.hid ((k3 w.heap.size (Nat.ne_of_lt (lt_heap A2.out))).trans ((heap_alloc_old w2 _ (lt_heap A2.out)).trans A2.out))
  have T3 := Lib.hid (TAB.out.keep B3.out)
  have X3 := Lib.hid h3
  have O3 := Lib.hid (lt_heap A2.out)
  clear h3 d3 k3 z3 B2 A2 T2
  generalize w2.heap.size = xa at X3 O3 ⊢
  go_wp2_with fail
  refine (cY _ T3.out).mono ?_
  rintro e w4 ⟨rfl, b4⟩
  have B4 := Lib.hid (B3.out.trans (b4.mono B3.out.size))
  have A4 := Lib.hid ((b4.block _ (lt_heap A3.out)).trans A3.out)
  have X4 := Lib.hid ((b4.block _ (lt_heap X3.out)).trans X3.out)
  clear b4 B3 T3 A3 X3 cY
  go_wp2_with (first
    | (with_reducible refine wpList_store_idt rfl (.tmp 7) (.tmp 34) rfl w4.heap.size _ _ _ _ _ _ _ _ rfl rfl (heap_alloc_new w4 _) (by simp [Value.oneCell']) ?_)
    | fail)
  intro w5 h5 d5 k5 z5
  have B5 := Lib.hid (d5 w.heap.size w B4.out.size (B4.out.alloc B4.out.size _))
  have A5 := Lib.hid ((k5 w.heap.size (Nat.ne_of_lt (lt_heap A4.out))).trans ((heap_alloc_old w4 _ (lt_heap A4.out)).trans A4.out))
  have X5 := Lib.hid ((k5 xa (Nat.ne_of_lt (lt_heap X4.out))).trans ((heap_alloc_old w4 _ (lt_heap X4.out)).trans X4.out))
  have T5 := Lib.hid (TAB.out.keep B5.out)
  have Y5 := Lib.hid h5
  clear h5 d5 k5 z5 B4 A4 X4
  generalize w4.heap.size = ya at Y5 ⊢
  go_wp2_with fail
  refine (cA _ T5.out.t6).mono ?_
  rintro e w6 ⟨rfl, b6⟩
  have B6 := Lib.hid (B5.out.trans (b6.mono B5.out.size))
  have T6' := Lib.hid (T5.out.keep b6)
  have hA6 := (b6.block _ (lt_heap A5.out)).trans A5.out
  have hX6 := (b6.block _ (lt_heap X5.out)).trans X5.out
  have hY6 := (b6.block _ (lt_heap Y5.out)).trans Y5.out
  obtain ⟨a0, a1, a2, a3⟩ := cells4 hA6
  have A6 := Lib.hid hA6; have X6 := Lib.hid hX6; have Y6 := Lib.hid hY6
  clear b6 B5 T5 A5 X5 Y5 hA6 hX6 hY6 cA TAB
  go_wp2_with fail
  refine (cR _ T6'.out.t6).mono ?_
  rintro e w7 ⟨rfl, b7⟩
  have B7 := Lib.hid (B6.out.trans (b7.mono B6.out.size))
  have T7' := Lib.hid (T6'.out.keep b7)
  obtain ⟨p0, p1, p2, p3⟩ := cells4 ((b7.block _ (lt_heap A6.out)).trans A6.out)
  obtain ⟨q0, q1, q2, q3⟩ := cells4 ((b7.block _ (lt_heap X6.out)).trans X6.out)
  have hY7 := (b7.block _ (lt_heap Y6.out)).trans Y6.out
  obtain ⟨r0, r1, r2, r3⟩ := cells4 hY7
  have Y7 := Lib.hid hY7
  clear b7 hY7 B6 T6' A6 X6 Y6 a0 a1 a2 a3 cR
  go_wp2_with fail
  refine (cRy _ T7'.out.t6).mono ?_
  rintro e w8 ⟨rfl, b8⟩
  have B8 := Lib.hid (B7.out.trans (b8.mono B7.out.size))
  have T8' := Lib.hid (T7'.out.keep b8)
  obtain ⟨s0, s1, s2, s3⟩ := cells4 ((b8.block _ (lt_heap Y7.out)).trans Y7.out)
  clear b8 B7 T7' Y7 p0 p1 p2 p3 q0 q1 q2 q3 r0 r1 r2 r3 cRy
  go_wp2_with fail
  refine (cPy _ T8'.out.t6).mono ?_
  rintro e w9 ⟨rfl, b9⟩
  have B9 := Lib.hid (B8.out.trans (b9.mono B8.out.size))
  clear b9 B8 T8' cPy
  go_wp2
  go_ret
  exact ⟨by first | rfl | (apply ret_bool; simp), B9.out⟩
set_option maxHeartbeats 16000000 in
set_option maxRecDepth 100000 in
theorem back_fn (w : World) (i : Idt) (s : List UInt8) (hn : i.name.length ≤ 500) (he : i.email.length ≤ 500) (hs : s.length ≤ 1000) (hr : rightI i = false) (hy : parseP Lib.itoa takeN s = none) (tab : T7 w) :
    Calls Tryd.prog 4 #[idtV i, .string ⟨s.toArray⟩] w fun e w' => e = .returned (.bool true) ∧ Below w.heap.size w w' := by
  have cP := fun w t => Print_is i (by omega) (by omega) w t
  have cX := fun w t => Parse_is (printI Lib.itoa i) (by have := print_len i; omega) w t
  have cY := fun w t => Parse_is s (by omega) w t
  have cA := fun w t => awake_ident w t
  have cR := fun w t => rRight_is i (by omega) (by omega) w t
  rw [hy] at cY
  rw [hr] at cR
  have hp : printI Lib.itoa i = [] := by unfold printI; rw [hr]; rfl
  rw [hp] at cX cP
  rw [parse_nil, idtA_none] at cX
  rw [idtA_none] at cY
  unfold idtV at cP cR ⊢
  have zn := size_toArray i.name
  have ze := size_toArray i.email
  have zs := size_toArray s
  have g1 : ¬ ((i.name.length : Nat) : Int) > 500 := by omega
  have g2 : ¬ ((i.email.length : Nat) : Int) > 500 := by omega
  have g3 : ¬ ((s.length : Nat) : Int) > 1000 := by omega
  clear hr hy hp
  generalize (⟨i.name.toArray⟩ : ByteArray) = xn at *
  generalize (⟨i.email.toArray⟩ : ByteArray) = xe at *
  generalize (⟨s.toArray⟩ : ByteArray) = xs at *
  generalize i.whn = xt at *
  generalize i.zone = xz at *
  have TAB := Lib.hid tab
  have B0 := Lib.hid ((Below.refl w.heap.size w).alloc (Nat.le_refl _) (.cells #[.string xn, .string xe, .int .i64 xt, .int .i64 xz] 23))
  have T0 := Lib.hid (TAB.out.keep B0.out)
  have A0 := Lib.hid (heap_alloc_new w (.cells #[.string xn, .string xe, .int .i64 xt, .int .i64 xz] 23))
  clear tab
  go_enter Tryd.func4, Tryd.ntmps4
  go_wp2_with fail
  refine (cP _ T0.out.t6).mono ?_
  rintro e w1 ⟨rfl, b1⟩
  have B1 := Lib.hid (B0.out.trans (b1.mono B0.out.size))
  have T1 := Lib.hid (T0.out.keep b1)
  have A1 := Lib.hid ((b1.block _ (lt_heap A0.out)).trans A0.out)
  clear b1 B0 T0 A0 cP
  go_wp2_with fail
  refine (cX _ T1.out).mono ?_
  rintro e w2 ⟨rfl, b2⟩
  have B2 := Lib.hid (B1.out.trans (b2.mono B1.out.size))
  have T2 := Lib.hid (T1.out.keep b2)
  have A2 := Lib.hid ((b2.block _ (lt_heap A1.out)).trans A1.out)
  clear b2 B1 T1 A1 cX
  go_wp2_with (first
    | (with_reducible refine wpList_store_idt rfl (.tmp 5) (.tmp 29) rfl w2.heap.size _ _ _ _ _ _ _ _ rfl rfl (heap_alloc_new w2 _) (by simp [Value.oneCell']) ?_)
    | fail)
  intro w3 h3 d3 k3 z3
  have B3 := Lib.hid (d3 w.heap.size w B2.out.size (B2.out.alloc B2.out.size _))
  have A3 := Lib.hid ((k3 w.heap.size (Nat.ne_of_lt (lt_heap A2.out))).trans ((heap_alloc_old w2 _ (lt_heap A2.out)).trans A2.out))
  have T3 := Lib.hid (TAB.out.keep B3.out)
  have X3 := Lib.hid h3
  have O3 := Lib.hid (lt_heap A2.out)
  clear h3 d3 k3 z3 B2 A2 T2
  generalize w2.heap.size = xa at X3 O3 ⊢
  go_wp2_with fail
  refine (cY _ T3.out).mono ?_
  rintro e w4 ⟨rfl, b4⟩
  have B4 := Lib.hid (B3.out.trans (b4.mono B3.out.size))
  have A4 := Lib.hid ((b4.block _ (lt_heap A3.out)).trans A3.out)
  have X4 := Lib.hid ((b4.block _ (lt_heap X3.out)).trans X3.out)
  clear b4 B3 T3 A3 X3 cY
  go_wp2_with (first
    | (with_reducible refine wpList_store_idt rfl (.tmp 7) (.tmp 34) rfl w4.heap.size _ _ _ _ _ _ _ _ rfl rfl (heap_alloc_new w4 _) (by simp [Value.oneCell']) ?_)
    | fail)
  intro w5 h5 d5 k5 z5
  have B5 := Lib.hid (d5 w.heap.size w B4.out.size (B4.out.alloc B4.out.size _))
  have A5 := Lib.hid ((k5 w.heap.size (Nat.ne_of_lt (lt_heap A4.out))).trans ((heap_alloc_old w4 _ (lt_heap A4.out)).trans A4.out))
  have X5 := Lib.hid ((k5 xa (Nat.ne_of_lt (lt_heap X4.out))).trans ((heap_alloc_old w4 _ (lt_heap X4.out)).trans X4.out))
  have T5 := Lib.hid (TAB.out.keep B5.out)
  have Y5 := Lib.hid h5
  clear h5 d5 k5 z5 B4 A4 X4
  generalize w4.heap.size = ya at Y5 ⊢
  go_wp2_with fail
  refine (cA _ T5.out.t6).mono ?_
  rintro e w6 ⟨rfl, b6⟩
  have B6 := Lib.hid (B5.out.trans (b6.mono B5.out.size))
  have T6' := Lib.hid (T5.out.keep b6)
  have hA6 := (b6.block _ (lt_heap A5.out)).trans A5.out
  have hX6 := (b6.block _ (lt_heap X5.out)).trans X5.out
  have hY6 := (b6.block _ (lt_heap Y5.out)).trans Y5.out
  obtain ⟨a0, a1, a2, a3⟩ := cells4 hA6
  have A6 := Lib.hid hA6; have X6 := Lib.hid hX6; have Y6 := Lib.hid hY6
  clear b6 B5 T5 A5 X5 Y5 hA6 hX6 hY6 cA TAB
  go_wp2_with fail
  refine (cR _ T6'.out.t6).mono ?_
  rintro e w7 ⟨rfl, b7⟩
  have B7 := Lib.hid (B6.out.trans (b7.mono B6.out.size))
  have T7' := Lib.hid (T6'.out.keep b7)
  obtain ⟨p0, p1, p2, p3⟩ := cells4 ((b7.block _ (lt_heap A6.out)).trans A6.out)
  obtain ⟨q0, q1, q2, q3⟩ := cells4 ((b7.block _ (lt_heap X6.out)).trans X6.out)
  have hY7 := (b7.block _ (lt_heap Y6.out)).trans Y6.out
  obtain ⟨r0, r1, r2, r3⟩ := cells4 hY7
  have Y7 := Lib.hid hY7
  clear b7 hY7 B6 T6' A6 X6 Y6 a0 a1 a2 a3 cR
  go_wp2
  go_ret
  exact ⟨by first | rfl | (apply ret_bool; simp), B7.out⟩
set_option maxHeartbeats 8000000 in
set_option maxRecDepth 100000 in
theorem back_long (w : World) (i : Idt) (s : List UInt8) (hn : i.name.length ≤ maxLen) (he : i.email.length ≤ maxLen) (hs : s.length ≤ maxLen) (hl : ¬ (i.name.length ≤ 500 ∧ i.email.length ≤ 500 ∧ s.length ≤ 1000)) (tab : T7 w) :
    Calls Tryd.prog 4 #[idtV i, .string ⟨s.toArray⟩] w fun e w' => e = .returned (.bool true) ∧ Below w.heap.size w w' := by
  unfold idtV maxLen at *
  have zn := size_toArray i.name
  have ze := size_toArray i.email
  have zs := size_toArray s
  have cA := fun w t => awake_ident w t
  generalize (⟨i.name.toArray⟩ : ByteArray) = xn at *
  generalize (⟨i.email.toArray⟩ : ByteArray) = xe at *
  generalize (⟨s.toArray⟩ : ByteArray) = xs at *
  generalize i.whn = xt at *
  generalize i.zone = xz at *
  generalize i.name.length = nn at *
  generalize i.email.length = ne at *
  generalize s.length = ns at *
  have B0 := Lib.hid ((Below.refl w.heap.size w).alloc (Nat.le_refl _) (.cells #[.string xn, .string xe, .int .i64 xt, .int .i64 xz] 23))
  have T0 := Lib.hid (tab.keep B0.out)
  clear tab
  by_cases g1 : (nn : Int) > 500
  · clear hl hn he hs
    go_enter Tryd.func4, Tryd.ntmps4
    go_wp2_with fail
    refine (cA _ T0.out.t6).mono ?_
    rintro e w1 ⟨rfl, b1⟩
    go_wp2
    go_ret
    exact ⟨rfl, B0.out.trans (b1.mono B0.out.size)⟩
  · by_cases g2 : (ne : Int) > 500
    · clear hl hn he hs
      go_enter Tryd.func4, Tryd.ntmps4
      go_wp2_with fail
      refine (cA _ T0.out.t6).mono ?_
      rintro e w1 ⟨rfl, b1⟩
      go_wp2
      go_ret
      exact ⟨rfl, B0.out.trans (b1.mono B0.out.size)⟩
    · have g3 : (ns : Int) > 1000 := by omega
      clear hl hn he hs
      go_enter Tryd.func4, Tryd.ntmps4
      go_wp2_with fail
      refine (cA _ T0.out.t6).mono ?_
      rintro e w1 ⟨rfl, b1⟩
      go_wp2
      go_ret
      exact ⟨rfl, B0.out.trans (b1.mono B0.out.size)⟩
theorem walk (w : World) (i : Idt) (hn : i.name.length ≤ maxLen) (he : i.email.length ≤ maxLen) (hw : -9223372036854775808 ≤ i.whn ∧ i.whn ≤ 9223372036854775807) (hz : -9223372036854775808 ≤ i.zone ∧ i.zone ≤ 9223372036854775807) (s : List UInt8) (hs : s.length ≤ maxLen) (tab : T7 w) :
    Calls Tryd.prog 4 #[idtV i, .string ⟨s.toArray⟩] w fun e w' => e = .returned (.bool true) ∧ Below w.heap.size w w' := by
  by_cases hl : i.name.length ≤ 500 ∧ i.email.length ≤ 500 ∧ s.length ≤ 1000
  · obtain ⟨a, b, c⟩ := hl
    cases hr : rightI i with
    | true =>
      cases hy : parseP Lib.itoa takeN s with
      | some y => exact back_ty w i s a b c hr y hy tab
      | none => exact back_tn w i s a b c hr hy tab
    | false =>
      cases hy : parseP Lib.itoa takeN s with
      | some y => exact back_fy w i s a b c hr y hy tab
      | none => exact back_fn w i s a b c hr hy tab
  · exact back_long w i s hn he hs hl tab
end Go.Proofs.YtagfnnpklefhhaaDoor.identBack
