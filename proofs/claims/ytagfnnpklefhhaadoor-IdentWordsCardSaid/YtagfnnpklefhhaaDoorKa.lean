/-
  Layer 6: word, Right and Zone of the reference.
-/
import Derived.Test.YtagfnnpklefhhaaDoorJc
import Derived.Test.YtagfnnpklefhhaaDoorJd
import Derived.Test.YtagfnnpklefhhaaDoorJg
import Derived.Test.YtagfnnpklefhhaaDoorVu
namespace Go.Proofs.YtagfnnpklefhhaaDoor
open Go.RowKit
set_option linter.unusedVariables false
set_option linter.unusedSimpArgs false

theorem word_false (l : List UInt8) (h : ¬ ((∀ c ∈ l, barB c = false) ∧ l.length ≤ 200 ∧ Lib.validD l = true ∧ (l ≠ [] → (l.getD 0 0).toNat ≠ 32 ∧ (l.getD (l.length - 1) 0).toNat ≠ 32))) : wordL l = false := by
  cases e : wordL l with
  | false => rfl
  | true => exact absurd ((word_iff l).1 e) h
theorem word_bad (l : List UInt8) (k : Nat) (hk : k < l.length) (h : barB (l.getD k 0) = true) : wordL l = false :=
  word_false l fun q => by
    rw [List.getD_eq_getElem?_getD, List.getElem?_eq_getElem hk] at h
    have := q.1 _ (List.getElem_mem hk)
    simp only [Option.getD_some] at h
    rw [this] at h
    cases h
theorem all_of_getD (l : List UInt8) (h : ∀ j, j < l.length → barB (l.getD j 0) = false) : ∀ c ∈ l, barB c = false := fun c hc => by
  obtain ⟨j, hj, rfl⟩ := List.getElem_of_mem hc
  have := h j hj
  rwa [List.getD_eq_getElem?_getD, List.getElem?_eq_getElem hj] at this

set_option maxHeartbeats 8000000 in
set_option maxRecDepth 100000 in
theorem rword_is (l : List UInt8) (w : World) (hn : l.length ≤ 1000000) (hT : Lib.Utf8Tabs 1 2 w) :
    Calls Tryd.prog 25 #[.string ⟨l.toArray⟩] w fun e w' => e = .returned (.bool (wordL l)) ∧ Below w.heap.size w w' := by
  have hsz := size_toArray l
  have hget : ∀ j, j < l.length → ∀ h2 : j < (⟨l.toArray⟩ : ByteArray).size, (⟨l.toArray⟩ : ByteArray)[j]'h2 = l.getD j 0 := fun j h h2 => getD_mk l j h h2
  have cV := fun w t => valid_is l w hn t
  obtain ⟨R, hR⟩ : ∃ R, R = wordL l := ⟨_, rfl⟩
  rw [← hR]
  have HR := Lib.hid hR
  have BAD := Lib.hid (fun k hk h => hR.trans (word_bad l k hk h))
  have HT := Lib.hid hT
  clear hR hT
  by_cases hnil : l = []
  · subst hnil
    have HV := Lib.hid (show R = true by rw [HR.out]; rfl)
    have vt : Lib.validD [] = true := rfl
    rw [vt] at cV
    clear BAD hget
    go_enter Tryd.func25, Tryd.ntmps25
    go_wp2_with fail
    refine wp_loop_rounds 1 ?_
    rw [rounds_succ]
    go_wp2_with fail
    refine (cV _ HT.out).mono ?_
    rintro e w1 ⟨rfl, b1⟩
    go_wp2
    go_ret
    exact ⟨ret_bool HV.out.symm, b1⟩
  have hpos : 0 < l.length := by cases l with | nil => exact absurd rfl hnil | cons _ _ => simp
  have ALL := Lib.hid (all_of_getD l)
  have FALSE := Lib.hid (fun h => HR.out.trans (word_false l h))
  have TRUE := Lib.hid (fun h => HR.out.trans ((word_iff l).2 h))
  have fi : (⟨l.toArray⟩ : ByteArray).toList.isEmpty = false := by rw [Lib.toList_data]; cases l with | nil => exact absurd rfl hnil | cons _ _ => rfl
  generalize (⟨l.toArray⟩ : ByteArray) = s at hsz hget cV fi ⊢
  have GET := Lib.hid hget
  clear hget hnil HR
  go_enter Tryd.func25, Tryd.ntmps25
  go_wp2_with fail
  go_loopw [3] (fun v3 wr => ∃ k : Nat, k ≤ l.length ∧ v3 = .int .i64 k ∧ (∀ j, j < k → barB (l.getD j 0) = false) ∧ w = wr) (fun v3 _ => l.length - (intOf v3).toNat)
  case atStart => exact ⟨0, Nat.zero_le _, rfl, fun j hj => absurd hj (Nat.not_lt_zero _), rfl⟩
  case round =>
    obtain ⟨k, hk, rfl, hall, rfl⟩ := hrel
    have HALL := Lib.hid hall
    clear hall
    by_cases hlt : k < l.length
    · have hx := GET.out k hlt (by omega)
      have j1 : (k : Int) < (s.size : Int) := by omega
      have j2 : (k : Int) < (l.length : Int) := by omega
      have BK := Lib.hid (BAD.out k hlt)
      obtain ⟨x, hxe⟩ : ∃ x : UInt8, x = l.getD k 0 := ⟨_, rfl⟩
      rw [← hxe] at hx BK
      have HX := Lib.hid hxe
      clear hxe
      have cB := fun w => rbarred_is x w
      cases hb : barB x with
      | true =>
        have HV := Lib.hid (BK.out hb)
        rw [hb] at cB
        clear hb
        go_wp2_with fail
        refine (cB _).mono ?_
        rintro e w1 ⟨rfl, rfl⟩
        go_wp2
        go_ret
        exact ⟨ret_bool HV.out.symm, Below.refl _ _⟩
      | false =>
        rw [hb] at cB
        go_wp2_with fail
        refine (cB _).mono ?_
        rintro e w1 ⟨rfl, rfl⟩
        go_wp2
        go_roundw
        case rel =>
          refine ⟨k + 1, by omega, by go_num, fun j hj => ?_, by first | trivial | rfl⟩
          by_cases e : j = k
          · rw [e, ← HX.out]; exact hb
          · exact HALL.out j (by omega)
        case measure => simp [intOf]; omega
    · obtain rfl : k = l.length := by omega
      have AL := Lib.hid (ALL.out HALL.out)
      by_cases h200 : 200 < l.length
      · have HV := Lib.hid (FALSE.out fun h => by have := h.2.1; omega)
        have f : ((l.length : Int) > 200) = True := by simp; omega
        go_wp2
        go_ret
        exact ⟨ret_bool HV.out.symm, Below.refl _ _⟩
      · have f : ((l.length : Int) > 200) = False := by simp; omega
        go_wp2_with fail
        refine (cV _ HT.out).mono ?_
        rintro e w1 ⟨rfl, b1⟩
        cases hv : Lib.validD l with
        | false =>
          have HV := Lib.hid (FALSE.out fun h => by have := h.2.2.1; rw [hv] at this; cases this)
          clear hv
          go_wp2
          go_ret
          exact ⟨ret_bool HV.out.symm, b1⟩
        | true =>
          have x0 := GET.out 0 hpos (by omega)
          have x1 := GET.out (l.length - 1) (by omega) (by omega)
          have DEC := Lib.hid (show R = (((l.getD 0 0).toNat : Int) != 32 && ((l.getD (l.length - 1) 0).toNat : Int) != 32) by
            by_cases q0 : (l.getD 0 0).toNat = 32
            · rw [q0]; exact FALSE.out fun h => (h.2.2.2 (by intro e; rw [e] at hpos; simp at hpos)).1 q0
            · by_cases q1 : (l.getD (l.length - 1) 0).toNat = 32
              · rw [q1]; simp; exact FALSE.out fun h => (h.2.2.2 (by intro e; rw [e] at hpos; simp at hpos)).2 q1
              · have a0 : ((((l.getD 0 0).toNat : Nat) : Int) != 32) = true := by rw [bne_iff_ne]; omega
                have a1 : ((((l.getD (l.length - 1) 0).toNat : Nat) : Int) != 32) = true := by rw [bne_iff_ne]; omega
                rw [a0, a1]
                exact TRUE.out ⟨AL.out, by omega, hv, fun _ => ⟨q0, q1⟩⟩)
          generalize l.getD 0 0 = y0 at x0 DEC
          generalize l.getD (l.length - 1) 0 = y1 at x1 DEC
          have ix : ((l.length - 1 : Nat) : Int) = (l.length : Int) - 1 := by omega
          clear hv
          by_cases q0 : y0.toNat = 32
          · have f0 : (((y0.toNat : Nat) : Int) != 32) = false := by rw [q0]; rfl
            rw [f0] at DEC
            clear q0
            go_wp2
            go_ret
            exact ⟨ret_bool (by rw [DEC.out]; rfl), b1⟩
          · have f0 : (((y0.toNat : Nat) : Int) != 32) = true := by rw [bne_iff_ne]; omega
            rw [f0] at DEC
            clear q0
            go_wp2
            go_ret
            exact ⟨ret_bool (by rw [DEC.out]; rfl), b1⟩

set_option maxHeartbeats 4000000 in
set_option maxRecDepth 100000 in
theorem rRight_is (i : Idt) (h1 : i.name.length ≤ 1000000) (h2 : i.email.length ≤ 1000000) (w : World) (tab : T6 w) :
    Calls Tryd.prog 14 #[idtV i] w fun e w' => e = .returned (.bool (rightI i)) ∧ Below w.heap.size w w' := by
  obtain ⟨name, email, t, z⟩ := i
  unfold idtV rightI
  simp only at h1 h2 ⊢
  have c1 := fun w hT => rword_is name w h1 hT
  have c2 := fun w hT => rword_is email w h2 hT
  generalize (⟨name.toArray⟩ : ByteArray) = sn at c1 ⊢
  generalize (⟨email.toArray⟩ : ByteArray) = se at c2 ⊢
  have B0 := Lib.hid ((Below.refl w.heap.size w).alloc (Nat.le_refl _) (.cells #[.string sn, .string se, .int .i64 t, .int .i64 z] 23))
  have T0 := Lib.hid (Utf8Tabs_below tab.utf B0.out)
  have N0 := Lib.hid (heap_alloc_new w (.cells #[.string sn, .string se, .int .i64 t, .int .i64 z] 23))
  have S0 := Lib.hid (show (w.alloc (.cells #[.string sn, .string se, .int .i64 t, .int .i64 z] 23)).heap.size = w.heap.size + 1 by simp)
  clear tab h1 h2
  generalize wordL name = bn at c1 ⊢
  generalize wordL email = be at c2 ⊢
  cases bn with
  | false =>
    go_enter Tryd.func14, Tryd.ntmps14
    go_wp2_with fail
    refine (c1 _ T0.out).mono ?_
    rintro e w1 ⟨rfl, b1⟩
    have hb1 := B0.out.trans (b1.mono B0.out.size)
    go_wp2
    go_ret
    exact ⟨rfl, hb1⟩
  | true =>
    go_enter Tryd.func14, Tryd.ntmps14
    go_wp2_with fail
    refine (c1 _ T0.out).mono ?_
    rintro e w1 ⟨rfl, b1⟩
    have hb1 := B0.out.trans (b1.mono B0.out.size)
    have hN1 := (b1.block w.heap.size (by rw [S0.out]; omega)).trans N0.out
    have hc1 : w1.cell? ⟨w.heap.size, 1, none⟩ = some (.string se) := by rw [Lib.cell_of_heap hN1]; rfl
    have T1 := Lib.hid (Utf8Tabs_below T0.out b1)
    have S1 := Lib.hid (show w.heap.size < w1.heap.size by have := b1.size; rw [S0.out] at this; omega)
    have N1 := Lib.hid hN1
    clear b1 hN1
    go_wp2_with fail
    refine (c2 _ T1.out).mono ?_
    rintro e w2 ⟨rfl, b2⟩
    have hb2 := hb1.trans (b2.mono hb1.size)
    have hN2 := (b2.block w.heap.size S1.out).trans N1.out
    have hc2 : w2.cell? ⟨w.heap.size, 2, none⟩ = some (.int .i64 t) := by rw [Lib.cell_of_heap hN2]; rfl
    have hc3 : w2.cell? ⟨w.heap.size, 3, none⟩ = some (.int .i64 z) := by rw [Lib.cell_of_heap hN2]; rfl
    clear hb1 b2 hN2 N1 N0 S0 S1 T1 T0 B0 c1 c2
    cases be with
    | false =>
      go_wp2
      go_ret
      exact ⟨rfl, hb2⟩
    | true =>
      by_cases t0 : 0 ≤ t
      · by_cases t1 : t ≤ 1099511627775
        · by_cases z0 : -840 ≤ z
          · by_cases z1 : z ≤ 840
            · go_wp2
              go_ret
              exact ⟨ret_bool (by rw [decide_eq_true t0, decide_eq_true t1, decide_eq_true z0, decide_eq_true z1]; rfl), hb2⟩
            · have v1 := decide_eq_false z1
              go_wp2
              go_ret
              exact ⟨ret_bool (by rw [v1]; simp), hb2⟩
          · have v0 := decide_eq_false z0
            go_wp2
            go_ret
            exact ⟨ret_bool (by rw [v0]; simp), hb2⟩
        · have u1 := decide_eq_false t1
          go_wp2
          go_ret
          exact ⟨ret_bool (by rw [u1]; simp), hb2⟩
      · have u0 := decide_eq_false t0
        go_wp2
        go_ret
        exact ⟨ret_bool (by rw [u0]; simp), hb2⟩

theorem conv_two (x y : Int) (w : World) :
    (convert 50 9 (.slice (some ⟨w.heap.size, 0, none⟩) 2 2)).run Tryd.prog (w.alloc (.cells #[.int .u8 x, .int .u8 y] 5)) = .ok (.string ⟨[UInt8.ofNat x.toNat, UInt8.ofNat y.toNat].toArray⟩) (w.alloc (.cells #[.int .u8 x, .int .u8 y] 5)) :=
  run_convert_bytes_arg _ 50 5 Tryd.underlying50 Tryd.underlying5 w.heap.size 0 2 2 [x, y] rfl (fun i hi => by
    obtain rfl | rfl : i = 0 ∨ i = 1 := by omega
    · exact Lib.cell_of_heap (heap_alloc_new _ _) 0
    · exact Lib.cell_of_heap (heap_alloc_new _ _) 1) 9 Tryd.underlying9
set_option maxHeartbeats 2000000 in
theorem rtwo_is (n : Int) (h0 : 0 ≤ n) (h1 : n < 100) (w : World) :
    Calls Tryd.prog 28 #[.int .i64 n] w fun e w' => e = .returned (.string ⟨(twoD n.toNat).toArray⟩) ∧ Below w.heap.size w w' := by
  have q1 := IntWalk.i64_quo n 10 (by omega)
  have q2 := IntWalk.rem_in n 10 (by omega)
  have q3 := IntWalk.u8_in (48 + n / 10) (by omega)
  have q4 := IntWalk.u8_in (48 + n % 10) (by omega)
  have q5 := IntWalk.i64_in (48 + n / 10) (by omega)
  have q6 := IntWalk.i64_in (48 + n % 10) (by omega)
  have E := Lib.hid (show [UInt8.ofNat (48 + n / 10).toNat, UInt8.ofNat (48 + n % 10).toNat] = twoD n.toNat by
    unfold twoD
    rw [show (48 + n / 10).toNat = 48 + n.toNat / 10 by omega, show (48 + n % 10).toNat = 48 + n.toNat % 10 by omega])
  have cv := conv_two (48 + n / 10) (48 + n % 10) w
  have B1 := Lib.hid ((Below.refl w.heap.size w).alloc (Nat.le_refl _) (.cells #[.int .u8 (48 + n / 10), .int .u8 (48 + n % 10)] 5))
  rw [E.out] at cv
  generalize twoD n.toNat = l at cv ⊢
  go_enter Tryd.func28, Tryd.ntmps28
  go_wp2
  go_ret
  exact ⟨rfl, B1.out⟩
end Go.Proofs.YtagfnnpklefhhaaDoor
