/-
  Layer 6: Zone of the reference.
-/
import Derived.Test.YtagfnnpklefhhaaDoorJf
import Derived.Test.YtagfnnpklefhhaaDoorJd
import Derived.Deep.QuietTactic
import Derived.BigQuiet
namespace Go.Proofs.YtagfnnpklefhhaaDoor
open Go.RowKit
set_option linter.unusedVariables false
set_option linter.unusedSimpArgs false

theorem zone_len5 (s : List UInt8) (h : s.length ≠ 5) : zoneR s = none := by
  match s, h with
  | [], _ => rfl
  | [_], _ => rfl
  | [_, _], _ => rfl
  | [_, _, _], _ => rfl
  | [_, _, _, _], _ => rfl
  | [_, _, _, _, _], h => exact absurd rfl h
  | _ :: _ :: _ :: _ :: _ :: _ :: _, _ => rfl
theorem zoneA_no {s : List UInt8} (h : zoneR s = none) : zoneA s = .tuple #[.int .i64 0, .int .i64 4] := by unfold zoneA; rw [h]
theorem zone_sign (x a b c d : UInt8) (h : x.toNat ≠ 43) (h2 : x.toNat ≠ 45) : zoneR [x, a, b, c, d] = none := by
  show zoneV x a b c d = none
  unfold zoneV
  rw [if_neg]
  rintro ⟨h3 | h3, _⟩
  · exact h h3
  · exact h2 h3
theorem zone_dig (x a b c d : UInt8) (i : Nat) (h1 : 1 ≤ i) (h5 : i < 5) (h : digB ([x, a, b, c, d].getD i 0) = false) : zoneR [x, a, b, c, d] = none := by
  show zoneV x a b c d = none
  unfold zoneV
  rw [if_neg]
  rintro ⟨_, h2, h3, h4, h6⟩
  obtain rfl | rfl | rfl | rfl : i = 1 ∨ i = 2 ∨ i = 3 ∨ i = 4 := by omega
  · simp at h; rw [h] at h2; cases h2
  · simp at h; rw [h] at h3; cases h3
  · simp at h; rw [h] at h4; cases h4
  · simp at h; rw [h] at h6; cases h6
theorem zone_val (x a b c d : UInt8) (hs : x.toNat = 43 ∨ x.toNat = 45) (ha : digB a = true) (hb : digB b = true) (hc : digB c = true) (hd : digB d = true) (m z : Int)
    (hm : m = ((c.toNat : Int) - 48) * 10 + ((d.toNat : Int) - 48)) (hz : z = (((a.toNat : Int) - 48) * 10 + ((b.toNat : Int) - 48)) * 60 + m) :
    zoneR [x, a, b, c, d] = if 59 < m ∨ 840 < z ∨ (x.toNat = 45 ∧ z = 0) then none else some (if x.toNat = 45 then -z else z) := by
  show zoneV x a b c d = _
  unfold zoneV
  rw [if_pos ⟨hs, ha, hb, hc, hd⟩]
  unfold digB at ha hb hc hd
  simp only [Bool.and_eq_true, decide_eq_true_eq] at ha hb hc hd
  have em : ((digV c * 10 + digV d : Nat) : Int) = m := by unfold digV; omega
  have ez : (((digV a * 10 + digV b) * 60 + (digV c * 10 + digV d) : Nat) : Int) = z := by unfold digV; unfold digV at em; omega
  rw [ez]
  generalize digV c * 10 + digV d = M at em ez ⊢
  generalize (digV a * 10 + digV b) * 60 + M = Z at ez ⊢
  by_cases h : 59 < m ∨ 840 < z ∨ (x.toNat = 45 ∧ z = 0)
  · rw [if_pos h, if_pos (by omega)]
  · rw [if_neg h, if_neg (by omega)]

set_option maxHeartbeats 16000000 in
set_option maxRecDepth 100000 in
theorem rZone_five (x a b c d : UInt8) (w : World) :
    Calls Tryd.prog 12 #[.string ⟨[x, a, b, c, d].toArray⟩] w fun e w' => e = .returned (zoneA [x, a, b, c, d]) ∧ Below w.heap.size w w' := by
  obtain ⟨R, hR⟩ : ∃ R, R = zoneA [x, a, b, c, d] := ⟨_, rfl⟩
  rw [← hR]
  have SG := Lib.hid (fun h h2 => hR.trans (zoneA_no (zone_sign x a b c d h h2)))
  have DG := Lib.hid (fun i h1 h5 h => hR.trans (zoneA_no (zone_dig x a b c d i h1 h5 h)))
  have VAL := Lib.hid (zone_val x a b c d)
  have HR := Lib.hid hR
  have hsz0 : (⟨[x, a, b, c, d].toArray⟩ : ByteArray).size = 5 := rfl
  obtain ⟨s, hs⟩ : ∃ s : ByteArray, s = ⟨[x, a, b, c, d].toArray⟩ := ⟨_, rfl⟩
  have hget : ∀ j, j < 5 → ∀ h2 : j < s.size, s[j]'h2 = [x, a, b, c, d].getD j 0 := by
    subst hs
    exact fun j h h2 => getD_mk [x, a, b, c, d] j h h2
  rw [← hs] at hsz0 ⊢
  have hsz := hsz0
  clear hs hsz0
  have lt := x.toNat_lt
  have G := Lib.hid (show ∀ j, 1 ≤ j → j < 5 → [x, a, b, c, d].getD j 0 = a ∨ [x, a, b, c, d].getD j 0 = b ∨ [x, a, b, c, d].getD j 0 = c ∨ [x, a, b, c, d].getD j 0 = d from fun j h1 h5 => by
    obtain rfl | rfl | rfl | rfl : j = 1 ∨ j = 2 ∨ j = 3 ∨ j = 4 := by omega
    · exact .inl rfl
    · exact .inr (.inl rfl)
    · exact .inr (.inr (.inl rfl))
    · exact .inr (.inr (.inr rfl)))
  have hx0 := hget 0 (by omega) (by omega)
  have hx1 := hget 1 (by omega) (by omega)
  have hx2 := hget 2 (by omega) (by omega)
  have hx3 := hget 3 (by omega) (by omega)
  have hx4 := hget 4 (by omega) (by omega)
  simp only [List.getD_cons_zero, List.getD_cons_succ] at hx0 hx1 hx2 hx3 hx4
  have GET := Lib.hid hget
  have X1 := Lib.hid hx1; have X2 := Lib.hid hx2; have X3 := Lib.hid hx3; have X4 := Lib.hid hx4
  clear hR hget hx1 hx2 hx3 hx4
  by_cases s43 : x.toNat = 43 ∨ x.toNat = 45
  case neg =>
    have HV := Lib.hid (SG.out (by omega) (by omega))
    have f1 : (((x.toNat : Nat) : Int) != 43) = true := by rw [bne_iff_ne]; omega
    have f2 : (((x.toNat : Nat) : Int) != 45) = true := by rw [bne_iff_ne]; omega
    clear s43
    go_enter Tryd.func12, Tryd.ntmps12
    go_wp2
    go_ret2
    exact ⟨by rw [HV.out]; rfl, Below.refl _ _⟩
  case pos =>
    have S43 := Lib.hid s43
    have fsg : ∃ f : Bool, (((x.toNat : Nat) : Int) != 43) = f ∧ (f = true → (((x.toNat : Nat) : Int) != 45) = false) := by
      rcases s43 with h | h
      · exact ⟨false, by rw [h]; rfl, fun e => by cases e⟩
      · exact ⟨true, by rw [h]; rfl, fun _ => by rw [h]; rfl⟩
    obtain ⟨f, f1, f2⟩ := fsg
    clear s43
    go_enter Tryd.func12, Tryd.ntmps12
    cases f with
    | true =>
      have f2 := f2 rfl
      go_wp2_with fail
      go_loopw [4] (fun v4 wr => ∃ i : Nat, 1 ≤ i ∧ i ≤ 5 ∧ v4 = .int .i64 i ∧ (∀ j, 1 ≤ j → j < i → digB ([x, a, b, c, d].getD j 0) = true) ∧ w = wr) (fun v4 _ => 5 - (intOf v4).toNat)
      case atStart => exact ⟨1, by omega, by omega, rfl, fun j h1 h2 => absurd h2 (by omega), rfl⟩
      case round =>
        obtain ⟨i, i1, i5, rfl, hall, rfl⟩ := hrel
        have HALL := Lib.hid hall
        clear hall
        by_cases hlt : i < 5
        · have hx := GET.out i hlt (by omega)
          have DI := Lib.hid (DG.out i i1 hlt)
          obtain ⟨y, hy⟩ : ∃ y : UInt8, y = [x, a, b, c, d].getD i 0 := ⟨_, rfl⟩
          rw [← hy] at hx DI
          have HY := Lib.hid hy
          have j1 : (i : Int) < (s.size : Int) := by omega
          have j2 : (i : Int) < 5 := by omega
          have ylt := y.toNat_lt
          clear hy
          by_cases y0 : y.toNat < 48
          · have HV := Lib.hid (DI.out (by unfold digB; rw [Bool.and_eq_false_iff, decide_eq_false_iff_not, decide_eq_false_iff_not]; omega))
            go_wp2
            go_ret2
            exact ⟨by rw [HV.out]; rfl, Below.refl _ _⟩
          · by_cases y1 : 57 < y.toNat
            · have HV := Lib.hid (DI.out (by unfold digB; rw [Bool.and_eq_false_iff, decide_eq_false_iff_not, decide_eq_false_iff_not]; omega))
              go_wp2
              go_ret2
              exact ⟨by rw [HV.out]; rfl, Below.refl _ _⟩
            · have HD := Lib.hid (show digB y = true by unfold digB; rw [Bool.and_eq_true, decide_eq_true_eq, decide_eq_true_eq]; omega)
              go_wp2
              go_roundw
              case rel =>
                refine ⟨i + 1, by omega, by omega, by go_num, fun j h1 hj => ?_, by first | trivial | rfl⟩
                by_cases e : j = i
                · rw [e, ← HY.out]; exact HD.out
                · exact HALL.out j h1 (by omega)
              case measure => simp [intOf]; omega
        · obtain rfl : i = 5 := by omega
          have da : digB a = true := HALL.out 1 (by omega) (by omega)
          have db : digB b = true := HALL.out 2 (by omega) (by omega)
          have dc : digB c = true := HALL.out 3 (by omega) (by omega)
          have dd : digB d = true := HALL.out 4 (by omega) (by omega)
          obtain ⟨M, hM⟩ : ∃ M : Int, M = ((c.toNat : Int) - 48) * 10 + ((d.toNat : Int) - 48) := ⟨_, rfl⟩
          obtain ⟨Z, hZ⟩ : ∃ Z : Int, Z = (((a.toNat : Int) - 48) * 10 + ((b.toNat : Int) - 48)) * 60 + M := ⟨_, rfl⟩
          have V := Lib.hid (VAL.out S43.out da db dc dd M Z hM hZ)
          have hx1 := X1.out
          have hx2 := X2.out
          have hx3 := X3.out
          have hx4 := X4.out
          unfold digB at da db dc dd
          simp only [Bool.and_eq_true, decide_eq_true_eq] at da db dc dd
          obtain ⟨a0, a1⟩ := da
          obtain ⟨b0, b1⟩ := db
          obtain ⟨c0, c1⟩ := dc
          obtain ⟨d0, d1⟩ := dd
          clear HALL DG SG VAL G X1 X2 X3 X4 GET
          obtain ⟨A, hA⟩ : ∃ A : Int, A = (a.toNat : Int) := ⟨_, rfl⟩
          obtain ⟨B, hB⟩ : ∃ B : Int, B = (b.toNat : Int) := ⟨_, rfl⟩
          obtain ⟨C, hC⟩ : ∃ C : Int, C = (c.toNat : Int) := ⟨_, rfl⟩
          obtain ⟨D, hD⟩ : ∃ D : Int, D = (d.toNat : Int) := ⟨_, rfl⟩
          rw [← hA, ← hB] at hZ
          rw [← hC, ← hD] at hM
          have k1 : IntKind.u8.wrap (A - 48) = A - 48 := IntWalk.u8_in _ (by omega)
          have k2 : IntKind.u8.wrap (B - 48) = B - 48 := IntWalk.u8_in _ (by omega)
          have k3 : IntKind.u8.wrap (C - 48) = C - 48 := IntWalk.u8_in _ (by omega)
          have k4 : IntKind.u8.wrap (D - 48) = D - 48 := IntWalk.u8_in _ (by omega)
          have k5 : IntKind.i64.wrap (A - 48) = A - 48 := IntWalk.i64_in _ (by omega)
          have k6 : IntKind.i64.wrap (B - 48) = B - 48 := IntWalk.i64_in _ (by omega)
          have k7 : IntKind.i64.wrap (C - 48) = C - 48 := IntWalk.i64_in _ (by omega)
          have k8 : IntKind.i64.wrap (D - 48) = D - 48 := IntWalk.i64_in _ (by omega)
          have k9 : IntKind.i64.wrap ((C - 48) * 10) = (C - 48) * 10 := IntWalk.i64_in _ (by omega)
          have k10 : IntKind.i64.wrap ((C - 48) * 10 + (D - 48)) = M := (IntWalk.i64_in _ (by omega)).trans hM.symm
          have k11 : IntKind.i64.wrap ((A - 48) * 10) = (A - 48) * 10 := IntWalk.i64_in _ (by omega)
          have k12 : IntKind.i64.wrap ((A - 48) * 10 + (B - 48)) = (A - 48) * 10 + (B - 48) := IntWalk.i64_in _ (by omega)
          have k13 : IntKind.i64.wrap (((A - 48) * 10 + (B - 48)) * 60) = ((A - 48) * 10 + (B - 48)) * 60 := IntWalk.i64_in _ (by omega)
          have k14 : IntKind.i64.wrap (((A - 48) * 10 + (B - 48)) * 60 + M) = Z := (IntWalk.i64_in _ (by omega)).trans hZ.symm
          have m0 : 0 ≤ M ∧ M ≤ 99 := by omega
          have z0 : 0 ≤ Z ∧ Z ≤ 6039 := by omega
          rw [hA] at k1 k5 k11 k12 k13 k14
          rw [hB] at k2 k6 k12 k13 k14
          rw [hC] at k3 k7 k9 k10
          rw [hD] at k4 k8 k10
          obtain ⟨m0, m1⟩ := m0
          obtain ⟨z0, z1⟩ := z0
          clear hA hB hC hD hM hZ a0 a1 b0 b1 c0 c1 d0 d1
          go_wp2_with fail
          go_quiet (fail)
          have HB1 := Lib.hid (below_drewN (Below.refl w.heap.size w) nq)
          generalize w.drewN nq = w2 at HB1 ⊢
          go_wp2_with fail
          go_quiet (fail)
          have HB2 := Lib.hid (HB1.out.trans ((below_drewN (Below.refl w2.heap.size w2) nq).mono HB1.out.size))
          generalize w2.drewN nq = w3 at HB2 ⊢
          clear k1 k2 k3 k4 k5 k6 k7 k8 k9 k10 k11 k12 k13 k14 hx1 hx2 hx3 hx4
          by_cases c1 : 59 < M
          · have HV := Lib.hid (show R = .tuple #[.int .i64 0, .int .i64 4] by rw [HR.out]; unfold zoneA; rw [V.out, if_pos (.inl c1)])
            go_wp2
            go_ret2
            exact ⟨by rw [HV.out]; rfl, HB2.out⟩
          by_cases c2 : 840 < Z
          · have HV := Lib.hid (show R = .tuple #[.int .i64 0, .int .i64 4] by rw [HR.out]; unfold zoneA; rw [V.out, if_pos (.inr (.inl c2))])
            go_wp2
            go_ret2
            exact ⟨by rw [HV.out]; rfl, HB2.out⟩
          by_cases c3 : x.toNat = 45
          · have g1 : (((x.toNat : Nat) : Int) == 45) = true := by rw [c3]; rfl
            by_cases c4 : Z = 0
            · have HV := Lib.hid (show R = .tuple #[.int .i64 0, .int .i64 4] by rw [HR.out]; unfold zoneA; rw [V.out, if_pos (.inr (.inr ⟨c3, c4⟩))])
              have g2 : (Z == 0) = true := by rw [c4]; rfl
              clear c3 c4
              go_wp2
              go_ret2
              exact ⟨by rw [HV.out]; rfl, HB2.out⟩
            · have HV := Lib.hid (show R = .tuple #[.int .i64 (-Z), .int .i64 0] by rw [HR.out]; unfold zoneA; rw [V.out, if_neg (by omega), if_pos c3])
              have g2 : (Z == 0) = false := by rw [beq_eq_false_iff_ne]; exact c4
              clear c3 c4
              go_wp2
              go_ret2
              exact ⟨by rw [HV.out]; rfl, HB2.out⟩
          · have g1 : (((x.toNat : Nat) : Int) == 45) = false := by rw [beq_eq_false_iff_ne]; omega
            have HV := Lib.hid (show R = .tuple #[.int .i64 Z, .int .i64 0] by rw [HR.out]; unfold zoneA; rw [V.out, if_neg (by omega), if_neg c3])
            clear c3
            go_wp2
            go_ret2
            exact ⟨by rw [HV.out]; rfl, HB2.out⟩
    | false =>
      clear f2
      go_wp2_with fail
      go_loopw [4] (fun v4 wr => ∃ i : Nat, 1 ≤ i ∧ i ≤ 5 ∧ v4 = .int .i64 i ∧ (∀ j, 1 ≤ j → j < i → digB ([x, a, b, c, d].getD j 0) = true) ∧ w = wr) (fun v4 _ => 5 - (intOf v4).toNat)
      case atStart => exact ⟨1, by omega, by omega, rfl, fun j h1 h2 => absurd h2 (by omega), rfl⟩
      case round =>
        obtain ⟨i, i1, i5, rfl, hall, rfl⟩ := hrel
        have HALL := Lib.hid hall
        clear hall
        by_cases hlt : i < 5
        · have hx := GET.out i hlt (by omega)
          have DI := Lib.hid (DG.out i i1 hlt)
          obtain ⟨y, hy⟩ : ∃ y : UInt8, y = [x, a, b, c, d].getD i 0 := ⟨_, rfl⟩
          rw [← hy] at hx DI
          have HY := Lib.hid hy
          have j1 : (i : Int) < (s.size : Int) := by omega
          have j2 : (i : Int) < 5 := by omega
          have ylt := y.toNat_lt
          clear hy
          by_cases y0 : y.toNat < 48
          · have HV := Lib.hid (DI.out (by unfold digB; rw [Bool.and_eq_false_iff, decide_eq_false_iff_not, decide_eq_false_iff_not]; omega))
            go_wp2
            go_ret2
            exact ⟨by rw [HV.out]; rfl, Below.refl _ _⟩
          · by_cases y1 : 57 < y.toNat
            · have HV := Lib.hid (DI.out (by unfold digB; rw [Bool.and_eq_false_iff, decide_eq_false_iff_not, decide_eq_false_iff_not]; omega))
              go_wp2
              go_ret2
              exact ⟨by rw [HV.out]; rfl, Below.refl _ _⟩
            · have HD := Lib.hid (show digB y = true by unfold digB; rw [Bool.and_eq_true, decide_eq_true_eq, decide_eq_true_eq]; omega)
              go_wp2
              go_roundw
              case rel =>
                refine ⟨i + 1, by omega, by omega, by go_num, fun j h1 hj => ?_, by first | trivial | rfl⟩
                by_cases e : j = i
                · rw [e, ← HY.out]; exact HD.out
                · exact HALL.out j h1 (by omega)
              case measure => simp [intOf]; omega
        · obtain rfl : i = 5 := by omega
          have da : digB a = true := HALL.out 1 (by omega) (by omega)
          have db : digB b = true := HALL.out 2 (by omega) (by omega)
          have dc : digB c = true := HALL.out 3 (by omega) (by omega)
          have dd : digB d = true := HALL.out 4 (by omega) (by omega)
          obtain ⟨M, hM⟩ : ∃ M : Int, M = ((c.toNat : Int) - 48) * 10 + ((d.toNat : Int) - 48) := ⟨_, rfl⟩
          obtain ⟨Z, hZ⟩ : ∃ Z : Int, Z = (((a.toNat : Int) - 48) * 10 + ((b.toNat : Int) - 48)) * 60 + M := ⟨_, rfl⟩
          have V := Lib.hid (VAL.out S43.out da db dc dd M Z hM hZ)
          have hx1 := X1.out
          have hx2 := X2.out
          have hx3 := X3.out
          have hx4 := X4.out
          unfold digB at da db dc dd
          simp only [Bool.and_eq_true, decide_eq_true_eq] at da db dc dd
          obtain ⟨a0, a1⟩ := da
          obtain ⟨b0, b1⟩ := db
          obtain ⟨c0, c1⟩ := dc
          obtain ⟨d0, d1⟩ := dd
          clear HALL DG SG VAL G X1 X2 X3 X4 GET
          obtain ⟨A, hA⟩ : ∃ A : Int, A = (a.toNat : Int) := ⟨_, rfl⟩
          obtain ⟨B, hB⟩ : ∃ B : Int, B = (b.toNat : Int) := ⟨_, rfl⟩
          obtain ⟨C, hC⟩ : ∃ C : Int, C = (c.toNat : Int) := ⟨_, rfl⟩
          obtain ⟨D, hD⟩ : ∃ D : Int, D = (d.toNat : Int) := ⟨_, rfl⟩
          rw [← hA, ← hB] at hZ
          rw [← hC, ← hD] at hM
          have k1 : IntKind.u8.wrap (A - 48) = A - 48 := IntWalk.u8_in _ (by omega)
          have k2 : IntKind.u8.wrap (B - 48) = B - 48 := IntWalk.u8_in _ (by omega)
          have k3 : IntKind.u8.wrap (C - 48) = C - 48 := IntWalk.u8_in _ (by omega)
          have k4 : IntKind.u8.wrap (D - 48) = D - 48 := IntWalk.u8_in _ (by omega)
          have k5 : IntKind.i64.wrap (A - 48) = A - 48 := IntWalk.i64_in _ (by omega)
          have k6 : IntKind.i64.wrap (B - 48) = B - 48 := IntWalk.i64_in _ (by omega)
          have k7 : IntKind.i64.wrap (C - 48) = C - 48 := IntWalk.i64_in _ (by omega)
          have k8 : IntKind.i64.wrap (D - 48) = D - 48 := IntWalk.i64_in _ (by omega)
          have k9 : IntKind.i64.wrap ((C - 48) * 10) = (C - 48) * 10 := IntWalk.i64_in _ (by omega)
          have k10 : IntKind.i64.wrap ((C - 48) * 10 + (D - 48)) = M := (IntWalk.i64_in _ (by omega)).trans hM.symm
          have k11 : IntKind.i64.wrap ((A - 48) * 10) = (A - 48) * 10 := IntWalk.i64_in _ (by omega)
          have k12 : IntKind.i64.wrap ((A - 48) * 10 + (B - 48)) = (A - 48) * 10 + (B - 48) := IntWalk.i64_in _ (by omega)
          have k13 : IntKind.i64.wrap (((A - 48) * 10 + (B - 48)) * 60) = ((A - 48) * 10 + (B - 48)) * 60 := IntWalk.i64_in _ (by omega)
          have k14 : IntKind.i64.wrap (((A - 48) * 10 + (B - 48)) * 60 + M) = Z := (IntWalk.i64_in _ (by omega)).trans hZ.symm
          have m0 : 0 ≤ M ∧ M ≤ 99 := by omega
          have z0 : 0 ≤ Z ∧ Z ≤ 6039 := by omega
          rw [hA] at k1 k5 k11 k12 k13 k14
          rw [hB] at k2 k6 k12 k13 k14
          rw [hC] at k3 k7 k9 k10
          rw [hD] at k4 k8 k10
          obtain ⟨m0, m1⟩ := m0
          obtain ⟨z0, z1⟩ := z0
          clear hA hB hC hD hM hZ a0 a1 b0 b1 c0 c1 d0 d1
          go_wp2_with fail
          go_quiet (fail)
          have HB1 := Lib.hid (below_drewN (Below.refl w.heap.size w) nq)
          generalize w.drewN nq = w2 at HB1 ⊢
          go_wp2_with fail
          go_quiet (fail)
          have HB2 := Lib.hid (HB1.out.trans ((below_drewN (Below.refl w2.heap.size w2) nq).mono HB1.out.size))
          generalize w2.drewN nq = w3 at HB2 ⊢
          clear k1 k2 k3 k4 k5 k6 k7 k8 k9 k10 k11 k12 k13 k14 hx1 hx2 hx3 hx4
          by_cases c1 : 59 < M
          · have HV := Lib.hid (show R = .tuple #[.int .i64 0, .int .i64 4] by rw [HR.out]; unfold zoneA; rw [V.out, if_pos (.inl c1)])
            go_wp2
            go_ret2
            exact ⟨by rw [HV.out]; rfl, HB2.out⟩
          by_cases c2 : 840 < Z
          · have HV := Lib.hid (show R = .tuple #[.int .i64 0, .int .i64 4] by rw [HR.out]; unfold zoneA; rw [V.out, if_pos (.inr (.inl c2))])
            go_wp2
            go_ret2
            exact ⟨by rw [HV.out]; rfl, HB2.out⟩
          by_cases c3 : x.toNat = 45
          · have g1 : (((x.toNat : Nat) : Int) == 45) = true := by rw [c3]; rfl
            by_cases c4 : Z = 0
            · have HV := Lib.hid (show R = .tuple #[.int .i64 0, .int .i64 4] by rw [HR.out]; unfold zoneA; rw [V.out, if_pos (.inr (.inr ⟨c3, c4⟩))])
              have g2 : (Z == 0) = true := by rw [c4]; rfl
              clear c3 c4
              go_wp2
              go_ret2
              exact ⟨by rw [HV.out]; rfl, HB2.out⟩
            · have HV := Lib.hid (show R = .tuple #[.int .i64 (-Z), .int .i64 0] by rw [HR.out]; unfold zoneA; rw [V.out, if_neg (by omega), if_pos c3])
              have g2 : (Z == 0) = false := by rw [beq_eq_false_iff_ne]; exact c4
              clear c3 c4
              go_wp2
              go_ret2
              exact ⟨by rw [HV.out]; rfl, HB2.out⟩
          · have g1 : (((x.toNat : Nat) : Int) == 45) = false := by rw [beq_eq_false_iff_ne]; omega
            have HV := Lib.hid (show R = .tuple #[.int .i64 Z, .int .i64 0] by rw [HR.out]; unfold zoneA; rw [V.out, if_neg (by omega), if_neg c3])
            clear c3
            go_wp2
            go_ret2
            exact ⟨by rw [HV.out]; rfl, HB2.out⟩
theorem rZone_other (l : List UInt8) (h : l.length ≠ 5) (hn : l.length ≤ 1000000) (w : World) :
    Calls Tryd.prog 12 #[.string ⟨l.toArray⟩] w fun e w' => e = .returned (zoneA l) ∧ Below w.heap.size w w' := by
  have hsz := size_toArray l
  rw [zoneA_no (zone_len5 l h)]
  generalize (⟨l.toArray⟩ : ByteArray) = s at hsz ⊢
  have f : (((l.length : Nat) : Int) != 5) = true := by simp; omega
  clear h
  go_enter Tryd.func12, Tryd.ntmps12
  go_wp2
  go_ret2
  exact ⟨rfl, Below.refl _ _⟩
theorem rZone_is (l : List UInt8) (hn : l.length ≤ 1000000) (w : World) :
    Calls Tryd.prog 12 #[.string ⟨l.toArray⟩] w fun e w' => e = .returned (zoneA l) ∧ Below w.heap.size w w' := by
  by_cases h : l.length = 5
  · match l, h with
    | [x, a, b, c, d], _ => exact rZone_five x a b c d w
  · exact rZone_other l h hn w
end Go.Proofs.YtagfnnpklefhhaaDoor
