/-
  Texts that belong together, one behind the other.
-/
import Derived.Test.YtonkclkopmdahaaGreatDoorFu12
import Derived.Test.YtonkclkopmdahaaGreatDoorFu08
import Derived.Deep.QuietTactic
import Derived.BigQuiet
import Derived.Test.YtonkclkopmdahaaGreatDoorFu13
import Derived.Test.YtonkclkopmdahaaGreatDoorFu10
import Derived.Test.YtonkclkopmdahaaGreatDoorFu03
import Derived.IntWalk
import Derived.WalkSmall
import Derived.OwnWalk
import Derived.Laws.OwnMore
/-
  Layer 6: Zone of the reference.
-/
namespace Go.Proofs.YtonkclkopmdahaaGreatDoor
open Go.RowKit
set_option linter.unusedVariables false
set_option linter.unusedSimpArgs false

theorem zone_len5 (s : List UInt8) (h : s.length ≠ 5) : zoneR s = none := by
  match s, h with
  | [], _ => rfl
  | [_], _ => rfl
  | [_, _], _ => rfl
  | [_, _, _], _ => rfl
  | [_, _, _, _], _ => rfl
  | [_, _, _, _, _], h => exact absurd rfl h
  | _ :: _ :: _ :: _ :: _ :: _ :: _, _ => rfl
theorem zoneA_no {s : List UInt8} (h : zoneR s = none) : zoneA s = .tuple #[.int .i64 0, .int .i64 4] := by unfold zoneA; rw [h]
theorem zone_sign (x a b c d : UInt8) (h : x.toNat ≠ 43) (h2 : x.toNat ≠ 45) : zoneR [x, a, b, c, d] = none := by
  show zoneV x a b c d = none
  unfold zoneV
  rw [if_neg]
  rintro ⟨h3 | h3, _⟩
  · exact h h3
  · exact h2 h3
theorem zone_dig (x a b c d : UInt8) (i : Nat) (h1 : 1 ≤ i) (h5 : i < 5) (h : digB ([x, a, b, c, d].getD i 0) = false) : zoneR [x, a, b, c, d] = none := by
  show zoneV x a b c d = none
  unfold zoneV
  rw [if_neg]
  rintro ⟨_, h2, h3, h4, h6⟩
  obtain rfl | rfl | rfl | rfl : i = 1 ∨ i = 2 ∨ i = 3 ∨ i = 4 := by omega
  · simp at h; rw [h] at h2; cases h2
  · simp at h; rw [h] at h3; cases h3
  · simp at h; rw [h] at h4; cases h4
  · simp at h; rw [h] at h6; cases h6
theorem zone_val (x a b c d : UInt8) (hs : x.toNat = 43 ∨ x.toNat = 45) (ha : digB a = true) (hb : digB b = true) (hc : digB c = true) (hd : digB d = true) (m z : Int)
    (hm : m = ((c.toNat : Int) - 48) * 10 + ((d.toNat : Int) - 48)) (hz : z = (((a.toNat : Int) - 48) * 10 + ((b.toNat : Int) - 48)) * 60 + m) :
    zoneR [x, a, b, c, d] = if 59 < m ∨ 840 < z ∨ (x.toNat = 45 ∧ z = 0) then none else some (if x.toNat = 45 then -z else z) := by
  show zoneV x a b c d = _
  unfold zoneV
  rw [if_pos ⟨hs, ha, hb, hc, hd⟩]
  unfold digB at ha hb hc hd
  simp only [Bool.and_eq_true, decide_eq_true_eq] at ha hb hc hd
  have em : ((digV c * 10 + digV d : Nat) : Int) = m := by unfold digV; omega
  have ez : (((digV a * 10 + digV b) * 60 + (digV c * 10 + digV d) : Nat) : Int) = z := by unfold digV; unfold digV at em; omega
  rw [ez]
  generalize digV c * 10 + digV d = M at em ez ⊢
  generalize (digV a * 10 + digV b) * 60 + M = Z at ez ⊢
  by_cases h : 59 < m ∨ 840 < z ∨ (x.toNat = 45 ∧ z = 0)
  · rw [if_pos h, if_pos (by omega)]
  · rw [if_neg h, if_neg (by omega)]

set_option maxHeartbeats 16000000 in
set_option maxRecDepth 100000 in
theorem rZone_five (x a b c d : UInt8) (w : World) :
    Calls Tryz.prog 51 #[.string ⟨[x, a, b, c, d].toArray⟩] w fun e w' => e = .returned (zoneA [x, a, b, c, d]) ∧ Below w.heap.size w w' := by
  obtain ⟨R, hR⟩ : ∃ R, R = zoneA [x, a, b, c, d] := ⟨_, rfl⟩
  rw [← hR]
  have SG := Lib.hid (fun h h2 => hR.trans (zoneA_no (zone_sign x a b c d h h2)))
  have DG := Lib.hid (fun i h1 h5 h => hR.trans (zoneA_no (zone_dig x a b c d i h1 h5 h)))
  have VAL := Lib.hid (zone_val x a b c d)
  have HR := Lib.hid hR
  have hsz0 : (⟨[x, a, b, c, d].toArray⟩ : ByteArray).size = 5 := rfl
  obtain ⟨s, hs⟩ : ∃ s : ByteArray, s = ⟨[x, a, b, c, d].toArray⟩ := ⟨_, rfl⟩
  have hget : ∀ j, j < 5 → ∀ h2 : j < s.size, s[j]'h2 = [x, a, b, c, d].getD j 0 := by
    subst hs
    exact fun j h h2 => getD_mk [x, a, b, c, d] j h h2
  rw [← hs] at hsz0 ⊢
  have hsz := hsz0
  clear hs hsz0
  have lt := x.toNat_lt
  have G := Lib.hid (show ∀ j, 1 ≤ j → j < 5 → [x, a, b, c, d].getD j 0 = a ∨ [x, a, b, c, d].getD j 0 = b ∨ [x, a, b, c, d].getD j 0 = c ∨ [x, a, b, c, d].getD j 0 = d from fun j h1 h5 => by
    obtain rfl | rfl | rfl | rfl : j = 1 ∨ j = 2 ∨ j = 3 ∨ j = 4 := by omega
    · exact .inl rfl
    · exact .inr (.inl rfl)
    · exact .inr (.inr (.inl rfl))
    · exact .inr (.inr (.inr rfl)))
  have hx0 := hget 0 (by omega) (by omega)
  have hx1 := hget 1 (by omega) (by omega)
  have hx2 := hget 2 (by omega) (by omega)
  have hx3 := hget 3 (by omega) (by omega)
  have hx4 := hget 4 (by omega) (by omega)
  simp only [List.getD_cons_zero, List.getD_cons_succ] at hx0 hx1 hx2 hx3 hx4
  have GET := Lib.hid hget
  have X1 := Lib.hid hx1; have X2 := Lib.hid hx2; have X3 := Lib.hid hx3; have X4 := Lib.hid hx4
  clear hR hget hx1 hx2 hx3 hx4
  by_cases s43 : x.toNat = 43 ∨ x.toNat = 45
  case neg =>
    have HV := Lib.hid (SG.out (by omega) (by omega))
    have f1 : (((x.toNat : Nat) : Int) != 43) = true := by rw [bne_iff_ne]; omega
    have f2 : (((x.toNat : Nat) : Int) != 45) = true := by rw [bne_iff_ne]; omega
    clear s43
    go_enter Tryz.func51, Tryz.ntmps51
    go_wp2
    go_ret2
    exact ⟨by rw [HV.out]; rfl, Below.refl _ _⟩
  case pos =>
    have S43 := Lib.hid s43
    have fsg : ∃ f : Bool, (((x.toNat : Nat) : Int) != 43) = f ∧ (f = true → (((x.toNat : Nat) : Int) != 45) = false) := by
      rcases s43 with h | h
      · exact ⟨false, by rw [h]; rfl, fun e => by cases e⟩
      · exact ⟨true, by rw [h]; rfl, fun _ => by rw [h]; rfl⟩
    obtain ⟨f, f1, f2⟩ := fsg
    clear s43
    go_enter Tryz.func51, Tryz.ntmps51
    cases f with
    | true =>
      have f2 := f2 rfl
      go_wp2_with fail
      go_loopw [4] (fun v4 wr => ∃ i : Nat, 1 ≤ i ∧ i ≤ 5 ∧ v4 = .int .i64 i ∧ (∀ j, 1 ≤ j → j < i → digB ([x, a, b, c, d].getD j 0) = true) ∧ w = wr) (fun v4 _ => 5 - (intOf v4).toNat)
      case atStart => exact ⟨1, by omega, by omega, rfl, fun j h1 h2 => absurd h2 (by omega), rfl⟩
      case round =>
        obtain ⟨i, i1, i5, rfl, hall, rfl⟩ := hrel
        have HALL := Lib.hid hall
        clear hall
        by_cases hlt : i < 5
        · have hx := GET.out i hlt (by omega)
          have DI := Lib.hid (DG.out i i1 hlt)
          obtain ⟨y, hy⟩ : ∃ y : UInt8, y = [x, a, b, c, d].getD i 0 := ⟨_, rfl⟩
          rw [← hy] at hx DI
          have HY := Lib.hid hy
          have j1 : (i : Int) < (s.size : Int) := by omega
          have j2 : (i : Int) < 5 := by omega
          have ylt := y.toNat_lt
          clear hy
          by_cases y0 : y.toNat < 48
          · have HV := Lib.hid (DI.out (by unfold digB; rw [Bool.and_eq_false_iff, decide_eq_false_iff_not, decide_eq_false_iff_not]; omega))
            go_wp2
            go_ret2
            exact ⟨by rw [HV.out]; rfl, Below.refl _ _⟩
          · by_cases y1 : 57 < y.toNat
            · have HV := Lib.hid (DI.out (by unfold digB; rw [Bool.and_eq_false_iff, decide_eq_false_iff_not, decide_eq_false_iff_not]; omega))
              go_wp2
              go_ret2
              exact ⟨by rw [HV.out]; rfl, Below.refl _ _⟩
            · have HD := Lib.hid (show digB y = true by unfold digB; rw [Bool.and_eq_true, decide_eq_true_eq, decide_eq_true_eq]; omega)
              go_wp2
              go_roundw
              case rel =>
                refine ⟨i + 1, by omega, by omega, by go_num, fun j h1 hj => ?_, by first | trivial | rfl⟩
                by_cases e : j = i
                · rw [e, ← HY.out]; exact HD.out
                · exact HALL.out j h1 (by omega)
              case measure => simp [intOf]; omega
        · obtain rfl : i = 5 := by omega
          have da : digB a = true := HALL.out 1 (by omega) (by omega)
          have db : digB b = true := HALL.out 2 (by omega) (by omega)
          have dc : digB c = true := HALL.out 3 (by omega) (by omega)
          have dd : digB d = true := HALL.out 4 (by omega) (by omega)
          obtain ⟨M, hM⟩ : ∃ M : Int, M = ((c.toNat : Int) - 48) * 10 + ((d.toNat : Int) - 48) := ⟨_, rfl⟩
          obtain ⟨Z, hZ⟩ : ∃ Z : Int, Z = (((a.toNat : Int) - 48) * 10 + ((b.toNat : Int) - 48)) * 60 + M := ⟨_, rfl⟩
          have V := Lib.hid (VAL.out S43.out da db dc dd M Z hM hZ)
          have hx1 := X1.out
          have hx2 := X2.out
          have hx3 := X3.out
          have hx4 := X4.out
          unfold digB at da db dc dd
          simp only [Bool.and_eq_true, decide_eq_true_eq] at da db dc dd
          obtain ⟨a0, a1⟩ := da
          obtain ⟨b0, b1⟩ := db
          obtain ⟨c0, c1⟩ := dc
          obtain ⟨d0, d1⟩ := dd
          clear HALL DG SG VAL G X1 X2 X3 X4 GET
          obtain ⟨A, hA⟩ : ∃ A : Int, A = (a.toNat : Int) := ⟨_, rfl⟩
          obtain ⟨B, hB⟩ : ∃ B : Int, B = (b.toNat : Int) := ⟨_, rfl⟩
          obtain ⟨C, hC⟩ : ∃ C : Int, C = (c.toNat : Int) := ⟨_, rfl⟩
          obtain ⟨D, hD⟩ : ∃ D : Int, D = (d.toNat : Int) := ⟨_, rfl⟩
          rw [← hA, ← hB] at hZ
          rw [← hC, ← hD] at hM
          have k1 : IntKind.u8.wrap (A - 48) = A - 48 := IntWalk.u8_in _ (by omega)
          have k2 : IntKind.u8.wrap (B - 48) = B - 48 := IntWalk.u8_in _ (by omega)
          have k3 : IntKind.u8.wrap (C - 48) = C - 48 := IntWalk.u8_in _ (by omega)
          have k4 : IntKind.u8.wrap (D - 48) = D - 48 := IntWalk.u8_in _ (by omega)
          have k5 : IntKind.i64.wrap (A - 48) = A - 48 := IntWalk.i64_in _ (by omega)
          have k6 : IntKind.i64.wrap (B - 48) = B - 48 := IntWalk.i64_in _ (by omega)
          have k7 : IntKind.i64.wrap (C - 48) = C - 48 := IntWalk.i64_in _ (by omega)
          have k8 : IntKind.i64.wrap (D - 48) = D - 48 := IntWalk.i64_in _ (by omega)
          have k9 : IntKind.i64.wrap ((C - 48) * 10) = (C - 48) * 10 := IntWalk.i64_in _ (by omega)
          have k10 : IntKind.i64.wrap ((C - 48) * 10 + (D - 48)) = M := (IntWalk.i64_in _ (by omega)).trans hM.symm
          have k11 : IntKind.i64.wrap ((A - 48) * 10) = (A - 48) * 10 := IntWalk.i64_in _ (by omega)
          have k12 : IntKind.i64.wrap ((A - 48) * 10 + (B - 48)) = (A - 48) * 10 + (B - 48) := IntWalk.i64_in _ (by omega)
          have k13 : IntKind.i64.wrap (((A - 48) * 10 + (B - 48)) * 60) = ((A - 48) * 10 + (B - 48)) * 60 := IntWalk.i64_in _ (by omega)
          have k14 : IntKind.i64.wrap (((A - 48) * 10 + (B - 48)) * 60 + M) = Z := (IntWalk.i64_in _ (by omega)).trans hZ.symm
          have m0 : 0 ≤ M ∧ M ≤ 99 := by omega
          have z0 : 0 ≤ Z ∧ Z ≤ 6039 := by omega
          rw [hA] at k1 k5 k11 k12 k13 k14
          rw [hB] at k2 k6 k12 k13 k14
          rw [hC] at k3 k7 k9 k10
          rw [hD] at k4 k8 k10
          obtain ⟨m0, m1⟩ := m0
          obtain ⟨z0, z1⟩ := z0
          clear hA hB hC hD hM hZ a0 a1 b0 b1 c0 c1 d0 d1
          go_wp2_with fail
          go_quiet (fail)
          have HB1 := Lib.hid (_root_.Go.below_drewN (Below.refl w.heap.size w) nq)
          generalize w.drewN nq = w2 at HB1 ⊢
          go_wp2_with fail
          go_quiet (fail)
          have HB2 := Lib.hid (HB1.out.trans ((_root_.Go.below_drewN (Below.refl w2.heap.size w2) nq).mono HB1.out.size))
          generalize w2.drewN nq = w3 at HB2 ⊢
          clear k1 k2 k3 k4 k5 k6 k7 k8 k9 k10 k11 k12 k13 k14 hx1 hx2 hx3 hx4
          by_cases c1 : 59 < M
          · have HV := Lib.hid (show R = .tuple #[.int .i64 0, .int .i64 4] by rw [HR.out]; unfold zoneA; rw [V.out, if_pos (.inl c1)])
            go_wp2
            go_ret2
            exact ⟨by rw [HV.out]; rfl, HB2.out⟩
          by_cases c2 : 840 < Z
          · have HV := Lib.hid (show R = .tuple #[.int .i64 0, .int .i64 4] by rw [HR.out]; unfold zoneA; rw [V.out, if_pos (.inr (.inl c2))])
            go_wp2
            go_ret2
            exact ⟨by rw [HV.out]; rfl, HB2.out⟩
          by_cases c3 : x.toNat = 45
          · have g1 : (((x.toNat : Nat) : Int) == 45) = true := by rw [c3]; rfl
            by_cases c4 : Z = 0
            · have HV := Lib.hid (show R = .tuple #[.int .i64 0, .int .i64 4] by rw [HR.out]; unfold zoneA; rw [V.out, if_pos (.inr (.inr ⟨c3, c4⟩))])
              have g2 : (Z == 0) = true := by rw [c4]; rfl
              clear c3 c4
              go_wp2
              go_ret2
              exact ⟨by rw [HV.out]; rfl, HB2.out⟩
            · have HV := Lib.hid (show R = .tuple #[.int .i64 (-Z), .int .i64 0] by rw [HR.out]; unfold zoneA; rw [V.out, if_neg (by omega), if_pos c3])
              have g2 : (Z == 0) = false := by rw [beq_eq_false_iff_ne]; exact c4
              clear c3 c4
              go_wp2
              go_ret2
              exact ⟨by rw [HV.out]; rfl, HB2.out⟩
          · have g1 : (((x.toNat : Nat) : Int) == 45) = false := by rw [beq_eq_false_iff_ne]; omega
            have HV := Lib.hid (show R = .tuple #[.int .i64 Z, .int .i64 0] by rw [HR.out]; unfold zoneA; rw [V.out, if_neg (by omega), if_neg c3])
            clear c3
            go_wp2
            go_ret2
            exact ⟨by rw [HV.out]; rfl, HB2.out⟩
    | false =>
      clear f2
      go_wp2_with fail
      go_loopw [4] (fun v4 wr => ∃ i : Nat, 1 ≤ i ∧ i ≤ 5 ∧ v4 = .int .i64 i ∧ (∀ j, 1 ≤ j → j < i → digB ([x, a, b, c, d].getD j 0) = true) ∧ w = wr) (fun v4 _ => 5 - (intOf v4).toNat)
      case atStart => exact ⟨1, by omega, by omega, rfl, fun j h1 h2 => absurd h2 (by omega), rfl⟩
      case round =>
        obtain ⟨i, i1, i5, rfl, hall, rfl⟩ := hrel
        have HALL := Lib.hid hall
        clear hall
        by_cases hlt : i < 5
        · have hx := GET.out i hlt (by omega)
          have DI := Lib.hid (DG.out i i1 hlt)
          obtain ⟨y, hy⟩ : ∃ y : UInt8, y = [x, a, b, c, d].getD i 0 := ⟨_, rfl⟩
          rw [← hy] at hx DI
          have HY := Lib.hid hy
          have j1 : (i : Int) < (s.size : Int) := by omega
          have j2 : (i : Int) < 5 := by omega
          have ylt := y.toNat_lt
          clear hy
          by_cases y0 : y.toNat < 48
          · have HV := Lib.hid (DI.out (by unfold digB; rw [Bool.and_eq_false_iff, decide_eq_false_iff_not, decide_eq_false_iff_not]; omega))
            go_wp2
            go_ret2
            exact ⟨by rw [HV.out]; rfl, Below.refl _ _⟩
          · by_cases y1 : 57 < y.toNat
            · have HV := Lib.hid (DI.out (by unfold digB; rw [Bool.and_eq_false_iff, decide_eq_false_iff_not, decide_eq_false_iff_not]; omega))
              go_wp2
              go_ret2
              exact ⟨by rw [HV.out]; rfl, Below.refl _ _⟩
            · have HD := Lib.hid (show digB y = true by unfold digB; rw [Bool.and_eq_true, decide_eq_true_eq, decide_eq_true_eq]; omega)
              go_wp2
              go_roundw
              case rel =>
                refine ⟨i + 1, by omega, by omega, by go_num, fun j h1 hj => ?_, by first | trivial | rfl⟩
                by_cases e : j = i
                · rw [e, ← HY.out]; exact HD.out
                · exact HALL.out j h1 (by omega)
              case measure => simp [intOf]; omega
        · obtain rfl : i = 5 := by omega
          have da : digB a = true := HALL.out 1 (by omega) (by omega)
          have db : digB b = true := HALL.out 2 (by omega) (by omega)
          have dc : digB c = true := HALL.out 3 (by omega) (by omega)
          have dd : digB d = true := HALL.out 4 (by omega) (by omega)
          obtain ⟨M, hM⟩ : ∃ M : Int, M = ((c.toNat : Int) - 48) * 10 + ((d.toNat : Int) - 48) := ⟨_, rfl⟩
          obtain ⟨Z, hZ⟩ : ∃ Z : Int, Z = (((a.toNat : Int) - 48) * 10 + ((b.toNat : Int) - 48)) * 60 + M := ⟨_, rfl⟩
          have V := Lib.hid (VAL.out S43.out da db dc dd M Z hM hZ)
          have hx1 := X1.out
          have hx2 := X2.out
          have hx3 := X3.out
          have hx4 := X4.out
          unfold digB at da db dc dd
          simp only [Bool.and_eq_true, decide_eq_true_eq] at da db dc dd
          obtain ⟨a0, a1⟩ := da
          obtain ⟨b0, b1⟩ := db
          obtain ⟨c0, c1⟩ := dc
          obtain ⟨d0, d1⟩ := dd
          clear HALL DG SG VAL G X1 X2 X3 X4 GET
          obtain ⟨A, hA⟩ : ∃ A : Int, A = (a.toNat : Int) := ⟨_, rfl⟩
          obtain ⟨B, hB⟩ : ∃ B : Int, B = (b.toNat : Int) := ⟨_, rfl⟩
          obtain ⟨C, hC⟩ : ∃ C : Int, C = (c.toNat : Int) := ⟨_, rfl⟩
          obtain ⟨D, hD⟩ : ∃ D : Int, D = (d.toNat : Int) := ⟨_, rfl⟩
          rw [← hA, ← hB] at hZ
          rw [← hC, ← hD] at hM
          have k1 : IntKind.u8.wrap (A - 48) = A - 48 := IntWalk.u8_in _ (by omega)
          have k2 : IntKind.u8.wrap (B - 48) = B - 48 := IntWalk.u8_in _ (by omega)
          have k3 : IntKind.u8.wrap (C - 48) = C - 48 := IntWalk.u8_in _ (by omega)
          have k4 : IntKind.u8.wrap (D - 48) = D - 48 := IntWalk.u8_in _ (by omega)
          have k5 : IntKind.i64.wrap (A - 48) = A - 48 := IntWalk.i64_in _ (by omega)
          have k6 : IntKind.i64.wrap (B - 48) = B - 48 := IntWalk.i64_in _ (by omega)
          have k7 : IntKind.i64.wrap (C - 48) = C - 48 := IntWalk.i64_in _ (by omega)
          have k8 : IntKind.i64.wrap (D - 48) = D - 48 := IntWalk.i64_in _ (by omega)
          have k9 : IntKind.i64.wrap ((C - 48) * 10) = (C - 48) * 10 := IntWalk.i64_in _ (by omega)
          have k10 : IntKind.i64.wrap ((C - 48) * 10 + (D - 48)) = M := (IntWalk.i64_in _ (by omega)).trans hM.symm
          have k11 : IntKind.i64.wrap ((A - 48) * 10) = (A - 48) * 10 := IntWalk.i64_in _ (by omega)
          have k12 : IntKind.i64.wrap ((A - 48) * 10 + (B - 48)) = (A - 48) * 10 + (B - 48) := IntWalk.i64_in _ (by omega)
          have k13 : IntKind.i64.wrap (((A - 48) * 10 + (B - 48)) * 60) = ((A - 48) * 10 + (B - 48)) * 60 := IntWalk.i64_in _ (by omega)
          have k14 : IntKind.i64.wrap (((A - 48) * 10 + (B - 48)) * 60 + M) = Z := (IntWalk.i64_in _ (by omega)).trans hZ.symm
          have m0 : 0 ≤ M ∧ M ≤ 99 := by omega
          have z0 : 0 ≤ Z ∧ Z ≤ 6039 := by omega
          rw [hA] at k1 k5 k11 k12 k13 k14
          rw [hB] at k2 k6 k12 k13 k14
          rw [hC] at k3 k7 k9 k10
          rw [hD] at k4 k8 k10
          obtain ⟨m0, m1⟩ := m0
          obtain ⟨z0, z1⟩ := z0
          clear hA hB hC hD hM hZ a0 a1 b0 b1 c0 c1 d0 d1
          go_wp2_with fail
          go_quiet (fail)
          have HB1 := Lib.hid (_root_.Go.below_drewN (Below.refl w.heap.size w) nq)
          generalize w.drewN nq = w2 at HB1 ⊢
          go_wp2_with fail
          go_quiet (fail)
          have HB2 := Lib.hid (HB1.out.trans ((_root_.Go.below_drewN (Below.refl w2.heap.size w2) nq).mono HB1.out.size))
          generalize w2.drewN nq = w3 at HB2 ⊢
          clear k1 k2 k3 k4 k5 k6 k7 k8 k9 k10 k11 k12 k13 k14 hx1 hx2 hx3 hx4
          by_cases c1 : 59 < M
          · have HV := Lib.hid (show R = .tuple #[.int .i64 0, .int .i64 4] by rw [HR.out]; unfold zoneA; rw [V.out, if_pos (.inl c1)])
            go_wp2
            go_ret2
            exact ⟨by rw [HV.out]; rfl, HB2.out⟩
          by_cases c2 : 840 < Z
          · have HV := Lib.hid (show R = .tuple #[.int .i64 0, .int .i64 4] by rw [HR.out]; unfold zoneA; rw [V.out, if_pos (.inr (.inl c2))])
            go_wp2
            go_ret2
            exact ⟨by rw [HV.out]; rfl, HB2.out⟩
          by_cases c3 : x.toNat = 45
          · have g1 : (((x.toNat : Nat) : Int) == 45) = true := by rw [c3]; rfl
            by_cases c4 : Z = 0
            · have HV := Lib.hid (show R = .tuple #[.int .i64 0, .int .i64 4] by rw [HR.out]; unfold zoneA; rw [V.out, if_pos (.inr (.inr ⟨c3, c4⟩))])
              have g2 : (Z == 0) = true := by rw [c4]; rfl
              clear c3 c4
              go_wp2
              go_ret2
              exact ⟨by rw [HV.out]; rfl, HB2.out⟩
            · have HV := Lib.hid (show R = .tuple #[.int .i64 (-Z), .int .i64 0] by rw [HR.out]; unfold zoneA; rw [V.out, if_neg (by omega), if_pos c3])
              have g2 : (Z == 0) = false := by rw [beq_eq_false_iff_ne]; exact c4
              clear c3 c4
              go_wp2
              go_ret2
              exact ⟨by rw [HV.out]; rfl, HB2.out⟩
          · have g1 : (((x.toNat : Nat) : Int) == 45) = false := by rw [beq_eq_false_iff_ne]; omega
            have HV := Lib.hid (show R = .tuple #[.int .i64 Z, .int .i64 0] by rw [HR.out]; unfold zoneA; rw [V.out, if_neg (by omega), if_neg c3])
            clear c3
            go_wp2
            go_ret2
            exact ⟨by rw [HV.out]; rfl, HB2.out⟩
theorem rZone_other (l : List UInt8) (h : l.length ≠ 5) (hn : l.length ≤ 1000000) (w : World) :
    Calls Tryz.prog 51 #[.string ⟨l.toArray⟩] w fun e w' => e = .returned (zoneA l) ∧ Below w.heap.size w w' := by
  have hsz := size_toArray l
  rw [zoneA_no (zone_len5 l h)]
  generalize (⟨l.toArray⟩ : ByteArray) = s at hsz ⊢
  have f : (((l.length : Nat) : Int) != 5) = true := by simp; omega
  clear h
  go_enter Tryz.func51, Tryz.ntmps51
  go_wp2
  go_ret2
  exact ⟨rfl, Below.refl _ _⟩
theorem rZone_is (l : List UInt8) (hn : l.length ≤ 1000000) (w : World) :
    Calls Tryz.prog 51 #[.string ⟨l.toArray⟩] w fun e w' => e = .returned (zoneA l) ∧ Below w.heap.size w w' := by
  by_cases h : l.length = 5
  · match l, h with
    | [x, a, b, c, d], _ => exact rZone_five x a b c d w
  · exact rZone_other l h hn w
end Go.Proofs.YtonkclkopmdahaaGreatDoor

/-
  Layer 6: Parse of the reference. (Made by tools/genke.py.)
-/
namespace Go.Proofs.YtonkclkopmdahaaGreatDoor
open Go.RowKit
set_option linter.unusedVariables false
set_option linter.unusedSimpArgs false

theorem find_here (c : UInt8) (s : List UInt8) (i : Nat) (hi : i < s.length) (h : s.getD i 0 = c) (hn : ¬ s.findIdx (· == c) < i) : s.findIdx (· == c) = i := by
  rw [List.getD_eq_getElem?_getD, List.getElem?_eq_getElem hi] at h
  simp only [Option.getD_some] at h
  by_cases hgt : i < s.findIdx (· == c)
  · have := List.not_of_lt_findIdx hgt
    rw [h] at this
    simp at this
  · omega
theorem find_not (c : UInt8) (s : List UInt8) (i : Nat) (hi : i < s.length) (h : s.getD i 0 ≠ c) : s.findIdx (· == c) ≠ i := by
  intro e
  rw [List.getD_eq_getElem?_getD, List.getElem?_eq_getElem hi] at h
  simp only [Option.getD_some] at h
  have h2 := List.findIdx_getElem (xs := s) (p := (· == c)) (w := by rw [e]; exact hi)
  have h3 : s[s.findIdx (· == c)]'(by rw [e]; exact hi) = c := by simpa using h2
  simp only [e] at h3
  exact h h3
/-- What the search tells so far. -/
def seen (f i : Nat) : Int := if f < i then f else -1
theorem seen_zero (f : Nat) : seen f 0 = -1 := by unfold seen; rw [if_neg (Nat.not_lt_zero _)]
theorem seen_here (c : UInt8) (s : List UInt8) (i : Nat) (hi : i < s.length) (h : s.getD i 0 = c) : seen (s.findIdx (· == c)) (i + 1) = if seen (s.findIdx (· == c)) i < 0 then (i : Int) else seen (s.findIdx (· == c)) i := by
  unfold seen
  by_cases hn : s.findIdx (· == c) < i
  · rw [if_pos hn, if_pos (by omega), if_neg (by omega)]
  · have e := find_here c s i hi h hn
    rw [if_neg hn, if_pos (by omega), e, if_pos (by omega)]
theorem seen_not (c : UInt8) (s : List UInt8) (i : Nat) (hi : i < s.length) (h : s.getD i 0 ≠ c) : seen (s.findIdx (· == c)) (i + 1) = seen (s.findIdx (· == c)) i := by
  have e := find_not c s i hi h
  unfold seen
  by_cases hn : s.findIdx (· == c) < i
  · rw [if_pos hn, if_pos (by omega)]
  · rw [if_neg hn, if_neg (by omega)]
theorem setCell4_0 {w : World} {b : Nat} {t : TypeId} {x0 x1 x2 x3 v : Value} (h : w.heap[b]? = some (.cells #[x0, x1, x2, x3] t (0, 0))) : (w.setCell ⟨b, 0, none⟩ v).heap[b]? = some (.cells #[v, x1, x2, x3] t (0, 0)) := by
  simp [World.setCell, Array.getElem?_modify, h]
theorem setCell4_2 {w : World} {b : Nat} {t : TypeId} {x0 x1 x2 x3 v : Value} (h : w.heap[b]? = some (.cells #[x0, x1, x2, x3] t (0, 0))) : (w.setCell ⟨b, 2, none⟩ v).heap[b]? = some (.cells #[x0, x1, v, x3] t (0, 0)) := by
  simp [World.setCell, Array.getElem?_modify, h]
theorem setCell4_3 {w : World} {b : Nat} {t : TypeId} {x0 x1 x2 x3 v : Value} (h : w.heap[b]? = some (.cells #[x0, x1, x2, x3] t (0, 0))) : (w.setCell ⟨b, 3, none⟩ v).heap[b]? = some (.cells #[x0, x1, x2, v] t (0, 0)) := by
  simp [World.setCell, Array.getElem?_modify, h]
theorem parseR_badA {wr : Int → List UInt8} {rd : List UInt8 → Option Int} {s : List UInt8} (h : badA s) : parseR wr rd s = none := by unfold parseR; rw [if_pos h]
theorem parseR_badB {wr : Int → List UInt8} {rd : List UInt8 → Option Int} {s : List UInt8} (h : badB (restI s)) : parseR wr rd s = none := by
  unfold parseR
  by_cases h0 : badA s
  · rw [if_pos h0]
  · rw [if_neg h0, if_pos h]
theorem parseR_good {wr : Int → List UInt8} {rd : List UInt8 → Option Int} {s : List UInt8} (h : ¬ badA s) (h2 : ¬ badB (restI s)) :
    parseR wr rd s = match rd (((restI s).take ((restI s).length - 6)).drop 1) with
    | none => none
    | some v => match zoneR ((restI s).drop ((restI s).length - 5)) with
      | none => none
      | some z => if rightI (candI s v z) = true ∧ printI wr (candI s v z) = s then some (candI s v z) else none := by
  unfold parseR
  rw [if_neg h, if_neg h2]
  rfl
theorem seen_two (f i : Nat) : seen f i = -1 ∧ i ≤ f ∨ seen f i = (f : Int) ∧ f < i := by
  unfold seen
  by_cases h : f < i
  · rw [if_pos h]; exact .inr ⟨rfl, h⟩
  · rw [if_neg h]; exact .inl ⟨rfl, by omega⟩
/-- A struct of four cells stored where one lies: the world behind it, by what is told of it. -/
theorem wpList_store_idt {ops : Array Oper} {rest : List Oper} {o : Oper} {a : Act} {w : World} {Q : Exit → Act → World → Prop} (hgd : o.guard = none) (x y : Operand) (ho : o.op = .store 26 x y)
    (g : Nat) (a0 a1 a2 a3 b0 b1 b2 b3 : Value) (hx : a.eval x = .pointer (some ⟨g, 0, none⟩)) (hy : a.eval y = .agg #[a0, a1, a2, a3]) (hg : w.heap[g]? = some (.cells #[b0, b1, b2, b3] 26 (0, 0)))
    (one : (#[a0, a1, a2, a3] : Array Value).all (·.oneCell') = true)
    (h : ∀ w', w'.heap[g]? = some (.cells #[a0, a1, a2, a3] 26 (0, 0)) → (∀ B w0, B ≤ g → Below B w0 w → Below B w0 w') → (∀ k, k ≠ g → w'.heap[k]? = w.heap[k]?) → w'.heap.size = w.heap.size → wpList Tryz.prog ops Q rest (a.put o.dst undef) w') :
    wpList Tryz.prog ops Q (o :: rest) a w := by
  refine wpList_store_row hgd 26 x y ho g #[a0, a1, a2, a3] hx hy 26 #[b0, b1, b2, b3] hg (infoId4 _ _ _ _) (sizeId4 _ _ _ _ _ _ _ _) one ?_
  refine h _ (setRow_heap w g _ _ _ (0, 0) hg) (fun B w0 hB hb => below_setRow hb hB _) (fun k hk => ?_) ?_
  · simp [World.setRow, Array.getElem?_modify]
    intro e; exact absurd e.symm hk
  · simp [World.setRow]
theorem find_val (c : UInt8) (l : List UInt8) (h : l.findIdx (· == c) < l.length) : l.getD (l.findIdx (· == c)) 0 = c := by
  have a := List.findIdx_getElem (xs := l) (p := (· == c)) (w := h)
  rw [List.getD_eq_getElem?_getD, List.getElem?_eq_getElem h]
  simpa using a
theorem find_ne (l : List UInt8) (h : openI l < l.length) : openI l ≠ endI l := by
  intro e
  have h2 : endI l < l.length := by rw [← e]; exact h
  have a : l.getD (openI l) 0 = 60 := find_val 60 l h
  have b : l.getD (endI l) 0 = 62 := find_val 62 l h2
  rw [e, b] at a
  exact absurd a (by decide)
theorem setCell_far {w : World} {p : Addr} {k : Nat} (v : Value) (h : k ≠ p.block) : (w.setCell p v).heap[k]? = w.heap[k]? := by
  simp [World.setCell, Array.getElem?_modify]
  intro e; exact absurd e.symm h
theorem zoneA_shape (s : List UInt8) : ∃ za zf : Int, zoneA s = .tuple #[.int .i64 za, .int .i64 zf] := by
  unfold zoneA
  split
  · exact ⟨_, _, rfl⟩
  · exact ⟨_, _, rfl⟩

set_option maxHeartbeats 32000000 in
set_option maxRecDepth 100000 in
theorem rParse_is (l : List UInt8) (hn : l.length ≤ 1000000) (w : World) (tab : T6 w) :
    Calls Tryz.prog 29 #[.string ⟨l.toArray⟩] w fun e w' => e = .returned (idtA (parseR Lib.itoa takeN l)) ∧ Below w.heap.size w w' := by
  have D0 := Lib.hid ((Below.refl w.heap.size w).alloc (Nat.le_refl _) (.cells id0 26))
  have T0 := Lib.hid (tab.keep D0.out)
  have N0 := Lib.hid (heap_alloc_new w (.cells id0 26))
  have S0 := Lib.hid (show (w.alloc (.cells id0 26)).heap.size = w.heap.size + 1 by simp)
  obtain ⟨R, hR⟩ : ∃ R, R = idtA (parseR Lib.itoa takeN l) := ⟨_, rfl⟩
  rw [← hR]
  have BA := Lib.hid (fun h => hR.trans (congrArg idtA (parseR_badA (s := l) h)))
  have BB := Lib.hid (fun h => hR.trans (congrArg idtA (parseR_badB (s := l) h)))
  have GD := Lib.hid (fun h h2 => hR.trans (congrArg idtA (parseR_good (s := l) h h2)))
  have hsz := size_toArray l
  have hget0 : ∀ j, j < l.length → ∀ h2 : j < (⟨l.toArray⟩ : ByteArray).size, (⟨l.toArray⟩ : ByteArray)[j]'h2 = l.getD j 0 := fun j h h2 => getD_mk l j h h2
  have XM := Lib.hid (fun a b => Lib.extract_mk l a b)
  have XU := Lib.hid (ext_upto l)
  have XF := Lib.hid (fun k => ext_from l k l.length rfl)
  have LS := Lib.hid (fun m => (Iff.rfl : (printI Lib.itoa m = l) ↔ (printI Lib.itoa m = l)))
  obtain ⟨s, hs⟩ : ∃ s : ByteArray, s = ⟨l.toArray⟩ := ⟨_, rfl⟩
  have hget : ∀ j, j < l.length → ∀ h2 : j < s.size, s[j]'h2 = l.getD j 0 := by subst hs; exact hget0
  rw [← hs] at hsz XM XU XF ⊢
  have HS := Lib.hid hs
  have GET := Lib.hid hget
  have badAiff := Lib.hid (show badA l ↔ (l.length ≤ openI l ∨ l.length ≤ endI l ∨ endI l < openI l ∨ (0 < openI l ∧ l.getD (openI l - 1) 0 ≠ 32) ∨ openI l = 1) from Iff.rfl)
  have TAB := Lib.hid tab
  have NE := Lib.hid (find_ne l)
  clear hR hget hget0 hs tab
  have SO := Lib.hid (show ∀ i, i < l.length → l.getD i 0 = 60 → seen (openI l) (i + 1) = if seen (openI l) i < 0 then (i : Int) else seen (openI l) i from fun i hi h => seen_here 60 l i hi h)
  have SN := Lib.hid (show ∀ i, i < l.length → l.getD i 0 ≠ 60 → seen (openI l) (i + 1) = seen (openI l) i from fun i hi h => seen_not 60 l i hi h)
  have EO := Lib.hid (show ∀ i, i < l.length → l.getD i 0 = 62 → seen (endI l) (i + 1) = if seen (endI l) i < 0 then (i : Int) else seen (endI l) i from fun i hi h => seen_here 62 l i hi h)
  have EN := Lib.hid (show ∀ i, i < l.length → l.getD i 0 ≠ 62 → seen (endI l) (i + 1) = seen (endI l) i from fun i hi h => seen_not 62 l i hi h)
  have Z1 := Lib.hid (seen_zero (openI l))
  have Z2 := Lib.hid (seen_zero (endI l))
  have SD := Lib.hid seen_two
  go_enter Tryz.func29, Tryz.ntmps29
  go_wp2_with fail
  go_loopw [4, 5, 6] (fun v4 v5 v6 wr => ∃ i : Nat, i ≤ l.length ∧ v6 = .int .i64 i ∧ v4 = .int .i64 (seen (openI l) i) ∧ v5 = .int .i64 (seen (endI l) i) ∧ wr = w.alloc (.cells id0 26)) (fun _ _ v6 _ => l.length - (intOf v6).toNat)
  case atStart => exact ⟨0, Nat.zero_le _, rfl, by rw [Z1.out], by rw [Z2.out], rfl⟩
  case round =>
    clear Z1 Z2
    obtain ⟨i, hi, rfl, rfl, rfl, hwr⟩ := hrel
    have HWR := Lib.hid hwr
    clear hwr
    by_cases hlt : i < l.length
    · have hx := GET.out i hlt (by omega)
      have j1 : (i : Int) < (s.size : Int) := by omega
      have j2 : (i : Int) < (l.length : Int) := by omega
      have so := SO.out i hlt
      have sn := SN.out i hlt
      have eo := EO.out i hlt
      have en := EN.out i hlt
      obtain ⟨x, hxe⟩ : ∃ x : UInt8, x = l.getD i 0 := ⟨_, rfl⟩
      rw [← hxe] at hx so sn eo en
      obtain ⟨p, hp⟩ : ∃ p, p = seen (openI l) i := ⟨_, rfl⟩
      obtain ⟨q, hq⟩ : ∃ q, q = seen (endI l) i := ⟨_, rfl⟩
      rw [← hp] at so sn ⊢
      rw [← hq] at eo en ⊢
      have SO2 := Lib.hid so; have SN2 := Lib.hid sn; have EO2 := Lib.hid eo; have EN2 := Lib.hid en
      clear hxe hp hq so sn eo en
      by_cases x60 : x.toNat = 60
      · have e60 : x = 60 := UInt8.toNat_inj.1 (by simpa using x60)
        have SV := Lib.hid (SO2.out e60)
        have EV := Lib.hid (EN2.out (by rw [e60]; decide))
        have f1 : (((x.toNat : Nat) : Int) == 60) = true := by rw [x60]; rfl
        have f2 : (((x.toNat : Nat) : Int) == 62) = false := by rw [x60]; rfl
        clear x60 e60
        by_cases p0 : p < 0
        · have SV2 := Lib.hid (show seen (openI l) (i + 1) = (i : Int) by rw [SV.out, if_pos p0])
          go_wp2
          go_roundw
          case rel => exact ⟨i + 1, by omega, by go_num, by rw [SV2.out], by rw [EV.out], HWR.out⟩
          case measure => simp [intOf]; omega
        · have SV2 := Lib.hid (show seen (openI l) (i + 1) = p by rw [SV.out, if_neg p0])
          go_wp2
          go_roundw
          case rel => exact ⟨i + 1, by omega, by go_num, by rw [SV2.out], by rw [EV.out], HWR.out⟩
          case measure => simp [intOf]; omega
      · have f1 : (((x.toNat : Nat) : Int) == 60) = false := by rw [beq_eq_false_iff_ne]; omega
        have SV := Lib.hid (SN2.out (fun e => x60 (by rw [e]; rfl)))
        clear x60
        by_cases x62 : x.toNat = 62
        · have e62 : x = 62 := UInt8.toNat_inj.1 (by simpa using x62)
          have EV := Lib.hid (EO2.out e62)
          have f2 : (((x.toNat : Nat) : Int) == 62) = true := by rw [x62]; rfl
          clear x62 e62
          by_cases q0 : q < 0
          · have EV2 := Lib.hid (show seen (endI l) (i + 1) = (i : Int) by rw [EV.out, if_pos q0])
            go_wp2
            go_roundw
            case rel => exact ⟨i + 1, by omega, by go_num, by rw [SV.out], by rw [EV2.out], HWR.out⟩
            case measure => simp [intOf]; omega
          · have EV2 := Lib.hid (show seen (endI l) (i + 1) = q by rw [EV.out, if_neg q0])
            go_wp2
            go_roundw
            case rel => exact ⟨i + 1, by omega, by go_num, by rw [SV.out], by rw [EV2.out], HWR.out⟩
            case measure => simp [intOf]; omega
        · have f2 : (((x.toNat : Nat) : Int) == 62) = false := by rw [beq_eq_false_iff_ne]; omega
          have EV := Lib.hid (EN2.out (fun e => x62 (by rw [e]; rfl)))
          clear x62
          go_wp2
          go_roundw
          case rel => exact ⟨i + 1, by omega, by go_num, by rw [SV.out], by rw [EV.out], HWR.out⟩
          case measure => simp [intOf]; omega
    · obtain rfl : i = l.length := by omega
      have C1 := SD.out (openI l) l.length
      have C2 := SD.out (endI l) l.length
      have hO : openI l = l.findIdx (· == 60) := rfl
      have REST := Lib.hid (show restI l = l.drop (endI l + 1) from rfl)
      have CAND := Lib.hid (show ∀ v z, candI l v z = ⟨if 1 < openI l then l.take (openI l - 1) else [], (l.take (endI l)).drop (openI l + 1), v, z⟩ from fun _ _ => rfl)
      clear SO SN EO EN SD hlt hO
      generalize seen (openI l) l.length = p at C1 ⊢
      generalize seen (endI l) l.length = q at C2 ⊢
      generalize openI l = o at *
      generalize endI l = n at *
      have hwr := HWR.out
      clear HWR
      subst hwr
      rcases C1 with ⟨rfl, c1⟩ | ⟨rfl, c1⟩
      · have HV := Lib.hid (show R = .tuple #[.agg id0, .int .i64 4] from BA.out (badAiff.out.2 (.inl c1)))
        clear C2
        go_wp2_with (first
          | (with_reducible refine wpList_store_row rfl 26 (.tmp 2) (.tmp 59) rfl w.heap.size id0 rfl rfl 26 id0 N0.out (infoId4 _ _ _ _) (sizeId4 _ _ _ _ _ _ _ _) one_id0 ?_)
          | fail)
        refine bodyPost_ret (results_idt Tryz.results29 _ _ w.heap.size _ (0, 0) _ rfl rfl (setRow_heap _ w.heap.size id0 _ _ (0, 0) N0.out) rfl) rfl ⟨by rw [HV.out]; rfl, below_setRow D0.out (Nat.le_refl _) _⟩
      rcases C2 with ⟨rfl, c2⟩ | ⟨rfl, c2⟩
      · have HV := Lib.hid (show R = .tuple #[.agg id0, .int .i64 4] from BA.out (badAiff.out.2 (.inr (.inl c2))))
        have g1 : (-1 : Int) < (o : Int) := by omega
        go_wp2_with (first
          | (with_reducible refine wpList_store_row rfl 26 (.tmp 2) (.tmp 59) rfl w.heap.size id0 rfl rfl 26 id0 N0.out (infoId4 _ _ _ _) (sizeId4 _ _ _ _ _ _ _ _) one_id0 ?_)
          | fail)
        refine bodyPost_ret (results_idt Tryz.results29 _ _ w.heap.size _ (0, 0) _ rfl rfl (setRow_heap _ w.heap.size id0 _ _ (0, 0) N0.out) rfl) rfl ⟨by rw [HV.out]; rfl, below_setRow D0.out (Nat.le_refl _) _⟩
      by_cases c3 : n < o
      · have HV := Lib.hid (show R = .tuple #[.agg id0, .int .i64 4] from BA.out (badAiff.out.2 (.inr (.inr (.inl c3)))))
        have g1 : (n : Int) < (o : Int) := by omega
        go_wp2_with (first
          | (with_reducible refine wpList_store_row rfl 26 (.tmp 2) (.tmp 59) rfl w.heap.size id0 rfl rfl 26 id0 N0.out (infoId4 _ _ _ _) (sizeId4 _ _ _ _ _ _ _ _) one_id0 ?_)
          | fail)
        refine bodyPost_ret (results_idt Tryz.results29 _ _ w.heap.size _ (0, 0) _ rfl rfl (setRow_heap _ w.heap.size id0 _ _ (0, 0) N0.out) rfl) rfl ⟨by rw [HV.out]; rfl, below_setRow D0.out (Nat.le_refl _) _⟩
      have g1 : ¬ ((n : Int) < (o : Int)) := by omega
      obtain rfl | ⟨j, rfl⟩ := (show o = 0 ∨ ∃ j, o = j + 1 from by cases o with | zero => exact .inl rfl | succ j => exact .inr ⟨j, rfl⟩)
      · have NA := Lib.hid (show ¬ badA l by rw [badAiff.out]; rintro (h | h | h | h | h) <;> omega)
        have NEQ := NE.out (by omega)
        have HA := Lib.hid (heap_alloc2_new w (.cells id0 26) (.cells id0 26))
        have HN := Lib.hid (heap_alloc2_old w (.cells id0 26) (.cells id0 26))
        have HD := Lib.hid ((D0.out).alloc D0.out.size (.cells id0 26))
        have e1 : s.extract 1 n = ⟨((l.take n).drop 1).toArray⟩ := by rw [XM.out, List.drop_take]
        have hRl : (l.drop (n + 1)).length = l.length - (n + 1) := List.length_drop
        have hRs : s.extract (n + 1) l.length = ⟨(l.drop (n + 1)).toArray⟩ := XF.out (n + 1)
        have eml : ((l.take n).drop 1).length ≤ 1000000 := by rw [List.length_drop, List.length_take]; omega
        have E1 := Lib.hid e1
        have CA := Lib.hid (show ∀ v z, candI l v z = ⟨[], (l.take n).drop 1, v, z⟩ from fun v z => by rw [CAND.out]; rfl)
        have RL := Lib.hid (show restI l = l.drop (n + 1) from REST.out)
        clear e1 BA CAND REST badAiff GET
        generalize (l.take n).drop 1 = em at E1 CA eml
        generalize l.drop (n + 1) = RS at hRl hRs RL
        have hrz : (⟨RS.toArray⟩ : ByteArray).size = RS.length := size_toArray RS
        have hrget0 : ∀ j, j < RS.length → ∀ h2 : j < (⟨RS.toArray⟩ : ByteArray).size, (⟨RS.toArray⟩ : ByteArray)[j]'h2 = RS.getD j 0 := fun j h h2 => getD_mk RS j h h2
        have RXM := Lib.hid (fun a b => Lib.extract_mk RS a b)
        obtain ⟨rs, hrs⟩ : ∃ rs : ByteArray, rs = ⟨RS.toArray⟩ := ⟨_, rfl⟩
        have hrget : ∀ j, j < RS.length → ∀ h2 : j < rs.size, rs[j]'h2 = RS.getD j 0 := by subst hrs; exact hrget0
        rw [← hrs] at hRs hrz RXM
        have RGET := Lib.hid hrget
        clear hrget hrget0 hrs
        have n1 : (n : Int) + 1 ≤ (s.size : Int) := by omega
        have n2 : (n : Int) + 1 ≤ (l.length : Int) := by omega
        have o1 : (0 : Int) + 1 ≤ (n : Int) := by omega
        go_wp2_with (first
          | (with_reducible refine wpList_store_idt rfl (.tmp 7) (.tmp 65) rfl (w.heap.size + 1) _ _ _ _ _ _ _ _ rfl rfl HA.out (by simp [Value.oneCell']) ?_)
          | fail)
        intro w2 h2 d2 k2 z2
        rw [E1.out] at h2
        have hd2 := d2 w.heap.size w (by omega) HD.out
        have hn2 := (k2 w.heap.size (by omega)).trans HN.out
        clear d2 k2 z2 HA HN HD
        have H3 := Lib.hid h2
        have N3 := Lib.hid hn2
        have D3 := Lib.hid hd2
        have T3 := Lib.hid (TAB.out.keep D3.out)
        clear h2 hn2 hd2
        by_cases r8 : RS.length < 8
        · have HV := Lib.hid (show R = .tuple #[.agg id0, .int .i64 4] from BB.out (by rw [RL.out]; exact .inl r8))
          have g8 : ((RS.length : Nat) : Int) < 8 := by omega
          go_wp2_with (first
            | (with_reducible refine wpList_store_row rfl 26 (.tmp 2) (.tmp 93) rfl w.heap.size id0 rfl rfl 26 id0 N3.out (infoId4 _ _ _ _) (sizeId4 _ _ _ _ _ _ _ _) one_id0 ?_)
            | fail)
          refine bodyPost_ret (results_idt Tryz.results29 _ _ w.heap.size _ (0, 0) _ rfl rfl (setRow_heap _ w.heap.size id0 _ _ (0, 0) N3.out) rfl) rfl ⟨by rw [HV.out]; rfl, below_setRow D3.out (Nat.le_refl _) _⟩
        obtain ⟨q, hq⟩ : ∃ q, RS.length = q + 6 := ⟨RS.length - 6, by omega⟩
        have q2 : 2 ≤ q := by omega
        have qb : q ≤ 1000000 := by omega
        have g8 : ¬ (((RS.length : Nat) : Int) < 8) := by omega
        have BB0 := Lib.hid (fun h : RS.getD 0 0 ≠ 32 => (BB.out (by rw [RL.out]; exact .inr (.inl h)) : R = .tuple #[.agg id0, .int .i64 4]))
        have BBq := Lib.hid (fun h : RS.getD q 0 ≠ 32 => (BB.out (by rw [RL.out]; refine .inr (.inr ?_); rw [show RS.length - 6 = q by omega]; exact h) : R = .tuple #[.agg id0, .int .i64 4]))
        have GDB := Lib.hid (fun h0 : RS.getD 0 0 = 32 => fun hq' : RS.getD q 0 = 32 => (by rw [RL.out]; rintro (h | h | h); exact r8 h; exact h h0; exact h (by rw [show RS.length - 6 = q by omega]; exact hq') : ¬ badB (restI l)))
        have TA := Lib.hid (show ((restI l).take ((restI l).length - 6)).drop 1 = (RS.take q).drop 1 by rw [RL.out, show RS.length - 6 = q by omega])
        have ZB := Lib.hid (show (restI l).drop ((restI l).length - 5) = RS.drop (q + 1) by rw [RL.out, show RS.length - 5 = q + 1 by omega])
        rw [hq] at hrz g8
        have y0 := RGET.out 0 (by omega) (by rw [hrz]; exact Nat.succ_pos _)
        have yq := RGET.out q (by omega) (by rw [hrz]; exact Nat.lt_add_of_pos_right (by decide))
        have et : rs.extract 1 q = ⟨((RS.take q).drop 1).toArray⟩ := by rw [RXM.out, List.drop_take]
        have ez : rs.extract (q + 1) (q + 6) = ⟨(RS.drop (q + 1)).toArray⟩ := by rw [RXM.out, show q + 6 - (q + 1) = 5 by omega, List.take_of_length_le (by rw [List.length_drop, hq]; omega)]
        have tl : ((RS.take q).drop 1).length ≤ 1000000 := by rw [List.length_drop, List.length_take]; omega
        have zl : (RS.drop (q + 1)).length ≤ 1000000 := by rw [List.length_drop]; omega
        have rsq : (q : Int) < (rs.size : Int) := by omega
        have rs0 : (0 : Int) < (rs.size : Int) := by omega
        clear BB RXM RGET
        generalize ha0 : RS.getD 0 0 = A0 at y0 BB0 GDB
        generalize haq : RS.getD q 0 = AQ at yq BBq GDB
        generalize (RS.take q).drop 1 = ta at TA et tl
        generalize RS.drop (q + 1) = zb at ZB ez zl
        clear ha0 haq hq RL
        by_cases a32 : A0 = 32
        case neg =>
          have HV := Lib.hid (BB0.out a32)
          have f0 : (((A0.toNat : Nat) : Int) != 32) = true := by
            rw [bne_iff_ne]
            intro e
            exact a32 (UInt8.toNat_inj.1 (by show A0.toNat = 32; omega))
          clear a32
          go_wp2_with (first
            | (with_reducible refine wpList_store_row rfl 26 (.tmp 2) (.tmp 93) rfl w.heap.size id0 rfl rfl 26 id0 N3.out (infoId4 _ _ _ _) (sizeId4 _ _ _ _ _ _ _ _) one_id0 ?_)
            | fail)
          refine bodyPost_ret (results_idt Tryz.results29 _ _ w.heap.size _ (0, 0) _ rfl rfl (setRow_heap _ w.heap.size id0 _ _ (0, 0) N3.out) rfl) rfl ⟨by rw [HV.out]; rfl, below_setRow D3.out (Nat.le_refl _) _⟩
        have f0 : (((A0.toNat : Nat) : Int) != 32) = false := by rw [a32]; rfl
        by_cases q32 : AQ = 32
        case neg =>
          have HV := Lib.hid (BBq.out q32)
          have fq : (((AQ.toNat : Nat) : Int) != 32) = true := by
            rw [bne_iff_ne]
            intro e
            exact q32 (UInt8.toNat_inj.1 (by show AQ.toNat = 32; omega))
          clear a32 q32
          go_wp2_with (first
            | (with_reducible refine wpList_store_row rfl 26 (.tmp 2) (.tmp 93) rfl w.heap.size id0 rfl rfl 26 id0 N3.out (infoId4 _ _ _ _) (sizeId4 _ _ _ _ _ _ _ _) one_id0 ?_)
            | fail)
          refine bodyPost_ret (results_idt Tryz.results29 _ _ w.heap.size _ (0, 0) _ rfl rfl (setRow_heap _ w.heap.size id0 _ _ (0, 0) N3.out) rfl) rfl ⟨by rw [HV.out]; rfl, below_setRow D3.out (Nat.le_refl _) _⟩
        have fq : (((AQ.toNat : Nat) : Int) != 32) = false := by rw [q32]; rfl
        have GG := Lib.hid (GD.out NA (GDB.out a32 q32))
        have cT := fun w => rTake_all ta tl w
        have cZ := fun w => rZone_is zb zl w
        clear a32 q32 GDB BB0 BBq GD NA
        go_wp2_with fail
        refine (cT _).mono ?_
        rintro e w4 ⟨rfl, b4⟩
        have H4 := Lib.hid ((b4.block _ (lt_heap H3.out)).trans H3.out)
        have N4 := Lib.hid ((b4.block _ (lt_heap N3.out)).trans N3.out)
        have D4 := Lib.hid (D3.out.trans (b4.mono D3.out.size))
        have T4 := Lib.hid (T3.out.keep b4)
        clear b4 H3 N3 D3 T3 cT
        obtain ⟨za, zf, hzA⟩ := zoneA_shape zb
        rw [hzA] at cZ
        go_wp2_with fail
        refine (cZ _).mono ?_
        rintro e w5 ⟨rfl, b5⟩
        have hh5 := (b5.block _ (lt_heap H4.out)).trans H4.out
        have N5 := Lib.hid ((b5.block _ (lt_heap N4.out)).trans N4.out)
        have D5 := Lib.hid (D4.out.trans (b5.mono D4.out.size))
        have T5 := Lib.hid (T4.out.keep b5)
        clear b5 H4 N4 D4 T4 cZ 
        have c52 := (cells4 hh5).2.2.1
        have f52 : w5.frozen? ⟨w.heap.size + 1, 2, none⟩ = false := Lib.frozen_of_heap hh5 2
        have c63 := fun v : Int => (cells4 (setCell4_2 (v := .int .i64 v) hh5)).2.2.2
        have f63 := fun v : Int => Lib.frozen_of_heap (setCell4_2 (v := .int .i64 v) hh5) 3
        have H7 := Lib.hid (fun v z : Int => setCell4_3 (v := .int .i64 z) (setCell4_2 (v := .int .i64 v) hh5))
        have D7 := Lib.hid (fun v z : Int => (D5.out.setCell (p := ⟨w.heap.size + 1, 2, none⟩) (show w.heap.size ≤ w.heap.size + 1 by omega) (.int .i64 v)).setCell (p := ⟨w.heap.size + 1, 3, none⟩) (show w.heap.size ≤ w.heap.size + 1 by omega) (.int .i64 z))
        have N7 := Lib.hid (fun v z : Int => ((setCell_far (w := w5.setCell ⟨w.heap.size + 1, 2, none⟩ (.int .i64 v)) (p := ⟨w.heap.size + 1, 3, none⟩) (.int .i64 z) (show w.heap.size ≠ w.heap.size + 1 by omega)).trans (setCell_far (p := ⟨w.heap.size + 1, 2, none⟩) (.int .i64 v) (show w.heap.size ≠ w.heap.size + 1 by omega))).trans N5.out)
        have T7 := Lib.hid (fun v z : Int => TAB.out.keep (D7.out v z))
        have C7 := Lib.hid (fun v z : Int => cells4 (H7.out v z))
        clear N5 D5 T5 hh5 TAB
        cases ht : takeN ta with
        | none =>
          obtain ⟨u1, u2⟩ := tv_none ht
          have HV := Lib.hid (show R = .tuple #[.agg id0, .int .i64 4] by rw [GG.out, TA.out, ht]; rfl)
          generalize (tv ta).2 = p2 at u1 u2 ⊢
          generalize (tv ta).1 = p1
          have c63 := c63 p1
          have f63 := f63 p1
          have N8 := Lib.hid (N7.out p1 za)
          have D8 := Lib.hid (D7.out p1 za)
          clear ht H7 N7 D7 T7 C7
          go_wp2_with (first
            | (with_reducible refine wpList_store_row rfl 26 (.tmp 2) (.tmp 133) rfl w.heap.size id0 rfl rfl 26 id0 N8.out (infoId4 _ _ _ _) (sizeId4 _ _ _ _ _ _ _ _) one_id0 ?_)
            | fail)
          refine bodyPost_ret (results_idt Tryz.results29 _ _ w.heap.size _ (0, 0) _ rfl rfl (setRow_heap _ w.heap.size id0 _ _ (0, 0) N8.out) rfl) rfl ⟨by rw [HV.out]; rfl, below_setRow D8.out (Nat.le_refl _) _⟩
        | some v =>
          rw [tv_some ht]
          have c63 := c63 v
          have f63 := f63 v
          cases hz : zoneR zb with
          | none =>
            have HV := Lib.hid (show R = .tuple #[.agg id0, .int .i64 4] by rw [GG.out, TA.out, ht, ZB.out]; simp only [hz]; rfl)
            unfold zoneA at hzA
            rw [hz] at hzA
            simp at hzA
            obtain ⟨rfl, rfl⟩ := hzA
            have N8 := Lib.hid (N7.out v 0)
            have D8 := Lib.hid (D7.out v 0)
            clear ht hz H7 N7 D7 T7 C7
            go_wp2_with (first
              | (with_reducible refine wpList_store_row rfl 26 (.tmp 2) (.tmp 133) rfl w.heap.size id0 rfl rfl 26 id0 N8.out (infoId4 _ _ _ _) (sizeId4 _ _ _ _ _ _ _ _) one_id0 ?_)
              | fail)
            refine bodyPost_ret (results_idt Tryz.results29 _ _ w.heap.size _ (0, 0) _ rfl rfl (setRow_heap _ w.heap.size id0 _ _ (0, 0) N8.out) rfl) rfl ⟨by rw [HV.out]; rfl, below_setRow D8.out (Nat.le_refl _) _⟩
          | some z =>
            unfold zoneA at hzA
            rw [hz] at hzA
            simp at hzA
            obtain ⟨rfl, rfl⟩ := hzA
            have RG := Lib.hid (show R = idtA (if rightI ⟨[], em, v, z⟩ = true ∧ printI Lib.itoa ⟨[], em, v, z⟩ = l then some ⟨[], em, v, z⟩ else none) by rw [GG.out, TA.out, ht, ZB.out]; simp only [hz, CA.out])
            have cR := fun w t => rRight_is ⟨[], em, v, z⟩ (by simp) eml w t
            have cQ := fun w t => rPrint_is ⟨[], em, v, z⟩ (by simp) eml w t
            unfold idtV at cR cQ
            simp only at cR cQ
            have N8 := Lib.hid (N7.out v z)
            have D8 := Lib.hid (D7.out v z)
            have T8 := Lib.hid (T7.out v z)
            have H8 := Lib.hid (H7.out v z)
            obtain ⟨c80, c81, c82, c83⟩ := C7.out v z
            have IV := Lib.hid (show idtV ⟨[], em, v, z⟩ = .agg #[.string ⟨#[]⟩, .string ⟨em.toArray⟩, .int .i64 v, .int .i64 z] by unfold idtV; simp only)
            clear ht hz H7 N7 D7 T7 C7 GG TA ZB
            go_wp2_with fail
            refine (cR _ T8.out).mono ?_
            rintro e w9 ⟨rfl, b9⟩
            have N9 := Lib.hid ((b9.block _ (lt_heap N8.out)).trans N8.out)
            have hh9 := (b9.block _ (lt_heap H8.out)).trans H8.out
            have D9 := Lib.hid (D8.out.trans (b9.mono D8.out.size))
            have T9 := Lib.hid (T8.out.keep b9)
            obtain ⟨c90, c91, c92, c93⟩ := cells4 hh9
            have H9 := Lib.hid hh9
            clear b9 hh9 N8 D8 T8 H8 c80 c81 c82 c83 cR c52 f52 c63 f63
            cases hr : rightI ⟨[], em, v, z⟩ with
            | false =>
              have HV := Lib.hid (show R = .tuple #[.agg id0, .int .i64 4] by rw [RG.out, if_neg (fun h => by rw [hr] at h; exact absurd h.1 (by decide))]; rfl)
              clear hr
              go_wp2_with (first
                | (with_reducible refine wpList_store_row rfl 26 (.tmp 2) (.tmp 133) rfl w.heap.size id0 rfl rfl 26 id0 N9.out (infoId4 _ _ _ _) (sizeId4 _ _ _ _ _ _ _ _) one_id0 ?_)
                | fail)
              refine bodyPost_ret (results_idt Tryz.results29 _ _ w.heap.size _ (0, 0) _ rfl rfl (setRow_heap _ w.heap.size id0 _ _ (0, 0) N9.out) rfl) rfl ⟨by rw [HV.out]; rfl, below_setRow D9.out (Nat.le_refl _) _⟩
            | true =>
              go_wp2_with fail
              refine (cQ _ T9.out).mono ?_
              rintro e w10 ⟨rfl, b10⟩
              have N10 := Lib.hid ((b10.block _ (lt_heap N9.out)).trans N9.out)
              have hh10 := (b10.block _ (lt_heap H9.out)).trans H9.out
              have D10 := Lib.hid (D9.out.trans (b10.mono D9.out.size))
              obtain ⟨c100, c101, c102, c103⟩ := cells4 hh10
              have one : (#[Value.string ⟨#[]⟩, .string ⟨em.toArray⟩, .int .i64 v, .int .i64 z] : Array Value).all (·.oneCell') = true := by simp [Value.oneCell']
              clear b10 hh10 N9 D9 T9 H9 c90 c91 c92 c93 cQ
              by_cases he : printI Lib.itoa ⟨[], em, v, z⟩ = l
              · have HV := Lib.hid (show R = .tuple #[.agg #[.string ⟨#[]⟩, .string ⟨em.toArray⟩, .int .i64 v, .int .i64 z], .int .i64 0] by rw [RG.out, if_pos ⟨hr, he⟩]; unfold idtA; simp only; rw [IV.out])
                have feq : (⟨(printI Lib.itoa ⟨[], em, v, z⟩).toArray⟩ : ByteArray) = s := by rw [he]; exact HS.out.symm
                rw [feq]
                clear hr he RG feq
                go_wp2_with (first
                  | (with_reducible refine wpList_store_row rfl 26 (.tmp 2) (.tmp 134) rfl w.heap.size #[.string ⟨#[]⟩, .string ⟨em.toArray⟩, .int .i64 v, .int .i64 z] rfl rfl 26 id0 N10.out (infoId4 _ _ _ _) (sizeId4 _ _ _ _ _ _ _ _) one ?_)
                  | fail)
                refine bodyPost_ret (results_idt Tryz.results29 _ _ w.heap.size _ (0, 0) _ rfl rfl (setRow_heap _ w.heap.size id0 _ _ (0, 0) N10.out) rfl) rfl ⟨by rw [HV.out]; rfl, below_setRow D10.out (Nat.le_refl _) _⟩
              · have HV := Lib.hid (show R = .tuple #[.agg id0, .int .i64 4] by rw [RG.out, if_neg (fun h => he h.2)]; rfl)
                have feq : (printI Lib.itoa ⟨[], em, v, z⟩ == l) = false := by rw [beq_eq_false_iff_ne]; exact he
                have hs := HS.out
                clear hr he RG
                generalize printI Lib.itoa ⟨[], em, v, z⟩ = pt at feq
                rw [hs]
                go_wp2_with (first
                  | (with_reducible refine wpList_store_row rfl 26 (.tmp 2) (.tmp 133) rfl w.heap.size id0 rfl rfl 26 id0 N10.out (infoId4 _ _ _ _) (sizeId4 _ _ _ _ _ _ _ _) one_id0 ?_)
                  | fail)
                refine bodyPost_ret (results_idt Tryz.results29 _ _ w.heap.size _ (0, 0) _ rfl rfl (setRow_heap _ w.heap.size id0 _ _ (0, 0) N10.out) rfl) rfl ⟨by rw [HV.out]; rfl, below_setRow D10.out (Nat.le_refl _) _⟩
      · have hx := GET.out j (by omega) (by omega)
        have j1 : (j : Int) < (s.size : Int) := by omega
        have j2 : (j : Int) < (l.length : Int) := by omega
        by_cases c4 : l.getD j 0 = 32
        · by_cases c5 : j = 0
          · subst c5
            have HV := Lib.hid (show R = .tuple #[.agg id0, .int .i64 4] from BA.out (badAiff.out.2 (.inr (.inr (.inr (.inr rfl))))))
            have hx2 : (l.getD 0 0).toNat = 32 := by rw [c4]; rfl
            generalize l.getD 0 0 = y at hx hx2 c4
            have fy : (((y.toNat : Nat) : Int) != 32) = false := by rw [hx2]; rfl
            clear c4 hx2
            go_wp2_with (first
              | (with_reducible refine wpList_store_row rfl 26 (.tmp 2) (.tmp 59) rfl w.heap.size id0 rfl rfl 26 id0 N0.out (infoId4 _ _ _ _) (sizeId4 _ _ _ _ _ _ _ _) one_id0 ?_)
              | fail)
            refine bodyPost_ret (results_idt Tryz.results29 _ _ w.heap.size _ (0, 0) _ rfl rfl (setRow_heap _ w.heap.size id0 _ _ (0, 0) N0.out) rfl) rfl ⟨by rw [HV.out]; rfl, below_setRow D0.out (Nat.le_refl _) _⟩
          · have NA := Lib.hid (show ¬ badA l by
              rw [badAiff.out]
              rintro (h | h | h | h | h)
              · omega
              · omega
              · omega
              · exact h.2 c4
              · omega)
            have hx2 : (l.getD j 0).toNat = 32 := by rw [c4]; rfl
            generalize l.getD j 0 = y at hx hx2 c4
            have fy : (((y.toNat : Nat) : Int) != 32) = false := by rw [hx2]; rfl
            have fj : (((j : Nat) : Int) + 1 == 1) = false := by rw [beq_eq_false_iff_ne]; omega
            clear c4 hx2
            have NEQ := NE.out (by omega)
            have fj2 : (((j : Nat) : Int) + 1 > 1) = True := by simp; omega
            have oj0 : ¬ (((j : Nat) : Int) + 1 < 0) := by omega
            have HA := Lib.hid (heap_alloc2_new w (.cells id0 26) (.cells id0 26))
            have HN := Lib.hid (heap_alloc2_old w (.cells id0 26) (.cells id0 26))
            have HD := Lib.hid ((D0.out).alloc D0.out.size (.cells id0 26))
            have e1 : s.extract (j + 1 + 1) n = ⟨((l.take n).drop (j + 1 + 1)).toArray⟩ := by rw [XM.out, List.drop_take]
            have hRl : (l.drop (n + 1)).length = l.length - (n + 1) := List.length_drop
            have hRs : s.extract (n + 1) l.length = ⟨(l.drop (n + 1)).toArray⟩ := XF.out (n + 1)
            have eml : ((l.take n).drop (j + 1 + 1)).length ≤ 1000000 := by rw [List.length_drop, List.length_take]; omega
            have E1 := Lib.hid e1
            have CA := Lib.hid (show ∀ v z, candI l v z = ⟨(l.take j), (l.take n).drop (j + 1 + 1), v, z⟩ from fun v z => by rw [CAND.out]; rw [if_pos (by omega)]; rfl)
            have RL := Lib.hid (show restI l = l.drop (n + 1) from REST.out)
            clear e1 BA CAND REST badAiff GET
            generalize (l.take n).drop (j + 1 + 1) = em at E1 CA eml
            generalize l.drop (n + 1) = RS at hRl hRs RL
            have hrz : (⟨RS.toArray⟩ : ByteArray).size = RS.length := size_toArray RS
            have hrget0 : ∀ j, j < RS.length → ∀ h2 : j < (⟨RS.toArray⟩ : ByteArray).size, (⟨RS.toArray⟩ : ByteArray)[j]'h2 = RS.getD j 0 := fun j h h2 => getD_mk RS j h h2
            have RXM := Lib.hid (fun a b => Lib.extract_mk RS a b)
            obtain ⟨rs, hrs⟩ : ∃ rs : ByteArray, rs = ⟨RS.toArray⟩ := ⟨_, rfl⟩
            have hrget : ∀ j, j < RS.length → ∀ h2 : j < rs.size, rs[j]'h2 = RS.getD j 0 := by subst hrs; exact hrget0
            rw [← hrs] at hRs hrz RXM
            have RGET := Lib.hid hrget
            clear hrget hrget0 hrs
            have n1 : (n : Int) + 1 ≤ (s.size : Int) := by omega
            have n2 : (n : Int) + 1 ≤ (l.length : Int) := by omega
            have o1 : ((j : Int) + 1 : Int) + 1 ≤ (n : Int) := by omega
            go_wp2_with (first
              | (with_reducible refine wpList_store_idt rfl (.tmp 7) (.tmp 65) rfl (w.heap.size + 1) _ _ _ _ _ _ _ _ rfl rfl HA.out (by simp [Value.oneCell']) ?_)
              | fail)
            intro w2 h2 d2 k2 z2
            rw [E1.out] at h2
            have hd2 := d2 w.heap.size w (by omega) HD.out
            have hn2 := (k2 w.heap.size (by omega)).trans HN.out
            clear d2 k2 z2 HA HN HD
            have c20 : w2.cell? ⟨w.heap.size + 1, 0, none⟩ = some (.string ⟨#[]⟩) := (cells4 h2).1
            have f20 : w2.frozen? ⟨w.heap.size + 1, 0, none⟩ = false := Lib.frozen_of_heap h2 0
            have H3 := Lib.hid (setCell4_0 (v := .string (s.extract 0 j)) h2)
            have N3 := Lib.hid ((setCell_far (p := ⟨w.heap.size + 1, 0, none⟩) (.string (s.extract 0 j)) (show w.heap.size ≠ w.heap.size + 1 by omega)).trans hn2)
            have D3 := Lib.hid (hd2.setCell (p := ⟨w.heap.size + 1, 0, none⟩) (show w.heap.size ≤ w.heap.size + 1 by omega) (.string (s.extract 0 j)))
            have T3 := Lib.hid (TAB.out.keep D3.out)
            clear h2 hn2 hd2
            by_cases r8 : RS.length < 8
            · have HV := Lib.hid (show R = .tuple #[.agg id0, .int .i64 4] from BB.out (by rw [RL.out]; exact .inl r8))
              have g8 : ((RS.length : Nat) : Int) < 8 := by omega
              go_wp2_with (first
                | (with_reducible refine wpList_store_row rfl 26 (.tmp 2) (.tmp 93) rfl w.heap.size id0 rfl rfl 26 id0 N3.out (infoId4 _ _ _ _) (sizeId4 _ _ _ _ _ _ _ _) one_id0 ?_)
                | fail)
              refine bodyPost_ret (results_idt Tryz.results29 _ _ w.heap.size _ (0, 0) _ rfl rfl (setRow_heap _ w.heap.size id0 _ _ (0, 0) N3.out) rfl) rfl ⟨by rw [HV.out]; rfl, below_setRow D3.out (Nat.le_refl _) _⟩
            obtain ⟨q, hq⟩ : ∃ q, RS.length = q + 6 := ⟨RS.length - 6, by omega⟩
            have q2 : 2 ≤ q := by omega
            have qb : q ≤ 1000000 := by omega
            have g8 : ¬ (((RS.length : Nat) : Int) < 8) := by omega
            have BB0 := Lib.hid (fun h : RS.getD 0 0 ≠ 32 => (BB.out (by rw [RL.out]; exact .inr (.inl h)) : R = .tuple #[.agg id0, .int .i64 4]))
            have BBq := Lib.hid (fun h : RS.getD q 0 ≠ 32 => (BB.out (by rw [RL.out]; refine .inr (.inr ?_); rw [show RS.length - 6 = q by omega]; exact h) : R = .tuple #[.agg id0, .int .i64 4]))
            have GDB := Lib.hid (fun h0 : RS.getD 0 0 = 32 => fun hq' : RS.getD q 0 = 32 => (by rw [RL.out]; rintro (h | h | h); exact r8 h; exact h h0; exact h (by rw [show RS.length - 6 = q by omega]; exact hq') : ¬ badB (restI l)))
            have TA := Lib.hid (show ((restI l).take ((restI l).length - 6)).drop 1 = (RS.take q).drop 1 by rw [RL.out, show RS.length - 6 = q by omega])
            have ZB := Lib.hid (show (restI l).drop ((restI l).length - 5) = RS.drop (q + 1) by rw [RL.out, show RS.length - 5 = q + 1 by omega])
            rw [hq] at hrz g8
            have y0 := RGET.out 0 (by omega) (by rw [hrz]; exact Nat.succ_pos _)
            have yq := RGET.out q (by omega) (by rw [hrz]; exact Nat.lt_add_of_pos_right (by decide))
            have et : rs.extract 1 q = ⟨((RS.take q).drop 1).toArray⟩ := by rw [RXM.out, List.drop_take]
            have ez : rs.extract (q + 1) (q + 6) = ⟨(RS.drop (q + 1)).toArray⟩ := by rw [RXM.out, show q + 6 - (q + 1) = 5 by omega, List.take_of_length_le (by rw [List.length_drop, hq]; omega)]
            have tl : ((RS.take q).drop 1).length ≤ 1000000 := by rw [List.length_drop, List.length_take]; omega
            have zl : (RS.drop (q + 1)).length ≤ 1000000 := by rw [List.length_drop]; omega
            have rsq : (q : Int) < (rs.size : Int) := by omega
            have rs0 : (0 : Int) < (rs.size : Int) := by omega
            clear BB RXM RGET
            generalize ha0 : RS.getD 0 0 = A0 at y0 BB0 GDB
            generalize haq : RS.getD q 0 = AQ at yq BBq GDB
            generalize (RS.take q).drop 1 = ta at TA et tl
            generalize RS.drop (q + 1) = zb at ZB ez zl
            clear ha0 haq hq RL
            by_cases a32 : A0 = 32
            case neg =>
              have HV := Lib.hid (BB0.out a32)
              have f0 : (((A0.toNat : Nat) : Int) != 32) = true := by
                rw [bne_iff_ne]
                intro e
                exact a32 (UInt8.toNat_inj.1 (by show A0.toNat = 32; omega))
              clear a32
              go_wp2_with (first
                | (with_reducible refine wpList_store_row rfl 26 (.tmp 2) (.tmp 93) rfl w.heap.size id0 rfl rfl 26 id0 N3.out (infoId4 _ _ _ _) (sizeId4 _ _ _ _ _ _ _ _) one_id0 ?_)
                | fail)
              refine bodyPost_ret (results_idt Tryz.results29 _ _ w.heap.size _ (0, 0) _ rfl rfl (setRow_heap _ w.heap.size id0 _ _ (0, 0) N3.out) rfl) rfl ⟨by rw [HV.out]; rfl, below_setRow D3.out (Nat.le_refl _) _⟩
            have f0 : (((A0.toNat : Nat) : Int) != 32) = false := by rw [a32]; rfl
            by_cases q32 : AQ = 32
            case neg =>
              have HV := Lib.hid (BBq.out q32)
              have fq : (((AQ.toNat : Nat) : Int) != 32) = true := by
                rw [bne_iff_ne]
                intro e
                exact q32 (UInt8.toNat_inj.1 (by show AQ.toNat = 32; omega))
              clear a32 q32
              go_wp2_with (first
                | (with_reducible refine wpList_store_row rfl 26 (.tmp 2) (.tmp 93) rfl w.heap.size id0 rfl rfl 26 id0 N3.out (infoId4 _ _ _ _) (sizeId4 _ _ _ _ _ _ _ _) one_id0 ?_)
                | fail)
              refine bodyPost_ret (results_idt Tryz.results29 _ _ w.heap.size _ (0, 0) _ rfl rfl (setRow_heap _ w.heap.size id0 _ _ (0, 0) N3.out) rfl) rfl ⟨by rw [HV.out]; rfl, below_setRow D3.out (Nat.le_refl _) _⟩
            have fq : (((AQ.toNat : Nat) : Int) != 32) = false := by rw [q32]; rfl
            have GG := Lib.hid (GD.out NA (GDB.out a32 q32))
            have cT := fun w => rTake_all ta tl w
            have cZ := fun w => rZone_is zb zl w
            clear a32 q32 GDB BB0 BBq GD NA
            go_wp2_with fail
            refine (cT _).mono ?_
            rintro e w4 ⟨rfl, b4⟩
            have H4 := Lib.hid ((b4.block _ (lt_heap H3.out)).trans H3.out)
            have N4 := Lib.hid ((b4.block _ (lt_heap N3.out)).trans N3.out)
            have D4 := Lib.hid (D3.out.trans (b4.mono D3.out.size))
            have T4 := Lib.hid (T3.out.keep b4)
            clear b4 H3 N3 D3 T3 cT
            obtain ⟨za, zf, hzA⟩ := zoneA_shape zb
            rw [hzA] at cZ
            go_wp2_with fail
            refine (cZ _).mono ?_
            rintro e w5 ⟨rfl, b5⟩
            have hh5 := (b5.block _ (lt_heap H4.out)).trans H4.out
            have N5 := Lib.hid ((b5.block _ (lt_heap N4.out)).trans N4.out)
            have D5 := Lib.hid (D4.out.trans (b5.mono D4.out.size))
            have T5 := Lib.hid (T4.out.keep b5)
            clear b5 H4 N4 D4 T4 cZ c20 f20
            have c52 := (cells4 hh5).2.2.1
            have f52 : w5.frozen? ⟨w.heap.size + 1, 2, none⟩ = false := Lib.frozen_of_heap hh5 2
            have c63 := fun v : Int => (cells4 (setCell4_2 (v := .int .i64 v) hh5)).2.2.2
            have f63 := fun v : Int => Lib.frozen_of_heap (setCell4_2 (v := .int .i64 v) hh5) 3
            have H7 := Lib.hid (fun v z : Int => setCell4_3 (v := .int .i64 z) (setCell4_2 (v := .int .i64 v) hh5))
            have D7 := Lib.hid (fun v z : Int => (D5.out.setCell (p := ⟨w.heap.size + 1, 2, none⟩) (show w.heap.size ≤ w.heap.size + 1 by omega) (.int .i64 v)).setCell (p := ⟨w.heap.size + 1, 3, none⟩) (show w.heap.size ≤ w.heap.size + 1 by omega) (.int .i64 z))
            have N7 := Lib.hid (fun v z : Int => ((setCell_far (w := w5.setCell ⟨w.heap.size + 1, 2, none⟩ (.int .i64 v)) (p := ⟨w.heap.size + 1, 3, none⟩) (.int .i64 z) (show w.heap.size ≠ w.heap.size + 1 by omega)).trans (setCell_far (p := ⟨w.heap.size + 1, 2, none⟩) (.int .i64 v) (show w.heap.size ≠ w.heap.size + 1 by omega))).trans N5.out)
            have T7 := Lib.hid (fun v z : Int => TAB.out.keep (D7.out v z))
            have C7 := Lib.hid (fun v z : Int => cells4 (H7.out v z))
            clear N5 D5 T5 hh5 TAB
            cases ht : takeN ta with
            | none =>
              obtain ⟨u1, u2⟩ := tv_none ht
              have HV := Lib.hid (show R = .tuple #[.agg id0, .int .i64 4] by rw [GG.out, TA.out, ht]; rfl)
              generalize (tv ta).2 = p2 at u1 u2 ⊢
              generalize (tv ta).1 = p1
              have c63 := c63 p1
              have f63 := f63 p1
              have N8 := Lib.hid (N7.out p1 za)
              have D8 := Lib.hid (D7.out p1 za)
              clear ht H7 N7 D7 T7 C7
              go_wp2_with (first
                | (with_reducible refine wpList_store_row rfl 26 (.tmp 2) (.tmp 133) rfl w.heap.size id0 rfl rfl 26 id0 N8.out (infoId4 _ _ _ _) (sizeId4 _ _ _ _ _ _ _ _) one_id0 ?_)
                | fail)
              refine bodyPost_ret (results_idt Tryz.results29 _ _ w.heap.size _ (0, 0) _ rfl rfl (setRow_heap _ w.heap.size id0 _ _ (0, 0) N8.out) rfl) rfl ⟨by rw [HV.out]; rfl, below_setRow D8.out (Nat.le_refl _) _⟩
            | some v =>
              rw [tv_some ht]
              have c63 := c63 v
              have f63 := f63 v
              cases hz : zoneR zb with
              | none =>
                have HV := Lib.hid (show R = .tuple #[.agg id0, .int .i64 4] by rw [GG.out, TA.out, ht, ZB.out]; simp only [hz]; rfl)
                unfold zoneA at hzA
                rw [hz] at hzA
                simp at hzA
                obtain ⟨rfl, rfl⟩ := hzA
                have N8 := Lib.hid (N7.out v 0)
                have D8 := Lib.hid (D7.out v 0)
                clear ht hz H7 N7 D7 T7 C7
                go_wp2_with (first
                  | (with_reducible refine wpList_store_row rfl 26 (.tmp 2) (.tmp 133) rfl w.heap.size id0 rfl rfl 26 id0 N8.out (infoId4 _ _ _ _) (sizeId4 _ _ _ _ _ _ _ _) one_id0 ?_)
                  | fail)
                refine bodyPost_ret (results_idt Tryz.results29 _ _ w.heap.size _ (0, 0) _ rfl rfl (setRow_heap _ w.heap.size id0 _ _ (0, 0) N8.out) rfl) rfl ⟨by rw [HV.out]; rfl, below_setRow D8.out (Nat.le_refl _) _⟩
              | some z =>
                unfold zoneA at hzA
                rw [hz] at hzA
                simp at hzA
                obtain ⟨rfl, rfl⟩ := hzA
                have RG := Lib.hid (show R = idtA (if rightI ⟨(l.take j), em, v, z⟩ = true ∧ printI Lib.itoa ⟨(l.take j), em, v, z⟩ = l then some ⟨(l.take j), em, v, z⟩ else none) by rw [GG.out, TA.out, ht, ZB.out]; simp only [hz, CA.out])
                have cR := fun w t => rRight_is ⟨(l.take j), em, v, z⟩ (by simp only [List.length_take]; omega) eml w t
                have cQ := fun w t => rPrint_is ⟨(l.take j), em, v, z⟩ (by simp only [List.length_take]; omega) eml w t
                unfold idtV at cR cQ
                simp only at cR cQ
                rw [← XU.out j] at cR cQ
                have N8 := Lib.hid (N7.out v z)
                have D8 := Lib.hid (D7.out v z)
                have T8 := Lib.hid (T7.out v z)
                have H8 := Lib.hid (H7.out v z)
                obtain ⟨c80, c81, c82, c83⟩ := C7.out v z
                have IV := Lib.hid (show idtV ⟨(l.take j), em, v, z⟩ = .agg #[.string (s.extract 0 j), .string ⟨em.toArray⟩, .int .i64 v, .int .i64 z] by unfold idtV; simp only; rw [XU.out j])
                clear ht hz H7 N7 D7 T7 C7 GG TA ZB
                go_wp2_with fail
                refine (cR _ T8.out).mono ?_
                rintro e w9 ⟨rfl, b9⟩
                have N9 := Lib.hid ((b9.block _ (lt_heap N8.out)).trans N8.out)
                have hh9 := (b9.block _ (lt_heap H8.out)).trans H8.out
                have D9 := Lib.hid (D8.out.trans (b9.mono D8.out.size))
                have T9 := Lib.hid (T8.out.keep b9)
                obtain ⟨c90, c91, c92, c93⟩ := cells4 hh9
                have H9 := Lib.hid hh9
                clear b9 hh9 N8 D8 T8 H8 c80 c81 c82 c83 cR c52 f52 c63 f63
                cases hr : rightI ⟨(l.take j), em, v, z⟩ with
                | false =>
                  have HV := Lib.hid (show R = .tuple #[.agg id0, .int .i64 4] by rw [RG.out, if_neg (fun h => by rw [hr] at h; exact absurd h.1 (by decide))]; rfl)
                  clear hr
                  go_wp2_with (first
                    | (with_reducible refine wpList_store_row rfl 26 (.tmp 2) (.tmp 133) rfl w.heap.size id0 rfl rfl 26 id0 N9.out (infoId4 _ _ _ _) (sizeId4 _ _ _ _ _ _ _ _) one_id0 ?_)
                    | fail)
                  refine bodyPost_ret (results_idt Tryz.results29 _ _ w.heap.size _ (0, 0) _ rfl rfl (setRow_heap _ w.heap.size id0 _ _ (0, 0) N9.out) rfl) rfl ⟨by rw [HV.out]; rfl, below_setRow D9.out (Nat.le_refl _) _⟩
                | true =>
                  go_wp2_with fail
                  refine (cQ _ T9.out).mono ?_
                  rintro e w10 ⟨rfl, b10⟩
                  have N10 := Lib.hid ((b10.block _ (lt_heap N9.out)).trans N9.out)
                  have hh10 := (b10.block _ (lt_heap H9.out)).trans H9.out
                  have D10 := Lib.hid (D9.out.trans (b10.mono D9.out.size))
                  obtain ⟨c100, c101, c102, c103⟩ := cells4 hh10
                  have one : (#[Value.string (s.extract 0 j), .string ⟨em.toArray⟩, .int .i64 v, .int .i64 z] : Array Value).all (·.oneCell') = true := by simp [Value.oneCell']
                  clear b10 hh10 N9 D9 T9 H9 c90 c91 c92 c93 cQ
                  by_cases he : printI Lib.itoa ⟨(l.take j), em, v, z⟩ = l
                  · have HV := Lib.hid (show R = .tuple #[.agg #[.string (s.extract 0 j), .string ⟨em.toArray⟩, .int .i64 v, .int .i64 z], .int .i64 0] by rw [RG.out, if_pos ⟨hr, he⟩]; unfold idtA; simp only; rw [IV.out])
                    have feq : (⟨(printI Lib.itoa ⟨(l.take j), em, v, z⟩).toArray⟩ : ByteArray) = s := by rw [he]; exact HS.out.symm
                    rw [feq]
                    clear hr he RG feq
                    go_wp2_with (first
                      | (with_reducible refine wpList_store_row rfl 26 (.tmp 2) (.tmp 134) rfl w.heap.size #[.string (s.extract 0 j), .string ⟨em.toArray⟩, .int .i64 v, .int .i64 z] rfl rfl 26 id0 N10.out (infoId4 _ _ _ _) (sizeId4 _ _ _ _ _ _ _ _) one ?_)
                      | fail)
                    refine bodyPost_ret (results_idt Tryz.results29 _ _ w.heap.size _ (0, 0) _ rfl rfl (setRow_heap _ w.heap.size id0 _ _ (0, 0) N10.out) rfl) rfl ⟨by rw [HV.out]; rfl, below_setRow D10.out (Nat.le_refl _) _⟩
                  · have HV := Lib.hid (show R = .tuple #[.agg id0, .int .i64 4] by rw [RG.out, if_neg (fun h => he h.2)]; rfl)
                    have feq : (printI Lib.itoa ⟨(l.take j), em, v, z⟩ == l) = false := by rw [beq_eq_false_iff_ne]; exact he
                    have hs := HS.out
                    clear hr he RG
                    generalize printI Lib.itoa ⟨(l.take j), em, v, z⟩ = pt at feq
                    rw [hs]
                    go_wp2_with (first
                      | (with_reducible refine wpList_store_row rfl 26 (.tmp 2) (.tmp 133) rfl w.heap.size id0 rfl rfl 26 id0 N10.out (infoId4 _ _ _ _) (sizeId4 _ _ _ _ _ _ _ _) one_id0 ?_)
                      | fail)
                    refine bodyPost_ret (results_idt Tryz.results29 _ _ w.heap.size _ (0, 0) _ rfl rfl (setRow_heap _ w.heap.size id0 _ _ (0, 0) N10.out) rfl) rfl ⟨by rw [HV.out]; rfl, below_setRow D10.out (Nat.le_refl _) _⟩
        · have HV := Lib.hid (show R = .tuple #[.agg id0, .int .i64 4] from BA.out (badAiff.out.2 (.inr (.inr (.inr (.inl ⟨by omega, c4⟩))))))
          generalize l.getD j 0 = y at hx c4
          have fy : (((y.toNat : Nat) : Int) != 32) = true := by
            rw [bne_iff_ne]
            intro e
            exact c4 (UInt8.toNat_inj.1 (by show y.toNat = 32; omega))
          clear c4
          go_wp2_with (first
            | (with_reducible refine wpList_store_row rfl 26 (.tmp 2) (.tmp 59) rfl w.heap.size id0 rfl rfl 26 id0 N0.out (infoId4 _ _ _ _) (sizeId4 _ _ _ _ _ _ _ _) one_id0 ?_)
            | fail)
          refine bodyPost_ret (results_idt Tryz.results29 _ _ w.heap.size _ (0, 0) _ rfl rfl (setRow_heap _ w.heap.size id0 _ _ (0, 0) N0.out) rfl) rfl ⟨by rw [HV.out]; rfl, below_setRow D0.out (Nat.le_refl _) _⟩
end Go.Proofs.YtonkclkopmdahaaGreatDoor

/-
  Layer 6: both ways to parse are one; numbers that fit; how long a text is.
-/
namespace Go.Proofs.YtonkclkopmdahaaGreatDoor
open Go.RowKit
set_option linter.unusedVariables false
set_option linter.unusedSimpArgs false

theorem num_itoa : Num Lib.itoa takeN := ⟨fun v h0 h1 => (take_itoa v (by omega) (by omega)).1, fun v h0 h1 => by
  have h := (take_itoa v (by omega) (by omega)).2.1
  cases e : Lib.itoa v with
  | nil => exact absurd e h
  | cons _ _ => simp⟩
theorem itoa_no_blank : ∀ v, 0 ≤ v → v ≤ 1099511627775 → ∀ c ∈ Lib.itoa v, c ≠ 32 := by
  intro v h0 h1 c hc
  unfold Lib.itoa at hc
  rw [if_neg (by omega)] at hc
  have := (decDigits_spec v.toNat).1 c hc
  intro e
  rw [e] at this
  exact absurd this (by decide)
/-- Both parse alike. -/
theorem parse_alike (s : List UInt8) : parseP Lib.itoa takeN s = parseR Lib.itoa takeN s := parse_same num_itoa itoa_no_blank s
theorem parse_nil : parseP Lib.itoa takeN [] = none := by rw [parse_alike]; exact parseR_badA (.inl (Nat.zero_le _))
theorem parse_right (i : Idt) (h : rightI i = true) : parseP Lib.itoa takeN (printI Lib.itoa i) = some i := by rw [parse_alike]; exact parse_print num_itoa h
theorem parse_some (s : List UInt8) (i : Idt) (h : parseP Lib.itoa takeN s = some i) : rightI i = true ∧ printI Lib.itoa i = s := by rw [parse_alike] at h; exact parse_only h
theorem idtA_some (i : Idt) : idtA (some i) = .tuple #[.agg #[.string ⟨i.name.toArray⟩, .string ⟨i.email.toArray⟩, .int .i64 i.whn, .int .i64 i.zone], .int .i64 0] := rfl
theorem idtA_none : idtA none = .tuple #[.agg #[.string ⟨#[]⟩, .string ⟨#[]⟩, .int .i64 0, .int .i64 0], .int .i64 4] := rfl
end Go.Proofs.YtonkclkopmdahaaGreatDoor

/-
  The helper Own of the statements, over bytes: a copy with three bytes of room behind it.
-/
namespace Go.Proofs.YtonkclkopmdahaaGreatDoor
set_option maxRecDepth 20000
open Go.RowKit
set_option linter.unusedVariables false

set_option maxHeartbeats 1000000 in
theorem Own_core (ao : Option Addr) (c : Nat) (l : List UInt8) (f : Int) (w : World)
    (hnone : ao = none → l.length = 0 ∧ c = 0) (hcells : ∀ w', Below w.heap.size w w' → ∀ ad, ao = some ad → ∀ j u, (Lib.byteCells l)[j]? = some u → w'.cell? (ad.add j) = some u) (hn : l.length ≤ 1099511627776) :
    Calls Tryz.prog 9 #[.slice ao l.length c, .int .u8 f] w fun e w' => e = .returned (.slice (some ⟨w.heap.size, 0, none⟩) l.length (l.length + 3)) ∧
      w'.ownsRow w.heap.size 5 1 (.slice (some ⟨w.heap.size, 0, none⟩) (l.length + 3) (l.length + 3)) (l.length + 3) (Lib.byteCells l ++ List.replicate 3 (.int .u8 f)) ∧ Below w.heap.size w w' := by
  obtain ⟨i0, hi, hz0, hz1, hz2⟩ := info_parts info5
  have HC := Lib.hid hcells; clear hcells
  have HN := Lib.hid hnone; clear hnone
  have hbl : (Lib.byteCells l).length = l.length := by simp [Lib.byteCells]
  have HBL := Lib.hid hbl; clear hbl
  go_enter Tryz.func9, Tryz.ntmps9
  go_wp2_with (at_make; refine wpList_make_own _ rfl _ _ 29 rfl w.heap.size 5 i0 (.int .u8 0) 1 Tryz.underlying29 hi hz0 hz1 _ _ _ (l.length + 3) rfl rfl (by omega) ?b2 ?b3 (Nat.le_refl _) ?_)
  case b2 => rw [hz2]; omega
  case b3 => unfold maxLen; omega
  intro w0 hown0 hgrow0
  have hb0 : Below w.heap.size w w0 := (Below.refl _ _).grown hgrow0 (Nat.le_refl _) (fun k h => by cases h)
  have HC0 := Lib.hid (HC.out w0 hb0)
  go_wp2_with (at_builtin; refine wpList_append_fits_any _ rfl _ _ 29 rfl w.heap.size 5 i0 1 Tryz.underlying29 hi hz1 w.heap.size 0 (l.length + 3) _ rfl hown0 ao l.length c (Lib.byteCells l) rfl ?c1 ?c2 ?c3 ?c4 ?c5 ?_)
  case c1 => rw [HBL.out]; omega
  case c2 => exact HN.out
  case c3 => exact HC0.out
  case c4 => intro u hu; simp [Lib.byteCells] at hu; obtain ⟨x, _, rfl⟩ := hu; rfl
  case c5 => omega
  intro w1 hown1 hgrow1
  have hb1 : Below w.heap.size w w1 := hb0.grown hgrow1 hb0.size (fun k hk => by cases hk; exact Nat.le_refl _)
  clear hown0 hgrow0 hgrow1 HC0 hb0
  have hown2 : w1.ownsRow w.heap.size 5 1 (.slice (some ⟨w.heap.size, 0, none⟩) l.length (l.length + 3)) l.length (Lib.byteCells l) := by simpa using hown1
  obtain ⟨ys, hown, hys⟩ := own_full hown2
  clear hown2
  clear hown1
  have HY := Lib.hid hys; clear hys
  go_wp2_with fail
  go_loopw [7] (fun i wr => ∃ (k : Nat) (ys : List Value), l.length ≤ k ∧ k ≤ l.length + 3 ∧ i = .int .i64 k ∧ wr.ownsRow w.heap.size 5 1 (.slice (some ⟨w.heap.size, 0, none⟩) (l.length + 3) (l.length + 3)) (l.length + 3) ys ∧
      ys.take k = Lib.byteCells l ++ List.replicate (k - l.length) (.int .u8 f) ∧ Below w.heap.size w wr) (fun i _ => l.length + 3 - (intOf i).toNat)
  case atStart => exact ⟨l.length, ys, Nat.le_refl _, by omega, rfl, hown, by rw [HY.out]; simp, hb1⟩
  case round =>
    clear hown hb1 HY
    obtain ⟨k, ys, hk0, hk, rfl, hown, hys, hbr⟩ := hrel
    have HY := Lib.hid hys; clear hys
    by_cases hlt : k < l.length + 3
    · obtain ⟨y, hy⟩ := own_cell hown k hlt
      have hfz := hown.frozenAt k
      obtain ⟨hst, hgr⟩ := hown.stored k (.int .u8 f)
      have hlen := own_len hown
      have HL := Lib.hid hlen; clear hlen
      have HS := Lib.hid hst; clear hst
      have HG := Lib.hid hgr; clear hgr
      go_wp2
      go_roundw
      case rel =>
        refine ⟨k + 1, ys.set k (.int .u8 f), by omega, by omega, by go_num, HS.out, ?_, hbr.grown HG.out hbr.size (fun k hk => by cases hk; exact Nat.le_refl _)⟩
        have hl := HL.out
        rw [List.take_succ_eq_append_getElem (by simp; omega), List.take_set_of_le (Nat.le_refl _), HY.out, show k + 1 - l.length = (k - l.length) + 1 by omega, List.replicate_succ', List.append_assoc]
        simp
      case measure => simp [intOf]; omega
    · obtain rfl : k = l.length + 3 := by omega
      go_wp2
      go_ret
      have hl := own_len hown
      have e := HY.out
      rw [List.take_of_length_le (by omega), show l.length + 3 - l.length = 3 by omega] at e
      rw [e] at hown
      exact ⟨rfl, hown, hbr⟩

/-- What Own leaves: the copy, and its room, in a block of its own. -/
def OwnAt (w : World) (g : Nat) (l : List UInt8) (f : Int) : Prop :=
  w.ownsRow g 5 1 (.slice (some ⟨g, 0, none⟩) (l.length + 3) (l.length + 3)) (l.length + 3) (Lib.byteCells l ++ List.replicate 3 (.int .u8 f))
theorem OwnAt.keep {w w' : World} {g : Nat} {l : List UInt8} {f : Int} (h : OwnAt w g l f) (hb : Below w.heap.size w w') : OwnAt w' g l f := own_keep h hb
theorem OwnAt.lt {w : World} {g : Nat} {l : List UInt8} {f : Int} (h : OwnAt w g l f) : g < w.heap.size := own_lt h
theorem OwnAt.bat {w : World} {g : Nat} {l : List UInt8} {f : Int} (h : OwnAt w g l f) : BAt w (some ⟨g, 0, none⟩) l := fun hp =>
  ⟨g, 0, rfl, own_lt h, fun i hi => by
    rw [Nat.zero_add, h.cellAt i (by omega), List.getElem?_append_left (by simpa [Lib.byteCells] using hi), byteCells_at]
    simp [hi]⟩
theorem OwnAt.room {w : World} {g : Nat} {l : List UInt8} {f : Int} (h : OwnAt w g l f) (i : Nat) (h0 : l.length ≤ i) (h1 : i < l.length + 3) : w.cell? ⟨g, i, none⟩ = some (.int .u8 f) := by
  have e : (Lib.byteCells l).length = l.length := by simp [Lib.byteCells]
  rw [h.cellAt i (by omega), List.getElem?_append_right (by omega), e, List.getElem?_replicate, if_pos (by omega)]

theorem BAt.cells {w : World} {a : Option Addr} {l : List UInt8} (h : BAt w a l) (ad : Addr) (had : a = some ad) (j : Nat) (u : Value) (hj : (Lib.byteCells l)[j]? = some u) : w.cell? (ad.add j) = some u := by
  have hlt : j < l.length := by
    rcases Nat.lt_or_ge j l.length with h' | h'
    · exact h'
    · rw [byteCells_at, List.getElem?_eq_none h'] at hj; cases hj
  obtain ⟨b, o, e, _, hc⟩ := h (by omega)
  rw [had] at e
  cases e
  rw [show (⟨b, o, none⟩ : Addr).add j = ⟨b, o + j, none⟩ by unfold Addr.add; split <;> simp_all, hc j hlt]
  rw [byteCells_at, List.getElem?_eq_getElem hlt] at hj
  simpa using hj

theorem Own_any (a : Option Addr) (n c : Nat) (l : List UInt8) (f : Int) (w : World) (h : BAt w a l) (hnone : a = none → n = 0 ∧ c = 0) (hl : n = l.length) (hn : l.length ≤ 1099511627776) :
    Calls Tryz.prog 9 #[.slice a n c, .int .u8 f] w fun e w' => e = .returned (.slice (some ⟨w.heap.size, 0, none⟩) l.length (l.length + 3)) ∧ OwnAt w' w.heap.size l f ∧ Below w.heap.size w w' := by
  subst hl
  exact Own_core a c l f w hnone (fun w' hb => (h.keep hb).cells) hn
end Go.Proofs.YtonkclkopmdahaaGreatDoor
