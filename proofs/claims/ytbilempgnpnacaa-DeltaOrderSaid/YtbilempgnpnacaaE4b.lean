/-
  Layer 14, the program: what two texts begin and end with alike.
-/
import Derived.Test.YtbilempgnpnacaaE4a
import Derived.Test.YtbilempgnpnacaaFbd
import Derived.Test.YtbilempgnpnacaaGrw
import Derived.Deep.QuietTactic
import Derived.BigQuiet
namespace Go.Proofs.Ytbilempgnpnacaa
set_option maxRecDepth 20000
open Go.RowKit
set_option linter.unusedVariables false
set_option linter.unusedSimpArgs false

theorem getD_lt {l : List UInt8} {k : Nat} (h : k < l.length) : l.getD k 0 = l[k] := by simp [h]
theorem BAt.at {w : World} {a : Option Addr} {l : List UInt8} (h : BAt w a l) (hp : 0 < l.length) : ∃ b o, a = some ⟨b, o, none⟩ ∧ b < w.heap.size ∧ ∀ k, k < l.length → w.cell? ⟨b, o + k, none⟩ = some (.int .u8 (l.getD k 0).toNat) := by
  obtain ⟨b, o, h1, h2, h3⟩ := h hp
  exact ⟨b, o, h1, h2, fun k hk => by rw [getD_lt hk]; exact h3 k hk⟩
theorem u8_beq (x y : UInt8) : ((x.toNat : Int) == (y.toNat : Int)) = (x == y) := by
  by_cases h : x = y
  · subst h; simp
  · have : x.toNat ≠ y.toNat := fun e => h (UInt8.toNat_inj.1 e)
    rw [beq_eq_false_iff_ne.2 (by omega), beq_eq_false_iff_ne.2 h]
set_option maxHeartbeats 4000000 in
theorem cStart_is (a1 a2 : Option Addr) (n1 n2 c1 c2 : Nat) (l1 l2 : List UInt8) (w : World) (h1 : BAt w a1 l1) (h2 : BAt w a2 l2) (e1 : n1 = l1.length) (e2 : n2 = l2.length) (m1 : n1 ≤ 1000000) (m2 : n2 ≤ 1000000) :
    Calls Try.prog 35 #[.slice a1 n1 c1, .slice a2 n2 c2] w fun e w' => e = .returned (.int .i64 (comL l1 l2)) ∧ Below w.heap.size w w' := by
  have H1 := Lib.hid h1; have H2 := Lib.hid h2; have E1 := Lib.hid e1; have E2 := Lib.hid e2
  clear h1 h2 e1 e2
  by_cases hmin : n2 < n1
  all_goals
    go_enter Try.func35, Try.ntmps35
    go_wp2_with fail
    go_loopw [5] (fun i wr => ∃ k : Nat, k ≤ n1 ∧ k ≤ n2 ∧ i = .int .i64 k ∧ (∀ j, j < k → l1.getD j 0 = l2.getD j 0) ∧ Below w.heap.size w wr) (fun i _ => n1 - (intOf i).toNat)
    case atStart => exact ⟨0, Nat.zero_le _, Nat.zero_le _, rfl, fun j h => absurd h (Nat.not_lt_zero _), Below.refl _ _⟩
    case round =>
      obtain ⟨k, hk1, hk2, rfl, hal, hbr⟩ := hrel
      have HAL := Lib.hid hal; have HBR := Lib.hid hbr
      clear hal hbr
      by_cases hlt : k < n1 ∧ k < n2
      · obtain ⟨p1, p2⟩ := hlt
        obtain ⟨b1, o1, rfl, g1, q1⟩ := H1.out.at (by rw [← E1.out]; omega)
        obtain ⟨b2, o2, rfl, g2, q2⟩ := H2.out.at (by rw [← E2.out]; omega)
        have c1' : wr.cell? ⟨b1, o1 + k, none⟩ = _ := (HBR.out.cell (p := ⟨b1, o1 + k, none⟩) g1).trans (q1 k (by rw [← E1.out]; exact p1))
        have c2' : wr.cell? ⟨b2, o2 + k, none⟩ = _ := (HBR.out.cell (p := ⟨b2, o2 + k, none⟩) g2).trans (q2 k (by rw [← E2.out]; exact p2))
        have UB := u8_beq (l1.getD k 0) (l2.getD k 0)
        have XE := Lib.hid (fun j => (Iff.rfl : l1.getD j 0 = l2.getD j 0 ↔ _))
        obtain ⟨r, hr⟩ : ∃ r, (l1.getD k 0 == l2.getD k 0) = r := ⟨_, rfl⟩
        rw [hr] at UB
        have HR := Lib.hid hr
        generalize (((l1.getD k 0).toNat : Nat) : Int) = x at *
        generalize (((l2.getD k 0).toNat : Nat) : Int) = y at *
        clear q1 q2 hr
        go_wp2_with fail
        go_quiet (fail)
        have HB2 := Lib.hid (below_drewN HBR.out nq)
        clear c1' c2'
        cases r with
        | true =>
          go_wp2
          go_roundw
          case rel => exact ⟨k + 1, p1, p2, by go_num, fun j hj => by
            by_cases e : j = k
            · subst e; simpa using HR.out
            · exact HAL.out j (by omega), HB2.out⟩
          case measure => simp [intOf]; omega
        | false =>
          go_wp2
          go_ret
          refine ⟨?_, HB2.out⟩
          rw [comL_is l1 l2 k (by rw [← E1.out]; exact hk1) (by rw [← E2.out]; exact hk2) HAL.out (fun _ _ e => by have h := HR.out; rw [e] at h; simp at h)]
          rfl
      · have HLT := Lib.hid hlt
        first
          | have q0 : ¬ k < n2 := by omega
          | have q0 : ¬ k < n1 := by omega
        clear hlt
        go_wp2_with fail
        go_quiet (fail)
        go_wp2
        go_ret
        refine ⟨?_, below_drewN HBR.out _⟩
        rw [comL_is l1 l2 k (by rw [← E1.out]; exact hk1) (by rw [← E2.out]; exact hk2) HAL.out (fun p q => absurd (by rw [← E1.out] at p; rw [← E2.out] at q; exact ⟨p, q⟩) HLT.out)]
        rfl
set_option maxHeartbeats 4000000 in
theorem cEnd_is (a1 a2 : Option Addr) (n1 n2 c1 c2 : Nat) (l1 l2 : List UInt8) (w : World) (h1 : BAt w a1 l1) (h2 : BAt w a2 l2) (e1 : n1 = l1.length) (e2 : n2 = l2.length) (m1 : n1 ≤ 1000000) (m2 : n2 ≤ 1000000) :
    Calls Try.prog 36 #[.slice a1 n1 c1, .slice a2 n2 c2] w fun e w' => e = .returned (.int .i64 (endL l1 l2)) ∧ Below w.heap.size w w' := by
  have H1 := Lib.hid h1; have H2 := Lib.hid h2; have E1 := Lib.hid e1; have E2 := Lib.hid e2
  clear h1 h2 e1 e2
  by_cases hmin : n2 < n1
  all_goals
    go_enter Try.func36, Try.ntmps36
    go_wp2_with fail
    go_loopw [5] (fun i wr => ∃ k : Nat, k ≤ n1 ∧ k ≤ n2 ∧ i = .int .i64 k ∧ (∀ j, j < k → l1.getD (n1 - 1 - j) 0 = l2.getD (n2 - 1 - j) 0) ∧ Below w.heap.size w wr) (fun i _ => n1 - (intOf i).toNat)
    case atStart => exact ⟨0, Nat.zero_le _, Nat.zero_le _, rfl, fun j h => absurd h (Nat.not_lt_zero _), Below.refl _ _⟩
    case round =>
      obtain ⟨k, hk1, hk2, rfl, hal, hbr⟩ := hrel
      have HAL := Lib.hid hal; have HBR := Lib.hid hbr
      clear hal hbr
      by_cases hlt : k < n1 ∧ k < n2
      · obtain ⟨p1, p2⟩ := hlt
        obtain ⟨b1, o1, rfl, g1, q1⟩ := H1.out.at (by rw [← E1.out]; omega)
        obtain ⟨b2, o2, rfl, g2, q2⟩ := H2.out.at (by rw [← E2.out]; omega)
        obtain ⟨k1, hk1e⟩ : ∃ k1 : Nat, n1 - 1 - k = k1 := ⟨_, rfl⟩
        obtain ⟨k2, hk2e⟩ : ∃ k2 : Nat, n2 - 1 - k = k2 := ⟨_, rfl⟩
        have i1 : (n1 : Int) - 1 - k = k1 := by omega
        have i2 : (n2 : Int) - 1 - k = k2 := by omega
        have i1b : k1 < n1 := by omega
        have i2b : k2 < n2 := by omega
        have c1' : wr.cell? ⟨b1, o1 + k1, none⟩ = _ := (HBR.out.cell (p := ⟨b1, o1 + k1, none⟩) g1).trans (q1 k1 (by rw [← E1.out]; omega))
        have c2' : wr.cell? ⟨b2, o2 + k2, none⟩ = _ := (HBR.out.cell (p := ⟨b2, o2 + k2, none⟩) g2).trans (q2 k2 (by rw [← E2.out]; omega))
        have K1 := Lib.hid hk1e; have K2 := Lib.hid hk2e
        clear hk1e hk2e
        have UB := u8_beq (l1.getD k1 0) (l2.getD k2 0)
        
        obtain ⟨r, hr⟩ : ∃ r, (l1.getD k1 0 == l2.getD k2 0) = r := ⟨_, rfl⟩
        rw [hr] at UB
        have HR := Lib.hid hr
        generalize (((l1.getD k1 0).toNat : Nat) : Int) = x at *
        generalize (((l2.getD k2 0).toNat : Nat) : Int) = y at *
        clear q1 q2 hr
        go_wp2_with fail
        go_quiet (fail)
        have HB2 := Lib.hid (below_drewN HBR.out nq)
        clear c1' c2'
        cases r with
        | true =>
          go_wp2
          go_roundw
          case rel => exact ⟨k + 1, p1, p2, by go_num, fun j hj => by
            by_cases e : j = k
            · subst e; rw [K1.out, K2.out]; simpa using HR.out
            · exact HAL.out j (by omega), HB2.out⟩
          case measure => simp [intOf]; omega
        | false =>
          go_wp2
          go_ret
          refine ⟨?_, HB2.out⟩
          rw [show endL l1 l2 = k from by
            have q := endL_is l1 l2 0 k (Nat.zero_le _) (Nat.zero_le _) (by rw [← E1.out]; exact hk1) (by rw [← E2.out]; exact hk2) (by rw [← E1.out, ← E2.out]; exact HAL.out) (fun _ _ e => by
              rw [← E1.out, ← E2.out, K1.out, K2.out] at e
              have h := HR.out; rw [e] at h; simp at h)
            simpa using q]
          rfl
      · have HLT := Lib.hid hlt
        first
          | have q0 : ¬ k < n2 := by omega
          | have q0 : ¬ k < n1 := by omega
        clear hlt
        go_wp2_with fail
        go_quiet (fail)
        go_wp2
        go_ret
        refine ⟨?_, below_drewN HBR.out _⟩
        rw [show endL l1 l2 = k from by
            have q := endL_is l1 l2 0 k (Nat.zero_le _) (Nat.zero_le _) (by rw [← E1.out]; exact hk1) (by rw [← E2.out]; exact hk2) (by rw [← E1.out, ← E2.out]; exact HAL.out) (fun p q => absurd (by rw [← E1.out] at p; rw [← E2.out] at q; exact ⟨p, q⟩) HLT.out)
            simpa using q]
        rfl
end Go.Proofs.Ytbilempgnpnacaa
