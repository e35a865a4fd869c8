/-
  The walk of RefnameBranches, over the contracts.
-/
import Derived.Test.YtbnhchffdccjnaaDoorVh
namespace Go.Proofs.YtbnhchffdccjnaaDoor.refnameBranches
open Go.RowKit
set_option linter.unusedVariables false
set_option linter.unusedSimpArgs false
set_option maxRecDepth 20000

theorem hyphen_at (l : List UInt8) : branchL l = (refL (headsL ++ l) && !(decide (0 < l.length) && (l.getD 0 0 == 45))) := by
  unfold branchL
  cases l with
  | nil => rw [Bool.and_comm]; rfl
  | cons c r =>
    have : ([45].isPrefixOf (c :: r) : Bool) = (c == 45) := by
      rw [Bool.eq_iff_iff]
      simp [List.isPrefixOf]
      exact ⟨fun h => h.symm, fun h => h.symm⟩
    rw [this, Bool.and_comm]
    simp
set_option maxHeartbeats 16000000 in
theorem walk (w : World) (l : List UInt8) (hl : l.length ≤ maxLen) (m : List UInt8) (hm : m.length ≤ maxLen) (tab : RTab w) :
    Calls Tryd.prog 6 #[.string ⟨l.toArray⟩, .string ⟨m.toArray⟩] w fun e w' => e = .returned (.bool true) ∧ Below w.heap.size w w' := by
  have T := Lib.hid tab
  have cA := fun w t => awake11 w t
  have hsz := size_toArray l
  have hmz := size_toArray m
  unfold maxLen at hl hm
  clear tab
  by_cases h : 80 < l.length
  · generalize (⟨l.toArray⟩ : ByteArray) = S at *
    generalize (⟨m.toArray⟩ : ByteArray) = S2 at *
    go_enter Tryd.func6, Tryd.ntmps6
    go_wp2_with fail
    refine (cA _ T.out).mono ?_
    rintro e w1 ⟨rfl, b1⟩
    go_wp2
    go_ret
    exact ⟨rfl, b1⟩
  by_cases h2 : 80 < m.length
  · generalize (⟨l.toArray⟩ : ByteArray) = S at *
    generalize (⟨m.toArray⟩ : ByteArray) = S2 at *
    go_enter Tryd.func6, Tryd.ntmps6
    go_wp2_with fail
    refine (cA _ T.out).mono ?_
    rintro e w1 ⟨rfl, b1⟩
    go_wp2
    go_ret
    exact ⟨rfl, b1⟩
  have c1 := fun w t => Branch_is l w (by omega) t
  have c2 := fun w t => Right_is (headsL ++ l) w (by rw [List.length_append, show headsL.length = 11 from rfl]; omega) t
  have c3 := fun w t => Branch_is m w (by omega) t
  have c4 := fun w t => Branch_is (l ++ 47 :: m) w (by rw [List.length_append, List.length_cons]; omega) t
  have c5 := fun w t => Right_is (l ++ 47 :: m) w (by rw [List.length_append, List.length_cons]; omega) t
  have TWO := Lib.hid (fun a b => branch_two l m a b (by omega) (by omega))
  have HY := Lib.hid (hyphen_at l)
  have a1 := fun u => add_lists (P := Tryd.prog) u headsL l (by rw [show headsL.length = 11 from rfl]; omega)
  rw [show (⟨headsL.toArray⟩ : ByteArray) = ⟨#[114, 101, 102, 115, 47, 104, 101, 97, 100, 115, 47]⟩ from rfl] at a1
  have a2 := fun u => add_lists (P := Tryd.prog) u l [47] (by show l.length + 1 ≤ _; omega)
  rw [show (⟨([47] : List UInt8).toArray⟩ : ByteArray) = ⟨#[47]⟩ from rfl] at a2
  have a3 := fun u => add_lists (P := Tryd.prog) u (l ++ [47]) m (by rw [List.length_append]; show l.length + 1 + m.length ≤ _; omega)
  rw [show (l ++ [47]) ++ m = l ++ 47 :: m by simp] at a3
  have GS := Lib.hid (fun i h h2 => getD_str l i h h2)
  obtain ⟨x, hx⟩ : ∃ x, l.getD 0 0 = x := ⟨_, rfl⟩
  rw [hx] at HY
  have g0 : 0 < l.length → ∀ h, (⟨l.toArray⟩ : ByteArray)[0]'h = x := fun h0 h => by rw [GS.out 0 h0 h]; exact hx
  obtain ⟨p, hp⟩ : ∃ p, branchL l = p := ⟨_, rfl⟩
  obtain ⟨q, hq⟩ : ∃ q, refL (headsL ++ l) = q := ⟨_, rfl⟩
  obtain ⟨r, hr⟩ : ∃ r, branchL m = r := ⟨_, rfl⟩
  obtain ⟨s, hs⟩ : ∃ s, branchL (l ++ 47 :: m) = s := ⟨_, rfl⟩
  obtain ⟨t, ht⟩ : ∃ t, refL (l ++ 47 :: m) = t := ⟨_, rfl⟩
  rw [hp] at c1
  rw [hq] at c2
  rw [hr] at c3
  rw [hs] at c4
  rw [ht] at c5
  rw [hp, hq] at HY
  rw [hp, hr, hs, ht] at TWO
  generalize (⟨l.toArray⟩ : ByteArray) = S at *
  generalize (⟨m.toArray⟩ : ByteArray) = S2 at *
  generalize (⟨(headsL ++ l).toArray⟩ : ByteArray) = S3 at *
  generalize (⟨(l ++ [47]).toArray⟩ : ByteArray) = S4 at *
  generalize (⟨(l ++ 47 :: m).toArray⟩ : ByteArray) = S5 at *
  clear hp hq hr hs ht hx GS
  have hyf : ∃ y : Bool, p = (q && !y) ∧ ((0 < l.length ∧ ((x.toNat : Int) == 45) = y) ∨ (l.length = 0 ∧ y = false)) := by
    by_cases h0 : 0 < l.length
    · refine ⟨(x.toNat : Int) == 45, ?_, .inl ⟨h0, rfl⟩⟩
      rw [HY.out, decide_eq_true h0]
      congr 2
      rw [Bool.true_and, Bool.eq_iff_iff, beq_iff_eq, beq_iff_eq]
      constructor
      · rintro rfl; rfl
      · intro e; exact UInt8.toNat_inj.1 (by show x.toNat = 45; omega)
    · exact ⟨false, by rw [HY.out, decide_eq_false h0]; rfl, .inr ⟨by omega, rfl⟩⟩
  obtain ⟨y, hy, hyc⟩ := hyf
  rcases hyc with ⟨h0, hx⟩ | ⟨h0, rfl⟩
  · have gz := g0 h0
    clear g0
    cases y
    · skip
      cases q
      · obtain rfl : p = false := hy
        go_enter Tryd.func6, Tryd.ntmps6
        go_wp2_with fail
        refine (cA _ T.out).mono ?_
        rintro e w1 ⟨rfl, b1⟩
        have T1 := Lib.hid (T.out.below b1)
        have B1 := Lib.hid b1
        clear b1
        go_wp2_with fail
        refine (c1 _ T1.out).mono ?_
        rintro e w2 ⟨rfl, b2⟩
        have T2 := Lib.hid (T1.out.below b2)
        have B2 := Lib.hid (B1.out.trans (b2.mono B1.out.size))
        clear b2
        go_wp2_with fail
        refine (c2 _ T2.out).mono ?_
        rintro e w3 ⟨rfl, b3⟩
        have T3 := Lib.hid (T2.out.below b3)
        have B3 := Lib.hid (B2.out.trans (b3.mono B2.out.size))
        clear b3
        go_wp2_with fail
        refine (c1 _ T3.out).mono ?_
        rintro e w4 ⟨rfl, b4⟩
        have T4 := Lib.hid (T3.out.below b4)
        have B4 := Lib.hid (B3.out.trans (b4.mono B3.out.size))
        clear b4
        go_wp2
        go_ret
        exact ⟨rfl, B4.out⟩
      · obtain rfl : p = true := hy
        cases r
        · skip
          go_enter Tryd.func6, Tryd.ntmps6
          go_wp2_with fail
          refine (cA _ T.out).mono ?_
          rintro e w1 ⟨rfl, b1⟩
          have T1 := Lib.hid (T.out.below b1)
          have B1 := Lib.hid b1
          clear b1
          go_wp2_with fail
          refine (c1 _ T1.out).mono ?_
          rintro e w2 ⟨rfl, b2⟩
          have T2 := Lib.hid (T1.out.below b2)
          have B2 := Lib.hid (B1.out.trans (b2.mono B1.out.size))
          clear b2
          go_wp2_with fail
          refine (c2 _ T2.out).mono ?_
          rintro e w3 ⟨rfl, b3⟩
          have T3 := Lib.hid (T2.out.below b3)
          have B3 := Lib.hid (B2.out.trans (b3.mono B2.out.size))
          clear b3
          go_wp2_with fail
          refine (c1 _ T3.out).mono ?_
          rintro e w4 ⟨rfl, b4⟩
          have T4 := Lib.hid (T3.out.below b4)
          have B4 := Lib.hid (B3.out.trans (b4.mono B3.out.size))
          clear b4
          go_wp2_with fail
          refine (c3 _ T4.out).mono ?_
          rintro e w5 ⟨rfl, b5⟩
          have T5 := Lib.hid (T4.out.below b5)
          have B5 := Lib.hid (B4.out.trans (b5.mono B4.out.size))
          clear b5
          go_wp2
          go_ret
          exact ⟨rfl, B5.out⟩
        · obtain ⟨rfl, rfl⟩ : s = true ∧ t = true := TWO.out rfl rfl
          go_enter Tryd.func6, Tryd.ntmps6
          go_wp2_with fail
          refine (cA _ T.out).mono ?_
          rintro e w1 ⟨rfl, b1⟩
          have T1 := Lib.hid (T.out.below b1)
          have B1 := Lib.hid b1
          clear b1
          go_wp2_with fail
          refine (c1 _ T1.out).mono ?_
          rintro e w2 ⟨rfl, b2⟩
          have T2 := Lib.hid (T1.out.below b2)
          have B2 := Lib.hid (B1.out.trans (b2.mono B1.out.size))
          clear b2
          go_wp2_with fail
          refine (c2 _ T2.out).mono ?_
          rintro e w3 ⟨rfl, b3⟩
          have T3 := Lib.hid (T2.out.below b3)
          have B3 := Lib.hid (B2.out.trans (b3.mono B2.out.size))
          clear b3
          go_wp2_with fail
          refine (c1 _ T3.out).mono ?_
          rintro e w4 ⟨rfl, b4⟩
          have T4 := Lib.hid (T3.out.below b4)
          have B4 := Lib.hid (B3.out.trans (b4.mono B3.out.size))
          clear b4
          go_wp2_with fail
          refine (c3 _ T4.out).mono ?_
          rintro e w5 ⟨rfl, b5⟩
          have T5 := Lib.hid (T4.out.below b5)
          have B5 := Lib.hid (B4.out.trans (b5.mono B4.out.size))
          clear b5
          go_wp2_with fail
          refine (c4 _ T5.out).mono ?_
          rintro e w6 ⟨rfl, b6⟩
          have T6 := Lib.hid (T5.out.below b6)
          have B6 := Lib.hid (B5.out.trans (b6.mono B5.out.size))
          clear b6
          go_wp2_with fail
          refine (c5 _ T6.out).mono ?_
          rintro e w7 ⟨rfl, b7⟩
          have T7 := Lib.hid (T6.out.below b7)
          have B7 := Lib.hid (B6.out.trans (b7.mono B6.out.size))
          clear b7
          go_wp2
          go_ret
          exact ⟨rfl, B7.out⟩
    · skip
      cases q
      · obtain rfl : p = false := hy
        go_enter Tryd.func6, Tryd.ntmps6
        go_wp2_with fail
        refine (cA _ T.out).mono ?_
        rintro e w1 ⟨rfl, b1⟩
        have T1 := Lib.hid (T.out.below b1)
        have B1 := Lib.hid b1
        clear b1
        go_wp2_with fail
        refine (c1 _ T1.out).mono ?_
        rintro e w2 ⟨rfl, b2⟩
        have T2 := Lib.hid (T1.out.below b2)
        have B2 := Lib.hid (B1.out.trans (b2.mono B1.out.size))
        clear b2
        go_wp2_with fail
        refine (c2 _ T2.out).mono ?_
        rintro e w3 ⟨rfl, b3⟩
        have T3 := Lib.hid (T2.out.below b3)
        have B3 := Lib.hid (B2.out.trans (b3.mono B2.out.size))
        clear b3
        go_wp2_with fail
        refine (c1 _ T3.out).mono ?_
        rintro e w4 ⟨rfl, b4⟩
        have T4 := Lib.hid (T3.out.below b4)
        have B4 := Lib.hid (B3.out.trans (b4.mono B3.out.size))
        clear b4
        go_wp2
        go_ret
        exact ⟨rfl, B4.out⟩
      · obtain rfl : p = false := hy
        go_enter Tryd.func6, Tryd.ntmps6
        go_wp2_with fail
        refine (cA _ T.out).mono ?_
        rintro e w1 ⟨rfl, b1⟩
        have T1 := Lib.hid (T.out.below b1)
        have B1 := Lib.hid b1
        clear b1
        go_wp2_with fail
        refine (c1 _ T1.out).mono ?_
        rintro e w2 ⟨rfl, b2⟩
        have T2 := Lib.hid (T1.out.below b2)
        have B2 := Lib.hid (B1.out.trans (b2.mono B1.out.size))
        clear b2
        go_wp2_with fail
        refine (c2 _ T2.out).mono ?_
        rintro e w3 ⟨rfl, b3⟩
        have T3 := Lib.hid (T2.out.below b3)
        have B3 := Lib.hid (B2.out.trans (b3.mono B2.out.size))
        clear b3
        go_wp2_with fail
        refine (c1 _ T3.out).mono ?_
        rintro e w4 ⟨rfl, b4⟩
        have T4 := Lib.hid (T3.out.below b4)
        have B4 := Lib.hid (B3.out.trans (b4.mono B3.out.size))
        clear b4
        go_wp2
        go_ret
        exact ⟨rfl, B4.out⟩
  · clear g0
    cases q
    · obtain rfl : p = false := hy
      go_enter Tryd.func6, Tryd.ntmps6
      go_wp2_with fail
      refine (cA _ T.out).mono ?_
      rintro e w1 ⟨rfl, b1⟩
      have T1 := Lib.hid (T.out.below b1)
      have B1 := Lib.hid b1
      clear b1
      go_wp2_with fail
      refine (c1 _ T1.out).mono ?_
      rintro e w2 ⟨rfl, b2⟩
      have T2 := Lib.hid (T1.out.below b2)
      have B2 := Lib.hid (B1.out.trans (b2.mono B1.out.size))
      clear b2
      go_wp2_with fail
      refine (c2 _ T2.out).mono ?_
      rintro e w3 ⟨rfl, b3⟩
      have T3 := Lib.hid (T2.out.below b3)
      have B3 := Lib.hid (B2.out.trans (b3.mono B2.out.size))
      clear b3
      go_wp2_with fail
      refine (c1 _ T3.out).mono ?_
      rintro e w4 ⟨rfl, b4⟩
      have T4 := Lib.hid (T3.out.below b4)
      have B4 := Lib.hid (B3.out.trans (b4.mono B3.out.size))
      clear b4
      go_wp2
      go_ret
      exact ⟨rfl, B4.out⟩
    · obtain rfl : p = true := hy
      cases r
      · skip
        go_enter Tryd.func6, Tryd.ntmps6
        go_wp2_with fail
        refine (cA _ T.out).mono ?_
        rintro e w1 ⟨rfl, b1⟩
        have T1 := Lib.hid (T.out.below b1)
        have B1 := Lib.hid b1
        clear b1
        go_wp2_with fail
        refine (c1 _ T1.out).mono ?_
        rintro e w2 ⟨rfl, b2⟩
        have T2 := Lib.hid (T1.out.below b2)
        have B2 := Lib.hid (B1.out.trans (b2.mono B1.out.size))
        clear b2
        go_wp2_with fail
        refine (c2 _ T2.out).mono ?_
        rintro e w3 ⟨rfl, b3⟩
        have T3 := Lib.hid (T2.out.below b3)
        have B3 := Lib.hid (B2.out.trans (b3.mono B2.out.size))
        clear b3
        go_wp2_with fail
        refine (c1 _ T3.out).mono ?_
        rintro e w4 ⟨rfl, b4⟩
        have T4 := Lib.hid (T3.out.below b4)
        have B4 := Lib.hid (B3.out.trans (b4.mono B3.out.size))
        clear b4
        go_wp2_with fail
        refine (c3 _ T4.out).mono ?_
        rintro e w5 ⟨rfl, b5⟩
        have T5 := Lib.hid (T4.out.below b5)
        have B5 := Lib.hid (B4.out.trans (b5.mono B4.out.size))
        clear b5
        go_wp2
        go_ret
        exact ⟨rfl, B5.out⟩
      · obtain ⟨rfl, rfl⟩ : s = true ∧ t = true := TWO.out rfl rfl
        go_enter Tryd.func6, Tryd.ntmps6
        go_wp2_with fail
        refine (cA _ T.out).mono ?_
        rintro e w1 ⟨rfl, b1⟩
        have T1 := Lib.hid (T.out.below b1)
        have B1 := Lib.hid b1
        clear b1
        go_wp2_with fail
        refine (c1 _ T1.out).mono ?_
        rintro e w2 ⟨rfl, b2⟩
        have T2 := Lib.hid (T1.out.below b2)
        have B2 := Lib.hid (B1.out.trans (b2.mono B1.out.size))
        clear b2
        go_wp2_with fail
        refine (c2 _ T2.out).mono ?_
        rintro e w3 ⟨rfl, b3⟩
        have T3 := Lib.hid (T2.out.below b3)
        have B3 := Lib.hid (B2.out.trans (b3.mono B2.out.size))
        clear b3
        go_wp2_with fail
        refine (c1 _ T3.out).mono ?_
        rintro e w4 ⟨rfl, b4⟩
        have T4 := Lib.hid (T3.out.below b4)
        have B4 := Lib.hid (B3.out.trans (b4.mono B3.out.size))
        clear b4
        go_wp2_with fail
        refine (c3 _ T4.out).mono ?_
        rintro e w5 ⟨rfl, b5⟩
        have T5 := Lib.hid (T4.out.below b5)
        have B5 := Lib.hid (B4.out.trans (b5.mono B4.out.size))
        clear b5
        go_wp2_with fail
        refine (c4 _ T5.out).mono ?_
        rintro e w6 ⟨rfl, b6⟩
        have T6 := Lib.hid (T5.out.below b6)
        have B6 := Lib.hid (B5.out.trans (b6.mono B5.out.size))
        clear b6
        go_wp2_with fail
        refine (c5 _ T6.out).mono ?_
        rintro e w7 ⟨rfl, b7⟩
        have T7 := Lib.hid (T6.out.below b7)
        have B7 := Lib.hid (B6.out.trans (b7.mono B6.out.size))
        clear b7
        go_wp2
        go_ret
        exact ⟨rfl, B7.out⟩
end Go.Proofs.YtbnhchffdccjnaaDoor.refnameBranches
