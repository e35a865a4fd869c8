/-
  Layer 1: TakeNumber of the program and of the reference, whatever the text.
-/
import Derived.Test.YtagfnnpklefhhaaDoorHl
namespace Go.Proofs.YtagfnnpklefhhaaDoor
open Go.RowKit
set_option linter.unusedVariables false

set_option maxHeartbeats 400000 in
theorem rTake_minus0 (r : List UInt8) (hl : r.length ≤ 1000000) (w : World) :
    Calls Tryd.prog 20 #[.string ⟨(45 :: 48 :: r).toArray⟩] w fun e w' => e = .returned (.tuple #[.int .i64 0, .int .i64 4]) ∧ w = w' := by
  have hi : ((⟨(45 :: 48 :: r).toArray⟩ : ByteArray)[0]'(by simp [ByteArray.size])).toNat = 45 := rfl
  have hi2 : ((⟨(48 :: r).toArray⟩ : ByteArray)[0]'(by simp [ByteArray.size])).toNat = 48 := rfl
  have hc := cut_one (48 :: r)
  rw [List.length_cons] at hc
  by_cases h19 : 19 < r.length + 1
  · have hdl : decide ((19 : Int) < (r.length : Int) + 1) = true := by simp; omega
    go_enter Tryd.func20, Tryd.ntmps20
    go_wp2
    go_ret2
    exact ⟨rfl, rfl⟩
  · have hdl : decide ((19 : Int) < (r.length : Int) + 1) = false := by simp; omega
    by_cases h1 : 1 < r.length + 1
    · have hdl2 : decide ((1 : Int) < (r.length : Int) + 1) = true := by simp; omega
      go_enter Tryd.func20, Tryd.ntmps20
      go_wp2
      go_ret2
      exact ⟨rfl, rfl⟩
    · have hdl2 : decide ((1 : Int) < (r.length : Int) + 1) = false := by simp; omega
      go_enter Tryd.func20, Tryd.ntmps20
      go_wp2
      go_ret2
      exact ⟨rfl, rfl⟩
set_option maxHeartbeats 400000 in
theorem rTake_plus0 (c : UInt8) (r : List UInt8) (hl : r.length ≤ 1000000) (w : World) :
    Calls Tryd.prog 20 #[.string ⟨(48 :: c :: r).toArray⟩] w fun e w' => e = .returned (.tuple #[.int .i64 0, .int .i64 4]) ∧ w = w' := by
  have hi2 : ((⟨(48 :: c :: r).toArray⟩ : ByteArray)[0]'(by simp [ByteArray.size])).toNat = 48 := rfl
  by_cases h19 : 19 < r.length + 1 + 1
  · have hdl : decide ((19 : Int) < (r.length : Int) + 1 + 1) = true := by simp; omega
    go_enter Tryd.func20, Tryd.ntmps20
    go_wp2
    go_ret2
    exact ⟨rfl, rfl⟩
  · have hdl : decide ((19 : Int) < (r.length : Int) + 1 + 1) = false := by simp; omega
    have hdl2 : decide ((1 : Int) < (r.length : Int) + 1 + 1) = true := by simp; omega
    go_enter Tryd.func20, Tryd.ntmps20
    go_wp2
    go_ret2
    exact ⟨rfl, rfl⟩
set_option maxHeartbeats 400000 in
theorem rTake_zero (w : World) :
    Calls Tryd.prog 20 #[.string ⟨#[48]⟩] w fun e w' => e = .returned (.tuple #[.int .i64 0, .int .i64 0]) ∧ w = w' := by
  have hi2 : ((⟨#[48]⟩ : ByteArray)[0]'(by decide)).toNat = 48 := rfl
  go_enter Tryd.func20, Tryd.ntmps20
  go_wp2_with fail
  refine wp_loop_rounds 2 ?_
  rw [rounds_succ]
  go_wp2_with fail
  rw [rounds_succ]
  go_wp2
  go_ret2
  exact ⟨rfl, rfl⟩
set_option maxHeartbeats 400000 in
theorem rTake_mlong (e : UInt8) (t : List UInt8) (hl : t.length ≤ 1000000) (h : 19 ≤ t.length) (w : World) :
    Calls Tryd.prog 20 #[.string ⟨(45 :: e :: t).toArray⟩] w fun e w' => e = .returned (.tuple #[.int .i64 0, .int .i64 4]) ∧ w = w' := by
  have hi : ((⟨(45 :: e :: t).toArray⟩ : ByteArray)[0]'(by simp [ByteArray.size])).toNat = 45 := rfl
  have hc := cut_one (e :: t)
  rw [List.length_cons] at hc
  have hdl : decide ((19 : Int) < (t.length : Int) + 1) = true := by simp; omega
  go_enter Tryd.func20, Tryd.ntmps20
  go_wp2
  go_ret2
  exact ⟨rfl, rfl⟩
set_option maxHeartbeats 400000 in
theorem rTake_plong (e : UInt8) (t : List UInt8) (hl : t.length ≤ 1000000) (h : 19 ≤ t.length) (h45 : e ≠ 45) (w : World) :
    Calls Tryd.prog 20 #[.string ⟨(e :: t).toArray⟩] w fun e w' => e = .returned (.tuple #[.int .i64 0, .int .i64 4]) ∧ w = w' := by
  have hi2 : ((⟨(e :: t).toArray⟩ : ByteArray)[0]'(by simp [ByteArray.size])).toNat = e.toNat := rfl
  have h45b : ((e.toNat : Int) == 45) = false := by
    have : ¬ e.toNat = 45 := fun h => h45 (UInt8.toNat.inj h)
    simp; omega
  clear h45
  have hdl : decide ((19 : Int) < (t.length : Int) + 1) = true := by simp; omega
  go_enter Tryd.func20, Tryd.ntmps20
  go_wp2
  go_ret2
  exact ⟨rfl, rfl⟩

theorem takeD_long (m : Bool) (e : UInt8) (t : List UInt8) (h : 19 ≤ t.length) (h48 : e ≠ 48) : takeD m (e :: t) = none := by
  unfold takeD
  rw [if_pos]
  by_cases hd : ∀ i, i < (e :: t).length → isD ((e :: t).getD i 0)
  · right; right; right
    have := decL_big e t (hd 0 (by simp)) h48 h
    split <;> omega
  · exact .inr (.inr (.inl hd))
theorem rTake_any (l : List UInt8) (hl : l.length ≤ 1000000) (h : l ≠ []) (w : World) :
    Calls Tryd.prog 20 #[.string ⟨l.toArray⟩] w fun e w' => e = .returned (takeV l) ∧ Below w.heap.size w w' := by
  match l, h, hl with
  | c :: r, _, hl =>
    by_cases h45 : c = 45
    · subst h45
      unfold takeV
      rw [show takeN (45 :: r) = takeD true r by simp [takeN]]
      match r, hl with
      | [], _ =>
        refine (rTake_dash w).mono ?_
        rintro e w' ⟨rfl, rfl⟩
        exact ⟨rfl, Below.refl _ _⟩
      | c :: r, hl =>
        by_cases h48 : c = 48
        · subst h48
          refine (rTake_minus0 r (by simp at hl; omega) w).mono ?_
          rintro e w' ⟨rfl, rfl⟩
          have : takeD true (48 :: r) = none := by unfold takeD; rw [if_pos]; exact .inr (.inl ⟨rfl, .inr rfl⟩)
          rw [this]
          exact ⟨rfl, Below.refl _ _⟩
        · by_cases h19 : 19 ≤ r.length
          · refine (rTake_mlong c r (by simp at hl; omega) h19 w).mono ?_
            rintro e w' ⟨rfl, rfl⟩
            rw [takeD_long true c r h19 h48]
            exact ⟨rfl, Below.refl _ _⟩
          · refine (rTake_minus c r (by omega) h48 w).mono ?_
            intro e w' hp
            obtain ⟨a, b⟩ := hp.takeD (by simp) (fun h => h48 h.1)
            exact ⟨b, a⟩
    · unfold takeV
      rw [show takeN (c :: r) = takeD false (c :: r) by simp [takeN, h45]]
      by_cases h48 : c = 48
      · subst h48
        match r, hl with
        | [], _ =>
          refine (rTake_zero w).mono ?_
          rintro e w' ⟨rfl, rfl⟩
          have : takeD false [48] = some 0 := by decide
          rw [this]
          exact ⟨rfl, Below.refl _ _⟩
        | c :: r, hl =>
          refine (rTake_plus0 c r (by simp at hl; omega) w).mono ?_
          rintro e w' ⟨rfl, rfl⟩
          have : takeD false (48 :: c :: r) = none := by unfold takeD; rw [if_pos]; exact .inr (.inl ⟨rfl, .inl (by simp)⟩)
          rw [this]
          exact ⟨rfl, Below.refl _ _⟩
      · by_cases h19 : 19 ≤ r.length
        · refine (rTake_plong c r (by simp at hl; omega) h19 h45 w).mono ?_
          rintro e w' ⟨rfl, rfl⟩
          rw [takeD_long false c r h19 h48]
          exact ⟨rfl, Below.refl _ _⟩
        · refine (rTake_plus c r (by omega) h48 h45 w).mono ?_
          intro e w' hp
          obtain ⟨a, b⟩ := hp.takeD (by simp) (fun h => h48 h.1)
          exact ⟨b, a⟩

/-- The number, and the error, of any text. -/
def tv (l : List UInt8) : Int × Int := if l = [] then (0, 3) else match takeN l with
  | none => (0, 4)
  | some v => (v, 0)
theorem takeV_tv (l : List UInt8) (h : l ≠ []) : takeV l = .tuple #[.int .i64 (tv l).1, .int .i64 (tv l).2] := by
  unfold takeV tv; rw [if_neg h]; cases takeN l <;> rfl
theorem Take_all (l : List UInt8) (hl : l.length ≤ 1000000) (w : World) :
    Calls Tryd.prog 37 #[.string ⟨l.toArray⟩] w fun e w' => e = .returned (.tuple #[.int .i64 (tv l).1, .int .i64 (tv l).2]) ∧ Below w.heap.size w w' := by
  by_cases h : l = []
  · subst h
    refine (Take_empty w).mono ?_
    rintro e w' ⟨rfl, rfl⟩
    exact ⟨rfl, Below.refl _ _⟩
  · rw [← takeV_tv l h]; exact Take_any l hl h w
theorem rTake_all (l : List UInt8) (hl : l.length ≤ 1000000) (w : World) :
    Calls Tryd.prog 20 #[.string ⟨l.toArray⟩] w fun e w' => e = .returned (.tuple #[.int .i64 (tv l).1, .int .i64 (tv l).2]) ∧ Below w.heap.size w w' := by
  by_cases h : l = []
  · subst h
    refine (rTake_empty w).mono ?_
    rintro e w' ⟨rfl, rfl⟩
    exact ⟨rfl, Below.refl _ _⟩
  · rw [← takeV_tv l h]; exact rTake_any l hl h w
end Go.Proofs.YtagfnnpklefhhaaDoor
