/-
  Layer 1: TakeNumber of the program.
-/
import Derived.Test.YtagfnnpklefhhaaDoorHj
import Derived.Test.YtagfnnpklefhhaaDoorShelf
namespace Go.Proofs.YtagfnnpklefhhaaDoor
open Go.RowKit
set_option linter.unusedVariables false

theorem Cut_minus (r : List UInt8) (w : World) :
    Calls Tryd.prog 57 #[.string ⟨(45 :: r).toArray⟩, .string ⟨#[45]⟩] w fun e w' => e = .returned (.tuple #[.string ⟨r.toArray⟩, .bool true]) ∧ w = w' := by
  refine (Tryd.strings_CutPrefix _ _ _).mono ?_
  rintro e w' ⟨rfl, rfl⟩
  refine ⟨?_, rfl⟩
  simp [Lib.trimPrefix, Lib.hasPrefix, List.isPrefixOf]
theorem Cut_other (c : UInt8) (r : List UInt8) (h : c ≠ 45) (w : World) :
    Calls Tryd.prog 57 #[.string ⟨(c :: r).toArray⟩, .string ⟨#[45]⟩] w fun e w' => e = .returned (.tuple #[.string ⟨(c :: r).toArray⟩, .bool false]) ∧ w = w' := by
  refine (Tryd.strings_CutPrefix _ _ _).mono ?_
  rintro e w' ⟨rfl, rfl⟩
  refine ⟨?_, rfl⟩
  simp [Lib.trimPrefix, Lib.hasPrefix, List.isPrefixOf, Ne.symm h]

set_option maxHeartbeats 400000 in
theorem Take_empty (w : World) :
    Calls Tryd.prog 37 #[.string ⟨#[]⟩] w fun e w' => e = .returned (.tuple #[.int .i64 0, .int .i64 3]) ∧ w = w' := by
  go_enter Tryd.func37, Tryd.ntmps37
  go_wp2
  go_ret2
  exact ⟨rfl, rfl⟩
set_option maxHeartbeats 400000 in
theorem Take_dash (w : World) :
    Calls Tryd.prog 37 #[.string ⟨#[45]⟩] w fun e w' => e = .returned (.tuple #[.int .i64 0, .int .i64 4]) ∧ w = w' := by
  go_enter Tryd.func37, Tryd.ntmps37
  go_wp2_with fail
  refine (Cut_minus [] _).mono ?_
  rintro e w' ⟨rfl, rfl⟩
  go_wp2
  go_ret2
  exact ⟨rfl, rfl⟩
theorem head0 (c : UInt8) (r : List UInt8) : ((⟨(c :: r).toArray⟩ : ByteArray)[0]'(by simp [ByteArray.size])) = c := rfl
set_option maxHeartbeats 400000 in
theorem Take_minus0 (r : List UInt8) (w : World) :
    Calls Tryd.prog 37 #[.string ⟨(45 :: 48 :: r).toArray⟩] w fun e w' => e = .returned (.tuple #[.int .i64 0, .int .i64 4]) ∧ w = w' := by
  have hi : ((⟨(48 :: r).toArray⟩ : ByteArray)[0]'(by simp [ByteArray.size])).toNat = 48 := rfl
  go_enter Tryd.func37, Tryd.ntmps37
  go_wp2_with fail
  refine (Cut_minus (48 :: r) _).mono ?_
  rintro e w' ⟨rfl, rfl⟩
  go_wp2
  go_ret2
  exact ⟨rfl, rfl⟩
set_option maxHeartbeats 400000 in
theorem Take_plus0 (c : UInt8) (r : List UInt8) (w : World) :
    Calls Tryd.prog 37 #[.string ⟨(48 :: c :: r).toArray⟩] w fun e w' => e = .returned (.tuple #[.int .i64 0, .int .i64 4]) ∧ w = w' := by
  have hi : ((⟨(48 :: c :: r).toArray⟩ : ByteArray)[0]'(by simp [ByteArray.size])).toNat = 48 := rfl
  go_enter Tryd.func37, Tryd.ntmps37
  go_wp2_with fail
  refine (Cut_other 48 (c :: r) (by decide) _).mono ?_
  rintro e w' ⟨rfl, rfl⟩
  go_wp2
  go_ret2
  exact ⟨rfl, rfl⟩

/-- What a text of at least one byte, behind its sign, comes to. -/
def TPost (d : List UInt8) (m : Bool) (w : World) (e : Ending) (w' : World) : Prop :=
  Below w.heap.size w w' ∧ ((e = .returned (.tuple #[.int .i64 0, .int .i64 4]) ∧ ((∃ i, i < d.length ∧ ¬ isD (d.getD i 0)) ∨ (decL d : Int) > (if m then 9223372036854775808 else 9223372036854775807))) ∨
    (e = .returned (.tuple #[.int .i64 (if m then -(decL d : Int) else decL d), .int .i64 0]) ∧ (∀ i, i < d.length → isD (d.getD i 0)) ∧ (decL d : Int) ≤ (if m then 9223372036854775808 else 9223372036854775807)))

set_option maxHeartbeats 400000 in
theorem Take_minus (c : UInt8) (r : List UInt8) (hr : r.length ≤ 1000000) (w : World) (h48 : c ≠ 48) :
    Calls Tryd.prog 37 #[.string ⟨(45 :: c :: r).toArray⟩] w fun e w' => TPost (c :: r) true w e w' := by
  have hne : ¬ c.toNat = 48 := fun h => h48 (UInt8.toNat.inj h)
  have hi : ((⟨(c :: r).toArray⟩ : ByteArray)[0]'(by simp [ByteArray.size])).toNat = c.toNat := rfl
  have hb : ((c.toNat : Int) == 48) = false := by simp; omega
  clear h48 hne
  go_enter Tryd.func37, Tryd.ntmps37
  go_wp2_with fail
  refine (Cut_minus (c :: r) _).mono ?_
  rintro e w' ⟨rfl, rfl⟩
  go_wp2_with fail
  refine (negated_core _ _ _ ?_ (by omega) (by omega)).mono ?_
  · simp [ByteArray.size]; omega
  rintro e w1 ⟨hbw, ⟨rfl, h⟩ | ⟨rfl, h, h2⟩⟩
  · have H := Lib.hid h; clear h
    go_wp2
    go_ret2
    refine ⟨hbw, .inl ⟨rfl, ?_⟩⟩
    rcases H.out with ⟨i, hi, h⟩ | h
    · exact .inl ⟨i, by simpa [ByteArray.size] using hi, h⟩
    · exact .inr (by simpa using h)
  · have H := Lib.hid h; clear h
    have H2 := Lib.hid h2; clear h2
    go_wp2
    go_ret2
    refine ⟨hbw, .inr ⟨rfl, fun i hi => H.out i (by simpa [ByteArray.size] using hi), by simpa using H2.out⟩⟩
set_option maxHeartbeats 400000 in
theorem Take_plus (c : UInt8) (r : List UInt8) (hr : r.length ≤ 1000000) (w : World) (h48 : c ≠ 48) (h45 : c ≠ 45) :
    Calls Tryd.prog 37 #[.string ⟨(c :: r).toArray⟩] w fun e w' => TPost (c :: r) false w e w' := by
  have hne : ¬ c.toNat = 48 := fun h => h48 (UInt8.toNat.inj h)
  have hi : ((⟨(c :: r).toArray⟩ : ByteArray)[0]'(by simp [ByteArray.size])).toNat = c.toNat := rfl
  have hb : ((c.toNat : Int) == 48) = false := by simp; omega
  have HC := Lib.hid (fun w => Cut_other c r h45 w)
  clear h48 hne h45
  go_enter Tryd.func37, Tryd.ntmps37
  go_wp2_with fail
  refine (HC.out _).mono ?_
  rintro e w' ⟨rfl, rfl⟩
  go_wp2_with fail
  refine (negated_core _ _ _ ?_ (by omega) (by omega)).mono ?_
  · simp [ByteArray.size]; omega
  rintro e w1 ⟨hbw, ⟨rfl, h⟩ | ⟨rfl, h, h2⟩⟩
  · have H := Lib.hid h; clear h
    go_wp2
    go_ret2
    refine ⟨hbw, .inl ⟨rfl, ?_⟩⟩
    rcases H.out with ⟨i, hi, h⟩ | h
    · exact .inl ⟨i, by simpa [ByteArray.size] using hi, h⟩
    · exact .inr (by simpa using h)
  · have H := Lib.hid h; clear h
    obtain ⟨x, hx⟩ : ∃ x : Int, x = -(decL (⟨(c :: r).toArray⟩ : ByteArray).data.toList : Int) := ⟨_, rfl⟩
    rw [← hx]
    have hx0 : x ≤ 0 := by omega
    have hx1 : -9223372036854775807 ≤ x := by omega
    have HX := Lib.hid hx
    have H2 := Lib.hid h2
    clear hx h2
    go_wp2
    go_ret2
    refine ⟨hbw, .inr ⟨tup_int ?_, fun i hi => H.out i (by simpa [ByteArray.size] using hi), by simpa using H2.out⟩⟩
    have := HX.out
    simp at this ⊢
    omega
set_option maxHeartbeats 400000 in
theorem Take_zero (w : World) :
    Calls Tryd.prog 37 #[.string ⟨[48].toArray⟩] w fun e w' => e = .returned (.tuple #[.int .i64 0, .int .i64 0]) ∧ Below w.heap.size w w' := by
  have hi : ((⟨[48].toArray⟩ : ByteArray)[0]'(by simp [ByteArray.size])).toNat = 48 := rfl
  have hdec : (-(decL (⟨[48].toArray⟩ : ByteArray).data.toList : Int)) = 0 := by decide
  go_enter Tryd.func37, Tryd.ntmps37
  go_wp2_with fail
  refine (Cut_other 48 [] (by decide) _).mono ?_
  rintro e w' ⟨rfl, rfl⟩
  go_wp2_with fail
  refine (negated_core _ _ _ (by decide) (by omega) (by omega)).mono ?_
  rintro e w1 ⟨hbw, ⟨rfl, h⟩ | ⟨rfl, h, h2⟩⟩
  · exfalso
    rcases h with ⟨i, hi, h⟩ | h
    · have hi0 : i = 0 := by have : (⟨[48].toArray⟩ : ByteArray).size = 1 := rfl; omega
      subst hi0
      exact h (by decide)
    · exact absurd h (by decide)
  · rw [hdec]
    clear h h2 hdec
    go_wp2
    go_ret2
    exact ⟨rfl, hbw⟩

/-- The number of a text, or none. -/
def takeD (m : Bool) (d : List UInt8) : Option Int :=
  if d = [] ∨ (d.getD 0 0 = 48 ∧ (1 < d.length ∨ m = true)) ∨ ¬ (∀ i, i < d.length → isD (d.getD i 0)) ∨ (decL d : Int) > (if m then 9223372036854775808 else 9223372036854775807) then none
  else some (if m then -(decL d : Int) else decL d)
def takeN : List UInt8 → Option Int
  | [] => none
  | c :: r => if c = 45 then takeD true r else takeD false (c :: r)
/-- What TakeNumber answers to a text that is not empty. -/
def takeV (l : List UInt8) : Value := match takeN l with
  | none => .tuple #[.int .i64 0, .int .i64 4]
  | some v => .tuple #[.int .i64 v, .int .i64 0]
theorem TPost.takeD {d : List UInt8} {m : Bool} {w w' : World} {e : Ending} (h : TPost d m w e w') (h1 : d ≠ []) (h2 : ¬ (d.getD 0 0 = 48 ∧ (1 < d.length ∨ m = true))) :
    Below w.heap.size w w' ∧ e = .returned (match takeD m d with
      | none => .tuple #[.int .i64 0, .int .i64 4]
      | some v => .tuple #[.int .i64 v, .int .i64 0]) := by
  obtain ⟨hb, ⟨he, h3⟩ | ⟨he, h3, h4⟩⟩ := h
  · refine ⟨hb, ?_⟩
    rw [he]
    have : _root_.Go.Proofs.YtagfnnpklefhhaaDoor.takeD m d = none := by
      unfold _root_.Go.Proofs.YtagfnnpklefhhaaDoor.takeD
      rw [if_pos]
      rcases h3 with ⟨i, hi, h3⟩ | h3
      · exact .inr (.inr (.inl fun h => h3 (h i hi)))
      · exact .inr (.inr (.inr h3))
    rw [this]
  · refine ⟨hb, ?_⟩
    rw [he]
    have : _root_.Go.Proofs.YtagfnnpklefhhaaDoor.takeD m d = some (if m then -(decL d : Int) else decL d) := by
      unfold _root_.Go.Proofs.YtagfnnpklefhhaaDoor.takeD
      rw [if_neg]
      rintro (h | h | h | h)
      · exact h1 h
      · exact h2 h
      · exact h h3
      · omega
    rw [this]
theorem Take_any (l : List UInt8) (hl : l.length ≤ 1000000) (h : l ≠ []) (w : World) :
    Calls Tryd.prog 37 #[.string ⟨l.toArray⟩] w fun e w' => e = .returned (takeV l) ∧ Below w.heap.size w w' := by
  match l, h, hl with
  | c :: r, _, hl =>
    by_cases h45 : c = 45
    · subst h45
      unfold takeV
      rw [show takeN (45 :: r) = takeD true r by simp [takeN]]
      match r, hl with
      | [], _ =>
        refine (Take_dash w).mono ?_
        rintro e w' ⟨rfl, rfl⟩
        exact ⟨rfl, Below.refl _ _⟩
      | c :: r, hl =>
        by_cases h48 : c = 48
        · subst h48
          refine (Take_minus0 r w).mono ?_
          rintro e w' ⟨rfl, rfl⟩
          have : takeD true (48 :: r) = none := by unfold takeD; rw [if_pos]; exact .inr (.inl ⟨rfl, .inr rfl⟩)
          rw [this]
          exact ⟨rfl, Below.refl _ _⟩
        · refine (Take_minus c r (by simp at hl; omega) w h48).mono ?_
          intro e w' hp
          obtain ⟨a, b⟩ := hp.takeD (by simp) (fun h => h48 h.1)
          exact ⟨b, a⟩
    · unfold takeV
      rw [show takeN (c :: r) = takeD false (c :: r) by simp [takeN, h45]]
      by_cases h48 : c = 48
      · subst h48
        match r, hl with
        | [], _ =>
          refine (Take_zero w).mono ?_
          rintro e w' ⟨rfl, hb⟩
          have : takeD false [48] = some 0 := by decide
          rw [this]
          exact ⟨rfl, hb⟩
        | c :: r, hl =>
          refine (Take_plus0 c r w).mono ?_
          rintro e w' ⟨rfl, rfl⟩
          have : takeD false (48 :: c :: r) = none := by unfold takeD; rw [if_pos]; exact .inr (.inl ⟨rfl, .inl (by simp)⟩)
          rw [this]
          exact ⟨rfl, Below.refl _ _⟩
      · refine (Take_plus c r (by simp at hl; omega) w h48 h45).mono ?_
        intro e w' hp
        obtain ⟨a, b⟩ := hp.takeD (by simp) (fun h => h48 h.1)
        exact ⟨b, a⟩
end Go.Proofs.YtagfnnpklefhhaaDoor
