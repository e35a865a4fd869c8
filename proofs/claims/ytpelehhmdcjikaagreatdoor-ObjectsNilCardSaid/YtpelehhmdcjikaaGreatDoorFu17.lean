/-
  Texts that belong together, one behind the other.
-/
import Derived.Test.YtpelehhmdcjikaaGreatDoorFu16
import Derived.Test.YtpelehhmdcjikaaGreatDoorFu08
import Derived.Test.YtpelehhmdcjikaaGreatDoorFu14
import Derived.Test.YtpelehhmdcjikaaGreatDoorFu15
import Derived.Test.YtpelehhmdcjikaaGreatDoorFu13
import Derived.Laws.CopyOwn
import Derived.Laws.ResultCell
/-
  Layer 1: TakeNumber of the program.
-/
namespace Go.Proofs.YtpelehhmdcjikaaGreatDoor
open Go.RowKit
set_option linter.unusedVariables false
theorem Cut_minus (r : List UInt8) (w : World) :
    Calls Tryz.prog 104 #[.string ⟨(45 :: r).toArray⟩, .string ⟨#[45]⟩] w fun e w' => e = .returned (.tuple #[.string ⟨r.toArray⟩, .bool true]) ∧ w = w' := by
  refine (Tryz.strings_CutPrefix _ _ _).mono ?_
  rintro e w' ⟨rfl, rfl⟩
  refine ⟨?_, rfl⟩
  simp [Lib.trimPrefix, Lib.hasPrefix, List.isPrefixOf]
theorem Cut_other (c : UInt8) (r : List UInt8) (h : c ≠ 45) (w : World) :
    Calls Tryz.prog 104 #[.string ⟨(c :: r).toArray⟩, .string ⟨#[45]⟩] w fun e w' => e = .returned (.tuple #[.string ⟨(c :: r).toArray⟩, .bool false]) ∧ w = w' := by
  refine (Tryz.strings_CutPrefix _ _ _).mono ?_
  rintro e w' ⟨rfl, rfl⟩
  refine ⟨?_, rfl⟩
  simp [Lib.trimPrefix, Lib.hasPrefix, List.isPrefixOf, Ne.symm h]
set_option maxHeartbeats 400000 in
theorem Take_empty (w : World) :
    Calls Tryz.prog 176 #[.string ⟨#[]⟩] w fun e w' => e = .returned (.tuple #[.int .i64 0, .int .i64 3]) ∧ w = w' := by
  go_enter Tryz.func176, Tryz.ntmps176
  go_wp2
  go_ret2
  exact ⟨rfl, rfl⟩
set_option maxHeartbeats 400000 in
theorem Take_dash (w : World) :
    Calls Tryz.prog 176 #[.string ⟨#[45]⟩] w fun e w' => e = .returned (.tuple #[.int .i64 0, .int .i64 4]) ∧ w = w' := by
  go_enter Tryz.func176, Tryz.ntmps176
  go_wp2_with fail
  refine (Cut_minus [] _).mono ?_
  rintro e w' ⟨rfl, rfl⟩
  go_wp2
  go_ret2
  exact ⟨rfl, rfl⟩
set_option maxHeartbeats 400000 in
theorem Take_minus0 (r : List UInt8) (w : World) :
    Calls Tryz.prog 176 #[.string ⟨(45 :: 48 :: r).toArray⟩] w fun e w' => e = .returned (.tuple #[.int .i64 0, .int .i64 4]) ∧ w = w' := by
  have hi : ((⟨(48 :: r).toArray⟩ : ByteArray)[0]'(by simp [ByteArray.size])).toNat = 48 := rfl
  go_enter Tryz.func176, Tryz.ntmps176
  go_wp2_with fail
  refine (Cut_minus (48 :: r) _).mono ?_
  rintro e w' ⟨rfl, rfl⟩
  go_wp2
  go_ret2
  exact ⟨rfl, rfl⟩
set_option maxHeartbeats 400000 in
theorem Take_plus0 (c : UInt8) (r : List UInt8) (w : World) :
    Calls Tryz.prog 176 #[.string ⟨(48 :: c :: r).toArray⟩] w fun e w' => e = .returned (.tuple #[.int .i64 0, .int .i64 4]) ∧ w = w' := by
  have hi : ((⟨(48 :: c :: r).toArray⟩ : ByteArray)[0]'(by simp [ByteArray.size])).toNat = 48 := rfl
  go_enter Tryz.func176, Tryz.ntmps176
  go_wp2_with fail
  refine (Cut_other 48 (c :: r) (by decide) _).mono ?_
  rintro e w' ⟨rfl, rfl⟩
  go_wp2
  go_ret2
  exact ⟨rfl, rfl⟩
/-- What a text of at least one byte, behind its sign, comes to9. -/
def TPost (d : List UInt8) (m : Bool) (w : World) (e : Ending) (w' : World) : Prop :=
  Below w.heap.size w w' ∧ ((e = .returned (.tuple #[.int .i64 0, .int .i64 4]) ∧ ((∃ i, i < d.length ∧ ¬ isD (d.getD i 0)) ∨ (decL d : Int) > (if m then 9223372036854775808 else 9223372036854775807))) ∨
    (e = .returned (.tuple #[.int .i64 (if m then -(decL d : Int) else decL d), .int .i64 0]) ∧ (∀ i, i < d.length → isD (d.getD i 0)) ∧ (decL d : Int) ≤ (if m then 9223372036854775808 else 9223372036854775807)))
set_option maxHeartbeats 400000 in
theorem Take_minus (c : UInt8) (r : List UInt8) (hr : r.length ≤ 1000000) (w : World) (h48 : c ≠ 48) :
    Calls Tryz.prog 176 #[.string ⟨(45 :: c :: r).toArray⟩] w fun e w' => TPost (c :: r) true w e w' := by
  have hne : ¬ c.toNat = 48 := fun h => h48 (UInt8.toNat.inj h)
  have hi : ((⟨(c :: r).toArray⟩ : ByteArray)[0]'(by simp [ByteArray.size])).toNat = c.toNat := rfl
  have hb : ((c.toNat : Int) == 48) = false := by simp; omega
  clear h48 hne
  go_enter Tryz.func176, Tryz.ntmps176
  go_wp2_with fail
  refine (Cut_minus (c :: r) _).mono ?_
  rintro e w' ⟨rfl, rfl⟩
  go_wp2_with fail
  refine (negated_core _ _ _ ?_ (by omega) (by omega)).mono ?_
  · simp [ByteArray.size]; omega
  rintro e w1 ⟨hbw, ⟨rfl, h⟩ | ⟨rfl, h, h2⟩⟩
  · have H := Lib.hid h; clear h
    go_wp2
    go_ret2
    refine ⟨hbw, .inl ⟨rfl, ?_⟩⟩
    rcases H.out with ⟨i, hi, h⟩ | h
    · exact .inl ⟨i, by simpa [ByteArray.size] using hi, h⟩
    · exact .inr (by simpa using h)
  · have H := Lib.hid h; clear h
    have H2 := Lib.hid h2; clear h2
    go_wp2
    go_ret2
    refine ⟨hbw, .inr ⟨rfl, fun i hi => H.out i (by simpa [ByteArray.size] using hi), by simpa using H2.out⟩⟩
set_option maxHeartbeats 400000 in
theorem Take_plus (c : UInt8) (r : List UInt8) (hr : r.length ≤ 1000000) (w : World) (h48 : c ≠ 48) (h45 : c ≠ 45) :
    Calls Tryz.prog 176 #[.string ⟨(c :: r).toArray⟩] w fun e w' => TPost (c :: r) false w e w' := by
  have hne : ¬ c.toNat = 48 := fun h => h48 (UInt8.toNat.inj h)
  have hi : ((⟨(c :: r).toArray⟩ : ByteArray)[0]'(by simp [ByteArray.size])).toNat = c.toNat := rfl
  have hb : ((c.toNat : Int) == 48) = false := by simp; omega
  have HC := Lib.hid (fun w => Cut_other c r h45 w)
  clear h48 hne h45
  go_enter Tryz.func176, Tryz.ntmps176
  go_wp2_with fail
  refine (HC.out _).mono ?_
  rintro e w' ⟨rfl, rfl⟩
  go_wp2_with fail
  refine (negated_core _ _ _ ?_ (by omega) (by omega)).mono ?_
  · simp [ByteArray.size]; omega
  rintro e w1 ⟨hbw, ⟨rfl, h⟩ | ⟨rfl, h, h2⟩⟩
  · have H := Lib.hid h; clear h
    go_wp2
    go_ret2
    refine ⟨hbw, .inl ⟨rfl, ?_⟩⟩
    rcases H.out with ⟨i, hi, h⟩ | h
    · exact .inl ⟨i, by simpa [ByteArray.size] using hi, h⟩
    · exact .inr (by simpa using h)
  · have H := Lib.hid h; clear h
    obtain ⟨x, hx⟩ : ∃ x : Int, x = -(decL (⟨(c :: r).toArray⟩ : ByteArray).data.toList : Int) := ⟨_, rfl⟩
    rw [← hx]
    have hx0 : x ≤ 0 := by omega
    have hx1 : -9223372036854775807 ≤ x := by omega
    have HX := Lib.hid hx
    have H2 := Lib.hid h2
    clear hx h2
    go_wp2
    go_ret2
    refine ⟨hbw, .inr ⟨tup_int ?_, fun i hi => H.out i (by simpa [ByteArray.size] using hi), by simpa using H2.out⟩⟩
    have := HX.out
    simp at this ⊢
    omega
set_option maxHeartbeats 400000 in
theorem Take_zero (w : World) :
    Calls Tryz.prog 176 #[.string ⟨[48].toArray⟩] w fun e w' => e = .returned (.tuple #[.int .i64 0, .int .i64 0]) ∧ Below w.heap.size w w' := by
  have hi : ((⟨[48].toArray⟩ : ByteArray)[0]'(by simp [ByteArray.size])).toNat = 48 := rfl
  have hdec : (-(decL (⟨[48].toArray⟩ : ByteArray).data.toList : Int)) = 0 := by decide
  go_enter Tryz.func176, Tryz.ntmps176
  go_wp2_with fail
  refine (Cut_other 48 [] (by decide) _).mono ?_
  rintro e w' ⟨rfl, rfl⟩
  go_wp2_with fail
  refine (negated_core _ _ _ (by decide) (by omega) (by omega)).mono ?_
  rintro e w1 ⟨hbw, ⟨rfl, h⟩ | ⟨rfl, h, h2⟩⟩
  · exfalso
    rcases h with ⟨i, hi, h⟩ | h
    · have hi0 : i = 0 := by have : (⟨[48].toArray⟩ : ByteArray).size = 1 := rfl; omega
      subst hi0
      exact h (by decide)
    · exact absurd h (by decide)
  · rw [hdec]
    clear h h2 hdec
    go_wp2
    go_ret2
    exact ⟨rfl, hbw⟩
/-- The number of a text, or none. -/
def takeD (m : Bool) (d : List UInt8) : Option Int :=
  if d = [] ∨ (d.getD 0 0 = 48 ∧ (1 < d.length ∨ m = true)) ∨ ¬ (∀ i, i < d.length → isD (d.getD i 0)) ∨ (decL d : Int) > (if m then 9223372036854775808 else 9223372036854775807) then none
  else some (if m then -(decL d : Int) else decL d)
def takeN : List UInt8 → Option Int
  | [] => none
  | c :: r => if c = 45 then takeD true r else takeD false (c :: r)
/-- What TakeNumber answers to9 a text that is not empty. -/
def takeV (l : List UInt8) : Value := match takeN l with
  | none => .tuple #[.int .i64 0, .int .i64 4]
  | some v => .tuple #[.int .i64 v, .int .i64 0]
theorem TPost.takeD {d : List UInt8} {m : Bool} {w w' : World} {e : Ending} (h : TPost d m w e w') (h1 : d ≠ []) (h2 : ¬ (d.getD 0 0 = 48 ∧ (1 < d.length ∨ m = true))) :
    Below w.heap.size w w' ∧ e = .returned (match takeD m d with
      | none => .tuple #[.int .i64 0, .int .i64 4]
      | some v => .tuple #[.int .i64 v, .int .i64 0]) := by
  obtain ⟨hb, ⟨he, h3⟩ | ⟨he, h3, h4⟩⟩ := h
  · refine ⟨hb, ?_⟩
    rw [he]
    have : _root_.Go.Proofs.YtpelehhmdcjikaaGreatDoor.takeD m d = none := by
      unfold _root_.Go.Proofs.YtpelehhmdcjikaaGreatDoor.takeD
      rw [if_pos]
      rcases h3 with ⟨i, hi, h3⟩ | h3
      · exact .inr (.inr (.inl fun h => h3 (h i hi)))
      · exact .inr (.inr (.inr h3))
    rw [this]
  · refine ⟨hb, ?_⟩
    rw [he]
    have : _root_.Go.Proofs.YtpelehhmdcjikaaGreatDoor.takeD m d = some (if m then -(decL d : Int) else decL d) := by
      unfold _root_.Go.Proofs.YtpelehhmdcjikaaGreatDoor.takeD
      rw [if_neg]
      rintro (h | h | h | h)
      · exact h1 h
      · exact h2 h
      · exact h h3
      · omega
    rw [this]
theorem Take_any (l : List UInt8) (hl : l.length ≤ 1000000) (h : l ≠ []) (w : World) :
    Calls Tryz.prog 176 #[.string ⟨l.toArray⟩] w fun e w' => e = .returned (takeV l) ∧ Below w.heap.size w w' := by
  match l, h, hl with
  | c :: r, _, hl =>
    by_cases h45 : c = 45
    · subst h45
      unfold takeV
      rw [show takeN (45 :: r) = takeD true r by simp [takeN]]
      match r, hl with
      | [], _ =>
        refine (Take_dash w).mono ?_
        rintro e w' ⟨rfl, rfl⟩
        exact ⟨rfl, Below.refl _ _⟩
      | c :: r, hl =>
        by_cases h48 : c = 48
        · subst h48
          refine (Take_minus0 r w).mono ?_
          rintro e w' ⟨rfl, rfl⟩
          have : takeD true (48 :: r) = none := by unfold takeD; rw [if_pos]; exact .inr (.inl ⟨rfl, .inr rfl⟩)
          rw [this]
          exact ⟨rfl, Below.refl _ _⟩
        · refine (Take_minus c r (by simp at hl; omega) w h48).mono ?_
          intro e w' hp
          obtain ⟨a, b⟩ := hp.takeD (by simp) (fun h => h48 h.1)
          exact ⟨b, a⟩
    · unfold takeV
      rw [show takeN (c :: r) = takeD false (c :: r) by simp [takeN, h45]]
      by_cases h48 : c = 48
      · subst h48
        match r, hl with
        | [], _ =>
          refine (Take_zero w).mono ?_
          rintro e w' ⟨rfl, hb⟩
          have : takeD false [48] = some 0 := by decide
          rw [this]
          exact ⟨rfl, hb⟩
        | c :: r, hl =>
          refine (Take_plus0 c r w).mono ?_
          rintro e w' ⟨rfl, rfl⟩
          have : takeD false (48 :: c :: r) = none := by unfold takeD; rw [if_pos]; exact .inr (.inl ⟨rfl, .inl (by simp)⟩)
          rw [this]
          exact ⟨rfl, Below.refl _ _⟩
      · refine (Take_plus c r (by simp at hl; omega) w h48 h45).mono ?_
        intro e w' hp
        obtain ⟨a, b⟩ := hp.takeD (by simp) (fun h => h48 h.1)
        exact ⟨b, a⟩
end Go.Proofs.YtpelehhmdcjikaaGreatDoor

/-
  Layer 1: numbers written are read, and what is read is written so: lists alone.
-/
namespace Go.Proofs.YtpelehhmdcjikaaGreatDoor
open Go.RowKit
set_option linter.unusedVariables false
theorem dig_toNat (k : Nat) (h : k < 10) : (UInt8.ofNat (48 + k)).toNat = 48 + k := by rw [UInt8.toNat_ofNat']; omega
/-- The digits of a number: they are digits, they are that number, and they don't begin with 0 unless it is 0. -/
theorem decDigits_spec (u : Nat) : (∀ c ∈ Lib.decDigits u, isD c) ∧ decL (Lib.decDigits u) = u ∧ Lib.decDigits u ≠ [] ∧ (10 ≤ u → (Lib.decDigits u).getD 0 0 ≠ 48) ∧ (0 < u → (Lib.decDigits u).getD 0 0 ≠ 48) := by
  induction u using Nat.strongRecOn with
  | ind u ih =>
    by_cases h : u < 10
    · rw [Lib.decDigits_one h]
      refine ⟨?_, ?_, by simp, by omega, fun h0 => ?_⟩
      · intro c hc; rw [List.mem_singleton] at hc; subst hc; unfold isD; rw [dig_toNat u h]; omega
      · have := decL_snoc [] (UInt8.ofNat (48 + u)); simp only [List.nil_append] at this; rw [this, dig_toNat u h]; simp [decL]
      · intro e
        have e2 : (UInt8.ofNat (48 + u)).toNat = 48 := congrArg UInt8.toNat e
        rw [dig_toNat u h] at e2; omega
    · obtain ⟨h1, h2, h3, h4, h5⟩ := ih (u / 10) (by omega)
      rw [Lib.decDigits.eq_1 u, dif_neg h]
      have hne : (Lib.decDigits (u / 10) ++ [UInt8.ofNat (48 + u % 10)]).getD 0 0 = (Lib.decDigits (u / 10)).getD 0 0 := by
        cases hd : Lib.decDigits (u / 10) with
        | nil => exact absurd hd h3
        | cons c r => rfl
      refine ⟨?_, ?_, by simp, fun _ => by rw [hne]; exact h5 (by omega), fun _ => by rw [hne]; exact h5 (by omega)⟩
      · intro c hc
        rcases List.mem_append.1 hc with hc | hc
        · exact h1 c hc
        · rw [List.mem_singleton] at hc; subst hc; unfold isD; rw [dig_toNat _ (by omega)]; omega
      · rw [decL_snoc, h2, dig_toNat _ (by omega)]; omega
theorem isD_getD {l : List UInt8} (h : ∀ c ∈ l, isD c) (i : Nat) (hi : i < l.length) : isD (l.getD i 0) := by
  rw [List.getD_eq_getElem?_getD, List.getElem?_eq_getElem hi]; exact h _ (List.getElem_mem _)
theorem takeD_digits (m : Bool) (u : Nat) (h : (u : Int) ≤ if m then 9223372036854775808 else 9223372036854775807) (h0 : m = true → 0 < u) : takeD m (Lib.decDigits u) = some (if m then -(u : Int) else u) := by
  obtain ⟨h1, h2, h3, h4, h5⟩ := decDigits_spec u
  unfold takeD
  rw [if_neg, h2]
  rintro (h | ⟨h, h6 | h6⟩ | h | h)
  · exact h3 h
  · by_cases hu : u < 10
    · rw [Lib.decDigits_one hu] at h6; simp at h6
    · exact h4 (by omega) h
  · exact h5 (h0 h6) h
  · exact h fun i hi => isD_getD h1 i hi
  · rw [h2] at h; omega
theorem take_itoa (n : Int) (h0 : -9223372036854775808 ≤ n) (h1 : n ≤ 9223372036854775807) : takeN (Lib.itoa n) = some n ∧ Lib.itoa n ≠ [] ∧ (Lib.itoa n).length ≤ 21 := by
  rw [Lib.itoa]
  split
  · rename_i hn
    refine ⟨?_, by simp, ?_⟩
    · simp only [takeN, if_true]
      rw [takeD_digits true n.natAbs (by rw [if_pos rfl]; omega) (fun _ => by omega), if_pos rfl]
      congr 1; omega
    · have := nDigits_le n.natAbs (by omega)
      simp [Lib.decDigits_length]; omega
  · rename_i hn
    obtain ⟨g1, g2, g3, _⟩ := decDigits_spec n.toNat
    refine ⟨?_, g3, ?_⟩
    · cases hd : Lib.decDigits n.toNat with
      | nil => exact absurd hd g3
      | cons c r =>
        have hc : c ≠ 45 := fun e => by have := g1 c (by rw [hd]; simp); subst e; exact absurd this (by decide)
        simp only [takeN]
        rw [if_neg hc, ← hd, takeD_digits false n.toNat (by rw [if_neg (by decide)]; omega) (fun h => by cases h), if_neg (by decide)]
        congr 1; omega
    · have := nDigits_le n.toNat (by omega)
      rw [Lib.decDigits_length]; omega
end Go.Proofs.YtpelehhmdcjikaaGreatDoor

/-
  Layer 6: zones of the program: twoDigits, zoneText, minutes, Zone.
-/
namespace Go.Proofs.YtpelehhmdcjikaaGreatDoor
open Go.RowKit
set_option linter.unusedVariables false
set_option linter.unusedSimpArgs false
def minV (s a b c d : UInt8) : Option Int :=
  if digB a = true ∧ digB b = true ∧ digB c = true ∧ digB d = true then some (if s.toNat = 45 then -((digV a * 600 + digV b * 60 + digV c * 10 + digV d : Nat) : Int) else ((digV a * 600 + digV b * 60 + digV c * 10 + digV d : Nat) : Int)) else none
/-- What may be a zone, read. -/
def minR : List UInt8 → Option Int
  | [s, a, b, c, d] => minV s a b c d
  | _ => none
theorem min_read (z : Int) (h0 : -840 ≤ z) (h1 : z ≤ 840) : minR (zoneT z) = some z := by
  obtain ⟨n, hn⟩ : ∃ n, z.natAbs = n := ⟨_, rfl⟩
  have hn840 : n ≤ 840 := by omega
  have e1 := digB_of (n / 60 / 10) (by omega)
  have e2 := digB_of (n / 60 % 10) (by omega)
  have e3 := digB_of (n % 60 / 10) (by omega)
  have e4 := digB_of (n % 60 % 10) (by omega)
  have hz : n / 60 / 10 * 600 + n / 60 % 10 * 60 + n % 60 / 10 * 10 + n % 60 % 10 = n := by omega
  unfold zoneT twoD
  rw [hn]
  simp only [List.cons_append, List.nil_append]
  show minV _ _ _ _ _ = some z
  unfold minV
  rw [e1.1, e1.2, e2.1, e2.2, e3.1, e3.2, e4.1, e4.2, hz]
  by_cases hneg : z < 0
  · rw [if_pos hneg, if_pos ⟨rfl, rfl, rfl, rfl⟩, if_pos (by decide)]
    congr 1; omega
  · rw [if_neg hneg, if_pos ⟨rfl, rfl, rfl, rfl⟩, if_neg (by decide)]
    congr 1; omega
/-- The program's way to9 read a zone. -/
def zoneP (s : List UInt8) : Option Int := match minR s with
  | none => none
  | some z => if -840 ≤ z ∧ z ≤ 840 ∧ zoneT z = s then some z else none
theorem zoneP_same (s : List UInt8) : zoneP s = zoneR s := by
  cases e : zoneR s with
  | some z =>
    obtain ⟨h1, h2, h3⟩ := zone_back s z e
    unfold zoneP
    rw [← h1, min_read z h2 h3]
    simp only
    rw [if_pos ⟨h2, h3, trivial⟩]
  | none =>
    unfold zoneP
    cases e2 : minR s with
    | none => rfl
    | some z =>
      simp only
      rw [if_neg]
      rintro ⟨h1, h2, h3⟩
      rw [← h3, zone_read z h1 h2] at e
      cases e
def placeL : List Nat := [600, 60, 10, 1]
/-- The places of a zone's digits, as the program's variable has them. -/
structure ZTab (w : World) : Prop where
  lt : 4 < w.heap.size
  cell : ∀ k : Nat, k < 4 → w.cell? ⟨4, k, none⟩ = some (.int .i64 ((placeL.getD k 0 : Nat) : Int))
theorem ZTab.keep {w w' : World} (h : ZTab w) (hb : Below w.heap.size w w') : ZTab w' :=
  ⟨Nat.lt_of_lt_of_le h.lt hb.size, fun k hk => (hb.cell (p := ⟨4, k, none⟩) h.lt).trans (h.cell k hk)⟩
def minA (s : List UInt8) : Value := match minR s with
  | none => .tuple #[.int .i64 0, .bool false]
  | some z => .tuple #[.int .i64 z, .bool true]
theorem min_len (s : List UInt8) (h : s.length ≠ 5) : minR s = none := by
  match s, h with
  | [], _ => rfl
  | [_], _ => rfl
  | [_, _], _ => rfl
  | [_, _, _], _ => rfl
  | [_, _, _, _], _ => rfl
  | [_, _, _, _, _], h => exact absurd rfl h
  | _ :: _ :: _ :: _ :: _ :: _ :: _, _ => rfl
theorem min_bad (x : UInt8) (m : List UInt8) (i : Nat) (hi : i < m.length) (h4 : m.length = 4) (h : digB (m.getD i 0) = false) : minR (x :: m) = none := by
  match m, h4, hi, h with
  | [a, b, c, d], _, hi, h =>
    show minV x a b c d = none
    unfold minV
    rw [if_neg]
    rintro ⟨h1, h2, h3, h5⟩
    obtain rfl | rfl | rfl | rfl : i = 0 ∨ i = 1 ∨ i = 2 ∨ i = 3 := by simp at hi; omega
    · simp at h; rw [h] at h1; cases h1
    · simp at h; rw [h] at h2; cases h2
    · simp at h; rw [h] at h3; cases h3
    · simp at h; rw [h] at h5; cases h5
def zsum (m : List UInt8) : Nat → Nat
  | 0 => 0
  | i + 1 => zsum m i + digV (m.getD i 0) * placeL.getD i 0
theorem min_good (x : UInt8) (m : List UInt8) (h4 : m.length = 4) (h : ∀ i, i < 4 → digB (m.getD i 0) = true) : minR (x :: m) = some (if x.toNat = 45 then -((zsum m 4 : Nat) : Int) else ((zsum m 4 : Nat) : Int)) := by
  match m, h4, h with
  | [a, b, c, d], _, h =>
    show minV x a b c d = _
    unfold minV
    have e : zsum [a, b, c, d] 4 = digV a * 600 + digV b * 60 + digV c * 10 + digV d := by
      simp [zsum, placeL]
    rw [if_pos ⟨h 0 (by omega), h 1 (by omega), h 2 (by omega), h 3 (by omega)⟩, e]
theorem zsum_le (m : List UInt8) : ∀ i, i ≤ 4 → (∀ j, j < i → digB (m.getD j 0) = true) → zsum m i ≤ 5400 * i
  | 0, _, _ => Nat.le_refl _
  | i + 1, hi, h => by
    have ih := zsum_le m i (by omega) (fun j hj => h j (by omega))
    have hd := (digB_iff _ (h i (by omega))).2
    have hp : placeL.getD i 0 ≤ 600 := by
      obtain rfl | rfl | rfl | rfl : i = 0 ∨ i = 1 ∨ i = 2 ∨ i = 3 := by omega
      · decide
      · decide
      · decide
      · decide
    have hm : digV (m.getD i 0) * placeL.getD i 0 ≤ 9 * 600 := Nat.mul_le_mul (by omega) hp
    show zsum m i + digV (m.getD i 0) * placeL.getD i 0 ≤ _
    omega
set_option maxHeartbeats 16000000 in
set_option maxRecDepth 100000 in
theorem minutes_five (x : UInt8) (m : List UInt8) (h4 : m.length = 4) (w : World) (tab : ZTab w) :
    Calls Tryz.prog 196 #[.string ⟨(x :: m).toArray⟩] w fun e w' => e = .returned (minA (x :: m)) ∧ Below w.heap.size w w' := by
  have RI := Lib.hid (rune_int m)
  have MB := Lib.hid (fun i hi h => min_bad x m i hi h4 h)
  have MG := Lib.hid (min_good x m h4)
  have ZS := Lib.hid (zsum_le m)
  have hsz : (⟨(x :: m).toArray⟩ : ByteArray).size = 5 := by rw [size_toArray, List.length_cons, h4]
  have htz := size_toArray m
  have hext : (⟨(x :: m).toArray⟩ : ByteArray).extract 1 5 = ⟨m.toArray⟩ := ext_from (x :: m) 1 5 (by rw [List.length_cons, h4])
  have hx : ∀ h, (⟨(x :: m).toArray⟩ : ByteArray)[0]'h = x := fun _ => rfl
  generalize (⟨(x :: m).toArray⟩ : ByteArray) = s at hsz hext hx ⊢
  generalize (⟨m.toArray⟩ : ByteArray) = t at RI htz hext
  have hx0 := hx (by omega)
  have ZT := Lib.hid tab
  have it0 := Lib.hid (World.iter_heap w t 0)
  have bl0 := Lib.hid ((Below.refl w.heap.size w).alloc (Nat.le_refl _) (.stringIter t 0))
  clear hx tab
  go_enter Tryz.func196, Tryz.ntmps196
  go_wp2_with fail
  go_loopw [4] (fun v4 wr => ∃ i : Nat, i ≤ 4 ∧ v4 = .int .i64 (zsum m i : Nat) ∧ (∀ j, j < i → digB (m.getD j 0) = true) ∧ wr.heap[w.heap.size]? = some (.stringIter t i) ∧ Below w.heap.size w wr) (fun _ wr => 4 - wr.iterPos w.heap.size)
  case atStart => exact ⟨0, by omega, rfl, fun j hj => absurd hj (Nat.not_lt_zero _), it0.out, bl0.out⟩
  case round =>
    clear it0 bl0
    obtain ⟨i, hi, rfl, hdg, hit, hbr⟩ := hrel
    have DG := Lib.hid hdg
    clear hdg
    by_cases hlt : i < 4
    · have hnx := fun ty => Lib.run_next_any_at (P := Tryz.prog) wr w.heap.size t i ty hit (by omega)
      obtain ⟨r, k, hr, hk, hr0, hr1, hk1, hkl, hw⟩ := RI.out i (by omega)
      rw [← hr, ← hk] at hnx
      clear hr hk
      have HP := Lib.hid (show wr.iterPos w.heap.size = i by simp [World.iterPos, hit])
      have hit2 := Lib.iterAt_heap wr w.heap.size t i (i + k) hit
      have hbr2 := Lib.below_iterAt hbr (k := w.heap.size) (Nat.le_refl _) t (i + k)
      generalize wr.iterAt w.heap.size t (i + k) = w3 at hnx hit2 hbr2
      clear hit hbr
      by_cases c1 : 48 ≤ r ∧ r ≤ 57
      · obtain ⟨c1, c2⟩ := c1
        have hlow : k = 1 ∧ r = ((m.getD i 0).toNat : Int) := by
          rcases hw with ⟨_, h1, h2⟩ | ⟨h, _, _⟩
          · exact ⟨h2, h1⟩
          · omega
        obtain ⟨rfl, hrb⟩ := hlow
        have RD := Lib.hid (show ((digV (m.getD i 0) : Nat) : Int) = r - 48 by unfold digV; omega)
        have DG2 := Lib.hid (show ∀ j, j < i + 1 → digB (m.getD j 0) = true from fun j hj => by
          by_cases e : j = i
          · subst e; unfold digB; rw [Bool.and_eq_true, decide_eq_true_eq, decide_eq_true_eq]; omega
          · exact DG.out j (by omega))
        clear hw hrb
        have four : i = 0 ∨ i = 1 ∨ i = 2 ∨ i = 3 := by omega
        rcases four with rfl | rfl | rfl | rfl
        · have hcell : w3.cell? ⟨4, 0, none⟩ = some (.int .i64 600) := (ZT.out.keep hbr2).cell 0 (by omega)
          have EZ := Lib.hid (show zsum m 1 = zsum m 0 + digV (m.getD 0 0) * 600 from rfl)
          have Z1 := Lib.hid (zsum_le m 0 (by omega) DG.out)
          obtain ⟨z, hz⟩ : ∃ z, z = zsum m 0 := ⟨_, rfl⟩
          have hz2 := Z1.out
          rw [← hz] at hz2 EZ
          have E2 := Lib.hid (show (zsum m 1 : Int) = z + (r - 48) * 600 by rw [EZ.out]; have h := RD.out; omega)
          rw [← hz]
          clear hz
          go_wp2
          go_roundw
          case rel => exact ⟨1, by omega, by first | (rw [E2.out]; done) | (rw [E2.out]; go_num), DG2.out, hit2, hbr2⟩
          case measure =>
            rw [HP.out, show World.iterPos _ w.heap.size = 0 + 1 by simp [World.iterPos, hit2]]
            omega
        · have hcell : w3.cell? ⟨4, 1, none⟩ = some (.int .i64 60) := (ZT.out.keep hbr2).cell 1 (by omega)
          have EZ := Lib.hid (show zsum m 2 = zsum m 1 + digV (m.getD 1 0) * 60 from rfl)
          have Z1 := Lib.hid (zsum_le m 1 (by omega) DG.out)
          obtain ⟨z, hz⟩ : ∃ z, z = zsum m 1 := ⟨_, rfl⟩
          have hz2 := Z1.out
          rw [← hz] at hz2 EZ
          have E2 := Lib.hid (show (zsum m 2 : Int) = z + (r - 48) * 60 by rw [EZ.out]; have h := RD.out; omega)
          rw [← hz]
          clear hz
          go_wp2
          go_roundw
          case rel => exact ⟨2, by omega, by first | (rw [E2.out]; done) | (rw [E2.out]; go_num), DG2.out, hit2, hbr2⟩
          case measure =>
            rw [HP.out, show World.iterPos _ w.heap.size = 1 + 1 by simp [World.iterPos, hit2]]
            omega
        · have hcell : w3.cell? ⟨4, 2, none⟩ = some (.int .i64 10) := (ZT.out.keep hbr2).cell 2 (by omega)
          have EZ := Lib.hid (show zsum m 3 = zsum m 2 + digV (m.getD 2 0) * 10 from rfl)
          have Z1 := Lib.hid (zsum_le m 2 (by omega) DG.out)
          obtain ⟨z, hz⟩ : ∃ z, z = zsum m 2 := ⟨_, rfl⟩
          have hz2 := Z1.out
          rw [← hz] at hz2 EZ
          have E2 := Lib.hid (show (zsum m 3 : Int) = z + (r - 48) * 10 by rw [EZ.out]; have h := RD.out; omega)
          rw [← hz]
          clear hz
          go_wp2
          go_roundw
          case rel => exact ⟨3, by omega, by first | (rw [E2.out]; done) | (rw [E2.out]; go_num), DG2.out, hit2, hbr2⟩
          case measure =>
            rw [HP.out, show World.iterPos _ w.heap.size = 2 + 1 by simp [World.iterPos, hit2]]
            omega
        · have hcell : w3.cell? ⟨4, 3, none⟩ = some (.int .i64 1) := (ZT.out.keep hbr2).cell 3 (by omega)
          have EZ := Lib.hid (show zsum m 4 = zsum m 3 + digV (m.getD 3 0) * 1 from rfl)
          have Z1 := Lib.hid (zsum_le m 3 (by omega) DG.out)
          obtain ⟨z, hz⟩ : ∃ z, z = zsum m 3 := ⟨_, rfl⟩
          have hz2 := Z1.out
          rw [← hz] at hz2 EZ
          have E2 := Lib.hid (show (zsum m 4 : Int) = z + (r - 48) * 1 by rw [EZ.out]; have h := RD.out; omega)
          rw [← hz]
          clear hz
          go_wp2
          go_roundw
          case rel => exact ⟨4, by omega, by first | (rw [E2.out]; done) | (rw [E2.out]; go_num), DG2.out, hit2, hbr2⟩
          case measure =>
            rw [HP.out, show World.iterPos _ w.heap.size = 3 + 1 by simp [World.iterPos, hit2]]
            omega
      · have hbad : digB (m.getD i 0) = false := by
          unfold digB
          rcases hw with ⟨_, h1, h2⟩ | ⟨_, _, h⟩
          · rw [Bool.and_eq_false_iff, decide_eq_false_iff_not, decide_eq_false_iff_not]; omega
          · have := h i (Nat.le_refl _) (by omega); rw [Bool.and_eq_false_iff, decide_eq_false_iff_not, decide_eq_false_iff_not]; omega
        have NO := Lib.hid (MB.out i (by omega) hbad)
        clear hw hbad
        by_cases c2 : r < 48
        · go_wp2
          go_ret2
          exact ⟨by unfold minA; rw [NO.out]; rfl, hbr2⟩
        · have c3 : 57 < r := by omega
          go_wp2
          go_ret2
          exact ⟨by unfold minA; rw [NO.out]; rfl, hbr2⟩
    · obtain rfl : i = 4 := by omega
      have hnx := fun ty => Lib.run_next_end_at (P := Tryz.prog) wr w.heap.size t 4 ty hit (by omega)
      have G := Lib.hid (MG.out (fun j hj => DG.out j (by omega)))
      have Z1 := zsum_le m 4 (by omega) DG.out
      generalize zsum m 4 = z at G Z1 ⊢
      by_cases h45 : x.toNat = 45
      · have f : ((x.toNat : Int) == 45) = true := by simp [h45]
        rw [if_pos h45] at G
        clear h45
        go_wp2
        go_ret2
        exact ⟨by unfold minA; rw [G.out]; rfl, hbr⟩
      · have f : ((x.toNat : Int) == 45) = false := by simp; omega
        rw [if_neg h45] at G
        clear h45
        go_wp2
        go_ret2
        exact ⟨by unfold minA; rw [G.out]; rfl, hbr⟩
set_option maxHeartbeats 400000 in
theorem minutes_other (l : List UInt8) (h : l.length ≠ 5) (hn : l.length ≤ 1000000) (w : World) :
    Calls Tryz.prog 196 #[.string ⟨l.toArray⟩] w fun e w' => e = .returned (minA l) ∧ Below w.heap.size w w' := by
  have hsz := size_toArray l
  have NO := Lib.hid (min_len l h)
  have MA := Lib.hid (show minA l = .tuple #[.int .i64 0, .bool false] by unfold minA; rw [NO.out])
  rw [MA.out]
  generalize (⟨l.toArray⟩ : ByteArray) = s at hsz ⊢
  have f : (((l.length : Nat) : Int) != 5) = true := by simp; omega
  clear h
  go_enter Tryz.func196, Tryz.ntmps196
  go_wp2
  go_ret2
  exact ⟨rfl, Below.refl _ _⟩
theorem minutes_is (l : List UInt8) (hn : l.length ≤ 1000000) (w : World) (tab : ZTab w) :
    Calls Tryz.prog 196 #[.string ⟨l.toArray⟩] w fun e w' => e = .returned (minA l) ∧ Below w.heap.size w w' := by
  by_cases h : l.length = 5
  · cases l with
    | nil => cases h
    | cons x m => exact minutes_five x m (by simpa using h) w tab
  · exact minutes_other l h hn w
def zoneA (s : List UInt8) : Value := match zoneR s with
  | none => .tuple #[.int .i64 0, .int .i64 4]
  | some z => .tuple #[.int .i64 z, .int .i64 0]
theorem zoneA_none {s : List UInt8} (h : zoneP s = none) : zoneA s = .tuple #[.int .i64 0, .int .i64 4] := by
  rw [zoneP_same] at h; unfold zoneA; rw [h]
theorem zoneA_some {s : List UInt8} {z : Int} (h : zoneP s = some z) : zoneA s = .tuple #[.int .i64 z, .int .i64 0] := by
  rw [zoneP_same] at h; unfold zoneA; rw [h]
set_option maxHeartbeats 4000000 in
set_option maxRecDepth 100000 in
theorem Zone_is (l : List UInt8) (hn : l.length ≤ 1000000) (w : World) (tab : Tab w) (zt : ZTab w) :
    Calls Tryz.prog 177 #[.string ⟨l.toArray⟩] w fun e w' => e = .returned (zoneA l) ∧ Below w.heap.size w w' := by
  have c1 := minutes_is l hn w zt
  have TAB := Lib.hid tab
  clear tab zt
  cases hm : minR l with
  | none =>
    have A := zoneA_none (show zoneP l = none by unfold zoneP; rw [hm])
    have M : minA l = .tuple #[.int .i64 0, .bool false] := by unfold minA; rw [hm]
    rw [M] at c1
    rw [A]
    clear A M hm
    go_enter Tryz.func177, Tryz.ntmps177
    go_wp2_with fail
    refine c1.mono ?_
    rintro e w1 ⟨rfl, b1⟩
    go_wp2
    go_ret2
    exact ⟨rfl, b1⟩
  | some z =>
    have M : minA l = .tuple #[.int .i64 z, .bool true] := by unfold minA; rw [hm]
    rw [M] at c1
    clear M
    have c2 := fun w => rightZone_is z w
    by_cases hz : -840 ≤ z ∧ z ≤ 840
    · rw [decide_eq_true hz.1, decide_eq_true hz.2] at c2
      have c3 := fun w t => zoneText_is z hz.1 hz.2 w t
      by_cases ht : zoneT z = l
      · have A := zoneA_some (show zoneP l = some z by unfold zoneP; rw [hm]; simp only; rw [if_pos ⟨hz.1, hz.2, ht⟩])
        have f : (zoneT z == l) = true := by rw [ht]; simp
        rw [A]
        generalize zoneT z = t at c3 f
        clear A hm ht hz
        go_enter Tryz.func177, Tryz.ntmps177
        go_wp2_with fail
        refine c1.mono ?_
        rintro e w1 ⟨rfl, b1⟩
        go_wp2_with fail
        refine (c2 _).mono ?_
        rintro e w2 ⟨rfl, rfl⟩
        go_wp2_with fail
        refine (c3 _ (TAB.out.keep b1)).mono ?_
        rintro e w3 ⟨rfl, b3⟩
        go_wp2
        go_ret2
        exact ⟨rfl, b1.trans (b3.mono b1.size)⟩
      · have A := zoneA_none (show zoneP l = none by unfold zoneP; rw [hm]; simp only; rw [if_neg (fun h => ht h.2.2)])
        have f : (zoneT z == l) = false := by rw [beq_eq_false_iff_ne]; exact ht
        rw [A]
        generalize zoneT z = t at c3 f
        clear A hm ht hz
        go_enter Tryz.func177, Tryz.ntmps177
        go_wp2_with fail
        refine c1.mono ?_
        rintro e w1 ⟨rfl, b1⟩
        go_wp2_with fail
        refine (c2 _).mono ?_
        rintro e w2 ⟨rfl, rfl⟩
        go_wp2_with fail
        refine (c3 _ (TAB.out.keep b1)).mono ?_
        rintro e w3 ⟨rfl, b3⟩
        go_wp2
        go_ret2
        exact ⟨rfl, b1.trans (b3.mono b1.size)⟩
    · have A := zoneA_none (show zoneP l = none by unfold zoneP; rw [hm]; simp only; rw [if_neg (fun h => hz ⟨h.1, h.2.1⟩)])
      have e2 : (decide (-840 ≤ z) && decide (z ≤ 840)) = false := by
        rw [Bool.and_eq_false_iff, decide_eq_false_iff_not, decide_eq_false_iff_not]; omega
      rw [e2] at c2
      rw [A]
      clear A hm hz e2
      go_enter Tryz.func177, Tryz.ntmps177
      go_wp2_with fail
      refine c1.mono ?_
      rintro e w1 ⟨rfl, b1⟩
      go_wp2_with fail
      refine (c2 _).mono ?_
      rintro e w2 ⟨rfl, rfl⟩
      go_wp2
      go_ret2
      exact ⟨rfl, b1⟩
end Go.Proofs.YtpelehhmdcjikaaGreatDoor

/-
  Layer 1: TakeNumber of the program and of the reference, whatever the text.
-/
namespace Go.Proofs.YtpelehhmdcjikaaGreatDoor
open Go.RowKit
set_option linter.unusedVariables false
/-- The number, and the error, of any text. -/
def tv (l : List UInt8) : Int × Int := if l = [] then (0, 3) else match takeN l with
  | none => (0, 4)
  | some v => (v, 0)
theorem takeV_tv (l : List UInt8) (h : l ≠ []) : takeV l = .tuple #[.int .i64 (tv l).1, .int .i64 (tv l).2] := by
  unfold takeV tv; rw [if_neg h]; cases takeN l <;> rfl
theorem Take_all (l : List UInt8) (hl : l.length ≤ 1000000) (w : World) :
    Calls Tryz.prog 176 #[.string ⟨l.toArray⟩] w fun e w' => e = .returned (.tuple #[.int .i64 (tv l).1, .int .i64 (tv l).2]) ∧ Below w.heap.size w w' := by
  by_cases h : l = []
  · subst h
    refine (Take_empty w).mono ?_
    rintro e w' ⟨rfl, rfl⟩
    exact ⟨rfl, Below.refl _ _⟩
  · rw [← takeV_tv l h]; exact Take_any l hl h w
end Go.Proofs.YtpelehhmdcjikaaGreatDoor

/-
  Layer 6: parts and Parse of the program.
-/
namespace Go.Proofs.YtpelehhmdcjikaaGreatDoor
open Go.RowKit
set_option linter.unusedVariables false
set_option linter.unusedSimpArgs false
/-- What layer 6 reads of the world where it parses. -/
structure T7 (w : World) : Prop where
  t6 : T6 w
  zon : ZTab w
  max : ∃ m : Int, w.cell? ⟨0, 0, none⟩ = some (.int .i64 m)
theorem T7.keep {w w' : World} (h : T7 w) (hb : Below w.heap.size w w') : T7 w' := by
  obtain ⟨m, hm⟩ := h.max
  exact ⟨h.t6.keep hb, h.zon.keep hb, m, (hb.cell (p := ⟨0, 0, none⟩) (World.block_lt_of_cell? w _ hm)).trans hm⟩
theorem Cut_is (l sep : List UInt8) (hn : l.length ≤ 1000000) (w : World) (tab : T7 w) :
    Calls Tryz.prog 156 #[.string ⟨l.toArray⟩, .string ⟨sep.toArray⟩] w fun e w' => e = .returned (.tuple #[.string ⟨(Lib.cut l sep).1.toArray⟩, .string ⟨(Lib.cut l sep).2.1.toArray⟩, .bool (Lib.cut l sep).2.2]) ∧ Below w.heap.size w w' := by
  obtain ⟨m, hm⟩ := tab.max
  refine (Tryz.strings_Cut ⟨l.toArray⟩ ⟨sep.toArray⟩ m w (by rw [size_toArray]; omega) hm).mono ?_
  rintro e w' ⟨rfl, n, rfl⟩
  exact ⟨rfl, _root_.Go.below_drewN (Below.refl _ _) n⟩
theorem cut_len (l sep : List UInt8) : (Lib.cut l sep).1.length ≤ l.length ∧ (Lib.cut l sep).2.1.length ≤ l.length := by
  unfold Lib.cut
  split
  · simp only [List.length_take, List.length_drop]; omega
  · simp
abbrev id0 : Array Value := #[.string ⟨#[]⟩, .string ⟨#[]⟩, .int .i64 0, .int .i64 0]
theorem infoId : (Tryz.prog.info? 52).map (·.size) = some 4 := by kernel_rfl
theorem infoId4 (a b c d : Value) : (Tryz.prog.info? 52).map (·.size) = some (#[a, b, c, d] : Array Value).size := infoId
theorem sizeId4 (a b c d e f g h : Value) : (#[a, b, c, d] : Array Value).size = (#[e, f, g, h] : Array Value).size := rfl
theorem one_id0 : id0.all (·.oneCell') = true := by kernel_rfl
theorem results_idt {fn : Func} (h : fn.results = #[.cell 2 52, .tmp 3]) (tmps : Array Value) (w : World) (g : Nat) (cs : Array Value) (fr : Nat × Nat) (x : Value)
    (hp : tmps.getD 2 undef = .pointer (some ⟨g, 0, none⟩)) (hx : tmps.getD 3 undef = x) (hg : w.heap[g]? = some (.cells cs 52 fr)) (hn : cs.size = 4) :
    (results fn tmps).run Tryz.prog w = .ok (.tuple #[.agg cs, x]) w := by
  rw [results_cell_tmp h, hp, hx]
  have e : (asAddr (.pointer (some ⟨g, 0, none⟩))).run Tryz.prog w = .ok ⟨g, 0, none⟩ w := rfl
  rw [e]
  simp only [Result.andThen_ok]
  rw [run_loadVar_row w g 52 52 cs fr _ hg Tryz.underlying52 rfl (by rw [infoId, hn])]
  rfl
/-- The parts, from what was cut. -/
def partsG (f1 f2 f3 : Bool) (a1 a2 a3 b3 : List UInt8) : Option Idt :=
  if f1 = true ∧ f2 = true ∧ f3 = true then
    match takeN a3 with
    | none => none
    | some v => match zoneR b3 with
      | none => none
      | some z => some ⟨Lib.trimSuffix a1 [32], a2, v, z⟩
  else none
def optV (o : Option Idt) : Value := match o with
  | none => .tuple #[.agg id0, .bool false]
  | some i => .tuple #[idtV i, .bool true]
theorem tv_none {l : List UInt8} (h : takeN l = none) : ((tv l).2 == 0) = false ∧ ((tv l).2 != 0) = true := by
  unfold tv
  split
  · decide
  · rw [h]; decide
theorem tv_some {l : List UInt8} {v : Int} (h : takeN l = some v) : tv l = (v, 0) := by
  unfold tv
  split
  · rename_i e; subst e; cases h
  · rw [h]
set_option maxHeartbeats 16000000 in
set_option maxRecDepth 100000 in
theorem parts_is (l : List UInt8) (hn : l.length ≤ 1000000) (w : World) (tab : T7 w) :
    Calls Tryz.prog 158 #[.string ⟨l.toArray⟩] w fun e w' => e = .returned (optV (partsL takeN l)) ∧ Below w.heap.size w w' := by
  have c1 := fun w t => Cut_is l [60] hn w t
  have n1 := (cut_len l [60]).2
  have c2 := fun w t => Cut_is (Lib.cut l [60]).2.1 [62, 32] (by omega) w t
  have n2 := (cut_len (Lib.cut l [60]).2.1 [62, 32]).2
  have c3 := fun w t => Cut_is (Lib.cut (Lib.cut l [60]).2.1 [62, 32]).2.1 [32] (by omega) w t
  have n3 := cut_len (Lib.cut (Lib.cut l [60]).2.1 [62, 32]).2.1 [32]
  have n0 := (cut_len l [60]).1
  have E : partsL takeN l = partsG (Lib.cut l [60]).2.2 (Lib.cut (Lib.cut l [60]).2.1 [62, 32]).2.2 (Lib.cut (Lib.cut (Lib.cut l [60]).2.1 [62, 32]).2.1 [32]).2.2 (Lib.cut l [60]).1 (Lib.cut (Lib.cut l [60]).2.1 [62, 32]).1 (Lib.cut (Lib.cut (Lib.cut l [60]).2.1 [62, 32]).2.1 [32]).1 (Lib.cut (Lib.cut (Lib.cut l [60]).2.1 [62, 32]).2.1 [32]).2.1 := rfl
  rw [E]
  clear E
  generalize Lib.cut (Lib.cut (Lib.cut l [60]).2.1 [62, 32]).2.1 [32] = p3 at c3 n3 ⊢
  generalize Lib.cut (Lib.cut l [60]).2.1 [62, 32] = p2 at c2 n2 c3 n3 ⊢
  generalize Lib.cut l [60] = p1 at *
  obtain ⟨a1, b1, f1⟩ := p1
  obtain ⟨a2, b2, f2⟩ := p2
  obtain ⟨a3, b3, f3⟩ := p3
  simp only at c1 c2 c3 n0 n1 n2 n3 ⊢
  have cT := fun w => Take_all a3 (by omega) w
  have cZ := fun w t => Zone_is b3 (by omega) w t
  have cS := fun w => Tryz.strings_TrimSuffix ⟨a1.toArray⟩ ⟨[32].toArray⟩ w (by rw [size_toArray]; omega)
  have eS : Lib.trimSuffix (⟨a1.toArray⟩ : ByteArray).data.toList (⟨[32].toArray⟩ : ByteArray).data.toList = Lib.trimSuffix a1 [32] := rfl
  rw [eS] at cS
  obtain ⟨R, hR⟩ : ∃ R, R = optV (partsG f1 f2 f3 a1 a2 a3 b3) := ⟨_, rfl⟩
  rw [← hR]
  have HR := Lib.hid hR
  clear hR
  generalize (⟨l.toArray⟩ : ByteArray) = sl at c1 ⊢
  generalize (⟨a1.toArray⟩ : ByteArray) = sa1 at c1 cS
  generalize (⟨b1.toArray⟩ : ByteArray) = sb1 at c1 c2
  generalize (⟨b2.toArray⟩ : ByteArray) = sb2 at c2 c3
  have B0 := Lib.hid ((Below.refl w.heap.size w).alloc (Nat.le_refl _) (.cells id0 52))
  have T0 := Lib.hid (tab.keep B0.out)
  have N0 := Lib.hid (heap_alloc_new w (.cells id0 52))
  have S0 := Lib.hid (show (w.alloc (.cells id0 52)).heap.size = w.heap.size + 1 by simp)
  clear tab n0 n1 n2 n3 hn eS
  go_enter Tryz.func158, Tryz.ntmps158
  go_wp2_with fail
  refine (c1 _ T0.out).mono ?_
  rintro e w1 ⟨rfl, d1⟩
  have T1 := Lib.hid (T0.out.keep d1)
  go_wp2_with fail
  refine (c2 _ T1.out).mono ?_
  rintro e w2 ⟨rfl, d2⟩
  have T2 := Lib.hid (T1.out.keep d2)
  go_wp2_with fail
  refine (c3 _ T2.out).mono ?_
  rintro e w3 ⟨rfl, d3⟩
  have T3 := Lib.hid (T2.out.keep d3)
  have d13 := (d1.trans (d2.mono d1.size)).trans (d3.mono (d1.trans (d2.mono d1.size)).size)
  have D3 := Lib.hid (B0.out.trans (d13.mono B0.out.size))
  have N3 := Lib.hid ((d13.block w.heap.size (by rw [S0.out]; omega)).trans N0.out)
  have G3 := Lib.hid (show w.heap.size < w3.heap.size by have := d13.size; rw [S0.out] at this; omega)
  clear c1 c2 c3 d1 d2 d3 d13 T0 T1 T2 S0 N0 B0
  cases f1 with
  | false =>
    have HV := Lib.hid (show R = .tuple #[.agg id0, .bool false] by rw [HR.out]; rfl)
    go_wp2_with (first
      | (with_reducible refine wpList_store_row rfl 52 _ _ rfl w.heap.size id0 rfl rfl 52 id0 N3.out (infoId4 _ _ _ _) (sizeId4 _ _ _ _ _ _ _ _) one_id0 ?_)
      | fail)
    refine bodyPost_ret (results_idt Tryz.results158 _ _ w.heap.size id0 (0, 0) _ rfl rfl (setRow_heap _ w.heap.size id0 id0 _ (0, 0) N3.out) rfl) rfl ⟨by rw [HV.out]; rfl, below_setRow D3.out (Nat.le_refl _) _⟩
  | true =>
    cases f2 with
    | false =>
      have HV := Lib.hid (show R = .tuple #[.agg id0, .bool false] by rw [HR.out]; rfl)
      go_wp2_with (first
        | (with_reducible refine wpList_store_row rfl 52 _ _ rfl w.heap.size id0 rfl rfl 52 id0 N3.out (infoId4 _ _ _ _) (sizeId4 _ _ _ _ _ _ _ _) one_id0 ?_)
        | fail)
      refine bodyPost_ret (results_idt Tryz.results158 _ _ w.heap.size id0 (0, 0) _ rfl rfl (setRow_heap _ w.heap.size id0 id0 _ (0, 0) N3.out) rfl) rfl ⟨by rw [HV.out]; rfl, below_setRow D3.out (Nat.le_refl _) _⟩
    | true =>
      cases f3 with
      | false =>
        have HV := Lib.hid (show R = .tuple #[.agg id0, .bool false] by rw [HR.out]; rfl)
        go_wp2_with (first
          | (with_reducible refine wpList_store_row rfl 52 _ _ rfl w.heap.size id0 rfl rfl 52 id0 N3.out (infoId4 _ _ _ _) (sizeId4 _ _ _ _ _ _ _ _) one_id0 ?_)
          | fail)
        refine bodyPost_ret (results_idt Tryz.results158 _ _ w.heap.size id0 (0, 0) _ rfl rfl (setRow_heap _ w.heap.size id0 id0 _ (0, 0) N3.out) rfl) rfl ⟨by rw [HV.out]; rfl, below_setRow D3.out (Nat.le_refl _) _⟩
      | true =>
        go_wp2_with fail
        refine (cT _).mono ?_
        rintro e w4 ⟨rfl, d4⟩
        have D4 := Lib.hid (D3.out.trans (d4.mono D3.out.size))
        have N4 := Lib.hid ((d4.block w.heap.size G3.out).trans N3.out)
        have G4 := Lib.hid (Nat.lt_of_lt_of_le G3.out d4.size)
        have T4 := Lib.hid (T3.out.keep d4)
        clear d4 cT D3 N3 G3 T3
        cases ht : takeN a3 with
        | none =>
          obtain ⟨u1, u2⟩ := tv_none ht
          have HV := Lib.hid (show R = .tuple #[.agg id0, .bool false] by rw [HR.out]; unfold partsG; rw [if_pos ⟨rfl, rfl, rfl⟩, ht]; rfl)
          generalize (tv a3).2 = ev at u1 u2 ⊢
          generalize (tv a3).1 = vv
          clear ht
          go_wp2_with (first
            | (with_reducible refine wpList_store_row rfl 52 _ _ rfl w.heap.size id0 rfl rfl 52 id0 N4.out (infoId4 _ _ _ _) (sizeId4 _ _ _ _ _ _ _ _) one_id0 ?_)
            | fail)
          refine bodyPost_ret (results_idt Tryz.results158 _ _ w.heap.size id0 (0, 0) _ rfl rfl (setRow_heap _ w.heap.size id0 id0 _ (0, 0) N4.out) rfl) rfl ⟨by rw [HV.out]; rfl, below_setRow D4.out (Nat.le_refl _) _⟩
        | some v =>
          rw [tv_some ht]
          have HR2 := Lib.hid (show R = optV (match zoneR b3 with | none => none | some z => some ⟨Lib.trimSuffix a1 [32], a2, v, z⟩) by rw [HR.out]; unfold partsG; rw [if_pos ⟨rfl, rfl, rfl⟩, ht])
          clear ht
          go_wp2_with fail
          refine (cZ _ T4.out.t6.pow T4.out.zon).mono ?_
          rintro e w5 ⟨rfl, d5⟩
          have D5 := Lib.hid (D4.out.trans (d5.mono D4.out.size))
          have N5 := Lib.hid ((d5.block w.heap.size G4.out).trans N4.out)
          have G5 := Lib.hid (Nat.lt_of_lt_of_le G4.out d5.size)
          clear d5 cZ D4 N4 G4 T4
          unfold zoneA
          cases hz : zoneR b3 with
          | none =>
            have HV := Lib.hid (show R = .tuple #[.agg id0, .bool false] by rw [HR2.out, hz]; rfl)
            clear hz
            go_wp2_with (first
              | (with_reducible refine wpList_store_row rfl 52 _ _ rfl w.heap.size id0 rfl rfl 52 id0 N5.out (infoId4 _ _ _ _) (sizeId4 _ _ _ _ _ _ _ _) one_id0 ?_)
              | fail)
            refine bodyPost_ret (results_idt Tryz.results158 _ _ w.heap.size id0 (0, 0) _ rfl rfl (setRow_heap _ w.heap.size id0 id0 _ (0, 0) N5.out) rfl) rfl ⟨by rw [HV.out]; rfl, below_setRow D5.out (Nat.le_refl _) _⟩
          | some z =>
            have hV : R = .tuple #[.agg #[.string ⟨(Lib.trimSuffix a1 [32]).toArray⟩, .string ⟨a2.toArray⟩, .int .i64 v, .int .i64 z], .bool true] := by rw [HR2.out, hz]; rfl
            clear hz
            generalize (⟨(Lib.trimSuffix a1 [32]).toArray⟩ : ByteArray) = st at cS hV
            generalize (⟨a2.toArray⟩ : ByteArray) = sa2 at hV ⊢
            have HV := Lib.hid hV
            clear hV
            have one : (#[Value.string st, .string sa2, .int .i64 v, .int .i64 z] : Array Value).all (·.oneCell') = true := by simp [Value.oneCell']
            go_wp2_with fail
            refine (cS _).mono ?_
            rintro e w6 ⟨rfl, rfl⟩
            go_wp2_with (first
              | (with_reducible refine wpList_store_row rfl 52 _ _ rfl w.heap.size #[.string st, .string sa2, .int .i64 v, .int .i64 z] rfl rfl 52 id0 N5.out (infoId4 _ _ _ _) (sizeId4 _ _ _ _ _ _ _ _) one ?_)
              | fail)
            refine bodyPost_ret (results_idt Tryz.results158 _ _ w.heap.size _ (0, 0) _ rfl rfl (setRow_heap _ w.heap.size id0 _ _ (0, 0) N5.out) rfl) rfl ⟨by rw [HV.out]; rfl, below_setRow D5.out (Nat.le_refl _) _⟩
end Go.Proofs.YtpelehhmdcjikaaGreatDoor

/-
  Layer 6: Parse of the program.
-/
namespace Go.Proofs.YtpelehhmdcjikaaGreatDoor
open Go.RowKit
set_option linter.unusedVariables false
set_option linter.unusedSimpArgs false
theorem lt_heap {w : World} {g : Nat} {o : Obj} (h : w.heap[g]? = some o) : g < w.heap.size := (Array.getElem?_eq_some_iff.1 h).1
theorem suffix_len (l p : List UInt8) : (Lib.trimSuffix l p).length ≤ l.length := by
  unfold Lib.trimSuffix
  split
  · rw [List.length_take]; omega
  · exact Nat.le_refl _
theorem parts_len (l : List UInt8) (i : Idt) (h : partsL takeN l = some i) : i.name.length ≤ l.length ∧ i.email.length ≤ l.length := by
  unfold partsL at h
  split at h
  · split at h
    · cases h
    · split at h
      · cases h
      · cases h
        have a := (cut_len l [60]).1
        have b := (cut_len l [60]).2
        have c := (cut_len (Lib.cut l [60]).2.1 [62, 32]).1
        have d := suffix_len (Lib.cut l [60]).1 [32]
        exact ⟨Nat.le_trans d a, Nat.le_trans c b⟩
  · cases h
/-- What Parse answers. -/
def idtA (o : Option Idt) : Value := match o with
  | none => .tuple #[.agg id0, .int .i64 4]
  | some i => .tuple #[idtV i, .int .i64 0]
theorem cells4 {w : World} {g : Nat} {a b c d : Value} {t : TypeId} (h : w.heap[g]? = some (.cells #[a, b, c, d] t (0, 0))) :
    w.cell? ⟨g, 0, none⟩ = some a ∧ w.cell? ⟨g, 1, none⟩ = some b ∧ w.cell? ⟨g, 2, none⟩ = some c ∧ w.cell? ⟨g, 3, none⟩ = some d :=
  ⟨by rw [Lib.cell_of_heap h]; rfl, by rw [Lib.cell_of_heap h]; rfl, by rw [Lib.cell_of_heap h]; rfl, by rw [Lib.cell_of_heap h]; rfl⟩
set_option maxHeartbeats 16000000 in
set_option maxRecDepth 100000 in
theorem Parse_is (l : List UInt8) (hn : l.length ≤ 1000000) (w : World) (tab : T7 w) :
    Calls Tryz.prog 134 #[.string ⟨l.toArray⟩] w fun e w' => e = .returned (idtA (parseP Lib.itoa takeN l)) ∧ Below w.heap.size w w' := by
  have B0 := Lib.hid ((Below.refl w.heap.size w).alloc (Nat.le_refl _) (.cells id0 52))
  have cP := parts_is l hn _ (tab.keep B0.out)
  have T0 := Lib.hid (tab.keep B0.out)
  have N0 := Lib.hid (heap_alloc_new w (.cells id0 52))
  have S0 := Lib.hid (show (w.alloc (.cells id0 52)).heap.size = w.heap.size + 1 by simp)
  obtain ⟨R, hR⟩ : ∃ R, R = idtA (parseP Lib.itoa takeN l) := ⟨_, rfl⟩
  rw [← hR]
  cases hp : partsL takeN l with
  | none =>
    have HV := Lib.hid (show R = .tuple #[.agg id0, .int .i64 4] by rw [hR]; unfold parseP; rw [hp]; rfl)
    rw [hp] at cP
    unfold optV at cP
    clear hR hp tab hn
    go_enter Tryz.func134, Tryz.ntmps134
    go_wp2_with fail
    refine cP.mono ?_
    rintro e w1 ⟨rfl, d1⟩
    have N1 := Lib.hid ((d1.block w.heap.size (by rw [S0.out]; omega)).trans N0.out)
    have G1 := Lib.hid (show w.heap.size < w1.heap.size by have := d1.size; rw [S0.out] at this; omega)
    have D1 := Lib.hid (B0.out.trans (d1.mono B0.out.size))
    have N2 := Lib.hid (show ((w1.alloc (.cells id0 52)).setRow w1.heap.size id0).heap[w.heap.size]? = some (.cells id0 52 (0, 0)) by
      have h := (below_setRow (B := w1.heap.size) ((Below.refl w1.heap.size w1).alloc (Nat.le_refl _) (.cells id0 52)) (Nat.le_refl _) id0)
      exact (h.block _ G1.out).trans N1.out)
    have D2 := Lib.hid (below_setRow (g := w1.heap.size) ((D1.out).alloc D1.out.size (.cells id0 52)) D1.out.size id0)
    clear d1 cP
    go_wp2_with (first
      | (with_reducible refine wpList_store_row rfl 52 (.tmp 4) (.tmp 9) rfl w1.heap.size id0 rfl rfl 52 id0 (heap_alloc_new w1 _) (infoId4 _ _ _ _) (sizeId4 _ _ _ _ _ _ _ _) one_id0 ?_)
      | (with_reducible refine wpList_store_row rfl 52 (.tmp 2) (.tmp 24) rfl w.heap.size id0 rfl rfl 52 id0 N2.out (infoId4 _ _ _ _) (sizeId4 _ _ _ _ _ _ _ _) one_id0 ?_)
      | fail)
    refine bodyPost_ret (results_idt Tryz.results134 _ _ w.heap.size id0 (0, 0) _ rfl rfl (setRow_heap _ w.heap.size id0 id0 _ (0, 0) N2.out) rfl) rfl ⟨by rw [HV.out]; rfl, below_setRow D2.out (Nat.le_refl _) _⟩
  | some i =>
    obtain ⟨k1, k2⟩ := parts_len l i hp
    have cR := fun w t => Right_is i (by omega) (by omega) w t
    have cQ := fun w t => Print_is i (by omega) (by omega) w t
    rw [hp] at cP
    unfold optV idtV at cP
    simp only at cP
    have hE : R = idtA (if rightI i = true ∧ printI Lib.itoa i = l then some i else none) := by rw [hR]; unfold parseP; rw [hp]
    have HE := Lib.hid hE
    have IV := Lib.hid (show idtV i = .agg #[.string ⟨i.name.toArray⟩, .string ⟨i.email.toArray⟩, .int .i64 i.whn, .int .i64 i.zone] from rfl)
    have FQ := Lib.hid (show printI Lib.itoa i = l → (printI Lib.itoa i == l) = true from fun h => by rw [h]; simp)
    have FN := Lib.hid (show printI Lib.itoa i ≠ l → (printI Lib.itoa i == l) = false from fun h => by rw [beq_eq_false_iff_ne]; exact h)
    rw [IV.out] at cR cQ
    clear hR hp tab hn k1 k2 hE
    generalize (⟨i.name.toArray⟩ : ByteArray) = sn at cP cR cQ IV
    generalize (⟨i.email.toArray⟩ : ByteArray) = se at cP cR cQ IV
    generalize hti : i.whn = ti at cP cR cQ IV
    generalize hzi : i.zone = zi at cP cR cQ IV
    have one : (#[Value.string sn, .string se, .int .i64 ti, .int .i64 zi] : Array Value).all (·.oneCell') = true := by simp [Value.oneCell']
    clear hti hzi
    go_enter Tryz.func134, Tryz.ntmps134
    go_wp2_with fail
    refine cP.mono ?_
    rintro e w1 ⟨rfl, d1⟩
    have N1 := Lib.hid ((d1.block w.heap.size (by rw [S0.out]; omega)).trans N0.out)
    have G1 := Lib.hid (show w.heap.size < w1.heap.size by have := d1.size; rw [S0.out] at this; omega)
    have D1 := Lib.hid (B0.out.trans (d1.mono B0.out.size))
    have T1 := Lib.hid (T0.out.keep d1)
    have hb2 := below_setRow (B := w1.heap.size) (g := w1.heap.size) ((Below.refl w1.heap.size w1).alloc (Nat.le_refl _) (.cells id0 52)) (Nat.le_refl _) #[Value.string sn, .string se, .int .i64 ti, .int .i64 zi]
    have N2 := Lib.hid ((hb2.block _ G1.out).trans N1.out)
    have D2 := Lib.hid (D1.out.trans (hb2.mono D1.out.size))
    have T2 := Lib.hid (T1.out.keep hb2)
    have hh2 := setRow_heap (w1.alloc (.cells id0 52)) w1.heap.size id0 #[Value.string sn, .string se, .int .i64 ti, .int .i64 zi] 52 (0, 0) (heap_alloc_new w1 _)
    have H2 := Lib.hid hh2
    obtain ⟨c20, c21, c22, c23⟩ := cells4 hh2
    clear hb2 d1 cP hh2
    go_wp2_with (first
      | (with_reducible refine wpList_store_row rfl 52 (.tmp 4) (.tmp 9) rfl w1.heap.size #[Value.string sn, .string se, .int .i64 ti, .int .i64 zi] rfl rfl 52 id0 (heap_alloc_new w1 _) (infoId4 _ _ _ _) (sizeId4 _ _ _ _ _ _ _ _) one ?_)
      | fail)
    refine (cR _ T2.out.t6).mono ?_
    rintro e w2 ⟨rfl, d2⟩
    have g2a := lt_heap N2.out
    have g2b := lt_heap H2.out
    have N3 := Lib.hid ((d2.block _ g2a).trans N2.out)
    have hh3 := (d2.block _ g2b).trans H2.out
    have H3 := Lib.hid hh3
    have D3 := Lib.hid (D2.out.trans (d2.mono D2.out.size))
    have T3 := Lib.hid (T2.out.keep d2)
    obtain ⟨c30, c31, c32, c33⟩ := cells4 hh3
    clear c20 c21 c22 c23 d2 hh3 g2a g2b N2 H2 D2 T2 cR
    cases hr : rightI i with
    | false =>
      have HV := Lib.hid (show R = .tuple #[.agg id0, .int .i64 4] by rw [HE.out, if_neg (fun h => by rw [hr] at h; exact absurd h.1 (by decide))]; rfl)
      clear hr
      go_wp2_with (first
        | (with_reducible refine wpList_store_row rfl 52 (.tmp 2) (.tmp 24) rfl w.heap.size id0 rfl rfl 52 id0 N3.out (infoId4 _ _ _ _) (sizeId4 _ _ _ _ _ _ _ _) one_id0 ?_)
        | fail)
      refine bodyPost_ret (results_idt Tryz.results134 _ _ w.heap.size _ (0, 0) _ rfl rfl (setRow_heap _ w.heap.size id0 _ _ (0, 0) N3.out) rfl) rfl ⟨by rw [HV.out]; rfl, below_setRow D3.out (Nat.le_refl _) _⟩
    | true =>
      go_wp2_with fail
      refine (cQ _ T3.out.t6).mono ?_
      rintro e w3 ⟨rfl, d3⟩
      have g3a := lt_heap N3.out
      have g3b := lt_heap H3.out
      have N4 := Lib.hid ((d3.block _ g3a).trans N3.out)
      have hh4 := (d3.block _ g3b).trans H3.out
      have D4 := Lib.hid (D3.out.trans (d3.mono D3.out.size))
      obtain ⟨c40, c41, c42, c43⟩ := cells4 hh4
      clear c30 c31 c32 c33 d3 hh4 g3a g3b N3 H3 D3 T3 cQ
      by_cases he : printI Lib.itoa i = l
      · have HV := Lib.hid (show R = .tuple #[.agg #[.string sn, .string se, .int .i64 ti, .int .i64 zi], .int .i64 0] by rw [HE.out, if_pos ⟨hr, he⟩]; unfold idtA; simp only; rw [IV.out])
        have feq := FQ.out he
        clear hr he HE
        go_wp2_with (first
          | (with_reducible refine wpList_store_row rfl 52 (.tmp 2) (.tmp 25) rfl w.heap.size #[Value.string sn, .string se, .int .i64 ti, .int .i64 zi] rfl rfl 52 id0 N4.out (infoId4 _ _ _ _) (sizeId4 _ _ _ _ _ _ _ _) one ?_)
          | fail)
        refine bodyPost_ret (results_idt Tryz.results134 _ _ w.heap.size _ (0, 0) _ rfl rfl (setRow_heap _ w.heap.size id0 _ _ (0, 0) N4.out) rfl) rfl ⟨by rw [HV.out]; rfl, below_setRow D4.out (Nat.le_refl _) _⟩
      · have HV := Lib.hid (show R = .tuple #[.agg id0, .int .i64 4] by rw [HE.out, if_neg (fun h => he h.2)]; rfl)
        have feq := FN.out he
        clear hr he HE
        go_wp2_with (first
          | (with_reducible refine wpList_store_row rfl 52 (.tmp 2) (.tmp 24) rfl w.heap.size id0 rfl rfl 52 id0 N4.out (infoId4 _ _ _ _) (sizeId4 _ _ _ _ _ _ _ _) one_id0 ?_)
          | fail)
        refine bodyPost_ret (results_idt Tryz.results134 _ _ w.heap.size _ (0, 0) _ rfl rfl (setRow_heap _ w.heap.size id0 _ _ (0, 0) N4.out) rfl) rfl ⟨by rw [HV.out]; rfl, below_setRow D4.out (Nat.le_refl _) _⟩
end Go.Proofs.YtpelehhmdcjikaaGreatDoor
