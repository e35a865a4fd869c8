/-
  Layer 11, the program: which parts are wrong, which runes are signs, which runes stand beside each other.
-/
import Derived.Test.YtbnhchffdccjnaaDoorVc
import Derived.Test.YtbnhchffdccjnaaDoorRi
import Derived.Test.YtbnhchffdccjnaaDoorShelf
import Derived.Lib.IndexAny
import Derived.Deep.QuietTactic
import Derived.BigQuiet
import Derived.WalkMore
namespace Go.Proofs.YtbnhchffdccjnaaDoor
open Go.RowKit
set_option linter.unusedVariables false
set_option linter.unusedSimpArgs false
set_option maxRecDepth 20000

set_option maxHeartbeats 1000000 in
theorem wrongPart_is (l : List UInt8) (hl : l.length ≤ 1000000) (w : World) :
    Calls Tryd.prog 16 #[.string ⟨l.toArray⟩] w fun e w' => e = .returned (.bool (!partR l)) ∧ w' = w := by
  have hem := empty_list l
  have z := size_toArray l
  have cP := fun w => Tryd.strings_HasPrefix ⟨l.toArray⟩ ⟨#[46]⟩ w
  have cS := fun w => Tryd.strings_HasSuffix ⟨l.toArray⟩ ⟨#[46, 108, 111, 99, 107]⟩ w (by rw [z]; omega)
  have e1 : Lib.hasPrefix (⟨l.toArray⟩ : ByteArray).data.toList (⟨#[46]⟩ : ByteArray).data.toList = ([46].isPrefixOf l : Bool) := rfl
  have e2 : Lib.hasSuffix (⟨l.toArray⟩ : ByteArray).data.toList (⟨#[46, 108, 111, 99, 107]⟩ : ByteArray).data.toList = (lockL.isSuffixOf l : Bool) := rfl
  rw [e1] at cP
  rw [e2] at cS
  clear e1 e2
  obtain ⟨P, hP⟩ : ∃ P, partR l = P := ⟨_, rfl⟩
  have R := hP
  unfold partR at R
  rw [hP]
  obtain ⟨a, ha⟩ : ∃ a, ([46].isPrefixOf l : Bool) = a := ⟨_, rfl⟩
  obtain ⟨b, hb⟩ : ∃ b, (lockL.isSuffixOf l : Bool) = b := ⟨_, rfl⟩
  rw [ha] at cP R
  rw [hb] at cS R
  obtain ⟨S, hS⟩ : ∃ S : ByteArray, S = ⟨l.toArray⟩ := ⟨_, rfl⟩
  rw [← hS] at cP cS hem ⊢
  have H := Lib.hid R
  clear hS ha hb hP R z
  by_cases h : l = []
  · have e0 : S.toList.isEmpty = true := by rw [hem, h]; rfl
    have R2 : Hid (true = !P) := Lib.hid (by rw [← H.out, h]; rfl)
    clear h hem
    go_enter Tryd.func16, Tryd.ntmps16
    go_wp2
    go_ret
    exact ⟨ret_bool R2.out, rfl⟩
  · have hl0 : 0 < l.length := List.length_pos_iff.2 h
    have e0 : S.toList.isEmpty = false := by rw [hem, decide_eq_false (by omega)]
    have hq : (l == []) = false := by cases l with | nil => exact absurd rfl h | cons _ _ => rfl
    have R2 : Hid ((a || b) = !P) := Lib.hid (by rw [← H.out, hq]; cases a <;> cases b <;> rfl)
    clear h hem hq
    cases a with
    | true =>
      go_enter Tryd.func16, Tryd.ntmps16
      go_wp2_with fail
      refine (cP _).mono ?_
      rintro e w1 ⟨rfl, rfl⟩
      go_wp2
      go_ret
      exact ⟨ret_bool R2.out, rfl⟩
    | false =>
      go_enter Tryd.func16, Tryd.ntmps16
      go_wp2_with fail
      refine (cP _).mono ?_
      rintro e w1 ⟨rfl, rfl⟩
      go_wp2_with fail
      refine (cS _).mono ?_
      rintro e w2 ⟨rfl, rfl⟩
      go_wp2
      go_ret
      exact ⟨ret_bool R2.out, rfl⟩

theorem encode_high11 (r : Int) (h : 128 ≤ r) : 2 ≤ (Utf8.encode r).size ∧ (Utf8.encode r).size ≤ 4 ∧ ∀ (i : Nat) (hi : i < (Utf8.encode r).size), 128 ≤ ((Utf8.encode r)[i]'hi).toNat := by
  obtain ⟨c, hc⟩ : ∃ c : Nat, c = (if Utf8.valid r then r.toNat else Utf8.runeError) := ⟨_, rfl⟩
  have hlo : 128 ≤ c ∧ c ≤ 1114111 := by
    rw [hc]
    split
    · next hv =>
      simp only [Utf8.valid, Bool.or_eq_true, Bool.and_eq_true, decide_eq_true_eq] at hv
      omega
    · simp [Utf8.runeError]
  have key : Utf8.encode r = (if c < 0x80 then ⟨#[UInt8.ofNat c]⟩ else if c < 0x800 then ⟨#[UInt8.ofNat (0xC0 + c / 64), UInt8.ofNat (0x80 + c % 64)]⟩
      else if c < 0x10000 then ⟨#[UInt8.ofNat (0xE0 + c / 4096), UInt8.ofNat (0x80 + c / 64 % 64), UInt8.ofNat (0x80 + c % 64)]⟩
      else ⟨#[UInt8.ofNat (0xF0 + c / 262144), UInt8.ofNat (0x80 + c / 4096 % 64), UInt8.ofNat (0x80 + c / 64 % 64), UInt8.ofNat (0x80 + c % 64)]⟩) := by
    rw [hc]; rfl
  rw [key]
  rw [if_neg (by omega)]
  have two : ∀ (a b : UInt8) (i : Nat) (hi : i < (⟨#[a, b]⟩ : ByteArray).size), (⟨#[a, b]⟩ : ByteArray)[i]'hi = a ∨ (⟨#[a, b]⟩ : ByteArray)[i]'hi = b := by
    intro a b i hi
    have : i = 0 ∨ i = 1 := by simp [ByteArray.size] at hi; omega
    rcases this with rfl | rfl
    · exact .inl rfl
    · exact .inr rfl
  have three : ∀ (a b c : UInt8) (i : Nat) (hi : i < (⟨#[a, b, c]⟩ : ByteArray).size), (⟨#[a, b, c]⟩ : ByteArray)[i]'hi = a ∨ (⟨#[a, b, c]⟩ : ByteArray)[i]'hi = b ∨ (⟨#[a, b, c]⟩ : ByteArray)[i]'hi = c := by
    intro a b c i hi
    have : i = 0 ∨ i = 1 ∨ i = 2 := by simp [ByteArray.size] at hi; omega
    rcases this with rfl | rfl | rfl
    · exact .inl rfl
    · exact .inr (.inl rfl)
    · exact .inr (.inr rfl)
  have four : ∀ (a b c d : UInt8) (i : Nat) (hi : i < (⟨#[a, b, c, d]⟩ : ByteArray).size), (⟨#[a, b, c, d]⟩ : ByteArray)[i]'hi = a ∨ (⟨#[a, b, c, d]⟩ : ByteArray)[i]'hi = b ∨ (⟨#[a, b, c, d]⟩ : ByteArray)[i]'hi = c ∨ (⟨#[a, b, c, d]⟩ : ByteArray)[i]'hi = d := by
    intro a b c d i hi
    have : i = 0 ∨ i = 1 ∨ i = 2 ∨ i = 3 := by simp [ByteArray.size] at hi; omega
    rcases this with rfl | rfl | rfl | rfl
    · exact .inl rfl
    · exact .inr (.inl rfl)
    · exact .inr (.inr (.inl rfl))
    · exact .inr (.inr (.inr rfl))
  split
  · refine ⟨by simp [ByteArray.size], by simp [ByteArray.size], fun i hi => ?_⟩
    rcases two _ _ i hi with e | e <;> rw [e, UInt8.toNat_ofNat'] <;> omega
  · split
    · refine ⟨by simp [ByteArray.size], by simp [ByteArray.size], fun i hi => ?_⟩
      rcases three _ _ _ i hi with e | e | e <;> rw [e, UInt8.toNat_ofNat'] <;> omega
    · refine ⟨by simp [ByteArray.size], by simp [ByteArray.size], fun i hi => ?_⟩
      rcases four _ _ _ _ i hi with e | e | e | e <;> rw [e, UInt8.toNat_ofNat'] <;> omega

set_option maxHeartbeats 8000000 in
set_option maxRecDepth 100000 in
/-- No rune from 128 on is a sign. -/
theorem IndexRune_sign (r : Int) (h0 : 128 ≤ r) (h1 : r ≤ 2147483647) (w : World) :
    Calls Tryd.prog 32 #[.string ⟨#[126, 94, 58, 63, 42, 91, 92]⟩, .int .i32 r] w fun e w' => e = .returned (.int .i64 (-1)) ∧ Below w.heap.size w w' := by
  by_cases hr : r = 65533
  · have f1 : (r == 65533) = true := by simp [hr]
    have RI := Lib.hid (rune_int signsL)
    have SZ : (⟨#[126, 94, 58, 63, 42, 91, 92]⟩ : ByteArray).size = 7 := rfl
    obtain ⟨s, hs⟩ : ∃ s : ByteArray, s = ⟨#[126, 94, 58, 63, 42, 91, 92]⟩ := ⟨_, rfl⟩
    have HS := Lib.hid hs
    rw [show (⟨signsL.toArray⟩ : ByteArray) = s from hs.symm] at RI
    rw [← hs] at SZ ⊢
    clear hs hr
    go_enter Tryd.func32, Tryd.ntmps32
    go_wp2_with fail
    go_loopw [] (fun wr => ∃ i : Nat, i ≤ 7 ∧ wr = w.iter s i) (fun wr => 7 - wr.iterPos w.heap.size)
    case atStart => exact ⟨0, Nat.zero_le _, rfl⟩
    case round =>
      obtain ⟨i, hi, rfl⟩ := hrel
      by_cases hlt : i < 7
      · have hnx := fun ty => run_next_any (P := Tryd.prog) w s i ty (by omega)
        obtain ⟨x, k, hx, hk, hx0, hx1, hk1, hkl, hw⟩ := RI.out i hlt
        rw [← hx, ← hk] at hnx
        have low : x < 128 ∧ k = 1 := by
          rcases hw with ⟨h, _, h2⟩ | ⟨_, _, h⟩
          · exact ⟨h, h2⟩
          · have := h i (Nat.le_refl _) (by omega)
            have hall : ∀ i, i < 7 → (signsL.getD i 0).toNat < 128 := by decide
            exact absurd this (by have := hall i hlt; omega)
        obtain ⟨l1, l2⟩ := low
        have L2 := Lib.hid l2
        clear l2
        have f2 : (x == 65533) = false := by simp; omega
        clear hx hk hw
        go_wp2
        go_roundw
        case rel => exact ⟨i + k, by have := L2.out; omega, rfl⟩
        case measure => simp; omega
      · obtain rfl : i = 7 := by omega
        have hnx := fun ty => run_next_end (P := Tryd.prog) w s 7 ty (by omega)
        go_wp2
        go_ret
        exact ⟨rfl, (Below.refl _ _).alloc (Nat.le_refl _) _⟩
  · have f1 : (r == 65533) = false := by simp [hr]
    obtain ⟨z2, z4, zh⟩ := encode_high11 r h0
    have hcv := fun w => run_convert_int_string (P := Tryd.prog) w 21 9 .i32 r (by kernel_rfl) Tryd.underlying9
    obtain ⟨rs, hrs⟩ : ∃ rs, rs = Utf8.encode r := ⟨_, rfl⟩
    rw [← hrs] at hcv
    have ZH : Hid (∀ (i : Nat) (hi : i < rs.size), 128 ≤ (rs[i]'hi).toNat) := Lib.hid (by subst hrs; exact zh)
    rw [← hrs] at z2 z4
    clear zh hrs hr
    obtain ⟨m, hm⟩ : ∃ m, rs.size = m + 1 := ⟨rs.size - 1, by omega⟩
    have hm1 : 1 ≤ m := by omega
    have hm3 : m ≤ 3 := by omega
    obtain ⟨y, hy⟩ : ∃ y : UInt8, rs[m]'(by omega) = y := ⟨_, rfl⟩
    have hy8 : 128 ≤ y.toNat := by rw [← hy]; exact ZH.out m _
    have hyx : ∀ h, rs[m]'h = y := fun _ => hy
    have hsz : (⟨#[126, 94, 58, 63, 42, 91, 92]⟩ : ByteArray).size = 7 := rfl
    have gs : ∀ h, (⟨#[126, 94, 58, 63, 42, 91, 92]⟩ : ByteArray)[m]'h = signsL.getD m 0 := fun h => getD_str signsL m (by show m < 7; omega) h
    have hlow : ∀ i, i < 7 → (signsL.getD i 0).toNat < 128 := by decide
    have hxl := hlow m (by omega)
    have ex : (⟨#[126, 94, 58, 63, 42, 91, 92]⟩ : ByteArray).extract (m + 1) 7 = ⟨(signsL.drop (m + 1)).toArray⟩ := ext_drop signsL (m + 1)
    obtain ⟨x, hx⟩ : ∃ x, signsL.getD m 0 = x := ⟨_, rfl⟩
    rw [hx] at gs hxl
    have hne : ((x.toNat : Int) != (y.toNat : Int)) = true := by simp; omega
    have cI := fun w => Tryd.strings_IndexByte ⟨(signsL.drop (m + 1)).toArray⟩ (y.toNat : Int) w
    have hie : Lib.indexByte (⟨(signsL.drop (m + 1)).toArray⟩ : ByteArray).data.toList (y.toNat : Int).toNat.toUInt8 = -1 := by
      show Lib.indexByte (signsL.drop (m + 1)) _ = -1
      have hyy : (y.toNat : Int).toNat.toUInt8 = y := by simp
      rw [hyy]
      by_cases h : 0 ≤ Lib.indexByte (signsL.drop (m + 1)) y
      · exfalso
        have := (Lib.contains_iff_indexByte (signsL.drop (m + 1)) y)
        rw [decide_eq_true h, List.contains_iff_mem] at this
        have h2 := List.mem_of_mem_drop this
        have h3 : ∀ c ∈ signsL, c.toNat < 128 := by decide
        have := h3 y h2
        omega
      · have := Lib.indexByte_ge (signsL.drop (m + 1)) y
        omega
    rw [hie] at cI
    have hz1 : (rs.size : Int) - 1 = (m : Int) := by omega
    obtain ⟨X, hX⟩ : ∃ X : ByteArray, X = ⟨(signsL.drop (m + 1)).toArray⟩ := ⟨_, rfl⟩
    rw [← hX] at cI ex
    obtain ⟨s, hs⟩ : ∃ s : ByteArray, s = ⟨#[126, 94, 58, 63, 42, 91, 92]⟩ := ⟨_, rfl⟩
    rw [← hs] at hsz gs ex ⊢
    clear hs hX hie hx hlow hy
    go_enter Tryd.func32, Tryd.ntmps32
    go_wp2_with fail
    refine (Tryd.utf8_ValidRune r _).mono ?_
    rintro e w1 ⟨rfl, rfl⟩
    cases hv : Lib.validRune r with
    | false =>
      go_wp2
      go_ret
      exact ⟨rfl, Below.refl _ _⟩
    | true =>
      clear hv
      go_wp2_with fail
      go_step3
      go_wp2_with fail
      refine wp_loop_rounds 1 ?_
      rw [rounds_succ]
      go_wp2_with fail
      go_step3
      go_wp2_with fail
      go_quiet (fail)
      have bq : Below w1.heap.size w1 (w1.drewN nq) := below_drewN (Below.refl _ _) nq
      generalize w1.drewN nq = w5 at bq ⊢
      go_wp2_with fail
      go_quiet ((go_at_call 37; exact Calls.quiet_of_same (cI _)))
      go_wp2
      rw [Exit.noGoto_ret]
      go_wp2
      rw [Exit.noGoto_ret]
      go_wp2
      go_ret
      exact ⟨rfl, below_drewN bq _⟩

set_option maxHeartbeats 1000000 in
theorem ContainsRune_high (r : Int) (h0 : 128 ≤ r) (h1 : r ≤ 2147483647) (w : World) :
    Calls Tryd.prog 26 #[.string ⟨#[126, 94, 58, 63, 42, 91, 92]⟩, .int .i32 r] w fun e w' => e = .returned (.bool false) ∧ Below w.heap.size w w' := by
  have cR := fun w => IndexRune_sign r h0 h1 w
  obtain ⟨s, hs⟩ : ∃ s : ByteArray, s = ⟨#[126, 94, 58, 63, 42, 91, 92]⟩ := ⟨_, rfl⟩
  rw [← hs] at cR ⊢
  clear hs
  go_enter Tryd.func26, Tryd.ntmps26
  go_wp2_with fail
  refine (cR _).mono ?_
  rintro e w1 ⟨rfl, b1⟩
  go_wp2
  go_ret
  exact ⟨rfl, b1⟩
end Go.Proofs.YtbnhchffdccjnaaDoor
