/-
  strings.IndexAny for a blank or the end of a line, in any text.
-/
import Derived.Test.YtboiclejhnbonaaDoorQw
import Derived.Test.YtboiclejhnbonaaDoorShelf
import Derived.Deep.QuietTactic
import Derived.BigQuiet
import Derived.WalkMore
namespace Go.Proofs.YtboiclejhnbonaaDoor
open Go.RowKit
set_option linter.unusedVariables false
set_option linter.unusedSimpArgs false

theorem encode_high (r : Int) (h : 128 ≤ r) : 2 ≤ (Utf8.encode r).size ∧ (Utf8.encode r).size ≤ 4 ∧ ∀ (i : Nat) (hi : i < (Utf8.encode r).size), 128 ≤ ((Utf8.encode r)[i]'hi).toNat := by
  obtain ⟨c, hc⟩ : ∃ c : Nat, c = (if Utf8.valid r then r.toNat else Utf8.runeError) := ⟨_, rfl⟩
  have hlo : 128 ≤ c ∧ c ≤ 1114111 := by
    rw [hc]
    split
    · next hv =>
      simp only [Utf8.valid, Bool.or_eq_true, Bool.and_eq_true, decide_eq_true_eq] at hv
      omega
    · simp [Utf8.runeError]
  have key : Utf8.encode r = (if c < 0x80 then ⟨#[UInt8.ofNat c]⟩ else if c < 0x800 then ⟨#[UInt8.ofNat (0xC0 + c / 64), UInt8.ofNat (0x80 + c % 64)]⟩
      else if c < 0x10000 then ⟨#[UInt8.ofNat (0xE0 + c / 4096), UInt8.ofNat (0x80 + c / 64 % 64), UInt8.ofNat (0x80 + c % 64)]⟩
      else ⟨#[UInt8.ofNat (0xF0 + c / 262144), UInt8.ofNat (0x80 + c / 4096 % 64), UInt8.ofNat (0x80 + c / 64 % 64), UInt8.ofNat (0x80 + c % 64)]⟩) := by
    rw [hc]; rfl
  rw [key]
  rw [if_neg (by omega)]
  have two : ∀ (a b : UInt8) (i : Nat) (hi : i < (⟨#[a, b]⟩ : ByteArray).size), (⟨#[a, b]⟩ : ByteArray)[i]'hi = a ∨ (⟨#[a, b]⟩ : ByteArray)[i]'hi = b := by
    intro a b i hi
    have : i = 0 ∨ i = 1 := by simp [ByteArray.size] at hi; omega
    rcases this with rfl | rfl
    · exact .inl rfl
    · exact .inr rfl
  have three : ∀ (a b c : UInt8) (i : Nat) (hi : i < (⟨#[a, b, c]⟩ : ByteArray).size), (⟨#[a, b, c]⟩ : ByteArray)[i]'hi = a ∨ (⟨#[a, b, c]⟩ : ByteArray)[i]'hi = b ∨ (⟨#[a, b, c]⟩ : ByteArray)[i]'hi = c := by
    intro a b c i hi
    have : i = 0 ∨ i = 1 ∨ i = 2 := by simp [ByteArray.size] at hi; omega
    rcases this with rfl | rfl | rfl
    · exact .inl rfl
    · exact .inr (.inl rfl)
    · exact .inr (.inr rfl)
  have four : ∀ (a b c d : UInt8) (i : Nat) (hi : i < (⟨#[a, b, c, d]⟩ : ByteArray).size), (⟨#[a, b, c, d]⟩ : ByteArray)[i]'hi = a ∨ (⟨#[a, b, c, d]⟩ : ByteArray)[i]'hi = b ∨ (⟨#[a, b, c, d]⟩ : ByteArray)[i]'hi = c ∨ (⟨#[a, b, c, d]⟩ : ByteArray)[i]'hi = d := by
    intro a b c d i hi
    have : i = 0 ∨ i = 1 ∨ i = 2 ∨ i = 3 := by simp [ByteArray.size] at hi; omega
    rcases this with rfl | rfl | rfl | rfl
    · exact .inl rfl
    · exact .inr (.inl rfl)
    · exact .inr (.inr (.inl rfl))
    · exact .inr (.inr (.inr rfl))
  split
  · refine ⟨by simp [ByteArray.size], by simp [ByteArray.size], fun i hi => ?_⟩
    rcases two _ _ i hi with e | e <;> rw [e, UInt8.toNat_ofNat'] <;> omega
  · split
    · refine ⟨by simp [ByteArray.size], by simp [ByteArray.size], fun i hi => ?_⟩
      rcases three _ _ _ i hi with e | e | e <;> rw [e, UInt8.toNat_ofNat'] <;> omega
    · refine ⟨by simp [ByteArray.size], by simp [ByteArray.size], fun i hi => ?_⟩
      rcases four _ _ _ _ i hi with e | e | e | e <;> rw [e, UInt8.toNat_ofNat'] <;> omega

set_option maxHeartbeats 8000000 in
set_option maxRecDepth 100000 in
/-- No rune from 128 on is a blank or the end of a line. -/
theorem IndexRune_blank (r : Int) (h0 : 128 ≤ r) (h1 : r ≤ 2147483647) (w : World) :
    Calls Tryd.prog 49 #[.string ⟨#[32, 10]⟩, .int .i32 r] w fun e w' => e = .returned (.int .i64 (-1)) ∧ Below w.heap.size w w' := by
  by_cases hr : r = 65533
  · have f1 : (r == 65533) = true := by simp [hr]
    have RI := Lib.hid (rune_int [32, 10])
    have SZ : (⟨#[32, 10]⟩ : ByteArray).size = 2 := rfl
    obtain ⟨s, hs⟩ : ∃ s : ByteArray, s = ⟨#[32, 10]⟩ := ⟨_, rfl⟩
    have HS := Lib.hid hs
    rw [show (⟨[32, 10].toArray⟩ : ByteArray) = s from hs.symm] at RI
    rw [← hs] at SZ ⊢
    clear hs hr
    go_enter Tryd.func49, Tryd.ntmps49
    go_wp2_with fail
    go_loopw [] (fun wr => ∃ i : Nat, i ≤ 2 ∧ wr = w.iter s i) (fun wr => 2 - wr.iterPos w.heap.size)
    case atStart => exact ⟨0, Nat.zero_le _, rfl⟩
    case round =>
      obtain ⟨i, hi, rfl⟩ := hrel
      by_cases hlt : i < 2
      · have hnx := fun ty => run_next_any (P := Tryd.prog) w s i ty (by omega)
        obtain ⟨x, k, hx, hk, hx0, hx1, hk1, hkl, hw⟩ := RI.out i hlt
        rw [← hx, ← hk] at hnx
        have low : x < 128 ∧ k = 1 := by
          rcases hw with ⟨h, _, h2⟩ | ⟨_, _, h⟩
          · exact ⟨h, h2⟩
          · have := h i (Nat.le_refl _) (by omega)
            have h3 : i = 0 ∨ i = 1 := by omega
            rcases h3 with rfl | rfl
            · exact absurd this (by decide)
            · exact absurd this (by decide)
        obtain ⟨l1, l2⟩ := low
        have L2 := Lib.hid l2
        clear l2
        have f2 : (x == 65533) = false := by simp; omega
        clear hx hk hw
        go_wp2
        go_roundw
        case rel => exact ⟨i + k, by have := L2.out; omega, rfl⟩
        case measure => simp; omega
      · obtain rfl : i = 2 := by omega
        have hnx := fun ty => run_next_end (P := Tryd.prog) w s 2 ty (by omega)
        go_wp2
        go_ret
        exact ⟨rfl, (Below.refl _ _).alloc (Nat.le_refl _) _⟩
  · have f1 : (r == 65533) = false := by simp [hr]
    obtain ⟨z2, z4, zh⟩ := encode_high r h0
    have hcv := fun w => run_convert_int_string (P := Tryd.prog) w 21 9 .i32 r (by kernel_rfl) Tryd.underlying9
    obtain ⟨rs, hrs⟩ : ∃ rs, rs = Utf8.encode r := ⟨_, rfl⟩
    rw [← hrs] at hcv
    have ZH : Hid (∀ (i : Nat) (hi : i < rs.size), 128 ≤ (rs[i]'hi).toNat) := Lib.hid (by subst hrs; exact zh)
    rw [← hrs] at z2 z4
    clear zh hrs
    have hsz : (⟨#[32, 10]⟩ : ByteArray).size = 2 := rfl
    have hs1 : ∀ h, (⟨#[32, 10]⟩ : ByteArray)[1]'h = 10 := fun _ => rfl
    have cI := fun (c : UInt8) w => Tryd.strings_IndexByte ByteArray.empty (c.toNat : Int) w
    have hie : ∀ c, Lib.indexByte ByteArray.empty.data.toList c = -1 := fun c => rfl
    simp only [hie] at cI
    obtain ⟨s, hs⟩ : ∃ s : ByteArray, s = ⟨#[32, 10]⟩ := ⟨_, rfl⟩
    rw [← hs] at hsz hs1 ⊢
    clear hs hie hr
    by_cases h2 : rs.size = 2
    · obtain ⟨y, hy⟩ : ∃ y : UInt8, rs[1]'(by omega) = y := ⟨_, rfl⟩
      have hy8 : 128 ≤ y.toNat := by rw [← hy]; exact ZH.out 1 _
      have hne : ((10 : Int) != (y.toNat : Int)) = true := by simp; omega
      have hz0 : (rs.size : Int) = 2 := by omega
      have hz1 : (rs.size : Int) - 1 = 1 := by omega
      have q2 : IntKind.i64.wrap 2 = 2 := IntWalk.i64_in 2 (by omega)
      go_enter Tryd.func49, Tryd.ntmps49
      go_wp2_with fail
      refine (Tryd.utf8_ValidRune r _).mono ?_
      rintro e w1 ⟨rfl, rfl⟩
      cases hv : Lib.validRune r with
      | false =>
        go_wp2
        go_ret
        exact ⟨rfl, Below.refl _ _⟩
      | true =>
        clear hv
        go_wp2_with fail
        go_step3
        go_wp2_with fail
        refine wp_loop_rounds 1 ?_
        rw [rounds_succ]
        go_wp2_with fail
        go_step3
        go_wp2_with fail
        go_quiet (fail)
        have bq : Below w1.heap.size w1 (w1.drewN nq) := below_drewN (Below.refl _ _) nq
        generalize w1.drewN nq = w5 at bq ⊢
        go_wp2_with fail
        go_quiet ((go_at_call 63; exact Calls.quiet_of_same (cI y _)))
        go_wp2
        rw [Exit.noGoto_ret]
        go_wp2
        rw [Exit.noGoto_ret]
        go_wp2
        go_ret
        exact ⟨rfl, below_drewN bq _⟩
    · have h3 : 3 ≤ rs.size := by omega
      go_enter Tryd.func49, Tryd.ntmps49
      go_wp2_with fail
      refine (Tryd.utf8_ValidRune r _).mono ?_
      rintro e w1 ⟨rfl, rfl⟩
      cases hv : Lib.validRune r with
      | false =>
        go_wp2
        go_ret
        exact ⟨rfl, Below.refl _ _⟩
      | true =>
        clear hv
        go_wp2_with fail
        go_step3
        go_wp2_with fail
        refine wp_loop_rounds 1 ?_
        rw [rounds_succ]
        go_wp2
        rw [Exit.noGoto_ret]
        go_wp2
        go_ret
        exact ⟨rfl, Below.refl _ _⟩
/-- Where the word ends; below zero: nowhere. -/
def wordI (l : List UInt8) : Int := if wordLen l < l.length then (wordLen l : Int) else -1
theorem word_stop (l : List UInt8) (i : Nat) (hi : i < l.length) (hall : ∀ j, j < i → (l.getD j 0).toNat ≠ 32 ∧ (l.getD j 0).toNat ≠ 10) (h : (l.getD i 0).toNat = 32 ∨ (l.getD i 0).toNat = 10) : wordLen l = i := by
  induction l generalizing i with
  | nil => simp at hi
  | cons c r ih =>
    cases i with
    | zero => unfold wordLen; rw [if_pos (by simpa using h)]
    | succ i =>
      have h0 := hall 0 (by omega)
      unfold wordLen
      rw [if_neg (by simp at h0; omega), ih i (by simp at hi; omega) (fun j hj => by simpa using hall (j + 1) (by omega)) (by simpa using h)]
theorem word_none (l : List UInt8) (hall : ∀ j, j < l.length → (l.getD j 0).toNat ≠ 32 ∧ (l.getD j 0).toNat ≠ 10) : wordLen l = l.length := by
  induction l with
  | nil => rfl
  | cons c r ih =>
    have h0 := hall 0 (by simp)
    unfold wordLen
    rw [if_neg (by simp at h0; omega), ih (fun j hj => by simpa using hall (j + 1) (by simp; omega))]
    rfl

set_option maxHeartbeats 8000000 in
set_option maxRecDepth 100000 in
theorem IndexAny_short (l : List UInt8) (w : World) (h8 : l.length ≤ 8) :
    Calls Tryd.prog 39 #[.string ⟨l.toArray⟩, .string ⟨#[32, 10]⟩] w fun e w' => e = .returned (.int .i64 (wordI l)) ∧ Below w.heap.size w w' := by
  have hsz := size_toArray l
  have RI := Lib.hid (rune_int l)
  obtain ⟨s, hs⟩ : ∃ s : ByteArray, s = ⟨l.toArray⟩ := ⟨_, rfl⟩
  rw [← hs] at hsz RI ⊢
  clear hs
  have cR := fun (r : Int) (h0 : 0 ≤ r) (h1 : r < 128) w => Tryd.strings_IndexRune_ascii ⟨#[32, 10]⟩ r w h0 h1
  have hc2 : (⟨#[32, 10]⟩ : ByteArray).size = 2 := rfl
  have hem : (⟨#[32, 10]⟩ : ByteArray).toList.isEmpty = false := by rw [show (⟨#[32, 10]⟩ : ByteArray) = ⟨[32, 10].toArray⟩ from rfl, empty_list]; rfl
  have cS := fun w => Tryd.strings_shouldUseASCIISet (l.length : Int) w
  have h8z : decide ((8 : Int) < (l.length : Int)) = false := decide_eq_false (by omega)
  rw [h8z] at cS
  have cB := fun (r : Int) (h0 : 128 ≤ r) (h1 : r ≤ 2147483647) w => IndexRune_blank r h0 h1 w
  have hib : ∀ x : UInt8, Lib.indexByte (⟨#[32, 10]⟩ : ByteArray).data.toList x = if x = 32 then 0 else if x = 10 then 1 else -1 := by
    intro x
    show Lib.indexByte [32, 10] x = _
    unfold Lib.indexByte
    by_cases h1 : x = 32
    · simp [h1]
    · by_cases h2 : x = 10
      · subst h2; decide
      · have a1 : ((32 : UInt8) == x) = false := by simp; exact fun h => h1 h.symm
        have a2 : ((10 : UInt8) == x) = false := by simp; exact fun h => h2 h.symm
        simp [Lib.indexByte, a1, a2, h1, h2]
  simp only [hib] at cR
  clear hib
  obtain ⟨q, hq⟩ : ∃ q : ByteArray, q = ⟨#[32, 10]⟩ := ⟨_, rfl⟩
  rw [← hq] at cR hc2 hem cB ⊢
  clear hq
  go_enter Tryd.func39, Tryd.ntmps39
  go_wp2_with fail
  refine (cS _).mono ?_
  rintro e w1 ⟨rfl, rfl⟩
  go_wp2_with fail
  go_loopw [] (fun wr => ∃ i : Nat, i ≤ l.length ∧ wr.heap[w1.heap.size]? = some (.stringIter s i) ∧ Below w1.heap.size w1 wr ∧ Hid (∀ j, j < i → (l.getD j 0).toNat ≠ 32 ∧ (l.getD j 0).toNat ≠ 10)) (fun wr => l.length - wr.iterPos w1.heap.size)
  case atStart => exact ⟨0, Nat.zero_le _, World.iter_heap w1 s 0, (Below.refl _ _).alloc (Nat.le_refl _) _, Lib.hid fun j h => absurd h (Nat.not_lt_zero _)⟩
  case round =>
    obtain ⟨i, hi, hit, hbr, HALL⟩ := hrel
    by_cases hlt : i < l.length
    · have hnx := fun ty => Lib.run_next_any_at (P := Tryd.prog) wr w1.heap.size s i ty hit (by omega)
      obtain ⟨r, k, hr, hk, hr0, hr1, hk1, hkl, hw⟩ := RI.out i hlt
      rw [← hr, ← hk] at hnx
      have HW := Lib.hid hw
      have HP := Lib.hid (show wr.iterPos w1.heap.size = i by simp [World.iterPos, hit])
      clear hr hk hw
      have hit2 := Lib.iterAt_heap wr w1.heap.size s i (i + k) hit
      have hbr2 := Lib.below_iterAt hbr (k := w1.heap.size) (Nat.le_refl _) s (i + k)
      have lt2 : w1.heap.size < (wr.iterAt w1.heap.size s (i + k)).heap.size := (Array.getElem?_eq_some_iff.1 hit2).1
      generalize wr.iterAt w1.heap.size s (i + k) = w3 at hnx hit2 hbr2 lt2
      clear hit hbr
      by_cases c1 : r < 128
      · have low : k = 1 ∧ r = ((l.getD i 0).toNat : Int) := by
          rcases HW.out with ⟨_, h1, h2⟩ | ⟨h, _, _⟩
          · exact ⟨h2, h1⟩
          · omega
        have LOW := Lib.hid low
        clear low
        have cR2 := fun w => cR r hr0 c1 w
        have e32 : r = 32 → r.toNat.toUInt8 = 32 := fun h => by rw [h]; rfl
        have e10 : r = 10 → r.toNat.toUInt8 = 10 := fun h => by rw [h]; rfl
        have f32 : r.toNat.toUInt8 = 32 → r = 32 := fun h => by
          have := congrArg UInt8.toNat h
          simp at this
          omega
        have f10 : r.toNat.toUInt8 = 10 → r = 10 := fun h => by
          have := congrArg UInt8.toNat h
          simp at this
          omega
        by_cases c2 : r = 32 ∨ r = 10
        · have hv : ∃ z : Int, 0 ≤ z ∧ (if r.toNat.toUInt8 = 32 then (0 : Int) else if r.toNat.toUInt8 = 10 then 1 else -1) = z := by
            rcases c2 with h | h
            · exact ⟨0, by omega, by rw [if_pos (e32 h)]⟩
            · exact ⟨1, by omega, by rw [if_neg (fun h2 => by have := f32 h2; omega), if_pos (e10 h)]⟩
          obtain ⟨z, hz0, hz⟩ := hv
          rw [hz] at cR2
          have ST := Lib.hid (show wordI l = (i : Int) by
            unfold wordI
            rw [word_stop l i hlt HALL.out (by have := LOW.out; omega), if_pos hlt])
          clear hz e32 e10 f32 f10 c2 cR cB
          go_wp2_with fail
          refine (cR2 _).mono ?_
          rintro e w4 ⟨rfl, rfl⟩
          go_wp2
          go_ret
          exact ⟨ret_int ST.out.symm, hbr2⟩
        · have hz : (if r.toNat.toUInt8 = 32 then (0 : Int) else if r.toNat.toUInt8 = 10 then 1 else -1) = -1 := by
            rw [if_neg (fun h2 => by have := f32 h2; omega), if_neg (fun h2 => by have := f10 h2; omega)]
          rw [hz] at cR2
          have NX : Hid (∀ j, j < i + k → (l.getD j 0).toNat ≠ 32 ∧ (l.getD j 0).toNat ≠ 10) := Lib.hid fun j hj => by
            by_cases h : j < i
            · exact HALL.out j h
            · have := LOW.out
              obtain rfl : j = i := by omega
              omega
          clear hz e32 e10 f32 f10 c2 cR cB
          go_wp2_with fail
          refine (cR2 _).mono ?_
          rintro e w4 ⟨rfl, rfl⟩
          go_wp2
          go_roundw
          case rel => exact ⟨i + k, hkl, hit2, hbr2, NX⟩
          case measure =>
            rw [HP.out, show World.iterPos _ w1.heap.size = i + k by simp [World.iterPos, hit2]]
            omega
      · have NX : Hid (∀ j, j < i + k → (l.getD j 0).toNat ≠ 32 ∧ (l.getD j 0).toNat ≠ 10) := Lib.hid fun j hj => by
          by_cases h : j < i
          · exact HALL.out j h
          · rcases HW.out with ⟨h1, _, _⟩ | ⟨_, _, h2⟩
            · omega
            · have := h2 j (by omega) hj; omega
        have cB2 := fun w => cB r (by omega) hr1 w
        clear cR cB
        go_wp2_with fail
        refine (cB2 _).mono ?_
        rintro e w4 ⟨rfl, b4⟩
        have hit4 : w4.heap[w1.heap.size]? = some (.stringIter s (i + k)) := (b4.block _ lt2).trans hit2
        have hbr4 := hbr2.trans (b4.mono hbr2.size)
        go_wp2
        go_roundw
        case rel => exact ⟨i + k, hkl, hit4, hbr4, NX⟩
        case measure =>
          rw [HP.out, show World.iterPos _ w1.heap.size = i + k by simp [World.iterPos, hit4]]
          omega
    · obtain rfl : i = l.length := by omega
      have hnx := fun ty => Lib.run_next_end_at (P := Tryd.prog) wr w1.heap.size s l.length ty hit (by omega)
      have ST := Lib.hid (show wordI l = -1 by
        unfold wordI
        rw [word_none l HALL.out, if_neg (by omega)])
      clear cR cB
      go_wp2
      go_ret
      exact ⟨ret_int ST.out.symm, hbr⟩
end Go.Proofs.YtboiclejhnbonaaDoor
