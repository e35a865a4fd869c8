/-
  Layer 11, the program: the runes of a name, one beside the other.
-/
import Derived.Test.YtbnhchffdccjnaaDoorVe
namespace Go.Proofs.YtbnhchffdccjnaaDoor
open Go.RowKit
set_option linter.unusedVariables false
set_option linter.unusedSimpArgs false
set_option maxRecDepth 20000

/-- How far the runes are right, and which was the last one. -/
structure Runs (l : List UInt8) (i : Nat) (last : Int) : Prop where
  ok : ∀ j, j < i → okR (l.getD j 0) = true
  two : ∀ j, j + 1 < i → pairB (l.getD j 0) (l.getD (j + 1) 0) = false
  last : (i = 0 ∧ last = 0) ∨ (0 < i ∧ ((last < 128 ∧ last = ((l.getD (i - 1) 0).toNat : Int)) ∨ (128 ≤ last ∧ 128 ≤ (l.getD (i - 1) 0).toNat)))
theorem Runs.start (l : List UInt8) : Runs l 0 0 := ⟨fun j h => absurd h (Nat.not_lt_zero _), fun j h => absurd h (Nat.not_lt_zero _), .inl ⟨rfl, rfl⟩⟩
theorem pair_false (c d : UInt8) (h1 : ¬ (c.toNat = 46 ∧ d.toNat = 46)) (h2 : ¬ (c.toNat = 64 ∧ d.toNat = 123)) : pairB c d = false := by
  unfold pairB
  rw [Bool.or_eq_false_iff, Bool.and_eq_false_iff, Bool.and_eq_false_iff, beq_eq_false_iff_ne, beq_eq_false_iff_ne, beq_eq_false_iff_ne, beq_eq_false_iff_ne]
  omega
theorem okR_high (c : UInt8) (h : 128 ≤ c.toNat) : okR c = true := by
  rw [okR_mid c (by omega) (by omega), ← Bool.not_eq_false', Bool.not_not, ← Bool.not_eq_true, List.contains_iff_mem]
  have : ∀ d ∈ signsL, d.toNat < 128 := by decide
  intro hm
  have := this c hm
  omega
/-- One low byte more. -/
theorem Runs.low {l : List UInt8} {i : Nat} {last : Int} (h : Runs l i last) (hi : i < l.length) {r : Int} (hr : r = ((l.getD i 0).toNat : Int)) (hlt : r < 128) (hok : okR (l.getD i 0) = true)
    (h1 : ¬ (last = 46 ∧ r = 46)) (h2 : ¬ (last = 64 ∧ r = 123)) : Runs l (i + 1) r where
  ok := fun j hj => by
    by_cases e : j < i
    · exact h.ok j e
    · obtain rfl : j = i := by omega
      exact hok
  two := fun j hj => by
    by_cases e : j + 1 < i
    · exact h.two j e
    · have e2 : j + 1 = i := by omega
      have hL := h.last
      rw [show i - 1 = j by omega] at hL
      rw [e2]
      refine pair_false _ _ ?_ ?_ <;> omega
  last := .inr ⟨by omega, .inl ⟨hlt, hr⟩⟩
/-- One high rune more. -/
theorem Runs.high {l : List UInt8} {i k : Nat} {last : Int} (h : Runs l i last) {r : Int} (hr : 128 ≤ r) (hk : 1 ≤ k) (hj : ∀ j, i ≤ j → j < i + k → 128 ≤ (l.getD j 0).toNat) : Runs l (i + k) r where
  ok := fun j h1 => by
    by_cases e : j < i
    · exact h.ok j e
    · exact okR_high _ (hj j (by omega) h1)
  two := fun j h1 => by
    by_cases e : j + 1 < i
    · exact h.two j e
    · have := hj (j + 1) (by omega) h1
      refine pair_false _ _ ?_ ?_ <;> omega
  last := .inr ⟨by omega, .inr ⟨hr, hj _ (by omega) (by omega)⟩⟩
theorem Runs.bad {l : List UInt8} {i : Nat} {last : Int} (h : Runs l i last) (hi : i < l.length) {r : Int} (hr : r = ((l.getD i 0).toNat : Int)) (hb : (last = 46 ∧ r = 46) ∨ (last = 64 ∧ r = 123)) : (l.all okR && pairsL l) = false := by
  have : pairsL l = false := by
    rw [← Bool.not_eq_true, pairs_iff]
    intro h2
    have hL := h.last
    have := h2 (i - 1) (by omega)
    rw [show i - 1 + 1 = i by omega] at this
    have key : pairB (l.getD (i - 1) 0) (l.getD i 0) = true := by
      unfold pairB
      rw [Bool.or_eq_true, Bool.and_eq_true, Bool.and_eq_true, beq_iff_eq, beq_iff_eq, beq_iff_eq, beq_iff_eq]
      omega
    rw [key] at this
    cases this
  rw [this, Bool.and_false]
theorem bad_byte {l : List UInt8} {i : Nat} (hi : i < l.length) (h : okR (l.getD i 0) = false) : (l.all okR && pairsL l) = false := by
  have : l.all okR = false := by
    rw [← Bool.not_eq_true, okR_at]
    intro h2
    have := h2 i hi
    rw [h] at this
    cases this
  rw [this, Bool.false_and]
theorem Runs.fin {l : List UInt8} {last : Int} (h : Runs l l.length last) : (l.all okR && pairsL l) = true := by
  rw [(okR_at l).2 h.ok, (pairs_iff l).2 h.two]; rfl

set_option maxHeartbeats 16000000 in
set_option maxRecDepth 100000 in
theorem rightRunes_is (l : List UInt8) (hl : l.length ≤ 1000000) (w : World) :
    Calls Tryd.prog 17 #[.string ⟨l.toArray⟩] w fun e w' => e = .returned (.bool (l.all okR && pairsL l)) ∧ Below w.heap.size w w' := by
  have hsz := size_toArray l
  have RI := Lib.hid (rune_int l)
  obtain ⟨P, hP⟩ : ∃ P, (l.all okR && pairsL l) = P := ⟨_, rfl⟩
  have HP := Lib.hid hP
  rw [hP]
  obtain ⟨s, hs⟩ : ∃ s : ByteArray, s = ⟨l.toArray⟩ := ⟨_, rfl⟩
  rw [← hs] at hsz RI ⊢
  clear hs hP
  have cL := fun (r : Int) (h0 : 0 ≤ r) (h1 : r < 128) w => Tryd.strings_ContainsRune_ascii ⟨#[126, 94, 58, 63, 42, 91, 92]⟩ r w h0 h1
  have cH := fun (r : Int) (h0 : 128 ≤ r) (h1 : r ≤ 2147483647) w => ContainsRune_high r h0 h1 w
  have hib : ∀ r : Int, decide (0 ≤ Lib.indexByte (⟨#[126, 94, 58, 63, 42, 91, 92]⟩ : ByteArray).data.toList r.toNat.toUInt8) = signsL.contains r.toNat.toUInt8 := fun r => (Lib.contains_iff_indexByte signsL r.toNat.toUInt8).symm
  simp only [hib] at cL
  clear hib
  obtain ⟨q, hq⟩ : ∃ q : ByteArray, q = ⟨#[126, 94, 58, 63, 42, 91, 92]⟩ := ⟨_, rfl⟩
  have CL := Lib.hid cL
  have CH := Lib.hid cH
  rw [← hq] at CL CH
  clear cL cH
  go_enter Tryd.func17, Tryd.ntmps17
  rw [← hq]
  clear hq
  go_wp2_with fail
  go_loopw [3] (fun lv wr => ∃ (i : Nat) (last : Int), i ≤ l.length ∧ lv = .int .i32 last ∧ wr.heap[w.heap.size]? = some (.stringIter s i) ∧ Below w.heap.size w wr ∧ Runs l i last) (fun _ wr => l.length - wr.iterPos w.heap.size)
  case atStart => exact ⟨0, 0, Nat.zero_le _, rfl, World.iter_heap w s 0, (Below.refl _ _).alloc (Nat.le_refl _) _, Runs.start l⟩
  case round =>
    obtain ⟨i, last, hi, rfl, hit, hbr, hruns⟩ := hrel
    have HR := Lib.hid hruns
    clear hruns
    by_cases hlt : i < l.length
    · have hnx := fun ty => Lib.run_next_any_at (P := Tryd.prog) wr w.heap.size s i ty hit (by omega)
      obtain ⟨r, k, hr, hk, hr0, hr1, hk1, hkl, hw⟩ := RI.out i hlt
      rw [← hr, ← hk] at hnx
      have HW := Lib.hid hw
      have HPOS := Lib.hid (show wr.iterPos w.heap.size = i by simp [World.iterPos, hit])
      clear hr hk hw
      have hit2 := Lib.iterAt_heap wr w.heap.size s i (i + k) hit
      have hbr2 := Lib.below_iterAt hbr (k := w.heap.size) (Nat.le_refl _) s (i + k)
      have lt2 : w.heap.size < (wr.iterAt w.heap.size s (i + k)).heap.size := (Array.getElem?_eq_some_iff.1 hit2).1
      generalize wr.iterAt w.heap.size s (i + k) = w3 at hnx hit2 hbr2 lt2
      clear hit hbr
      have HIT2 := Lib.hid hit2
      have HBR2 := Lib.hid hbr2
      clear hit2 hbr2
      by_cases c1 : r < 128
      · have low : k = 1 ∧ r = ((l.getD i 0).toNat : Int) := by
          rcases HW.out with ⟨_, h1, h2⟩ | ⟨h, _, _⟩
          · exact ⟨h2, h1⟩
          · omega
        obtain ⟨rfl, lr⟩ := low
        have BAD := Lib.hid (fun h => (HP.out.symm.trans (bad_byte hlt h)))
        have PAIR := Lib.hid (fun h => (HP.out.symm.trans (HR.out.bad hlt lr h)))
        have LOW := Lib.hid (fun a b c => HR.out.low hlt lr c1 a b c)
        have OKL := Lib.hid (okR_low (l.getD i 0))
        have OKD := Lib.hid (okR_del (l.getD i 0))
        have OKM := Lib.hid (okR_mid (l.getD i 0))
        obtain ⟨c, hc⟩ : ∃ c, l.getD i 0 = c := ⟨_, rfl⟩
        rw [hc] at lr BAD LOW OKL OKD OKM
        have LR := Lib.hid lr
        have cR2 := fun w => CL.out r hr0 c1 w
        have hcc : r.toNat.toUInt8 = c := by rw [lr]; simp
        rw [hcc] at cR2
        clear hc hcc lr
        by_cases h32 : r ≤ 32
        · have R : Hid (P = false) := Lib.hid (BAD.out (OKL.out (by have := LR.out; omega)))
          clear cR2
          go_wp2
          go_ret
          exact ⟨ret_bool R.out.symm, HBR2.out⟩
        by_cases h127 : r = 127
        · have R : Hid (P = false) := Lib.hid (BAD.out (OKD.out (by have := LR.out; omega)))
          subst h127
          clear cR2
          go_wp2
          go_ret
          exact ⟨ret_bool R.out.symm, HBR2.out⟩
        have h127z : (r == 127) = false := by simp; omega
        have OM := Lib.hid (OKM.out (by have := LR.out; omega) (by have := LR.out; omega))
        obtain ⟨sb, hsb⟩ : ∃ sb, signsL.contains c = sb := ⟨_, rfl⟩
        rw [hsb] at cR2 OM
        clear hsb h127
        cases sb with
        | true =>
          have R : Hid (P = false) := Lib.hid (BAD.out (by rw [OM.out]; rfl))
          go_wp2_with fail
          refine (cR2 _).mono ?_
          rintro e w4 ⟨rfl, rfl⟩
          go_wp2
          go_ret
          exact ⟨ret_bool R.out.symm, HBR2.out⟩
        | false =>
          have OK := Lib.hid (show okR c = true by rw [OM.out]; rfl)
          by_cases hA : last = 46
          · subst hA
            by_cases hB : r = 46
            · subst hB
              have R : Hid (P = false) := Lib.hid (PAIR.out (.inl ⟨rfl, rfl⟩))
              go_wp2_with fail
              refine (cR2 _).mono ?_
              rintro e w4 ⟨rfl, rfl⟩
              go_wp2
              go_ret
              exact ⟨ret_bool R.out.symm, HBR2.out⟩
            · have hBz : (r == 46) = false := by simp; omega
              have NX := Lib.hid (LOW.out OK.out (by omega) (by omega))
              go_wp2_with fail
              refine (cR2 _).mono ?_
              rintro e w4 ⟨rfl, rfl⟩
              go_wp2
              go_roundw
              case rel => exact ⟨i + 1, r, hkl, rfl, HIT2.out, HBR2.out, NX.out⟩
              case measure =>
                rw [HPOS.out, show World.iterPos _ w.heap.size = i + 1 by simp [World.iterPos, HIT2.out]]
                omega
          have hAz : (last == 46) = false := by simp; omega
          by_cases hB : last = 64
          · subst hB
            by_cases hC : r = 123
            · subst hC
              have R : Hid (P = false) := Lib.hid (PAIR.out (.inr ⟨rfl, rfl⟩))
              go_wp2_with fail
              refine (cR2 _).mono ?_
              rintro e w4 ⟨rfl, rfl⟩
              go_wp2
              go_ret
              exact ⟨ret_bool R.out.symm, HBR2.out⟩
            · have hCz : (r == 123) = false := by simp; omega
              have NX := Lib.hid (LOW.out OK.out (by omega) (by omega))
              go_wp2_with fail
              refine (cR2 _).mono ?_
              rintro e w4 ⟨rfl, rfl⟩
              go_wp2
              go_roundw
              case rel => exact ⟨i + 1, r, hkl, rfl, HIT2.out, HBR2.out, NX.out⟩
              case measure =>
                rw [HPOS.out, show World.iterPos _ w.heap.size = i + 1 by simp [World.iterPos, HIT2.out]]
                omega
          have hBz : (last == 64) = false := by simp; omega
          have NX := Lib.hid (LOW.out OK.out (by omega) (by omega))
          clear hA hB
          go_wp2_with fail
          refine (cR2 _).mono ?_
          rintro e w4 ⟨rfl, rfl⟩
          go_wp2
          go_roundw
          case rel => exact ⟨i + 1, r, hkl, rfl, HIT2.out, HBR2.out, NX.out⟩
          case measure =>
            rw [HPOS.out, show World.iterPos _ w.heap.size = i + 1 by simp [World.iterPos, HIT2.out]]
            omega
      · have NX := Lib.hid (HR.out.high (r := r) (k := k) (by omega) hk1 (by
          rcases HW.out with ⟨h, _, _⟩ | ⟨_, _, h⟩
          · omega
          · exact h))
        have cR2 := fun w => CH.out r (by omega) hr1 w
        have z1 : ¬ r ≤ 32 := by omega
        have z2 : (r == 127) = false := by simp; omega
        have z3 : (r == 46) = false := by simp; omega
        have z4 : (r == 123) = false := by simp; omega
        obtain ⟨p1, hp1⟩ : ∃ p, (last == 46) = p := ⟨_, rfl⟩
        obtain ⟨p2, hp2⟩ : ∃ p, (last == 64) = p := ⟨_, rfl⟩
        have h12 : ¬ (p1 = true ∧ p2 = true) := by
          rintro ⟨h1, h2⟩
          rw [h1] at hp1
          rw [h2] at hp2
          have := eq_of_beq hp1
          have := eq_of_beq hp2
          omega
        cases p1 <;> cases p2
        · clear h12
          go_wp2_with fail
          refine (cR2 _).mono ?_
          rintro e w4 ⟨rfl, b4⟩
          have HIT4 := Lib.hid ((b4.block _ lt2).trans HIT2.out)
          have HB4 := Lib.hid (HBR2.out.trans (b4.mono HBR2.out.size))
          go_wp2
          go_roundw
          case rel => exact ⟨i + k, r, hkl, rfl, HIT4.out, HB4.out, NX.out⟩
          case measure =>
            rw [HPOS.out, show World.iterPos _ w.heap.size = i + k by simp [World.iterPos, HIT4.out]]
            omega
        · clear h12
          go_wp2_with fail
          refine (cR2 _).mono ?_
          rintro e w4 ⟨rfl, b4⟩
          have HIT4 := Lib.hid ((b4.block _ lt2).trans HIT2.out)
          have HB4 := Lib.hid (HBR2.out.trans (b4.mono HBR2.out.size))
          go_wp2
          go_roundw
          case rel => exact ⟨i + k, r, hkl, rfl, HIT4.out, HB4.out, NX.out⟩
          case measure =>
            rw [HPOS.out, show World.iterPos _ w.heap.size = i + k by simp [World.iterPos, HIT4.out]]
            omega
        · clear h12
          go_wp2_with fail
          refine (cR2 _).mono ?_
          rintro e w4 ⟨rfl, b4⟩
          have HIT4 := Lib.hid ((b4.block _ lt2).trans HIT2.out)
          have HB4 := Lib.hid (HBR2.out.trans (b4.mono HBR2.out.size))
          go_wp2
          go_roundw
          case rel => exact ⟨i + k, r, hkl, rfl, HIT4.out, HB4.out, NX.out⟩
          case measure =>
            rw [HPOS.out, show World.iterPos _ w.heap.size = i + k by simp [World.iterPos, HIT4.out]]
            omega
        · exact absurd ⟨rfl, rfl⟩ h12
    · obtain rfl : i = l.length := by omega
      have hnx := fun ty => Lib.run_next_end_at (P := Tryd.prog) wr w.heap.size s l.length ty hit (by omega)
      have R : Hid (P = true) := Lib.hid (HP.out.symm.trans HR.out.fin)
      go_wp2
      go_ret
      exact ⟨ret_bool R.out.symm, hbr⟩
end Go.Proofs.YtbnhchffdccjnaaDoor
