/-
  Layer 3: Quote of the program.
-/
import Derived.Test.YtboiclejhnbonaaDoorQy
import Derived.Lib.RuneCountTail
namespace Go.Proofs.YtboiclejhnbonaaDoor
open Go.RowKit
set_option linter.unusedVariables false
set_option linter.unusedSimpArgs false

/-- What stands behind a place, decoded. -/
theorem decode_from (s : ByteArray) (i n : Nat) (hn : s.size = n) (h : i < n) (r : Int) (k : Nat) (hr : r = ((Utf8.decode s i).1 : Int)) (hk : k = (Utf8.decode s i).2) (w : World) (hT : Lib.Utf8Tabs 0 1 w) :
    Calls Tryd.prog 29 #[.string (s.extract i n)] w fun e w' => e = .returned (.tuple #[.int .i32 r, .int .i64 k]) ∧ Below w.heap.size w w' := by
  subst hn
  have e : Lib.decodeGo (s.extract i s.size) = Utf8.decode s i := by
    unfold Lib.decodeGo
    rw [if_neg (by rw [Lib.tail_size]; omega), Lib.tail_decode]
    rfl
  subst hr hk
  rw [← e]
  exact Tryd.utf8_DecodeRuneInString _ w hT

theorem body_next (l : List UInt8) (i : Nat) (h : i < l.length) : 34 :: bodyL (l.take (i + 1)) = (34 :: bodyL (l.take i)) ++ oneL (l.getD i 0) := by
  rw [body_snoc l i h]; rfl

set_option maxHeartbeats 16000000 in
set_option maxRecDepth 100000 in
theorem Quote_loop (l : List UInt8) (w : World) (hn : l.length ≤ 1099511627776) (hT : Lib.Utf8Tabs 0 1 w) (hpc : (plainL l && cleanL l) = false) :
    Calls Tryd.prog 15 #[.string ⟨l.toArray⟩] w fun e w' => e = .returned (.string ⟨(34 :: (bodyL l ++ [34])).toArray⟩) ∧ Below w.heap.size w w' := by
  have cB := fun w => bare_is l w
  rw [hpc] at cB
  have hsz := size_toArray l
  have bl := body_len l
  have RI := Lib.hid (rune_int l)
  obtain ⟨s, hs⟩ : ∃ s : ByteArray, s = ⟨l.toArray⟩ := ⟨_, rfl⟩
  have hget : ∀ i, i < l.length → ∀ h2 : i < s.size, s[i]'h2 = l.getD i 0 := by subst hs; exact fun i h h2 => getD_str l i h h2
  rw [← hs] at hsz cB RI ⊢
  have HGET := Lib.hid hget
  have HT := Lib.hid hT
  clear hs hget hpc hT
  go_enter Tryd.func15, Tryd.ntmps15
  go_wp2_with fail
  refine (cB _).mono ?_
  rintro e w1 ⟨rfl, hb1⟩
  have BN := Bu.new w1
  have hB1 := (Below.refl w1.heap.size w1).alloc (Nat.le_refl _) (.cells #[.pointer none, .slice none 0 0] 43)
  go_wp2_with fail
  refine (BN.byte hB1.size (by simp) 34 _ (by rfl)).mono ?_
  rintro e w2 ⟨rfl, i2, b2, _⟩
  have hb2 := hB1.trans b2
  clear BN hB1 b2
  have lt2 := i2.lt
  have it2 := World.iter_heap w2 s 0
  have i20 : Bu w1.heap.size w1.heap.size [34] (w2.iter s 0) := i2.alloc _
  have hb20 := hb2.alloc hb2.size (.stringIter s 0)
  have I2 := Lib.hid i20
  have B2 := Lib.hid hb20
  clear i2 hb2 i20 hb20
  go_wp2_with fail
  go_loopw [] (fun wr => ∃ i : Nat, i ≤ l.length ∧ wr.heap[w2.heap.size]? = some (.stringIter s i) ∧ Bu w1.heap.size w1.heap.size (34 :: bodyL (l.take i)) wr ∧ Below w1.heap.size w1 wr) (fun wr => l.length - wr.iterPos w2.heap.size)
  case atStart => exact ⟨0, Nat.zero_le _, it2, I2.out, B2.out⟩
  case round =>
    clear I2 B2 it2
    obtain ⟨i, hi, hit, hbu, hbr⟩ := hrel
    have bi := body_len (l.take i)
    rw [List.length_take] at bi
    by_cases hlt : i < l.length
    · have hnx := fun ty => Lib.run_next_any_at (P := Tryd.prog) wr w2.heap.size s i ty hit (by omega)
      obtain ⟨r, k, hr, hk, hr0, hr1, hk1, hkl, hw⟩ := RI.out i hlt
      rw [← hr, ← hk] at hnx
      have HW := Lib.hid hw
      have HR := Lib.hid hr
      have HK := Lib.hid hk
      clear hr hk hw
      have HP := Lib.hid (show wr.iterPos w2.heap.size = i by simp [World.iterPos, hit])
      have hit2 := Lib.iterAt_heap wr w2.heap.size s i (i + k) hit
      have hbu2 : Bu w1.heap.size w1.heap.size _ _ := hbu.iterAt hit (i + k)
      have hbr2 := Lib.below_iterAt hbr (k := w2.heap.size) (Nat.le_of_lt lt2) s (i + k)
      generalize wr.iterAt w2.heap.size s (i + k) = w3 at hnx hit2 hbu2 hbr2
      clear hit hbu hbr
      by_cases c1 : r < 128
      · have low : k = 1 ∧ r = ((l.getD i 0).toNat : Int) := by
          rcases HW.out with ⟨_, h1, h2⟩ | ⟨h, _, _⟩
          · exact ⟨h2, h1⟩
          · omega
        obtain ⟨k1, hrl⟩ := low
        obtain ⟨x, hxe⟩ : ∃ x : UInt8, x = l.getD i 0 := ⟨_, rfl⟩
        rw [← hxe] at hrl
        have BX := Lib.hid (body_next l i hlt)
        rw [← hxe] at BX
        have K1 := Lib.hid k1
        clear hxe k1
        go_wp2_with fail
        refine (writeForm_is _ _ _ x _ hbu2 hbr2.size (by simp; omega)).mono ?_
        rintro e w4 ⟨rfl, i4, b4, o4⟩
        have hit4 := o4.iter hit2 (by omega)
        have hbr4 := hbr2.trans b4
        clear b4 o4
        go_wp2
        go_roundw
        case rel => exact ⟨i + 1, by omega, by rw [hit4, K1.out], by rw [BX.out]; exact i4, hbr4⟩
        case measure =>
          rw [HP.out, show World.iterPos _ w2.heap.size = i + k by simp [World.iterPos, hit4]]
          omega
      · have wide : ∀ j, i ≤ j → j < i + k → 128 ≤ (l.getD j 0).toNat := by
          rcases HW.out with ⟨h, _, _⟩ | ⟨_, _, h⟩
          · omega
          · exact h
        have k4 : k ≤ 4 := by
          rcases HW.out with ⟨h, _, _⟩ | ⟨_, h, _⟩
          · omega
          · exact h
        have HT3 := Lib.hid (Utf8Tabs_below HT.out (hb1.trans (hbr2.mono hb1.size)))
        have LT3 := Lib.hid (show w2.heap.size < w3.heap.size from (Array.getElem?_eq_some_iff.1 hit2).1)
        have BI := Lib.hid bi
        have BL := Lib.hid bl
        have K4 := Lib.hid k4
        have hi2 : (i : Int) ≤ (s.size : Int) := by omega
        have hi3 : (i : Int) ≤ (l.length : Int) := by omega
        clear wide bi bl k4
        go_wp2_with fail
        refine (decode_from s i l.length hsz hlt r k HR.out HK.out _ HT3.out).mono ?_
        rintro e w4 ⟨rfl, b4⟩
        have hbu4 := hbu2.below b4
        have hit4 : w4.heap[w2.heap.size]? = some (.stringIter s (i + k)) := (b4.block _ LT3.out).trans hit2
        have hbr4 := hbr2.trans (b4.mono hbr2.size)
        clear hbu2 hit2 hbr2 b4 HT3 LT3
        go_wp2_with fail
        go_loopw [32] (fun vj wz => ∃ j : Nat, j ≤ k ∧ vj = .int .i64 j ∧ wz.heap[w2.heap.size]? = some (.stringIter s (i + k)) ∧ Bu w1.heap.size w1.heap.size (34 :: bodyL (l.take (i + j))) wz ∧ Below w1.heap.size w1 wz) (fun vj _ => k - (intOf vj).toNat)
        case atStart => exact ⟨0, Nat.zero_le _, rfl, hit4, hbu4, hbr4⟩
        case round =>
          clear hit4 hbu4 hbr4
          obtain ⟨j, hj, rfl, hitj, hbuj, hbrj⟩ := hrel
          by_cases hjk : j < k
          · have hx := HGET.out (i + j) (by omega) (by omega)
            obtain ⟨x, hxe⟩ : ∃ x : UInt8, x = l.getD (i + j) 0 := ⟨_, rfl⟩
            rw [← hxe] at hx
            have BX := Lib.hid (body_next l (i + j) (by omega))
            rw [← hxe] at BX
            have BJ := Lib.hid (body_len (l.take (i + j)))
            have hij : (i : Int) + (j : Int) < (s.size : Int) := by omega
            have hij2 : (i : Int) + (j : Int) < (l.length : Int) := by omega
            clear hxe
            go_wp2_with fail
            refine (writeForm_is _ _ _ x _ hbuj hbrj.size (by have h1 := BJ.out; have h2 := BL.out; rw [List.length_take] at h1; simp; omega)).mono ?_
            rintro e w5 ⟨rfl, i5, b5, o5⟩
            have hit5 := o5.iter hitj (by omega)
            have hbr5 := hbrj.trans b5
            clear b5 o5
            go_wp2
            go_roundw
            case rel => exact ⟨j + 1, by omega, by go_num, hit5, by rw [← Nat.add_assoc, BX.out]; exact i5, hbr5⟩
            case measure => simp [intOf]; omega
          · obtain rfl : j = k := by omega
            go_wp2
            go_roundw
            case rel => exact ⟨i + j, by omega, hitj, hbuj, hbrj⟩
            case measure =>
              rw [HP.out, show World.iterPos _ w2.heap.size = i + j by simp [World.iterPos, hitj]]
              omega
    · obtain rfl : i = l.length := by omega
      have hnx := fun ty => Lib.run_next_end_at (P := Tryd.prog) wr w2.heap.size s l.length ty hit (by omega)
      rw [List.take_length] at hbu
      go_wp2_with fail
      refine (hbu.byte hbr.size (by simp; omega) 34 _ (by rfl)).mono ?_
      rintro e w3 ⟨rfl, i3, b3, _⟩
      have hbr3 := hbr.trans b3
      go_wp2_with fail
      refine (i3.text hbr3.size).mono ?_
      rintro e w4 ⟨rfl, b4⟩
      go_wp2
      go_ret
      exact ⟨rfl, hb1.trans ((hbr3.trans b4).mono hb1.size)⟩
theorem Quote_is (l : List UInt8) (w : World) (hn : l.length ≤ 1099511627776) (hT : Lib.Utf8Tabs 0 1 w) :
    Calls Tryd.prog 15 #[.string ⟨l.toArray⟩] w fun e w' => e = .returned (.string ⟨(quoteL l).toArray⟩) ∧ Below w.heap.size w w' := by
  unfold quoteL
  cases hpc : (plainL l && cleanL l) with
  | false =>
    rw [if_neg (by decide)]
    exact Quote_loop l w hn hT hpc
  | true =>
    rw [if_pos rfl]
    have cB := fun w => bare_is l w
    rw [hpc] at cB
    go_enter Tryd.func15, Tryd.ntmps15
    go_wp2_with fail
    refine (cB _).mono ?_
    rintro e w1 ⟨rfl, hb1⟩
    go_wp2
    go_ret
    exact ⟨rfl, hb1⟩
end Go.Proofs.YtboiclejhnbonaaDoor
