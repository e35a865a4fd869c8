/-
  The walk of HexaBack, over the contracts.
-/
import Derived.Test.YtgjfaiidnloicaaDoorAw
import Derived.Test.YtgjfaiidnloicaaDoorHm
import Derived.Test.YtgjfaiidnloicaaDoorHn
import Derived.Test.YtgjfaiidnloicaaDoorHelp
namespace Go.Proofs.YtgjfaiidnloicaaDoor.hexaBack
open Go.RowKit
set_option linter.unusedVariables false

theorem str_unhex (l : List UInt8) : (⟨(hexL l).toArray⟩ : ByteArray).data.toList = hexL l := rfl
/-- What Unhex answers to any text, and what Hex makes of it again. -/
def UB (l : List UInt8) (e : Ending) (w' : World) : Prop :=
  e = .returned (.tuple #[.slice none 0 0, .int .i64 4]) ∨ ∃ g c t, e = .returned (.tuple #[.slice g t.length c, .int .i64 0]) ∧ BAt w' g t ∧ hexL t = l ∧ t.length ≤ l.length
theorem Unhex_back (l : List UInt8) (hl : l.length ≤ 1000000) (w : World) :
    Calls Tryd.prog 10 #[.string ⟨l.toArray⟩] w fun e w' => UB l e w' ∧ Below w.heap.size w w' := by
  cases h : unhexL l with
  | none =>
    refine (Unhex_none ⟨l.toArray⟩ w (by rw [size_toArray]; omega) h).mono ?_
    rintro e w' ⟨rfl, hb⟩
    exact ⟨.inl rfl, hb⟩
  | some t =>
    refine (Unhex_some ⟨l.toArray⟩ t w (by rw [size_toArray]; omega) h).mono ?_
    rintro e w' ⟨g, c, rfl, hbat, _, _, hb⟩
    have := (unhex_spec _ _ _ (Nat.le_refl _) h).1
    exact ⟨.inr ⟨g, c, t, rfl, hbat, hex_unhex _ _ _ (Nat.le_refl _) h, by omega⟩, hb⟩
/-- What TakeNumber answers to any text, and what Number makes of it again. -/
def TB (l : List UInt8) (e : Ending) : Prop :=
  (∃ k : Int, e = .returned (.tuple #[.int .i64 0, .int .i64 k]) ∧ (k != 0) = true) ∨ ∃ v : Int, e = .returned (.tuple #[.int .i64 v, .int .i64 0]) ∧ Lib.itoa v = l ∧ -9223372036854775808 ≤ v ∧ v ≤ 9223372036854775807
theorem Take_back (l : List UInt8) (hl : l.length ≤ 1000000) (w : World) :
    Calls Tryd.prog 18 #[.string ⟨l.toArray⟩] w fun e w' => TB l e ∧ Below w.heap.size w w' := by
  refine (Take_all l hl w).mono ?_
  rintro e w' ⟨rfl, hb⟩
  refine ⟨?_, hb⟩
  by_cases h : l = []
  · left; exact ⟨3, by unfold tv; rw [if_pos h], by decide⟩
  · unfold tv; rw [if_neg h]
    cases ht : takeN l with
    | none => left; exact ⟨4, rfl, by decide⟩
    | some v =>
      obtain ⟨h1, h2, h3⟩ := itoa_take l v ht
      right; exact ⟨v, rfl, h1, h2, h3⟩

set_option maxHeartbeats 400000 in
theorem walk_long (a : Option Addr) (n c : Nat) (x : Int) (l2 : List UInt8) (hl2 : l2.length ≤ maxLen) (w : World) (tab : Tab w) (hm : n ≤ maxLen) (h : 500 < n ∨ 300 < l2.length) :
    Calls Tryd.prog 5 #[.slice a n c, .int .i64 x, .string ⟨l2.toArray⟩] w fun e w' => e = .returned (.bool true) ∧ Below w.heap.size w w' := by
  unfold maxLen at hl2 hm
  have T := Lib.hid tab; clear tab
  by_cases h1 : 500 < n
  · go_enter Tryd.func5, Tryd.ntmps5
    go_wp2_with fail
    refine (awake_any _ T.out).mono ?_
    rintro e w1 ⟨rfl, hb⟩
    go_wp2
    go_ret
    exact ⟨rfl, hb⟩
  have h2 : 300 < l2.length := by omega
  clear h
  go_enter Tryd.func5, Tryd.ntmps5
  go_wp2_with fail
  refine (awake_any _ T.out).mono ?_
  rintro e w1 ⟨rfl, hb⟩
  go_wp2
  go_ret
  exact ⟨rfl, hb⟩

theorem tv_itoa (x : Int) (h0 : -9223372036854775808 ≤ x) (h1 : x ≤ 9223372036854775807) : tv (Lib.itoa x) = (x, 0) := by
  obtain ⟨a, b, _⟩ := take_itoa x h0 h1
  unfold tv; rw [if_neg b, a]
set_option maxHeartbeats 1000000 in
theorem walk_short (w : World) (a : Option Addr) (n c : Nat) (l : List UInt8) (hb : BAt w a l) (hl : n = l.length) (x : Int) (x0 : -9223372036854775808 ≤ x) (x1 : x ≤ 9223372036854775807) (l2 : List UInt8) (tab : Tab w) (h1 : n ≤ 500) (h2 : l2.length ≤ 300) :
    Calls Tryd.prog 5 #[.slice a n c, .int .i64 x, .string ⟨l2.toArray⟩] w fun e w' => e = .returned (.bool true) ∧ Below w.heap.size w w' := by
  have T := Lib.hid tab; clear tab
  have C1 := Lib.hid (Hex_any a n c l w hb hl (by omega))
  have C2 := Lib.hid (fun w => Unhex_some ⟨(hexL l).toArray⟩ l w (by rw [size_toArray, hexL_length]; omega) (unhex_hex l))
  have C4 := Lib.hid (fun w => Take_all (Lib.itoa x) (by have := (take_itoa x x0 x1).2.2; omega) w)
  rw [tv_itoa x x0 x1] at C4
  have C6 := Lib.hid (fun g c' w h h2 => Bytes_same g a l.length n c' c l w h h2 rfl hl)
  have C7 := Lib.hid (fun w => Unhex_back l2 (by omega) w)
  have C8 := Lib.hid (fun w => Take_back l2 (by omega) w)
  have HB := Lib.hid hb; clear hb
  have HL := Lib.hid hl; clear hl
  go_enter Tryd.func5, Tryd.ntmps5
  go_wp2_with fail
  refine C1.out.mono ?_
  rintro e w1 ⟨rfl, b1⟩
  go_wp2_with fail
  refine (C2.out _).mono ?_
  rintro e w2 ⟨g, c', rfl, hg, _, _, b2⟩
  have b12 := b1.trans (b2.mono b1.size)
  have HG := Lib.hid hg; clear hg
  go_wp2_with fail
  refine (Number_any x x0 x1 _ (T.out.keep b12)).mono ?_
  rintro e w3 ⟨rfl, b3⟩
  have b13 := b12.trans (b3.mono b12.size)
  go_wp2_with fail
  refine (C4.out _).mono ?_
  rintro e w4 ⟨rfl, b4⟩
  have b14 := b13.trans (b4.mono b13.size)
  go_wp2_with fail
  refine (awake_any _ (T.out.keep b14)).mono ?_
  rintro e w5 ⟨rfl, b5⟩
  have b15 := b14.trans (b5.mono b14.size)
  have b25 := (b3.trans (b4.mono b3.size)).trans (b5.mono (Nat.le_trans b3.size b4.size))
  clear b1 b2 b3 b4 b5 b12 b13 b14
  go_wp2_with fail
  refine (C6.out _ _ _ (HG.out.keep b25) (HB.out.keep b15)).mono ?_
  rintro e w6 ⟨rfl, rfl⟩
  clear b25
  go_wp2_with fail
  refine (C7.out _).mono ?_
  rintro e w6 ⟨hu, b6⟩
  have b16 := b15.trans (b6.mono b15.size)
  clear b15 b6
  rcases hu with rfl | ⟨g2, c2, t, rfl, hg2, hx2, ht2⟩
  · go_wp2_with fail
    refine (C8.out _).mono ?_
    rintro e w7 ⟨ht, b7⟩
    have b17 := b16.trans (b7.mono b16.size)
    rcases ht with ⟨k, rfl, hk⟩ | ⟨v, rfl, hv, v0, v1⟩
    · go_wp2
      go_ret
      exact ⟨rfl, b17⟩
    · have C9 := Lib.hid (Number_any v v0 v1 _ (T.out.keep b17))
      rw [hv] at C9
      clear hv
      go_wp2_with fail
      refine C9.out.mono ?_
      rintro e w8 ⟨rfl, b8⟩
      have b18 := b17.trans (b8.mono b17.size)
      go_wp2
      go_ret
      exact ⟨rfl, b18⟩
  · have HX2 := Lib.hid hx2; clear hx2
    have HG2 := Lib.hid hg2; clear hg2
    go_wp2_with fail
    refine (C8.out _).mono ?_
    rintro e w7 ⟨ht, b7⟩
    have b17 := b16.trans (b7.mono b16.size)
    have C10 := Lib.hid (Hex_any g2 t.length c2 t w7 (HG2.out.keep b7) rfl (by omega))
    rw [HX2.out] at C10
    clear b7 b16
    rcases ht with ⟨k, rfl, hk⟩ | ⟨v, rfl, hv, v0, v1⟩
    · go_wp2_with fail
      refine C10.out.mono ?_
      rintro e w8 ⟨rfl, b8⟩
      have b18 := b17.trans (b8.mono b17.size)
      go_wp2
      go_ret
      exact ⟨rfl, b18⟩
    · have HV := Lib.hid hv; clear hv
      go_wp2_with fail
      refine C10.out.mono ?_
      rintro e w8 ⟨rfl, b8⟩
      have b18 := b17.trans (b8.mono b17.size)
      have C9 := Lib.hid (Number_any v v0 v1 _ (T.out.keep b18))
      rw [HV.out] at C9
      go_wp2_with fail
      refine C9.out.mono ?_
      rintro e w9 ⟨rfl, b9⟩
      have b19 := b18.trans (b9.mono b18.size)
      go_wp2
      go_ret
      exact ⟨rfl, b19⟩
theorem walk (w : World) (a : Option Addr) (n c : Nat) (l : List UInt8) (hb : BAt w a l) (hl : n = l.length) (_hn : a = none → n = 0 ∧ c = 0) (hc : n ≤ c ∧ c ≤ maxLen) (x : Int) (x0 : -9223372036854775808 ≤ x) (x1 : x ≤ 9223372036854775807) (l2 : List UInt8) (hl2 : l2.length ≤ maxLen) (tab : Tab w) :
    Calls Tryd.prog 5 #[.slice a n c, .int .i64 x, .string ⟨l2.toArray⟩] w fun e w' => e = .returned (.bool true) ∧ Below w.heap.size w w' := by
  by_cases h : 500 < n ∨ 300 < l2.length
  · exact walk_long a n c x l2 hl2 w tab (Nat.le_trans hc.1 hc.2) h
  · exact walk_short w a n c l hb hl x x0 x1 l2 tab (by omega) (by omega)
end Go.Proofs.YtgjfaiidnloicaaDoor.hexaBack
