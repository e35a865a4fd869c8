/-
  Layer 1: Unhex of the reference.
-/
import Derived.Test.YtgjfaiidnloicaaDoorHf
import Derived.Deep.QuietTactic
import Derived.BigQuiet
namespace Go.Proofs.YtgjfaiidnloicaaDoor
open Go.RowKit
set_option linter.unusedVariables false

theorem own_block {w : World} {base : Nat} {e : TypeId} {v : Value} {n : Nat} {xs : List Value} (h : w.ownsRow base e 1 v n xs) (k : Nat) (hk : v.ownBlock = some k) : base ≤ k := by
  rcases h.2 with ⟨rfl, _⟩ | ⟨g, cap, cur, rfl, hb, _⟩
  · cases hk
  · cases hk; exact hb
theorem unhex_two (l : List UInt8) (i : Nat) (hi : i + 1 < l.length) (acc : List UInt8) (hacc : unhexL l = (unhexL (l.drop i)).map (acc ++ ·)) (ha : 0 ≤ dg (l.getD i 0)) (hb : 0 ≤ dg (l.getD (i + 1) 0)) :
    unhexL l = (unhexL (l.drop (i + 2))).map ((acc ++ [UInt8.ofNat (16 * dg (l.getD i 0) + dg (l.getD (i + 1) 0)).toNat]) ++ ·) := by
  have e : l.drop i = l.getD i 0 :: l.getD (i + 1) 0 :: l.drop (i + 2) := by
    rw [List.drop_eq_getElem_cons (by omega), List.drop_eq_getElem_cons (show i + 1 < l.length by omega), List.getD_eq_getElem?_getD, List.getElem?_eq_getElem (by omega), List.getD_eq_getElem?_getD, List.getElem?_eq_getElem (by omega)]
    rfl
  rw [hacc, e]
  simp only [unhexL]
  rw [if_pos ⟨ha, hb⟩]
  cases unhexL (l.drop (i + 2)) <;> simp

/-- What the reference's Unhex of an even text leaves. -/
def RPost (s : ByteArray) (w : World) (e : Ending) (w' : World) : Prop :=
  Below w.heap.size w w' ∧ ((e = .returned (.tuple #[.slice none 0 0, .int .i64 4]) ∧ unhexL s.data.toList = none) ∨
    ∃ t v, unhexL s.data.toList = some t ∧ e = .returned (.tuple #[v, .int .i64 0]) ∧ w'.ownsRow w.heap.size 5 1 v t.length (Lib.byteCells t))

set_option maxHeartbeats 1000000 in
theorem rUnhex_core (s : ByteArray) (w : World) (hs : s.size ≤ 1099511627776) (he : s.size % 2 = 0) :
    Calls Tryd.prog 11 #[.string s] w fun e w' => RPost s w e w' := by
  obtain ⟨i0, hi, hz0, hz1, hz2⟩ := info_parts info5
  have hev : ((s.size : Int) % 2 != 0) = false := by simp; omega
  go_enter Tryd.func11, Tryd.ntmps11
  go_wp2_with fail
  go_loopw [4, 5] (fun v i wr => ∃ (k : Nat) (acc : List UInt8), k ≤ s.size ∧ k % 2 = 0 ∧ i = .int .i64 k ∧ wr.ownsRow w.heap.size 5 1 v acc.length (Lib.byteCells acc) ∧ acc.length ≤ k ∧
      unhexL s.data.toList = (unhexL (s.data.toList.drop k)).map (acc ++ ·) ∧ Below w.heap.size w wr) (fun _ i _ => s.size - (intOf i).toNat)
  case atStart => exact ⟨0, [], Nat.zero_le _, rfl, rfl, World.ownsRow_nil _ _ _ _, Nat.zero_le _, by simp, Below.refl _ _⟩
  case round =>
    obtain ⟨k, acc, hk, hk2, rfl, hown, hal, hacc, hbr⟩ := hrel
    have HK2 := Lib.hid hk2; clear hk2
    have HA := Lib.hid hacc; clear hacc
    have hl := size_list s
    have HLL := Lib.hid hl; clear hl
    by_cases hlt : k < s.size
    · have hlt2 : k + 1 < s.size := by have := HK2.out; omega
      have hlt3 : (k : Int) + 1 < s.size := by omega
      have h03 : (0 : Int) ≤ (k : Int) + 1 := by omega
      have ht3 : ((k : Int) + 1).toNat = k + 1 := by omega
      have q3 := IntWalk.i64_in ((k : Int) + 1) (by omega)
      have e1 : dg (s.data.toList.getD k 0) = dig16 ((s[k]'hlt).toNat : Int) := by rw [getD_at s k hlt]; rfl
      have e2 : dg (s.data.toList.getD (k + 1) 0) = dig16 ((s[k + 1]'hlt2).toNat : Int) := by rw [getD_at s (k + 1) hlt2]; rfl
      have E1 := Lib.hid e1; clear e1
      have E2 := Lib.hid e2; clear e2
      go_wp2_with fail
      go_quiet ((go_at_call 25; exact Calls.quiet_of_same ((rdigit _ _).mono fun _ _ h => ⟨h.1, h.2.symm⟩)))
      have g1 := dig16_lt ((s[k]'hlt).toNat : Int)
      have g2 := dig16_lt ((s[k + 1]'hlt2).toNat : Int)
      have g3 := dig16_ge ((s[k]'hlt).toNat : Int)
      have g4 := dig16_ge ((s[k + 1]'hlt2).toNat : Int)
      generalize dig16 ((s[k]'hlt).toNat : Int) = d1 at *
      generalize dig16 ((s[k + 1]'hlt2).toNat : Int) = d2 at *
      have hbr2 := below_drewN hbr nq
      have hown2 : (wr.drewN nq).ownsRow w.heap.size 5 1 _ acc.length (Lib.byteCells acc) := hown
      generalize wr.drewN nq = w2 at *
      clear hbr hown
      by_cases h1 : d1 < 0
      · go_wp2
        go_ret2
        exact ⟨hbr2, .inl ⟨rfl, unhex_bad _ k (by rw [HLL.out]; omega) (by rw [E1.out]; omega)⟩⟩
      · by_cases h2 : d2 < 0
        · go_wp2
          go_ret2
          exact ⟨hbr2, .inl ⟨rfl, unhex_bad _ (k + 1) (by rw [HLL.out]; omega) (by rw [E2.out]; omega)⟩⟩
        · go_wp2_with (at_builtin; refine wpList_append_own _ rfl _ _ 22 rfl w.heap.size 5 i0 (.int .u8 0) 1 1 Tryd.underlying22 hi hz0 hz1 hz2 rfl (by decide) _ _ _ rfl (hown2.alloc _) ⟨w2.heap.size, 0, none⟩ 1 1 [.int .u8 (16 * d1 + d2)] rfl rfl ?c1 ?c2 ?c3 ?c4 ?c5 ?_)
          case c2 => first | rfl | (intro u hu; simp at hu; subst hu; rfl)
          case c3 => unfold maxLen; omega
          case c4 => omega
          case c5 => have := hbr2.size; simp; omega
          intro v' w3 hown3 hgrow3 _
          have hbr3 : Below w.heap.size w w3 := (hbr2.alloc hbr2.size _).grown hgrow3 (by have := hbr2.size; simp; omega) (fun k hk => own_block hown2 k hk)
          have h16 : Lib.byteCells (acc ++ [UInt8.ofNat (16 * d1 + d2).toNat]) = Lib.byteCells acc ++ [.int .u8 (16 * d1 + d2)] := by
            rw [Lib.byteCells_append]
            simp [Lib.byteCells]
            omega
          have HO3 : Hid (w3.ownsRow w.heap.size 5 1 v' (acc ++ [UInt8.ofNat (16 * d1 + d2).toNat]).length (Lib.byteCells (acc ++ [UInt8.ofNat (16 * d1 + d2).toNat]))) := Lib.hid (by rw [h16, List.length_append]; exact hown3)
          clear hown3 hgrow3 hown2 hbr2 h16
          go_wp2
          go_roundw
          case rel =>
            refine ⟨k + 2, _, by omega, by have := HK2.out; omega, by go_num, HO3.out, by simp; omega, ?_, hbr3⟩
            have := unhex_two s.data.toList k (by rw [HLL.out]; omega) acc HA.out (by rw [E1.out]; omega) (by rw [E2.out]; omega)
            rw [E1.out, E2.out] at this
            exact this
          case measure => simp [intOf]; omega
    · obtain rfl : k = s.size := by omega
      have e : unhexL s.data.toList = some acc := by
        rw [HA.out, List.drop_of_length_le (by rw [HLL.out]; exact Nat.le_refl _)]; simp [unhexL]
      have EE := Lib.hid e; clear e
      go_wp2
      go_ret2
      exact ⟨hbr, .inr ⟨acc, _, EE.out, rfl, hown⟩⟩

set_option maxHeartbeats 400000 in
theorem rUnhex_odd (s : ByteArray) (w : World) (hs : s.size ≤ 1099511627776) (he : s.size % 2 = 1) :
    Calls Tryd.prog 11 #[.string s] w fun e w' => e = .returned (.tuple #[.slice none 0 0, .int .i64 4]) ∧ w = w' := by
  have hev : ((s.size : Int) % 2 != 0) = true := by simp; omega
  go_enter Tryd.func11, Tryd.ntmps11
  go_wp2
  go_ret2
  exact ⟨rfl, rfl⟩
theorem rUnhex_none (s : ByteArray) (w : World) (hs : s.size ≤ 1099511627776) (h : unhexL s.data.toList = none) :
    Calls Tryd.prog 11 #[.string s] w fun e w' => e = .returned (.tuple #[.slice none 0 0, .int .i64 4]) ∧ Below w.heap.size w w' := by
  by_cases ho : s.size % 2 = 1
  · refine (rUnhex_odd s w hs ho).mono ?_
    rintro e w' ⟨rfl, rfl⟩
    exact ⟨rfl, Below.refl _ _⟩
  · refine (rUnhex_core s w hs (by omega)).mono ?_
    rintro e w' ⟨hb, ⟨he, _⟩ | ⟨t, v, ht, _⟩⟩
    · exact ⟨he, hb⟩
    · rw [h] at ht; cases ht
theorem rUnhex_some (s : ByteArray) (t : List UInt8) (w : World) (hs : s.size ≤ 1099511627776) (h : unhexL s.data.toList = some t) :
    Calls Tryd.prog 11 #[.string s] w fun e w' => ∃ g c, e = .returned (.tuple #[.slice g t.length c, .int .i64 0]) ∧ BAt w' g t ∧ t.length ≤ c ∧ (g = none → t.length = 0 ∧ c = 0) ∧ Below w.heap.size w w' := by
  have hl := size_list s
  obtain ⟨h1, _, _⟩ := unhex_spec _ _ _ (Nat.le_refl _) h
  refine (rUnhex_core s w hs (by omega)).mono ?_
  rintro e w' ⟨hb, ⟨_, hn⟩ | ⟨t', v, ht, he, hown⟩⟩
  · rw [h] at hn; cases hn
  · rw [h] at ht; cases ht
    rcases hown.2 with ⟨rfl, hz⟩ | ⟨g, cap, cur, rfl, hg, hh, hnc, hcm, hcs, htk⟩
    · refine ⟨none, 0, by rw [he, hz], fun hp => by omega, by omega, fun _ => ⟨hz, rfl⟩, hb⟩
    · exact ⟨some ⟨g, 0, none⟩, cap, he, own_bat hown, hnc, (fun h => by cases h), hb⟩
end Go.Proofs.YtgjfaiidnloicaaDoor
