/-
  strconv.ParseUint of three bytes in base 8 that fit into a byte.
-/
import Derived.Test.YtboiclejhnbonaaDoorQs
import Derived.Test.YtboiclejhnbonaaDoorMm
import Derived.Lib.Walk
import Derived.Lib.ConvBytes
import Derived.Laws.Strings3
import Derived.Laws.Closers25
import Derived.Laws.Closers25b
import Derived.BigCall
import Derived.BigGuard
import Derived.Lib.SmallJoins
namespace Go.Proofs.YtboiclejhnbonaaDoor
open Go.RowKit
set_option linter.unusedVariables false

/-- Digits of eight, as long as a byte holds them. -/
def oct8 : Nat → List UInt8 → Option Nat
  | acc, [] => some acc
  | acc, c :: r => if 48 ≤ c.toNat ∧ c.toNat ≤ 55 ∧ acc * 8 + (c.toNat - 48) ≤ 255 then oct8 (acc * 8 + (c.toNat - 48)) r else none
theorem oct8_three (c d e : UInt8) : oct8 0 [c, d, e] = if oct3 c d e = true then some (octB c d e).toNat else none := by
  unfold oct3
  by_cases h : 48 ≤ c.toNat ∧ c.toNat ≤ 51 ∧ 48 ≤ d.toNat ∧ d.toNat ≤ 55 ∧ 48 ≤ e.toNat ∧ e.toNat ≤ 55
  · obtain ⟨h1, h2, h3, h4, h5, h6⟩ := h
    rw [if_pos (by simp; omega)]
    simp only [oct8]
    rw [if_pos (by omega), if_pos (by omega), if_pos (by omega)]
    congr 1
    unfold octB
    rw [UInt8.toNat_ofNat']
    omega
  · rw [if_neg (by simp; omega)]
    simp only [oct8]
    split
    · split
      · split
        · omega
        · rfl
      · rfl
    · rfl

/-- What the inner ParseUint leaves. -/
def OctPost (l : List UInt8) (w : World) (e : Ending) (w' : World) : Prop := Below w.heap.size w w' ∧
  ((∃ n : Nat, oct8 0 l = some n ∧ e = .returned (.tuple #[.int .u64 n, .nilIface])) ∨
    (oct8 0 l = none ∧ ∃ z k : Int, (k = 1 ∨ k = 2) ∧ e = .returned (.tuple #[.int .u64 z, .iface 101 (.int .i64 k)])))
theorem lower_is (c : Int) (w : World) : Calls Tryd.prog 69 #[.int .u8 c] w fun e w' => e = .returned (.int .u8 (bits .or .u8 c 32)) ∧ w' = w := by
  go_enter Tryd.func69, Tryd.ntmps69
  go_wp2
  go_ret
  exact ⟨rfl, rfl⟩

set_option maxHeartbeats 32000000 in
set_option maxRecDepth 100000 in
theorem ParseInner_oct (t : ByteArray) (hne : t.size ≠ 0) (hmax : t.size ≤ 9223372036854775806) (w : World) :
    Calls Tryd.prog 65 #[.string t, .int .i64 8, .int .i64 8] w fun e w' => OctPost t.data.toList w e w' := by
  have hemp : t.toList.isEmpty = false := by
    rw [← decide_eq_emptyBytes]
    exact decide_eq_false (fun h => hne (by rw [h]; rfl))
  have hcv := Lib.run_convert_string_bytes (P := Tryd.prog) w 9 31 5 t (u := .string) Tryd.underlying9 Tryd.underlying31 Tryd.underlying5
  have hB : ∀ j, j < t.size → (Lib.bytesWorld w 5 t).cell? ⟨w.heap.size, j, none⟩ = some (.int .u8 (t.data.toList.getD j 0).toNat) := fun j hj => Lib.bytesWorld_cell w 5 t j hj
  have hb1 : Below w.heap.size w (Lib.bytesWorld w 5 t) := Joins.below_bytesWorld _ w 5 t (Nat.le_refl _)
  obtain ⟨W1, hW1⟩ : ∃ W1, W1 = Lib.bytesWorld w 5 t := ⟨_, rfl⟩
  rw [← hW1] at hcv hB hb1
  clear hW1
  obtain ⟨bs, hL⟩ : ∃ bs, bs = t.data.toList := ⟨_, rfl⟩
  have hLn : bs.length = t.size := by rw [hL, Lib.size_eq]
  rw [← hL] at hB ⊢
  clear hL
  have hmv : IntKind.u64.wrap (IntKind.u64.wrap 256 - 1) = 255 := by
    rw [IntKind.wrap_u64, IntKind.wrap_u64]
    decide
  go_enter Tryd.func65, Tryd.ntmps65
  go_wp2_with fail
  go_loop [12, 13, 101] (fun vu vn vi => ∃ (k acc : Nat) (a : Int), vu = .bool false ∧ vn = .int .u64 a ∧ vi = .int .i64 k ∧ k ≤ t.size ∧ Hid (a = (acc : Int) ∧ acc ≤ 255 ∧ oct8 0 bs = oct8 acc (bs.drop k)))
    (fun _ _ vi => t.size - (intOf vi).toNat)
  case atStart => exact ⟨0, 0, 0, rfl, rfl, rfl, by omega, rfl, by omega, rfl⟩
  case round =>
    obtain ⟨k, acc, a, rfl, rfl, rfl, hk, hh⟩ := hrel
    obtain ⟨ha, hacc, hdec⟩ := hh.out
    clear hh
    have a0 : 0 ≤ a := by omega
    have a1 : a ≤ 255 := by omega
    by_cases hkn : k < t.size
    · have hc := hB k hkn
      have hdrop : bs.drop k = bs[k]'(by omega) :: bs.drop (k + 1) := List.drop_eq_getElem_cons (by omega)
      have hget : bs.getD k 0 = bs[k]'(by omega) := by simp [List.getD, List.getElem?_eq_getElem (show k < bs.length by omega)]
      rw [hdrop] at hdec
      rw [hget] at hc
      generalize bs[k]'(by omega) = c at hc hdec
      have hc256 : c.toNat < 256 := c.toNat_lt
      clear hB hdrop hget
      by_cases hdig : 48 ≤ c.toNat ∧ c.toNat ≤ 57
      · obtain ⟨hd0, hd1⟩ := hdig
        by_cases h8 : c.toNat ≤ 55
        · by_cases hov : 255 < acc * 8 + (c.toNat - 48)
          · have hF : oct8 0 bs = none := by
              rw [hdec]
              simp only [oct8]
              rw [if_neg (by omega)]
            have HF := Lib.hid hF
            have iov : 255 < a * 8 + ((c.toNat : Int) - 48) := by omega
            clear hacc hF hov ha hdec
            go_wp2
            go_ret2
            exact ⟨hb1, .inr ⟨HF.out, _, 1, .inl rfl, rfl⟩⟩
          · have HN : Hid (a * 8 + ((c.toNat : Int) - 48) = ((acc * 8 + (c.toNat - 48) : Nat) : Int) ∧ acc * 8 + (c.toNat - 48) ≤ 255 ∧ oct8 0 bs = oct8 (acc * 8 + (c.toNat - 48)) (bs.drop (k + 1))) := Lib.hid ⟨by omega, by omega, by
              rw [hdec]
              simp only [oct8]
              rw [if_pos (by omega)]⟩
            have iov : a * 8 + ((c.toNat : Int) - 48) ≤ 255 := by omega
            clear hacc hov hdec ha
            go_wp2
            refine ⟨⟨k + 1, acc * 8 + (c.toNat - 48), a * 8 + ((c.toNat : Int) - 48), rfl, (by first | rfl | (congr 1; omega)), (by first | rfl | (congr 1; omega)), by omega, HN⟩, by simp [intOf]; omega⟩
        · have hF : oct8 0 bs = none := by
            rw [hdec]
            simp only [oct8]
            rw [if_neg (by omega)]
          have HF := Lib.hid hF
          clear hacc hF ha hdec
          go_wp2
          go_ret2
          exact ⟨hb1, .inr ⟨HF.out, _, 2, .inr rfl, rfl⟩⟩
      · have hF : oct8 0 bs = none := by
          rw [hdec]
          simp only [oct8]
          rw [if_neg (by omega)]
        have HF := Lib.hid hF
        clear hacc hF ha hdec
        have hv0 := bits_lo_u8 .or (c.toNat : Int) 32
        have hv1 := bits_hi_u8 .or (c.toNat : Int) 32
        have hlow := fun w => lower_is (c.toNat : Int) w
        obtain ⟨x, hx⟩ : ∃ x : Int, x = (c.toNat : Int) := ⟨_, rfl⟩
        have x0 : 0 ≤ x := by omega
        have x1 : x ≤ 255 := by omega
        have hdx : ¬ (48 ≤ x ∧ x ≤ 57) := by omega
        rw [← hx] at hc hlow hv0 hv1
        clear hx hdig
        generalize bits .or .u8 x 32 = v at hlow hv0 hv1
        have pre : ((x == 95) = true ∧ 48 ≤ x ∧ ¬ x ≤ 57) ∨ ((x == 95) = false ∧ 48 ≤ x ∧ ¬ x ≤ 57) ∨ ((x == 95) = false ∧ ¬ 48 ≤ x) := by
          by_cases h95 : x = 95
          · exact .inl ⟨by simp [h95], by omega, by omega⟩
          · by_cases h48 : 48 ≤ x
            · exact .inr (.inl ⟨by simp [h95], h48, by omega⟩)
            · exact .inr (.inr ⟨by simp [h95], h48⟩)
        clear hdx
        rcases pre with ⟨f95, h48, h57⟩ | ⟨f95, h48, h57⟩ | ⟨f95, h48⟩
        all_goals
          by_cases h97 : 97 ≤ v
          · by_cases h122 : v ≤ 122
            · go_wp2_with fail
              refine (hlow _).mono ?_
              rintro e w' ⟨rfl, rfl⟩
              go_wp2_with fail
              refine (hlow _).mono ?_
              rintro e w' ⟨rfl, rfl⟩
              go_wp2_with fail
              refine (hlow _).mono ?_
              rintro e w' ⟨rfl, rfl⟩
              go_wp2
              go_ret2
              exact ⟨hb1, .inr ⟨HF.out, _, 2, .inr rfl, rfl⟩⟩
            · go_wp2_with fail
              refine (hlow _).mono ?_
              rintro e w' ⟨rfl, rfl⟩
              go_wp2_with fail
              refine (hlow _).mono ?_
              rintro e w' ⟨rfl, rfl⟩
              go_wp2
              go_ret2
              exact ⟨hb1, .inr ⟨HF.out, _, 2, .inr rfl, rfl⟩⟩
          · go_wp2_with fail
            refine (hlow _).mono ?_
            rintro e w' ⟨rfl, rfl⟩
            go_wp2
            go_ret2
            exact ⟨hb1, .inr ⟨HF.out, _, 2, .inr rfl, rfl⟩⟩
    · have hkk : k = t.size := by omega
      subst hkk
      have hF : oct8 0 bs = some acc := by rw [hdec, List.drop_eq_nil_of_le (by omega)]; rfl
      have HF := Lib.hid hF
      subst ha
      clear hacc hF a0 a1 hdec
      go_wp2
      go_ret2
      exact ⟨hb1, .inl ⟨acc, HF.out, rfl⟩⟩
end Go.Proofs.YtboiclejhnbonaaDoor
