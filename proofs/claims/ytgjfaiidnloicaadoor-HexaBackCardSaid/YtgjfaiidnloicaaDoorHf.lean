/-
  Layer 1: which bytes a text of digits is; Unhex of the program, whatever the text.
-/
import Derived.Test.YtgjfaiidnloicaaDoorHe
namespace Go.Proofs.YtgjfaiidnloicaaDoor
open Go.RowKit
set_option linter.unusedVariables false

/-- The bytes of a text of hexadecimal digits. -/
def unhexL : List UInt8 → Option (List UInt8)
  | [] => some []
  | [_] => none
  | a :: b :: r => if 0 ≤ dg a ∧ 0 ≤ dg b then (unhexL r).map (fun t => UInt8.ofNat (16 * dg a + dg b).toNat :: t) else none
theorem unhex_spec : ∀ (n : Nat) (l t : List UInt8), l.length ≤ n → unhexL l = some t → l.length = 2 * t.length ∧ (∀ i, i < l.length → 0 ≤ dg (l.getD i 0)) ∧ ∀ j, j < t.length → ((t.getD j 0).toNat : Int) = 16 * dg (l.getD (2 * j) 0) + dg (l.getD (2 * j + 1) 0) := by
  intro n
  induction n using Nat.strongRecOn with
  | ind n ih =>
    intro l t hl h
    match l, hl, h with
    | [], _, h => simp [unhexL] at h; subst h; simp
    | [_], _, h => simp [unhexL] at h
    | a :: b :: r, hl, h =>
      simp only [unhexL] at h
      split at h
      · rename_i hab
        cases hr : unhexL r with
        | none => simp [hr] at h
        | some t' =>
          simp [hr] at h
          subst h
          obtain ⟨h1, h2, h3⟩ := ih r.length (by simp at hl; omega) r t' (Nat.le_refl _) hr
          refine ⟨by simp; omega, ?_, ?_⟩
          · intro i hi
            match i, hi with
            | 0, _ => exact hab.1
            | 1, _ => exact hab.2
            | i + 2, hi => exact h2 i (by simp at hi; omega)
          · intro j hj
            match j, hj with
            | 0, _ =>
              have c := dg_lt a; have d := dg_lt b
              show ((UInt8.ofNat (16 * dg a + dg b).toNat).toNat : Int) = 16 * dg a + dg b
              rw [UInt8.toNat_ofNat']; omega
            | j + 1, hj =>
              have e := h3 j (by simp at hj; omega)
              rw [show 2 * (j + 1) = 2 * j + 2 by omega, show 2 * j + 2 + 1 = 2 * j + 1 + 2 by omega]
              exact e
      · cases h
theorem unhex_none : ∀ (n : Nat) (l : List UInt8), l.length ≤ n → unhexL l = none → l.length % 2 = 1 ∨ ∃ i, i < l.length ∧ dg (l.getD i 0) < 0 := by
  intro n
  induction n using Nat.strongRecOn with
  | ind n ih =>
    intro l hl h
    match l, hl, h with
    | [], _, h => simp [unhexL] at h
    | [_], _, h => left; rfl
    | a :: b :: r, hl, h =>
      simp only [unhexL] at h
      by_cases ha : dg a < 0
      · exact .inr ⟨0, by simp, ha⟩
      by_cases hb : dg b < 0
      · exact .inr ⟨1, by simp, hb⟩
      rw [if_pos ⟨by omega, by omega⟩] at h
      have hr : unhexL r = none := by simpa using h
      rcases ih r.length (by simp at hl; omega) r (Nat.le_refl _) hr with h1 | ⟨i, h1, h2⟩
      · left; simp; omega
      · right; exact ⟨i + 2, by simp; omega, h2⟩
theorem unhex_odd (l : List UInt8) (h : l.length % 2 = 1) : unhexL l = none := by
  cases e : unhexL l with
  | none => rfl
  | some t => have := (unhex_spec l.length l t (Nat.le_refl _) e).1; omega
theorem unhex_bad (l : List UInt8) (i : Nat) (hi : i < l.length) (h : dg (l.getD i 0) < 0) : unhexL l = none := by
  cases e : unhexL l with
  | none => rfl
  | some t => have := (unhex_spec l.length l t (Nat.le_refl _) e).2.1 i hi; omega

set_option maxHeartbeats 400000 in
theorem Unhex_odd (s : ByteArray) (w : World) (hs : s.size ≤ 1099511627776) (he : s.size % 2 = 1) :
    Calls Tryd.prog 10 #[.string s] w fun e w' => e = .returned (.tuple #[.slice none 0 0, .int .i64 4]) ∧ w = w' := by
  have hev : ((s.size : Int) % 2 != 0) = true := by simp; omega
  go_enter Tryd.func10, Tryd.ntmps10
  go_wp2
  go_ret2
  exact ⟨rfl, rfl⟩
theorem Unhex_none (s : ByteArray) (w : World) (hs : s.size ≤ 1099511627776) (h : unhexL s.data.toList = none) :
    Calls Tryd.prog 10 #[.string s] w fun e w' => e = .returned (.tuple #[.slice none 0 0, .int .i64 4]) ∧ Below w.heap.size w w' := by
  have hl := size_list s
  by_cases ho : s.size % 2 = 1
  · refine (Unhex_odd s w hs ho).mono ?_
    rintro e w' ⟨rfl, rfl⟩
    exact ⟨rfl, Below.refl _ _⟩
  · refine (Unhex_core s w hs (by omega)).mono ?_
    rintro e w' ⟨hb, ⟨he, _⟩ | ⟨hd, _⟩⟩
    · exact ⟨he, hb⟩
    · rcases unhex_none _ _ (Nat.le_refl _) h with h1 | ⟨i, hi, h1⟩
      · omega
      · have := hd i (by omega); omega
theorem Unhex_some (s : ByteArray) (t : List UInt8) (w : World) (hs : s.size ≤ 1099511627776) (h : unhexL s.data.toList = some t) :
    Calls Tryd.prog 10 #[.string s] w fun e w' => ∃ g c, e = .returned (.tuple #[.slice g t.length c, .int .i64 0]) ∧ BAt w' g t ∧ t.length ≤ c ∧ (g = none → t.length = 0 ∧ c = 0) ∧ Below w.heap.size w w' := by
  have hl := size_list s
  obtain ⟨h1, h2, h3⟩ := unhex_spec _ _ _ (Nat.le_refl _) h
  have hn : s.size / 2 = t.length := by omega
  refine (Unhex_core s w hs (by omega)).mono ?_
  rintro e w' ⟨hb, ⟨_, i, hi, hd⟩ | ⟨_, g, ys, he, hg, hown, hys⟩⟩
  · have := h2 i (by omega); omega
  · rw [hn] at he hown hys
    refine ⟨some ⟨g, 0, none⟩, t.length, he, fun hp => ⟨g, 0, rfl, own_lt hown, fun i hi => ?_⟩, Nat.le_refl _, (fun h => by cases h), hb⟩
    rw [Nat.zero_add, hown.cellAt i (by omega), hys i hi]
    have e := h3 i hi
    rw [List.getD_eq_getElem?_getD, List.getElem?_eq_getElem hi] at e
    have e2 : uh s.data.toList s.size i = ((t[i]).toNat : Int) := by
      unfold uh; rw [if_pos (by omega)]; exact e.symm
    rw [e2]
end Go.Proofs.YtgjfaiidnloicaaDoor
