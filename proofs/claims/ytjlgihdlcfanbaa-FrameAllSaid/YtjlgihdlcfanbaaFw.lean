/-
  Layer 5: Take of the document's answers, whatever comes.
-/
import Derived.Test.YtjlgihdlcfanbaaFv
namespace Go.Proofs.Ytjlgihdlcfanbaa
open Go.RowKit
set_option linter.unusedVariables false
set_option linter.unusedSimpArgs false

set_option maxHeartbeats 1000000 in
theorem rTake_any (a : Option Addr) (n c : Nat) (l : List UInt8) (w : World) (hn : n = l.length) (hb : BAt w a l) (hc : n ≤ c) (hm : c ≤ maxLen) :
    Calls Try.prog 13 #[.slice a n c] w fun e w' => ∃ v, e = .returned (.tuple #[.int .i64 ((takeK l : Nat) : Int), v, .int .i64 ((takeN l : Nat) : Int), .int .i64 ((takeE l : Nat) : Int)]) ∧ Row w' v (takeP l) ∧
      (∀ g, foot v = some g → w.heap.size ≤ g) ∧ Below w.heap.size w w' := by
  have no : ∀ E : Nat, takeE l = E → E ≠ 0 → (∀ (e : Ending) (w' : World), e = .returned (.tuple #[.int .i64 0, .slice none 0 0, .int .i64 0, .int .i64 (E : Int)]) ∧ Below w.heap.size w w' →
      ∃ v, e = .returned (.tuple #[.int .i64 ((takeK l : Nat) : Int), v, .int .i64 ((takeN l : Nat) : Int), .int .i64 ((takeE l : Nat) : Int)]) ∧ Row w' v (takeP l) ∧ (∀ g, foot v = some g → w.heap.size ≤ g) ∧ Below w.heap.size w w') := fun E hE hne e w' h => by
    have hne2 : takeE l ≠ 0 := by rw [hE]; exact hne
    obtain ⟨t1, t2, t3⟩ := take_no hne2
    refine ⟨.slice none 0 0, ?_, ?_, (fun g hg => by cases hg), h.2⟩
    · rw [h.1, t1, t3, hE]; rfl
    · rw [t2]; exact Row.nil _ _
  have same : ∀ (E : Nat) (e : Ending) (w' : World), e = .returned (.tuple #[.int .i64 0, .slice none 0 0, .int .i64 0, .int .i64 (E : Int)]) ∧ w = w' → e = .returned (.tuple #[.int .i64 0, .slice none 0 0, .int .i64 0, .int .i64 (E : Int)]) ∧ Below w.heap.size w w' := fun E e w' h => ⟨h.1, by rw [← h.2]; exact Below.refl _ _⟩
  by_cases h0 : n = 0
  · subst h0
    have hE : takeE l = 3 := by unfold takeE; rw [if_pos hn.symm]
    exact (rTake_0 a c w).mono fun e w' h => no 3 hE (by decide) e w' (same 3 e w' h)
  · obtain ⟨b, o, rfl, hlt, _⟩ := hb (by omega)
    have hcell := fun i hi => bat_at hb i hi
    have hx0 : w.cell? ⟨b, o, none⟩ = some (.int .u8 (l.getD 0 0).toNat) := hcell 0 (by omega)
    by_cases h1 : l.getD 0 0 = 0xfe
    · have hx1 : w.cell? ⟨b, o, none⟩ = some (.int .u8 254) := by rw [hx0, h1]; rfl
      by_cases h6 : n < 6
      · have hE : takeE l = 3 := by unfold takeE; rw [if_neg (by omega), if_neg (fun h => h h1), if_pos (by omega)]
        exact (rTake_short b o n c w (by omega) h6 hx1).mono fun e w' h => no 3 hE (by decide) e w' (same 3 e w' h)
      · have hH : HeadAt w b o ((l.getD 1 0).toNat : Int) ((l.getD 2 0).toNat : Int) ((l.getD 3 0).toNat : Int) ((l.getD 4 0).toNat : Int) ((l.getD 5 0).toNat : Int) :=
          ⟨hlt, hx1, hcell 1 (by omega), hcell 2 (by omega), hcell 3 (by omega), hcell 4 (by omega), hcell 5 (by omega), u8_in _, u8_in _, u8_in _, u8_in _, u8_in _⟩
        have hE := takeE_big (l := l) (by omega) h1
        rw [← hn] at hE
        by_cases hz : takeE l = 0
        · have hz2 : bigE n (lenOf l) (bigOk l (lenOf l)) = 0 := by rw [← hE]; exact hz
          refine (rTake_good b o n c l (lenOf l) _ _ _ _ _ w (by omega) hc hm hn hb hH (by unfold lenOf; omega) _ rfl hz2).mono ?_
          rintro e w' ⟨v, rfl, hr, hf, hbel⟩
          have hP : takeP l = (l.drop 6).take (lenOf l) := by unfold takeP; rw [if_pos hz]
          refine ⟨v, ?_, by rw [hP]; exact hr, hf, hbel⟩
          unfold takeK takeN
          rw [if_pos hz, if_pos hz, hz]
          rfl
        · have hz2 : bigE n (lenOf l) (bigOk l (lenOf l)) ≠ 0 := by rw [← hE]; exact hz
          exact (rTake_big b o n c l (lenOf l) _ _ _ _ _ w (by omega) hc hm hn hb hH (by unfold lenOf; omega) _ _ rfl rfl (by omega)).mono fun e w' h => no _ hE hz2 e w' h
    · have hE : takeE l = 4 := by unfold takeE; rw [if_neg (by omega), if_pos h1]
      refine (rTake_mark b o n c _ w (by omega) (by omega) hx0 ?_).mono fun e w' h => no 4 hE (by decide) e w' (same 4 e w' h)
      intro h
      apply h1
      apply UInt8.toNat_inj.1
      show (l.getD 0 0).toNat = 254
      omega
end Go.Proofs.Ytjlgihdlcfanbaa
