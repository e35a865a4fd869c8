/-
  Layer 5: read whole, next, Take of the program.
-/
import Derived.Test.YtjlgihdlcfanbaaFd
namespace Go.Proofs.Ytjlgihdlcfanbaa
open Go.RowKit
set_option linter.unusedVariables false
set_option linter.unusedSimpArgs false

theorem bat_at {w : World} {b o : Nat} {l : List UInt8} (h : BAt w (some ⟨b, o, none⟩) l) (i : Nat) (hi : i < l.length) : w.cell? ⟨b, o + i, none⟩ = some (.int .u8 (l.getD i 0).toNat) := by
  obtain ⟨b', o', e, _, hc⟩ := h (by omega)
  cases e
  rw [hc i hi]; simp [hi]
theorem takeE_big {l : List UInt8} (h6 : 6 ≤ l.length) (h0 : l.getD 0 0 = 0xfe) : takeE l = bigE l.length (lenOf l) (bigOk l (lenOf l)) := by
  unfold takeE bigE
  rw [if_neg (by omega), if_neg (fun h => h h0), if_neg (by omega)]
  rfl
/-- A payload, where it lies. -/
def PayAt (w : World) (v : Value) (l : List UInt8) : Prop := ∃ a c, v = .slice a l.length c ∧ BAt w a l ∧ (a = none → l.length = 0 ∧ c = 0)
theorem PayAt.nil (w : World) : PayAt w (.slice none 0 0) [] := ⟨none, 0, rfl, BAt.nil _ _, fun _ => ⟨rfl, rfl⟩⟩
theorem take_no {l : List UInt8} (h : takeE l ≠ 0) : takeK l = 0 ∧ takeP l = [] ∧ takeN l = 0 := by
  unfold takeK takeP takeN; rw [if_neg h, if_neg h, if_neg h]; exact ⟨rfl, rfl, rfl⟩
def recL (l : List UInt8) (v : Value) : Value := .agg #[.int .i64 ((takeK l : Nat) : Int), v, .int .i64 ((takeN l : Nat) : Int)]
theorem recL_no {l : List UInt8} (h : takeE l ≠ 0) : recL l (.slice none 0 0) = .agg rec0 := by
  obtain ⟨h1, _, h3⟩ := take_no h
  unfold recL; rw [h1, h3]; rfl
set_option maxHeartbeats 1000000 in
theorem read_any (a : Option Addr) (n c : Nat) (l : List UInt8) (w : World) (hn : n = l.length) (hb : BAt w a l) (hc : n ≤ c) (hm : c ≤ maxLen) :
    Calls Try.prog 24 #[.slice a n c] w fun e w' => ∃ v, e = .returned (.tuple #[recL l v, .int .i64 ((takeE l : Nat) : Int)]) ∧ PayAt w v (takeP l) ∧ Below w.heap.size w w' := by
  have no : ∀ E : Nat, takeE l = E → E ≠ 0 → (∀ (e : Ending) (w' : World), e = .returned (.tuple #[.agg rec0, .int .i64 (E : Int)]) ∧ Below w.heap.size w w' →
      ∃ v, e = .returned (.tuple #[recL l v, .int .i64 ((takeE l : Nat) : Int)]) ∧ PayAt w v (takeP l) ∧ Below w.heap.size w w') := fun E hE hne e w' h => by
    have hne2 : takeE l ≠ 0 := by rw [hE]; exact hne
    refine ⟨.slice none 0 0, ?_, ?_, h.2⟩
    · rw [h.1, recL_no hne2, hE]
    · rw [(take_no hne2).2.1]; exact PayAt.nil w
  by_cases h0 : n = 0
  · subst h0
    have hE : takeE l = 3 := by unfold takeE; rw [if_pos hn.symm]
    exact (read_0 a c w).mono (no 3 hE (by decide))
  · obtain ⟨b, o, rfl, hlt, _⟩ := hb (by omega)
    have hcell := fun i hi => bat_at hb i hi
    have hx0 : w.cell? ⟨b, o, none⟩ = some (.int .u8 (l.getD 0 0).toNat) := hcell 0 (by omega)
    by_cases h1 : l.getD 0 0 = 0xfe
    · have hx1 : w.cell? ⟨b, o, none⟩ = some (.int .u8 254) := by rw [hx0, h1]; rfl
      by_cases h6 : n < 6
      · have hE : takeE l = 3 := by unfold takeE; rw [if_neg (by omega), if_neg (fun h => h h1), if_pos (by omega)]
        exact (read_short b o n c w (by omega) h6 hlt hx1).mono (no 3 hE (by decide))
      · have hH : HeadAt w b o ((l.getD 1 0).toNat : Int) ((l.getD 2 0).toNat : Int) ((l.getD 3 0).toNat : Int) ((l.getD 4 0).toNat : Int) ((l.getD 5 0).toNat : Int) :=
          ⟨hlt, hx1, hcell 1 (by omega), hcell 2 (by omega), hcell 3 (by omega), hcell 4 (by omega), hcell 5 (by omega), u8_in _, u8_in _, u8_in _, u8_in _, u8_in _⟩
        have hE := takeE_big (l := l) (by omega) h1
        rw [← hn] at hE
        refine (read_big b o n c l (lenOf l) _ _ _ _ _ w (by omega) hc hm hn hb hH (by unfold lenOf; omega)).mono ?_
        rintro e w' ⟨rfl, hbel⟩
        by_cases hz : takeE l = 0
        · have hz2 : bigE n (lenOf l) (bigOk l (lenOf l)) = 0 := by rw [← hE]; exact hz
          have hP : takeP l = (l.drop 6).take (lenOf l) := by unfold takeP; rw [if_pos hz]
          have h14 : 14 + lenOf l ≤ n := by
            unfold bigE at hz2
            repeat (split at hz2 <;> try omega)
          have hPl : (takeP l).length = lenOf l := by rw [hP, List.length_take, List.length_drop]; omega
          refine ⟨.slice (some ⟨b, o + 6, none⟩) (lenOf l) (c - 6), ?_, ⟨some ⟨b, o + 6, none⟩, c - 6, by rw [hPl], ?_, fun h => by cases h⟩, hbel⟩
          · unfold bigV recL takeK takeN
            rw [hz2, if_pos rfl, if_pos hz, if_pos hz, hz]
          · rw [hP]; exact hb.cut 6 (lenOf l) (by omega)
        · have hz2 : bigE n (lenOf l) (bigOk l (lenOf l)) ≠ 0 := by rw [← hE]; exact hz
          refine no _ hE hz2 _ _ ⟨?_, hbel⟩
          unfold bigV
          rw [if_neg hz2]
    · have hE : takeE l = 4 := by unfold takeE; rw [if_neg (by omega), if_pos h1]
      refine (read_mark b o n c _ w (by omega) (by omega) hlt hx0 ?_).mono (no 4 hE (by decide))
      intro h
      apply h1
      apply UInt8.toNat_inj.1
      show (l.getD 0 0).toNat = 254
      omega
end Go.Proofs.Ytjlgihdlcfanbaa
