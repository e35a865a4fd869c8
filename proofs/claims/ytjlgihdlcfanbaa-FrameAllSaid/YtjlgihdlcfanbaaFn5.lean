/-
  Layer 5: next of the program.
-/
import Derived.Test.YtjlgihdlcfanbaaFt2
namespace Go.Proofs.Ytjlgihdlcfanbaa
open Go.RowKit
set_option linter.unusedVariables false
set_option linter.unusedSimpArgs false

/-- Where the payload lies of a frame that stands at an address. -/
def payV (a : Option Addr) (c : Nat) (l : List UInt8) : Value := if takeE l = 0 then .slice (a.map (·.add 6)) (lenOf l) (c - 6) else .slice none 0 0
theorem payV_no (a : Option Addr) (c : Nat) {l : List UInt8} (h : takeE l ≠ 0) : payV a c l = .slice none 0 0 := by unfold payV; rw [if_neg h]
theorem takeE_room {l : List UInt8} (h : takeE l = 0) : 14 + lenOf l ≤ l.length := by
  have h1 := (takeN_le l h).2.1
  unfold takeN at h1
  rwa [if_pos h] at h1
theorem pay_at {u : World} {a : Option Addr} {c : Nat} {l : List UInt8} (h : BAt u a l) (hc : l.length ≤ c) : PayAt u (payV a c l) (takeP l) := by
  by_cases hz : takeE l = 0
  · have hr := takeE_room hz
    obtain ⟨b, o, rfl, hb, hcell⟩ := h (by omega)
    have hP : takeP l = (l.drop 6).take (lenOf l) := by unfold takeP; rw [if_pos hz]
    have hPl : (takeP l).length = lenOf l := by rw [hP, List.length_take, List.length_drop]; omega
    unfold payV
    rw [if_pos hz]
    simp only [Option.map_some, addr_add]
    refine ⟨_, c - 6, by rw [hPl], ?_, fun h => by cases h⟩
    rw [hP]
    exact (show BAt u (some ⟨b, o, none⟩) l from fun _ => ⟨b, o, rfl, hb, hcell⟩).cut 6 (lenOf l) (by omega)
  · rw [payV_no a c hz, (take_no hz).2.1]; exact PayAt.nil u
set_option maxHeartbeats 1000000 in
theorem read_v (a : Option Addr) (n c : Nat) (l : List UInt8) (w : World) (hn : n = l.length) (hb : BAt w a l) (hc : n ≤ c) (hm : c ≤ maxLen) :
    Calls Try.prog 24 #[.slice a n c] w fun e w' => e = .returned (.tuple #[recL l (payV a c l), .int .i64 ((takeE l : Nat) : Int)]) ∧ Below w.heap.size w w' := by
  have no : ∀ E : Nat, takeE l = E → E ≠ 0 → (∀ (e : Ending) (w' : World), e = .returned (.tuple #[.agg rec0, .int .i64 (E : Int)]) ∧ Below w.heap.size w w' →
      e = .returned (.tuple #[recL l (payV a c l), .int .i64 ((takeE l : Nat) : Int)]) ∧ Below w.heap.size w w') := fun E hE hne e w' h => by
    have hne2 : takeE l ≠ 0 := by rw [hE]; exact hne
    exact ⟨by rw [h.1, payV_no a c hne2, recL_no hne2, hE], h.2⟩
  by_cases h0 : n = 0
  · subst h0
    have hE : takeE l = 3 := by unfold takeE; rw [if_pos hn.symm]
    exact (read_0 a c w).mono (no 3 hE (by decide))
  · obtain ⟨b, o, rfl, hlt, _⟩ := hb (by omega)
    have hcell := fun i hi => bat_at hb i hi
    have hx0 : w.cell? ⟨b, o, none⟩ = some (.int .u8 (l.getD 0 0).toNat) := hcell 0 (by omega)
    by_cases h1 : l.getD 0 0 = 0xfe
    · have hx1 : w.cell? ⟨b, o, none⟩ = some (.int .u8 254) := by rw [hx0, h1]; rfl
      by_cases h6 : n < 6
      · have hE : takeE l = 3 := by unfold takeE; rw [if_neg (by omega), if_neg (fun h => h h1), if_pos (by omega)]
        exact (read_short b o n c w (by omega) h6 hlt hx1).mono (no 3 hE (by decide))
      · have hH : HeadAt w b o ((l.getD 1 0).toNat : Int) ((l.getD 2 0).toNat : Int) ((l.getD 3 0).toNat : Int) ((l.getD 4 0).toNat : Int) ((l.getD 5 0).toNat : Int) :=
          ⟨hlt, hx1, hcell 1 (by omega), hcell 2 (by omega), hcell 3 (by omega), hcell 4 (by omega), hcell 5 (by omega), u8_in _, u8_in _, u8_in _, u8_in _, u8_in _⟩
        have hE := takeE_big (l := l) (by omega) h1
        rw [← hn] at hE
        refine (read_big b o n c l (lenOf l) _ _ _ _ _ w (by omega) hc hm hn hb hH (by unfold lenOf; omega)).mono ?_
        rintro e w' ⟨rfl, hbel⟩
        by_cases hz : takeE l = 0
        · have hz2 : bigE n (lenOf l) (bigOk l (lenOf l)) = 0 := by rw [← hE]; exact hz
          have hP : takeP l = (l.drop 6).take (lenOf l) := by unfold takeP; rw [if_pos hz]
          have h14 : 14 + lenOf l ≤ n := by
            unfold bigE at hz2
            repeat (split at hz2 <;> try omega)
          have hPl : (takeP l).length = lenOf l := by rw [hP, List.length_take, List.length_drop]; omega
          refine ⟨?_, hbel⟩
          unfold bigV recL payV takeK takeN
          rw [hz2, if_pos rfl, if_pos hz, if_pos hz, if_pos hz, hz]
          simp only [Option.map_some, addr_add]
        · have hz2 : bigE n (lenOf l) (bigOk l (lenOf l)) ≠ 0 := by rw [← hE]; exact hz
          refine no _ hE hz2 _ _ ⟨?_, hbel⟩
          unfold bigV
          rw [if_neg hz2]
    · have hE : takeE l = 4 := by unfold takeE; rw [if_neg (by omega), if_pos h1]
      refine (read_mark b o n c _ w (by omega) (by omega) hlt hx0 ?_).mono (no 4 hE (by decide))
      intro h
      apply h1
      apply UInt8.toNat_inj.1
      show (l.getD 0 0).toNat = 254
      omega
theorem infoRec3 (a b c : Value) : (Try.prog.info? 52).map (·.size) = some (#[a, b, c] : Array Value).size := infoRec
theorem size3 (a b c d e f : Value) : (#[a, b, c] : Array Value).size = (#[d, e, f] : Array Value).size := rfl
set_option maxHeartbeats 8000000 in
theorem next_any (a : Option Addr) (n c : Nat) (l : List UInt8) (w : World) (hn : n = l.length) (hb : BAt w a l) (hc : n ≤ c) (hm : c ≤ maxLen) :
    Calls Try.prog 27 #[.slice a n c] w fun e w' => e = .returned (.tuple #[recL l (payV a c l), .bool (decide (takeE l = 0))]) ∧ Below w.heap.size w w' := by
  have R := fun u (h : Below w.heap.size w u) => read_v a n c l u hn (hb.keep h) hc hm
  have C := Lib.hid R
  obtain ⟨pa, pl, pc, hpv⟩ : ∃ pa pl pc, payV a c l = .slice pa pl pc := by unfold payV; split <;> exact ⟨_, _, _, rfl⟩
  obtain ⟨K, hK⟩ : ∃ K : Int, ((takeK l : Nat) : Int) = K := ⟨_, rfl⟩
  obtain ⟨M, hM⟩ : ∃ M : Int, ((takeN l : Nat) : Int) = M := ⟨_, rfl⟩
  obtain ⟨E, hE⟩ : ∃ E : Int, ((takeE l : Nat) : Int) = E := ⟨_, rfl⟩
  have hd : decide (takeE l = 0) = (E == 0) := by
    rw [← hE]
    cases h : takeE l with
    | zero => rfl
    | succ k => simp; omega
  unfold recL at C ⊢
  rw [hd]
  rw [hK, hM, hE, hpv] at C
  rw [hK, hM, hpv]
  clear R hb hK hM hE hd hn hc hm hpv
  go_enter Try.func27, Try.ntmps27
  go_wp2_with fail
  refine (C.out _ ((Below.refl _ w).alloc (Nat.le_refl _) _)).mono ?_
  rintro e w1 ⟨rfl, hb1⟩
  have hb01 : Below w.heap.size w w1 := ((Below.refl _ w).alloc (Nat.le_refl _) _).trans (hb1.mono (by simp))
  have hr1 : w1.heap[w.heap.size]? = some (.cells rec0 52 (0, 0)) := (hb1.block _ (by simp)).trans (heap_alloc_new w _)
  have HR1 := Lib.hid hr1
  clear C hb1 hr1
  have hb12 : Below w1.heap.size w1 (w1.alloc (.cells #[.int .i64 K, .slice pa pl pc, .int .i64 M] 52)) := (Below.refl _ w1).alloc (Nat.le_refl _) _
  have HR2 := Lib.hid ((hb12.block _ (lt_of_heap HR1.out)).trans HR1.out)
  have one : (#[Value.int .i64 K, .slice pa pl pc, .int .i64 M] : Array Value).all (·.oneCell') = true := by simp [Value.oneCell']
  have HB02 := Lib.hid (hb01.trans (hb12.mono hb01.size))
  go_wp2_with (first
    | (with_reducible refine wpList_store_row rfl 52 (.tmp 2) (.tmp 11) rfl w.heap.size _ rfl rfl 52 rec0 HR2.out (infoRec3 _ _ _) (size3 _ _ _ _ _ _) one ?_)
    | fail)
  refine bodyPost_ret (results_rec Try.results27 _ _ w.heap.size _ (0, 0) _ rfl rfl (setRow_heap _ w.heap.size rec0 _ _ (0, 0) HR2.out) rfl) rfl ⟨rfl, below_setRow HB02.out (Nat.le_refl _) _⟩
end Go.Proofs.Ytjlgihdlcfanbaa
