/-
  Layer 4: what each operation is refused for, and what it leaves.
-/
import Derived.Test.YtghncdoophoieaaTc
namespace Go.Proofs.Ytghncdoophoieaa
open Go.RowKit
set_option linter.unusedVariables false

/-- Bytes that lie in a block of which D holds. -/
def BIn (D : Nat → Prop) (w : World) (a : Option Addr) (l : List UInt8) : Prop :=
  0 < l.length → ∃ b o, a = some ⟨b, o, none⟩ ∧ D b ∧ b < w.heap.size ∧ ∀ i (h : i < l.length), w.cell? ⟨b, o + i, none⟩ = some (.int .u8 (l[i]).toNat)
theorem BIn.bat {D : Nat → Prop} {w : World} {a : Option Addr} {l : List UInt8} (h : BIn D w a l) : BAt w a l := fun hp => by
  obtain ⟨b, o, h1, _, h2, h3⟩ := h hp
  exact ⟨b, o, h1, h2, h3⟩
theorem BIn.chg {D S : Nat → Prop} {w w' : World} {a : Option Addr} {l : List UInt8} (h : BIn D w a l) (hc : Chg S w w') (hd : ∀ k, D k → ¬ S k) : BIn D w' a l := fun hp => by
  obtain ⟨b, o, h1, h2, h3, h4⟩ := h hp
  exact ⟨b, o, h1, h2, Nat.lt_of_lt_of_le h3 hc.size, fun i hi => (World.cell?_of_block (a := ⟨b, o + i, none⟩) (hc.block b h3 (hd b h2))).trans (h4 i hi)⟩
/-- Parts: a slice of slices of bytes. -/
def PartsIn (D : Nat → Prop) (w : World) (pa : Option Addr) (ls : List (List UInt8)) : Prop :=
  0 < ls.length → ∃ b o, pa = some ⟨b, o, none⟩ ∧ D b ∧ b < w.heap.size ∧ ∀ i (h : i < ls.length), ∃ a c, w.cell? ⟨b, o + i, none⟩ = some (.slice a (ls[i]).length c) ∧ BIn D w a ls[i] ∧ (a = none → (ls[i]).length = 0 ∧ c = 0) ∧ (ls[i]).length ≤ maxLen
theorem PartsIn.chg {D S : Nat → Prop} {w w' : World} {pa : Option Addr} {ls : List (List UInt8)} (h : PartsIn D w pa ls) (hc : Chg S w w') (hd : ∀ k, D k → ¬ S k) : PartsIn D w' pa ls := fun hp => by
  obtain ⟨b, o, h1, h2, h3, h4⟩ := h hp
  refine ⟨b, o, h1, h2, Nat.lt_of_lt_of_le h3 hc.size, fun i hi => ?_⟩
  obtain ⟨a, c, g1, g2, g3, g4⟩ := h4 i hi
  exact ⟨a, c, (World.cell?_of_block (a := ⟨b, o + i, none⟩) (hc.block b h3 (hd b h2))).trans g1, g2.chg hc hd, g3, g4⟩
theorem BIn.keep {D : Nat → Prop} {w w' : World} {a : Option Addr} {l : List UInt8} (h : BIn D w a l) (hb : Below w.heap.size w w') : BIn D w' a l :=
  h.chg (S := fun _ => False) (Chg.of_below hb) fun _ _ h => h
theorem PartsIn.keep {D : Nat → Prop} {w w' : World} {pa : Option Addr} {ls : List (List UInt8)} (h : PartsIn D w pa ls) (hb : Below w.heap.size w w') : PartsIn D w' pa ls :=
  h.chg (S := fun _ => False) (Chg.of_below hb) fun _ _ h => h
/-- How many bytes some parts have. -/
def total (ls : List (List UInt8)) : Nat := ls.flatten.length
theorem total_step (ls : List (List UInt8)) (k : Nat) (h : k < ls.length) : total (ls.take (k + 1)) = total (ls.take k) + (ls[k]).length := by
  unfold total; rw [List.take_succ_eq_append_getElem h, List.flatten_append, List.length_append]; simp only [List.flatten_cons, List.flatten_nil, List.append_nil]
theorem total_le (ls : List (List UInt8)) (k : Nat) : total (ls.take k) ≤ total ls := by
  unfold total
  have e : ls.flatten = (ls.take k).flatten ++ (ls.drop k).flatten := by rw [← List.flatten_append, List.take_append_drop]
  rw [e, List.length_append]; omega
/-- Is there room for so many more? -/
def fits (r n m : Nat) : Prop := m = 0 ∨ n + m ≤ r
instance (r n m : Nat) : Decidable (fits r n m) := by unfold fits; exact inferInstance
def writeErr (r n m : Nat) : Int := if fits r n m then 0 else 14

set_option maxHeartbeats 4000000 in
theorem write_refusal (D : Nat → Prop) (b : Nat) (v : Value) (r : Nat) (l : List UInt8) (hd : Nat) (fu : Int) (dn : Bool) (pa : Option Addr) (np pc : Nat) (ls : List (List UInt8)) (w : World) (h : Tat w b v r l hd fu dn)
    (hp : PartsIn D w pa ls) (hn : np = ls.length) (hm : np ≤ maxLen) :
    Calls Try.prog 62 #[.agg #[.slice pa np pc], .pointer (some ⟨b, 0, none⟩)] w fun e w' => e = .returned (.int .i64 (writeErr r l.length (total ls))) ∧ Below w.heap.size w w' := by
  unfold maxLen at hm
  have HP := Lib.hid hp; have HN := Lib.hid hn
  clear hp hn
  have hb2 := h.lt; have hr := h.room; have hL := h.len
  obtain ⟨a, c, hv, hlc, hcm, _, _⟩ := h.row.shape
  subst hv
  have c0 := h.c0; have c1 := h.c1
  clear h
  go_enter Try.func62, Try.ntmps62
  go_wp2
  go_quiet (fail)
  go_wp2
  have hbw : Below w.heap.size w ((w.alloc (.cells #[.slice pa np pc] 61)).drewN nq) := below_drewN ((Below.refl _ w).alloc (Nat.le_refl _) _) _
  go_loop [5, 21] (fun fv i => ∃ (k : Nat) (f : Int), k ≤ np ∧ i = .int .i64 k ∧ fv = .int .i64 f ∧ f = (r : Int) - l.length - total (ls.take k) ∧ fits r l.length (total (ls.take k))) (fun _ i => np - (intOf i).toNat)
  case atStart => exact ⟨0, _, Nat.zero_le _, rfl, rfl, by simp [total], .inl (by simp [total])⟩
  case round =>
    obtain ⟨k, f, hk, rfl, rfl, hf, hfit⟩ := hrel
    by_cases hlt : k < np
    · have hkl : k < ls.length := by rw [← HN.out]; exact hlt
      obtain ⟨pb, po, rfl, _, hpb, hcell⟩ := HP.out (by omega)
      obtain ⟨xa, xc, hx, _, _, hxm⟩ := hcell k hkl
      have hts := total_step ls k hkl
      have htl := total_le ls (k + 1)
      obtain ⟨m, hm2⟩ : ∃ m, (ls[k]).length = m := ⟨_, rfl⟩
      obtain ⟨F, hF⟩ : ∃ F, total (ls.take k) = F := ⟨_, rfl⟩
      obtain ⟨F1, hF1⟩ : ∃ F1, total (ls.take (k + 1)) = F1 := ⟨_, rfl⟩
      rw [hm2] at hx hxm
      rw [hm2, hF, hF1] at hts
      rw [hF] at hf hfit
      rw [hF1] at htl
      unfold maxLen at hxm
      have hx2 : ((w.alloc (.cells #[.slice (some ⟨pb, po, none⟩) np pc] 61)).drewN nq).cell? ⟨pb, po + k, none⟩ = some (.slice xa m xc) := (hbw.cell (p := ⟨pb, po + k, none⟩) hpb).trans hx
      have hcase : (f < 0 ∧ (m : Int) ≤ 0 ∧ fits r l.length F1) ∨ (f < 0 ∧ (0 : Int) < m ∧ ¬ fits r l.length F1) ∨ (0 ≤ f ∧ (m : Int) ≤ f ∧ fits r l.length F1) ∨ (0 ≤ f ∧ f < m ∧ ¬ fits r l.length F1) := by
        unfold fits at hfit ⊢; omega
      have f0 : -16777216 ≤ f ∧ f ≤ 16777216 := by unfold fits at hfit; omega
      obtain ⟨f01, f02⟩ := f0
      have G := Lib.hid (show (f - m = (r : Int) - l.length - F1) by omega)
      have HF1 := Lib.hid hF1
      have HTL := Lib.hid htl
      clear hf hfit hF hF1 hts htl hcell hx hm2
      rcases hcase with ⟨g1, g2, g3⟩ | ⟨g1, g2, g3⟩ | ⟨g1, g2, g3⟩ | ⟨g1, g2, g3⟩
      · have HFit := Lib.hid g3; clear g3
        go_wp2
        go_round
        case rel => exact ⟨k + 1, _, by omega, by go_num, rfl, by rw [HF1.out, G.out], by rw [HF1.out]; exact HFit.out⟩
        case measure => simp [intOf]; omega
      · have HFit := Lib.hid g3; clear g3
        go_wp2
        go_ret
        refine ⟨ret_int ?_, hbw⟩
        unfold writeErr
        rw [if_neg]
        intro hh
        apply HFit.out
        have := HTL.out
        unfold fits at hh ⊢
        omega
      · have HFit := Lib.hid g3; clear g3
        go_wp2
        go_round
        case rel => exact ⟨k + 1, _, by omega, by go_num, rfl, by rw [HF1.out, G.out], by rw [HF1.out]; exact HFit.out⟩
        case measure => simp [intOf]; omega
      · have HFit := Lib.hid g3; clear g3
        go_wp2
        go_ret
        refine ⟨ret_int ?_, hbw⟩
        unfold writeErr
        rw [if_neg]
        intro hh
        apply HFit.out
        have := HTL.out
        unfold fits at hh ⊢
        omega
    · have hk2 : k = ls.length := by rw [← HN.out]; omega
      have HK := Lib.hid hk2
      have HFit := Lib.hid hfit
      clear hf hfit hk2
      go_wp2
      go_ret
      refine ⟨ret_int ?_, hbw⟩
      have e := HFit.out
      rw [HK.out, List.take_length] at e
      unfold writeErr
      rw [if_pos e]
end Go.Proofs.Ytghncdoophoieaa
