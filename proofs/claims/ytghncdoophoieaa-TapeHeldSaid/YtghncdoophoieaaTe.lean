/-
  Layer 4: what each operation leaves; the other refusals.
-/
import Derived.Test.YtghncdoophoieaaTd
namespace Go.Proofs.Ytghncdoophoieaa
open Go.RowKit
set_option linter.unusedVariables false

/-- The block that a row writes into is the old one, none, or new. -/
def Fresh (w : World) (v v' : Value) : Prop := ∀ g, foot v' = some g → foot v = some g ∨ w.heap.size ≤ g
theorem Fresh.refl (w : World) (v : Value) : Fresh w v v := fun _ h => .inl h
set_option maxHeartbeats 4000000 in
theorem write_result (D : Nat → Prop) (v : Value) (l : List UInt8) (pa : Option Addr) (np pc : Nat) (ls : List (List UInt8)) (w : World) (hr : Row w v l)
    (hp : PartsIn D w pa ls) (hn : np = ls.length) (hm : np ≤ maxLen) (hD : ∀ k, D k → foot v ≠ some k ∧ k < w.heap.size) (hb : l.length + total ls ≤ 1099511627776) :
    Calls Try.prog 63 #[.agg #[.slice pa np pc], v] w fun e w' => ∃ v', e = .returned v' ∧ Row w' v' (l ++ ls.flatten) ∧ Fresh w v v' ∧ Chg (fun k => foot v = some k) w w' := by
  unfold maxLen at hm
  have HP := Lib.hid hp; have HN := Lib.hid hn; have HD := Lib.hid hD; have HR := Lib.hid hr
  clear hp hn hD hr
  go_enter Try.func63, Try.ntmps63
  go_wp2
  have hbw : Below w.heap.size w (w.alloc (.cells #[.slice pa np pc] 61)) := (Below.refl _ w).alloc (Nat.le_refl _) _
  go_loopw [1, 10] (fun bv i wr => ∃ (k : Nat), k ≤ np ∧ i = .int .i64 k ∧ Row wr bv (l ++ (ls.take k).flatten) ∧ Fresh w v bv ∧ Chg (fun k => foot v = some k) w wr) (fun _ i _ => np - (intOf i).toNat)
  case atStart => exact ⟨0, Nat.zero_le _, rfl, by simpa using HR.out.keep (fun g hg => hbw.block g (HR.out.lt g hg)), Fresh.refl _ _, Chg.of_below hbw⟩
  case round =>
    obtain ⟨k, hk, rfl, hrow, hfr, hch⟩ := hrel
    have HROW := Lib.hid hrow; have HFR := Lib.hid hfr; have HCH := Lib.hid hch
    clear hrow hfr hch
    by_cases hlt : k < np
    · have hkl : k < ls.length := by rw [← HN.out]; exact hlt
      have hin := HP.out.chg HCH.out (fun k hd => (HD.out k hd).1)
      obtain ⟨pb, po, rfl, hDb, hpb, hcell⟩ := hin (by omega)
      obtain ⟨xa, xc, hx, hxb, hxn, hxm⟩ := hcell k hkl
      have hts := total_step ls k hkl
      have htl := total_le ls (k + 1)
      have hadd : (l ++ (ls.take k).flatten).length + (ls[k]).length ≤ 1099511627776 := by
        rw [List.length_append]; show l.length + total (ls.take k) + _ ≤ _; omega
      have HXB := Lib.hid hxb.bat; have HXN := Lib.hid hxn; have HADD := Lib.hid hadd
      clear hin hcell hxb hxn hts htl hadd
      go_wp2_with (first
        | (at_builtin; refine wpList_append_row rfl (.tmp 14) (.tmp 15) rfl u1 rfl (l ++ (ls.take k).flatten) (ls[k]) HROW.out xa (ls[k]).length xc rfl HXB.out rfl HXN.out HADD.out ?_; intro v' w' hap)
        | fail)
      obtain ⟨h1, h2, h3⟩ := hap
      have e : l ++ (ls.take k).flatten ++ ls[k] = l ++ (ls.take (k + 1)).flatten := by
        rw [List.take_succ_eq_append_getElem hkl, List.flatten_append, List.append_assoc]; simp
      rw [e] at h1
      have hc2 : Chg (fun k => foot v = some k) w w' := HCH.out.grown h2 (fun j hj hlt2 => by
        rcases HFR.out j hj with h | h
        · exact h
        · omega)
      have hf2 : Fresh w v v' := fun g hg => by
        rcases h3 with h3 | h3 | h3
        · rw [h3] at hg; exact HFR.out g hg
        · rw [h3] at hg; cases hg
        · rw [h3] at hg; cases hg; exact .inr HCH.out.size
      have H1 := Lib.hid (And.intro h1 (And.intro hf2 hc2))
      clear h1 h2 h3 e hc2 hf2
      go_wp2
      go_roundw
      case rel => exact ⟨k + 1, by omega, by go_num, H1.out⟩
      case measure => simp [intOf]; omega
    · have hk2 : k = ls.length := by rw [← HN.out]; omega
      have HK := Lib.hid hk2
      clear hk2
      go_wp2
      go_ret
      have e := HROW.out
      rw [HK.out, List.take_length] at e
      exact ⟨_, rfl, e, HFR.out, HCH.out⟩
set_option maxHeartbeats 1000000 in
theorem hold_refusal (b : Nat) (w : World) :
    Calls Try.prog 64 #[.agg #[], .pointer (some ⟨b, 0, none⟩)] w fun e w' => e = .returned (.int .i64 0) ∧ Below w.heap.size w w' := by
  go_enter Try.func64, Try.ntmps64
  go_wp2
  go_ret
  exact ⟨rfl, (Below.refl _ w).alloc (Nat.le_refl _) _⟩
set_option maxHeartbeats 1000000 in
theorem hold_result (v : Value) (w : World) :
    Calls Try.prog 65 #[.agg #[], v] w fun e w' => e = .returned v ∧ Below w.heap.size w w' := by
  go_enter Try.func65, Try.ntmps65
  go_wp2
  go_ret
  exact ⟨rfl, (Below.refl _ w).alloc (Nat.le_refl _) _⟩
def cutErr (n : Nat) (k : Int) : Int := if k < 0 ∨ (n : Int) < k then 1 else 0
set_option maxHeartbeats 2000000 in
theorem cut_refusal (b : Nat) (a : Option Addr) (c : Nat) (n : Nat) (k : Int) (w : World) (hL : n ≤ 16777216) (hb2 : b < w.heap.size) (c1 : w.cell? ⟨b, 1, none⟩ = some (.slice a n c)) :
    Calls Try.prog 68 #[.agg #[.int .i64 k], .pointer (some ⟨b, 0, none⟩)] w fun e w' => e = .returned (.int .i64 (cutErr n k)) ∧ Below w.heap.size w w' := by
  by_cases h0 : k < 0
  · have e : cutErr n k = 1 := by unfold cutErr; rw [if_pos (.inl h0)]
    rw [e]
    go_enter Try.func68, Try.ntmps68
    go_wp2
    go_quiet (fail)
    go_wp2
    go_ret
    exact ⟨rfl, below_drewN ((Below.refl _ w).alloc (Nat.le_refl _) _) _⟩
  · have h1 : 0 ≤ k := by omega
    have h2 : decide (k < 0) = false := by simpa using h0
    by_cases h3 : (n : Int) < k
    · have e : cutErr n k = 1 := by unfold cutErr; rw [if_pos (.inr h3)]
      rw [e]
      go_enter Try.func68, Try.ntmps68
      go_wp2
      go_quiet (fail)
      go_wp2
      go_ret
      exact ⟨rfl, below_drewN ((Below.refl _ w).alloc (Nat.le_refl _) _) _⟩
    · have e : cutErr n k = 0 := by unfold cutErr; rw [if_neg (by omega)]
      have h4 : k ≤ n := by omega
      have h5 : decide ((n : Int) < k) = false := by simpa using h3
      rw [e]
      go_enter Try.func68, Try.ntmps68
      go_wp2
      go_quiet (fail)
      go_wp2
      go_ret
      exact ⟨rfl, below_drewN ((Below.refl _ w).alloc (Nat.le_refl _) _) _⟩
set_option maxHeartbeats 1000000 in
theorem cut_result (a : Option Addr) (n c q : Nat) (k : Int) (hk : k = q) (hq : q ≤ c) (w : World) :
    Calls Try.prog 69 #[.agg #[.int .i64 k], .slice a n c] w fun e w' => e = .returned (.slice a q c) ∧ Below w.heap.size w w' := by
  have hsl := fun u => slice_head a n c q k hk hq u
  clear hk
  go_enter Try.func69, Try.ntmps69
  go_wp2
  go_ret
  exact ⟨rfl, (Below.refl _ w).alloc (Nat.le_refl _) _⟩
def swapErr (r n : Nat) : Int := if r < n then 14 else 0
set_option maxHeartbeats 2000000 in
theorem swap_refusal (b : Nat) (a : Option Addr) (c n r : Nat) (w : World) (hn : n ≤ maxLen) (hb2 : b < w.heap.size) (c0 : w.cell? ⟨b, 0, none⟩ = some (.int .i64 r)) :
    Calls Try.prog 66 #[.agg #[.slice a n c], .pointer (some ⟨b, 0, none⟩)] w fun e w' => e = .returned (.int .i64 (swapErr r n)) ∧ Below w.heap.size w w' := by
  unfold maxLen at hn
  by_cases h3 : r < n
  · have e : swapErr r n = 14 := by unfold swapErr; rw [if_pos h3]
    rw [e]
    go_enter Try.func66, Try.ntmps66
    go_wp2
    go_quiet (fail)
    go_wp2
    go_ret
    exact ⟨rfl, below_drewN ((Below.refl _ w).alloc (Nat.le_refl _) _) _⟩
  · have e : swapErr r n = 0 := by unfold swapErr; rw [if_neg h3]
    have h4 : n ≤ r := by omega
    rw [e]
    go_enter Try.func66, Try.ntmps66
    go_wp2
    go_quiet (fail)
    go_wp2
    go_ret
    exact ⟨rfl, below_drewN ((Below.refl _ w).alloc (Nat.le_refl _) _) _⟩
set_option maxHeartbeats 1000000 in
theorem swap_result (a : Option Addr) (n c : Nat) (m : List UInt8) (v : Value) (w : World) (hb : BAt w a m) (hn : n = m.length) (hno : a = none → n = 0 ∧ c = 0) (hl : m.length ≤ 1099511627776) :
    Calls Try.prog 67 #[.agg #[.slice a n c], v] w fun e w' => ∃ v', e = .returned v' ∧ Row w' v' m ∧ (∀ g, foot v' = some g → w.heap.size ≤ g) ∧ Below w.heap.size w w' := by
  have C := Lib.hid (Clone_any (.slice a n c) m (w.alloc (.cells #[.slice a n c] 65)) a n c rfl (hb.keep ((Below.refl _ w).alloc (Nat.le_refl _) _)) hn hno hl)
  clear hb hno hn
  go_enter Try.func67, Try.ntmps67
  go_wp2_with fail
  refine C.out.mono ?_
  rintro e w1 ⟨v', rfl, h1, h2, h3⟩
  have H := Lib.hid (And.intro h1 h2)
  have hb : Below w.heap.size w w1 := ((Below.refl _ w).alloc (Nat.le_refl _) _).trans (h3.mono (by simp))
  clear h1 h2 h3
  go_wp2
  go_ret
  exact ⟨_, rfl, H.out.1, fun g hg => by have := H.out.2 g hg; simp at this; omega, hb⟩
end Go.Proofs.Ytghncdoophoieaa
