/-
  Layer 12, the program: marks; two rows of numbers held against each other.
-/
import Derived.Test.YtajmgjhknmkfpaaUd
import Derived.Laws.OwnMore
namespace Go.Proofs.Ytajmgjhknmkfpaa
set_option maxRecDepth 20000
open Go.RowKit
set_option linter.unusedVariables false
set_option linter.unusedSimpArgs false

/-- Marks in a block of their own. -/
def MarksAt (w : World) (m n : Nat) (s : List Bool) : Prop := s.length = n ∧ OwnR rowB 0 (.slice (some ⟨m, 0, none⟩) n n) s w
theorem flatB (s : List Bool) : rowB.flat s = s.map (fun b => Value.bool b) := by
  unfold RowT.flat
  induction s with
  | nil => rfl
  | cons b r ih => rw [List.flatMap_cons, ih]; rfl
theorem flatB_set (s : List Bool) (p : Nat) (b : Bool) : (rowB.flat s).set p (.bool b) = rowB.flat (s.set p b) := by rw [flatB, flatB, List.map_set]
theorem MarksAt.lt {w : World} {m n : Nat} {s : List Bool} (h : MarksAt w m n s) : m < w.heap.size := (ownR_lt h.2 m rfl).2
theorem MarksAt.keep {w u : World} {m n : Nat} {s : List Bool} (h : MarksAt w m n s) (hb : u.heap[m]? = w.heap[m]?) : MarksAt u m n s := ⟨h.1, ownR_same h.2 (fun g hg => by cases hg; exact hb)⟩
theorem MarksAt.below {w u : World} {m n : Nat} {s : List Bool} (h : MarksAt w m n s) (hb : Below w.heap.size w u) : MarksAt u m n s := h.keep (hb.block m h.lt)
theorem MarksAt.cell {w : World} {m n : Nat} {s : List Bool} (h : MarksAt w m n s) {p : Nat} (hp : p < n) : w.cell? ⟨m, p, none⟩ = some (.bool (onG s p)) := by
  have h2 := h.2
  unfold OwnR at h2
  rw [h.1] at h2
  rw [h2.cellAt p (by show p < n * 1; omega), flatB]
  have hp2 : p < s.length := by rw [h.1]; exact hp
  simp [onG, List.getD_eq_getElem?_getD, hp2]
theorem MarksAt.frozen {w : World} {m n : Nat} {s : List Bool} (h : MarksAt w m n s) (p : Nat) : w.frozen? ⟨m, p, none⟩ = false := by
  have h2 := h.2
  unfold OwnR at h2
  rw [h.1] at h2
  exact h2.frozenAt p
theorem MarksAt.set {w : World} {m n : Nat} {s : List Bool} (h : MarksAt w m n s) (p : Nat) (b : Bool) : MarksAt (w.setCell ⟨m, p, none⟩ (.bool b)) m n (s.set p b) := by
  have h2 := h.2
  unfold OwnR at h2
  rw [h.1] at h2
  have h3 := (h2.stored p (.bool b)).1
  rw [flatB_set] at h3
  refine ⟨by rw [List.length_set]; exact h.1, ?_⟩
  unfold OwnR
  rw [List.length_set, h.1]
  exact h3
theorem rowN_cell {w : World} {b o : Nat} {l : List Nat} (h : RowAt rowN w (some ⟨b, o, none⟩) l) (k : Nat) (hk : k < l.length) : w.cell? ⟨b, o + k, none⟩ = some (.int .i64 ((l[k] : Nat) : Int)) := by
  have := h.elem k hk 0 (.int .i64 ((l[k] : Nat) : Int)) rfl
  rw [show o + k * rowN.size + 0 = o + k from by show o + k * 1 + 0 = o + k; omega] at this
  exact this
set_option maxHeartbeats 4000000 in
theorem markP_is {w : World} {m n : Nat} {s : List Bool} (h : MarksAt w m n s) (hn : n ≤ 1000000) (pv : Value) (l : List Nat) (hr : RedR rowN (fun k => k ≠ m) w pv l) (hl : ∀ p ∈ l, p < n) (hll : l.length ≤ 1000000) :
    Calls Try.prog 40 #[.slice (some ⟨m, 0, none⟩) n n, pv] w fun e w' => e = .returned (.tuple #[]) ∧ MarksAt w' m n (markL s l) ∧ Chg (fun k => k = m) w w' := by
  obtain ⟨a, c, rfl, hrow, hno, hc, hcm, hS⟩ := hr
  obtain ⟨t, ht⟩ : ∃ t, l.length = t := ⟨_, rfl⟩
  have HROW := Lib.hid hrow; have HS := Lib.hid hS; have HLl := Lib.hid hl; have HT := Lib.hid ht; have HM := Lib.hid h
  rw [ht] at hno hc hll ⊢
  clear hrow hS hl ht h
  go_enter Try.func40, Try.ntmps40
  go_wp2_with fail
  go_loopw [8] (fun i wr => ∃ k : Nat, k ≤ t ∧ i = .int .i64 k ∧ MarksAt wr m n (markL s (l.take k)) ∧ Chg (fun k => k = m) w wr) (fun i _ => t - (intOf i).toNat)
  case atStart => exact ⟨0, Nat.zero_le _, rfl, HM.out, Chg.refl _ _⟩
  case round =>
    clear HM
    obtain ⟨k, hk, rfl, hm, hch⟩ := hrel
    have HM := Lib.hid hm; have HCH := Lib.hid hch
    by_cases hlt : k < t
    · obtain ⟨b, o, rfl, hb⟩ := HROW.out.some (by rw [HT.out]; omega)
      have hkl : k < l.length := by rw [HT.out]; exact hlt
      obtain ⟨p, hp⟩ : ∃ p, l[k] = p := ⟨_, rfl⟩
      have hpn : p < n := HLl.out p (by rw [← hp]; exact List.getElem_mem _)
      have hne : b ≠ m := HS.out _ (by omega) rfl
      have c0 := rowN_cell HROW.out k hkl
      rw [hp] at c0
      have c1 : wr.cell? ⟨b, o + k, none⟩ = some (.int .i64 p) := (World.cell?_of_block (hch.block b hb hne)).trans c0
      have c2 := hm.cell hpn
      have f2 := hm.frozen p
      have g1 : (p : Int) < (n : Int) := by omega
      have HP := Lib.hid hp
      clear c0 hm hch hp
      go_wp2
      go_roundw
      case rel =>
        refine ⟨k + 1, by omega, by go_num, ?_, HCH.out.setCell _ (fun _ => rfl) _⟩
        rw [List.take_add_one, List.getElem?_eq_getElem hkl, HP.out, Option.toList_some, markL_snoc]
        exact HM.out.set p true
      case measure => simp [intOf]; omega
    · obtain rfl : k = t := by omega
      have HM2 := Lib.hid (show MarksAt wr m n (markL s l) by have := HM.out; rwa [List.take_of_length_le (by rw [HT.out]; exact Nat.le_refl _)] at this)
      clear hm hch
      go_wp2
      first | go_end0 | (simp only [Exit.inBlock, Exit.then]; refine bodyPost_ret (results_none rfl _ _ _) rfl ?_) | refine bodyPost_ret (results_none rfl _ _ _) rfl ?_
      exact ⟨rfl, HM2.out, HCH.out⟩
end Go.Proofs.Ytajmgjhknmkfpaa
