/-
  Texts that belong together, one behind the other.
-/
import Derived.Test.YtgbmbemmkadagaaFu07
import Derived.IntWalk
import Derived.WalkSmall
import Derived.OwnWalk
import Derived.Laws.OwnMore
import Derived.Test.YtgbmbemmkadagaaFu09
import Derived.Lib.Hide
import Derived.StillTailTactics
import Derived.RegionTactic
/-
  A copy of bytes with three bytes of room behind it, as Own leaves it (cut out of Own).
-/
namespace Go.Proofs.Ytgbmbemmkadagaa
set_option maxRecDepth 20000
open Go.RowKit
set_option linter.unusedVariables false

/-- What Own leaves: the copy, and its room, in a block of its own. -/
def OwnAt (w : World) (g : Nat) (l : List UInt8) (f : Int) : Prop :=
  w.ownsRow g 5 1 (.slice (some ⟨g, 0, none⟩) (l.length + 3) (l.length + 3)) (l.length + 3) (Lib.byteCells l ++ List.replicate 3 (.int .u8 f))
theorem OwnAt.keep {w w' : World} {g : Nat} {l : List UInt8} {f : Int} (h : OwnAt w g l f) (hb : Below w.heap.size w w') : OwnAt w' g l f := own_keep h hb
theorem OwnAt.lt {w : World} {g : Nat} {l : List UInt8} {f : Int} (h : OwnAt w g l f) : g < w.heap.size := own_lt h
theorem OwnAt.bat {w : World} {g : Nat} {l : List UInt8} {f : Int} (h : OwnAt w g l f) : BAt w (some ⟨g, 0, none⟩) l := fun hp =>
  ⟨g, 0, rfl, own_lt h, fun i hi => by
    rw [Nat.zero_add, h.cellAt i (by omega), List.getElem?_append_left (by simpa [Lib.byteCells] using hi), byteCells_at]
    simp [hi]⟩
theorem OwnAt.room {w : World} {g : Nat} {l : List UInt8} {f : Int} (h : OwnAt w g l f) (i : Nat) (h0 : l.length ≤ i) (h1 : i < l.length + 3) : w.cell? ⟨g, i, none⟩ = some (.int .u8 f) := by
  have e : (Lib.byteCells l).length = l.length := by simp [Lib.byteCells]
  rw [h.cellAt i (by omega), List.getElem?_append_right (by omega), e, List.getElem?_replicate, if_pos (by omega)]

theorem BAt.cells {w : World} {a : Option Addr} {l : List UInt8} (h : BAt w a l) (ad : Addr) (had : a = some ad) (j : Nat) (u : Value) (hj : (Lib.byteCells l)[j]? = some u) : w.cell? (ad.add j) = some u := by
  have hlt : j < l.length := by
    rcases Nat.lt_or_ge j l.length with h' | h'
    · exact h'
    · rw [byteCells_at, List.getElem?_eq_none h'] at hj; cases hj
  obtain ⟨b, o, e, _, hc⟩ := h (by omega)
  rw [had] at e
  cases e
  rw [show (⟨b, o, none⟩ : Addr).add j = ⟨b, o + j, none⟩ by unfold Addr.add; split <;> simp_all, hc j hlt]
  rw [byteCells_at, List.getElem?_eq_getElem hlt] at hj
  simpa using hj

end Go.Proofs.Ytgbmbemmkadagaa

/-
  'b[:k]' of a slice of bytes; CopyBytes of the helpers.
-/
namespace Go.Proofs.Ytgbmbemmkadagaa
open Go.RowKit
set_option linter.unusedVariables false

theorem elem_bytes : Try.prog.underlying 32 = some (.slice (Try.prog.elem 32)) := by kernel_rfl
theorem slice_head (a : Option Addr) (n c k : Nat) (x : Int) (hx : x = k) (hk : k ≤ c) (u : World) :
    (Instr.sliceAt 32 (.slice a n c) none (some (.int .i64 x)) none).run Try.prog u = .ok (.slice a k c) u := by
  subst hx
  obtain ⟨i, hi, hz, hs, hby⟩ := info_parts info_u8
  have e : Try.prog.elem 32 = 5 := by kernel_rfl
  rw [run_sliceAt_slice (h := elem_bytes), run_slice_h (ht := elem_bytes) (h0 := by omega) (h2 := by omega)]
  rw [e]
  simp [sizeOf, typeInfo, hi, hs, Result.andThen, sliced]
  cases a with
  | none => simp
  | some a => simp [Addr.add]
set_option maxHeartbeats 1000000 in
theorem CopyBytes_any (l : List UInt8) (w : World) (a : Option Addr) (n c : Nat) (hb : BAt w a l) (hn : n = l.length) (hno : a = none → n = 0 ∧ c = 0) (hl : l.length ≤ 1099511627776) :
    Calls Try.prog 24 #[.slice a n c] w fun e w' => ∃ v', e = .returned v' ∧ Row w' v' l ∧ (∀ g, foot v' = some g → w.heap.size ≤ g) ∧ Below w.heap.size w w' := by
  subst hn
  have HB := Lib.hid hb; have HNO := Lib.hid hno
  clear hb hno
  go_enter Try.func24, Try.ntmps24
  go_wp2_with (first
    | (at_builtin; refine wpList_append_row rfl (.const (.slice none 0 0)) (.tmp 3) rfl (.slice none 0 0) rfl [] l (Row.nil _ _) a l.length c rfl HB.out rfl HNO.out (by simpa using hl) ?_; intro v' w' hap)
    | fail)
  obtain ⟨h1, h2, h3⟩ := hap
  have H1 := Lib.hid h1
  have hb2 : Below w.heap.size w w' := (Below.refl _ w).grown h2 (Nat.le_refl _) (fun k hk => by cases hk)
  have hf : ∀ g, foot v' = some g → w.heap.size ≤ g := fun g hg => by
    rcases h3 with h3 | h3 | h3
    · rw [h3] at hg; cases hg
    · rw [h3] at hg; cases hg
    · rw [h3] at hg; cases hg; exact Nat.le_refl _
  have HF := Lib.hid hf
  clear h1 h2 h3 hf
  go_wp2
  go_ret
  exact ⟨_, rfl, by simpa using H1.out, HF.out, hb2⟩
/-- A copy of Own's is a row. -/
theorem OwnAt.row {w : World} {g : Nat} {l : List UInt8} {f : Int} (h : OwnAt w g l f) : Row w (.slice (some ⟨g, 0, none⟩) l.length (l.length + 3)) l := by
  rcases h.2 with ⟨h', _⟩ | ⟨g', cap', cur, h', hb, hg, hnc, hcm, hcs, htake⟩
  · simp at h'
  · simp only [Value.slice.injEq, Option.some.injEq, Addr.mk.injEq, and_true, true_and] at h'
    obtain ⟨rfl, rfl⟩ := h'
    refine .inr ⟨g, l.length + 2, cur, rfl, hg, by omega, hcm, by omega, ?_⟩
    have e := congrArg (List.take l.length) htake
    rw [List.take_take, Nat.min_eq_left (by omega)] at e
    rw [e, List.take_left' (byteCells_len l)]
end Go.Proofs.Ytgbmbemmkadagaa
