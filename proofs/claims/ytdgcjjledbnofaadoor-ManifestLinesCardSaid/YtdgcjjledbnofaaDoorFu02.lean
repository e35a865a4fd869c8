/-
  Texts that belong together, one behind the other.
-/
import Derived.Test.YtdgcjjledbnofaaDoorFu01
import Derived.IntWalk
import Derived.WalkSmall
import Derived.OwnWalk
import Derived.Laws.OwnMore
/-
  Rows of bytes that a call has made itself.
-/
namespace Go.Proofs.YtdgcjjledbnofaaDoor
open Go.RowKit
set_option linter.unusedVariables false

theorem info5 : (Tryd.prog.info? 5).map (fun i => (i.zero, i.size, i.bytes)) = some (some (.int .u8 0), 1, 1) := by kernel_rfl

theorem own_full {w : World} {base : Nat} {e : TypeId} {g n cap : Nat} {xs : List Value} (h : w.ownsRow base e 1 (.slice (some ⟨g, 0, none⟩) n cap) n xs) :
    ∃ ys, w.ownsRow base e 1 (.slice (some ⟨g, 0, none⟩) cap cap) cap ys ∧ ys.take n = xs := by
  rcases h.2 with ⟨h', _⟩ | ⟨g', cap', cur, h', hb, hg, hnc, hcm, hcs, htake⟩
  · simp at h'
  · simp only [Value.slice.injEq, Option.some.injEq, Addr.mk.injEq, and_true, true_and] at h'
    obtain ⟨rfl, rfl⟩ := h'
    refine ⟨cur.toList, ⟨by simpa using hcs, .inr ⟨g, cap, cur, rfl, hb, hg, Nat.le_refl _, hcm, hcs, List.take_of_length_le (by rw [Array.length_toList, hcs]; exact Nat.le_refl _)⟩⟩, by simpa using htake⟩
theorem own_len {w : World} {base : Nat} {e : TypeId} {g n cap : Nat} {xs : List Value} (h : w.ownsRow base e 1 (.slice (some ⟨g, 0, none⟩) n cap) n xs) : xs.length = n := by simpa using h.1
theorem own_cell {w : World} {base : Nat} {e : TypeId} {g n cap : Nat} {xs : List Value} (h : w.ownsRow base e 1 (.slice (some ⟨g, 0, none⟩) n cap) n xs) (j : Nat) (hj : j < n) : ∃ y, w.cell? ⟨g, j, none⟩ = some y := by
  have hl := own_len h
  exact ⟨xs[j], by rw [h.cellAt j (by omega), List.getElem?_eq_getElem]⟩
theorem own_lt {w : World} {base : Nat} {e : TypeId} {g n cap : Nat} {xs : List Value} (h : w.ownsRow base e 1 (.slice (some ⟨g, 0, none⟩) n cap) n xs) : g < w.heap.size := by
  rcases h.2 with ⟨h', _⟩ | ⟨g', cap', cur, h', hb, hg, hnc, hcm, hcs, htake⟩
  · simp at h'
  · simp only [Value.slice.injEq, Option.some.injEq, Addr.mk.injEq, and_true, true_and] at h'
    obtain ⟨rfl, rfl⟩ := h'
    rcases Nat.lt_or_ge g w.heap.size with h' | h'
    · exact h'
    · simp [Array.getElem?_eq_none h'] at hg

theorem own_keep {w w' : World} {base : Nat} {e : TypeId} {g n cap : Nat} {xs : List Value} (h : w.ownsRow base e 1 (.slice (some ⟨g, 0, none⟩) n cap) n xs) (hb : Below w.heap.size w w') :
    w'.ownsRow base e 1 (.slice (some ⟨g, 0, none⟩) n cap) n xs := by
  have hlt := own_lt h
  refine ⟨h.1, ?_⟩
  rcases h.2 with ⟨h', _⟩ | ⟨g', cap', cur, h', hb', hg, r⟩
  · simp at h'
  · refine .inr ⟨g', cap', cur, h', hb', ?_, r⟩
    simp only [Value.slice.injEq, Option.some.injEq, Addr.mk.injEq, and_true, true_and] at h'
    obtain ⟨rfl, rfl⟩ := h'
    exact (hb.block g hlt).trans hg

theorem own_block {w : World} {base : Nat} {e : TypeId} {v : Value} {n : Nat} {xs : List Value} (h : w.ownsRow base e 1 v n xs) (k : Nat) (hk : v.ownBlock = some k) : base ≤ k := by
  rcases h.2 with ⟨rfl, _⟩ | ⟨g, cap, cur, rfl, hb, _⟩
  · cases hk
  · cases hk; exact hb

/-- The bytes as cells. -/
theorem byteCells_at (l : List UInt8) (i : Nat) : (Lib.byteCells l)[i]? = (l[i]?).map fun c => Value.int .u8 c.toNat := by simp [Lib.byteCells]

theorem own_bat {w : World} {base : Nat} {e : TypeId} {g cap : Nat} {l : List UInt8} (h : w.ownsRow base e 1 (.slice (some ⟨g, 0, none⟩) l.length cap) l.length (Lib.byteCells l)) : BAt w (some ⟨g, 0, none⟩) l := fun hp =>
  ⟨g, 0, rfl, own_lt h, fun i hi => by
    rw [Nat.zero_add, h.cellAt i (by omega), byteCells_at]
    simp [hi]⟩
end Go.Proofs.YtdgcjjledbnofaaDoor

/-
  A copy of bytes with three bytes of room behind it, as Own leaves it (cut out of Own).
-/
namespace Go.Proofs.YtdgcjjledbnofaaDoor
set_option maxRecDepth 20000
open Go.RowKit
set_option linter.unusedVariables false

/-- What Own leaves: the copy, and its room, in a block of its own. -/
def OwnAt (w : World) (g : Nat) (l : List UInt8) (f : Int) : Prop :=
  w.ownsRow g 5 1 (.slice (some ⟨g, 0, none⟩) (l.length + 3) (l.length + 3)) (l.length + 3) (Lib.byteCells l ++ List.replicate 3 (.int .u8 f))
theorem OwnAt.keep {w w' : World} {g : Nat} {l : List UInt8} {f : Int} (h : OwnAt w g l f) (hb : Below w.heap.size w w') : OwnAt w' g l f := own_keep h hb
theorem OwnAt.lt {w : World} {g : Nat} {l : List UInt8} {f : Int} (h : OwnAt w g l f) : g < w.heap.size := own_lt h
theorem OwnAt.bat {w : World} {g : Nat} {l : List UInt8} {f : Int} (h : OwnAt w g l f) : BAt w (some ⟨g, 0, none⟩) l := fun hp =>
  ⟨g, 0, rfl, own_lt h, fun i hi => by
    rw [Nat.zero_add, h.cellAt i (by omega), List.getElem?_append_left (by simpa [Lib.byteCells] using hi), byteCells_at]
    simp [hi]⟩
theorem OwnAt.room {w : World} {g : Nat} {l : List UInt8} {f : Int} (h : OwnAt w g l f) (i : Nat) (h0 : l.length ≤ i) (h1 : i < l.length + 3) : w.cell? ⟨g, i, none⟩ = some (.int .u8 f) := by
  have e : (Lib.byteCells l).length = l.length := by simp [Lib.byteCells]
  rw [h.cellAt i (by omega), List.getElem?_append_right (by omega), e, List.getElem?_replicate, if_pos (by omega)]

theorem BAt.cells {w : World} {a : Option Addr} {l : List UInt8} (h : BAt w a l) (ad : Addr) (had : a = some ad) (j : Nat) (u : Value) (hj : (Lib.byteCells l)[j]? = some u) : w.cell? (ad.add j) = some u := by
  have hlt : j < l.length := by
    rcases Nat.lt_or_ge j l.length with h' | h'
    · exact h'
    · rw [byteCells_at, List.getElem?_eq_none h'] at hj; cases hj
  obtain ⟨b, o, e, _, hc⟩ := h (by omega)
  rw [had] at e
  cases e
  rw [show (⟨b, o, none⟩ : Addr).add j = ⟨b, o + j, none⟩ by unfold Addr.add; split <;> simp_all, hc j hlt]
  rw [byteCells_at, List.getElem?_eq_getElem hlt] at hj
  simpa using hj

end Go.Proofs.YtdgcjjledbnofaaDoor

/-
  The helper Own of the statements, over bytes: a copy with three bytes of room behind it.
-/
namespace Go.Proofs.YtdgcjjledbnofaaDoor
set_option maxRecDepth 20000
open Go.RowKit
set_option linter.unusedVariables false

set_option maxHeartbeats 1000000 in
theorem Own_core (ao : Option Addr) (c : Nat) (l : List UInt8) (f : Int) (w : World)
    (hnone : ao = none → l.length = 0 ∧ c = 0) (hcells : ∀ w', Below w.heap.size w w' → ∀ ad, ao = some ad → ∀ j u, (Lib.byteCells l)[j]? = some u → w'.cell? (ad.add j) = some u) (hn : l.length ≤ 1099511627776) :
    Calls Tryd.prog 8 #[.slice ao l.length c, .int .u8 f] w fun e w' => e = .returned (.slice (some ⟨w.heap.size, 0, none⟩) l.length (l.length + 3)) ∧
      w'.ownsRow w.heap.size 5 1 (.slice (some ⟨w.heap.size, 0, none⟩) (l.length + 3) (l.length + 3)) (l.length + 3) (Lib.byteCells l ++ List.replicate 3 (.int .u8 f)) ∧ Below w.heap.size w w' := by
  obtain ⟨i0, hi, hz0, hz1, hz2⟩ := info_parts info5
  have HC := Lib.hid hcells; clear hcells
  have HN := Lib.hid hnone; clear hnone
  have hbl : (Lib.byteCells l).length = l.length := by simp [Lib.byteCells]
  have HBL := Lib.hid hbl; clear hbl
  go_enter Tryd.func8, Tryd.ntmps8
  go_wp2_with (at_make; refine wpList_make_own _ rfl _ _ 23 rfl w.heap.size 5 i0 (.int .u8 0) 1 Tryd.underlying23 hi hz0 hz1 _ _ _ (l.length + 3) rfl rfl (by omega) ?b2 ?b3 (Nat.le_refl _) ?_)
  case b2 => rw [hz2]; omega
  case b3 => unfold maxLen; omega
  intro w0 hown0 hgrow0
  have hb0 : Below w.heap.size w w0 := (Below.refl _ _).grown hgrow0 (Nat.le_refl _) (fun k h => by cases h)
  have HC0 := Lib.hid (HC.out w0 hb0)
  go_wp2_with (at_builtin; refine wpList_append_fits_any _ rfl _ _ 23 rfl w.heap.size 5 i0 1 Tryd.underlying23 hi hz1 w.heap.size 0 (l.length + 3) _ rfl hown0 ao l.length c (Lib.byteCells l) rfl ?c1 ?c2 ?c3 ?c4 ?c5 ?_)
  case c1 => rw [HBL.out]; omega
  case c2 => exact HN.out
  case c3 => exact HC0.out
  case c4 => intro u hu; simp [Lib.byteCells] at hu; obtain ⟨x, _, rfl⟩ := hu; rfl
  case c5 => omega
  intro w1 hown1 hgrow1
  have hb1 : Below w.heap.size w w1 := hb0.grown hgrow1 hb0.size (fun k hk => by cases hk; exact Nat.le_refl _)
  clear hown0 hgrow0 hgrow1 HC0 hb0
  have hown2 : w1.ownsRow w.heap.size 5 1 (.slice (some ⟨w.heap.size, 0, none⟩) l.length (l.length + 3)) l.length (Lib.byteCells l) := by simpa using hown1
  obtain ⟨ys, hown, hys⟩ := own_full hown2
  clear hown2
  clear hown1
  have HY := Lib.hid hys; clear hys
  go_wp2_with fail
  go_loopw [7] (fun i wr => ∃ (k : Nat) (ys : List Value), l.length ≤ k ∧ k ≤ l.length + 3 ∧ i = .int .i64 k ∧ wr.ownsRow w.heap.size 5 1 (.slice (some ⟨w.heap.size, 0, none⟩) (l.length + 3) (l.length + 3)) (l.length + 3) ys ∧
      ys.take k = Lib.byteCells l ++ List.replicate (k - l.length) (.int .u8 f) ∧ Below w.heap.size w wr) (fun i _ => l.length + 3 - (intOf i).toNat)
  case atStart => exact ⟨l.length, ys, Nat.le_refl _, by omega, rfl, hown, by rw [HY.out]; simp, hb1⟩
  case round =>
    clear hown hb1 HY
    obtain ⟨k, ys, hk0, hk, rfl, hown, hys, hbr⟩ := hrel
    have HY := Lib.hid hys; clear hys
    by_cases hlt : k < l.length + 3
    · obtain ⟨y, hy⟩ := own_cell hown k hlt
      have hfz := hown.frozenAt k
      obtain ⟨hst, hgr⟩ := hown.stored k (.int .u8 f)
      have hlen := own_len hown
      have HL := Lib.hid hlen; clear hlen
      have HS := Lib.hid hst; clear hst
      have HG := Lib.hid hgr; clear hgr
      go_wp2
      go_roundw
      case rel =>
        refine ⟨k + 1, ys.set k (.int .u8 f), by omega, by omega, by go_num, HS.out, ?_, hbr.grown HG.out hbr.size (fun k hk => by cases hk; exact Nat.le_refl _)⟩
        have hl := HL.out
        rw [List.take_succ_eq_append_getElem (by simp; omega), List.take_set_of_le (Nat.le_refl _), HY.out, show k + 1 - l.length = (k - l.length) + 1 by omega, List.replicate_succ', List.append_assoc]
        simp
      case measure => simp [intOf]; omega
    · obtain rfl : k = l.length + 3 := by omega
      go_wp2
      go_ret
      have hl := own_len hown
      have e := HY.out
      rw [List.take_of_length_le (by omega), show l.length + 3 - l.length = 3 by omega] at e
      rw [e] at hown
      exact ⟨rfl, hown, hbr⟩

theorem Own_any (a : Option Addr) (n c : Nat) (l : List UInt8) (f : Int) (w : World) (h : BAt w a l) (hnone : a = none → n = 0 ∧ c = 0) (hl : n = l.length) (hn : l.length ≤ 1099511627776) :
    Calls Tryd.prog 8 #[.slice a n c, .int .u8 f] w fun e w' => e = .returned (.slice (some ⟨w.heap.size, 0, none⟩) l.length (l.length + 3)) ∧ OwnAt w' w.heap.size l f ∧ Below w.heap.size w w' := by
  subst hl
  exact Own_core a c l f w hnone (fun w' hb => (h.keep hb).cells) hn
end Go.Proofs.YtdgcjjledbnofaaDoor
