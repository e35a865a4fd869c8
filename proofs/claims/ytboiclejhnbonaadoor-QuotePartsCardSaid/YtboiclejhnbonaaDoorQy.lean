/-
  Layer 3: writeForm and Quote of the program.
-/
import Derived.Test.YtboiclejhnbonaaDoorQx
import Derived.Test.YtboiclejhnbonaaDoorBs
import Derived.Test.YtboiclejhnbonaaDoorShelf
namespace Go.Proofs.YtboiclejhnbonaaDoor
open Go.RowKit
set_option linter.unusedVariables false
set_option linter.unusedSimpArgs false

abbrev Bu (B b : Nat) (l : List UInt8) (w : World) : Prop := Lib.IsBuilderF 43 5 B b (Lib.byteCells l) w
theorem Bu.lt {B b : Nat} {l : List UInt8} {w : World} (h : Bu B b l w) : b < w.heap.size := h.elim (fun x => x.lt) (fun x => x.lt)
theorem Bu.below {B b : Nat} {l : List UInt8} {w w' : World} (h : Bu B b l w) (hb : Below w.heap.size w w') : Bu B b l w' := by
  have key : ∀ p, Lib.BuilderAtF 43 5 B b p (Lib.byteCells l) w → Lib.BuilderAtF 43 5 B b p (Lib.byteCells l) w' := by
    intro p h
    have hlt := h.lt
    obtain ⟨hB, v, hv, hown, hne⟩ := h
    exact ⟨hB, v, (hb.block b hlt).trans hv, hown.kept (row := none) ⟨hb.os, hb.tape, hb.output, hb.size, fun k hk _ => hb.block k hk⟩ (Classical.em _), hne⟩
  exact h.elim (fun x => .inl (key _ x)) (fun x => .inr (key _ x))
theorem Bu.new (w : World) : Bu w.heap.size w.heap.size [] (w.alloc (.cells #[.pointer none, .slice none 0 0] 43)) :=
  Lib.IsBuilderF.of (Or.inl ⟨Nat.le_refl _, .slice none 0 0, heap_alloc_new _ _, World.ownsRow_nil _ _ _ _, by simp [Value.ownBlock]⟩)
/-- A byte more. -/
theorem Bu.byte {B b : Nat} {l : List UInt8} {w : World} (h : Bu B b l w) (hB : B ≤ w.heap.size) (hlen : l.length + 1 ≤ 140737488355328) (c : UInt8) (z : Int) (hz : z = (c.toNat : Int)) :
    Calls Tryd.prog 27 #[.pointer (some ⟨b, 0, none⟩), .int .u8 z] w fun e w' => e = .returned .nilIface ∧ Bu B b (l ++ [c]) w' ∧ Below B w w' ∧ Lib.OthersKept 5 (some b) w w' := by
  subst hz
  refine (Tryd.Builder_WriteByte_k B b _ _ _ h (by rw [Lib.byteCells_length]; exact hlen) hB).mono ?_
  rintro e w2 ⟨rfl, h2, b2, o2⟩
  exact ⟨rfl, by unfold Bu; rw [Lib.byteCells_append]; exact Or.inr h2, b2, o2⟩
theorem Bu.str {B b : Nat} {l : List UInt8} {w : World} (h : Bu B b l w) (hB : B ≤ w.heap.size) (s : List UInt8) (hlen : l.length + s.length ≤ 140737488355328) :
    Calls Tryd.prog 42 #[.pointer (some ⟨b, 0, none⟩), .string ⟨s.toArray⟩] w fun e w' => e = .returned (.tuple #[.int .i64 s.length, .nilIface]) ∧ Bu B b (l ++ s) w' ∧ Below B w w' ∧ Lib.OthersKept 5 (some b) w w' := by
  refine (Tryd.Builder_WriteString_k B b _ _ _ h (by rw [Lib.byteCells_length, size_toArray]; exact hlen) hB).mono ?_
  rintro e w2 ⟨rfl, h2, b2, o2⟩
  rw [Lib.strCells_eq] at h2
  exact ⟨by rw [size_toArray], by unfold Bu; rw [Lib.byteCells_append]; exact Or.inr h2, b2, o2⟩
theorem Bu.text {B b : Nat} {l : List UInt8} {w : World} (h : Bu B b l w) (hB : B ≤ w.heap.size) :
    Calls Tryd.prog 30 #[.pointer (some ⟨b, 0, none⟩)] w fun e w' => e = .returned (.string ⟨l.toArray⟩) ∧ Below B w w' := by
  refine (Tryd.Builder_String_any_k B b l _ h hB).mono ?_
  rintro e w2 ⟨rfl, _, b2, _⟩
  exact ⟨rfl, b2⟩

/-- What a form written leaves. -/
def Wrote (B b : Nat) (l : List UInt8) (w : World) (e : Ending) (w' : World) : Prop := e = .returned (.tuple #[]) ∧ Bu B b l w' ∧ Below B w w' ∧ Lib.OthersKept 5 (some b) w w'

set_option maxHeartbeats 8000000 in
set_option maxRecDepth 100000 in
theorem writeForm_is (B b : Nat) (l : List UInt8) (c : UInt8) (w : World) (h : Bu B b l w) (hB : B ≤ w.heap.size) (hlen : l.length + 4 ≤ 140737488355328) :
    Calls Tryd.prog 28 #[.pointer (some ⟨b, 0, none⟩), .int .u8 c.toNat] w fun e w' => Wrote B b (l ++ oneL c) w e w' := by
  have hc : c.toNat < 256 := c.toNat_lt
  unfold oneL
  by_cases h1 : c.toNat = 34
  · rw [if_pos h1]
    have f1 : ((c.toNat : Int) == 34) = true := by simp [h1]
    have e1 : c = 34 := UInt8.toNat_inj.1 h1
    have E1 := Lib.hid e1
    clear h1 e1
    go_enter Tryd.func28, Tryd.ntmps28
    go_wp2_with fail
    refine (h.byte hB (by omega) 92 _ (by rfl)).mono ?_
    rintro e w1 ⟨rfl, i1, b1, o1⟩
    go_wp2_with fail
    refine (i1.byte (Nat.le_trans hB b1.size) (by simp; omega) c _ (by rfl)).mono ?_
    rintro e w2 ⟨rfl, i2, b2, o2⟩
    go_wp2
    go_end0
    exact ⟨rfl, by rw [E1.out, List.append_assoc] at i2; exact i2, b1.trans b2, o1.trans o2⟩
  rw [if_neg h1]
  have f1 : ((c.toNat : Int) == 34) = false := by simp; omega
  by_cases h2 : c.toNat = 92
  · rw [if_pos h2]
    have f2 : ((c.toNat : Int) == 92) = true := by simp [h2]
    have e1 : c = 92 := UInt8.toNat_inj.1 h2
    have E1 := Lib.hid e1
    clear h1 h2 e1
    go_enter Tryd.func28, Tryd.ntmps28
    go_wp2_with fail
    refine (h.byte hB (by omega) 92 _ (by rfl)).mono ?_
    rintro e w1 ⟨rfl, i1, b1, o1⟩
    go_wp2_with fail
    refine (i1.byte (Nat.le_trans hB b1.size) (by simp; omega) c _ (by rfl)).mono ?_
    rintro e w2 ⟨rfl, i2, b2, o2⟩
    go_wp2
    go_end0
    exact ⟨rfl, by rw [E1.out, List.append_assoc] at i2; exact i2, b1.trans b2, o1.trans o2⟩
  rw [if_neg h2]
  have f2 : ((c.toNat : Int) == 92) = false := by simp; omega
  by_cases h3 : c.toNat = 10
  · rw [if_pos h3]
    have f3 : ((c.toNat : Int) == 10) = true := by simp [h3]
    clear h1 h2 h3
    go_enter Tryd.func28, Tryd.ntmps28
    go_wp2_with fail
    refine (h.str hB [92, 110] (by simp; omega)).mono ?_
    rintro e w1 ⟨rfl, i1, b1, o1⟩
    go_wp2
    go_end0
    exact ⟨rfl, i1, b1, o1⟩
  rw [if_neg h3]
  have f3 : ((c.toNat : Int) == 10) = false := by simp; omega
  by_cases h4 : c.toNat = 9
  · rw [if_pos h4]
    have f4 : ((c.toNat : Int) == 9) = true := by simp [h4]
    clear h1 h2 h3 h4
    go_enter Tryd.func28, Tryd.ntmps28
    go_wp2_with fail
    refine (h.str hB [92, 116] (by simp; omega)).mono ?_
    rintro e w1 ⟨rfl, i1, b1, o1⟩
    go_wp2
    go_end0
    exact ⟨rfl, i1, b1, o1⟩
  rw [if_neg h4]
  have f4 : ((c.toNat : Int) == 9) = false := by simp; omega
  by_cases h5 : c.toNat < 32 ∨ 127 ≤ c.toNat
  · rw [if_pos h5]
    have a1 := and7 ⟨c.toNat / 8, by omega⟩
    have a2 := and7 ⟨c.toNat, by omega⟩
    simp only at a1 a2
    have z1 : (UInt8.ofNat (48 + c.toNat / 64)).toNat = 48 + c.toNat / 64 := by rw [UInt8.toNat_ofNat']; omega
    have z2 : (UInt8.ofNat (48 + c.toNat / 8 % 8)).toNat = 48 + c.toNat / 8 % 8 := by rw [UInt8.toNat_ofNat']; omega
    have z3 : (UInt8.ofNat (48 + c.toNat % 8)).toNat = 48 + c.toNat % 8 := by rw [UInt8.toNat_ofNat']; omega
    have Z1 := Lib.hid z1
    have Z2 := Lib.hid z2
    have Z3 := Lib.hid z3
    clear z1 z2 z3
    by_cases h6 : c.toNat < 32
    · go_enter Tryd.func28, Tryd.ntmps28
      go_wp2_with fail
      refine (h.byte hB (by omega) 92 _ (by rfl)).mono ?_
      rintro e w1 ⟨rfl, i1, b1, o1⟩
      go_wp2_with fail
      refine (i1.byte (Nat.le_trans hB b1.size) (by simp; omega) (UInt8.ofNat (48 + c.toNat / 64)) _ (by rw [Z1.out]; omega)).mono ?_
      rintro e w2 ⟨rfl, i2, b2, o2⟩
      have b12 := b1.trans b2
      go_wp2_with fail
      refine (i2.byte (Nat.le_trans hB b12.size) (by simp; omega) (UInt8.ofNat (48 + c.toNat / 8 % 8)) _ (by rw [Z2.out]; omega)).mono ?_
      rintro e w3 ⟨rfl, i3, b3, o3⟩
      have b13 := b12.trans b3
      go_wp2_with fail
      refine (i3.byte (Nat.le_trans hB b13.size) (by simp; omega) (UInt8.ofNat (48 + c.toNat % 8)) _ (by rw [Z3.out]; omega)).mono ?_
      rintro e w4 ⟨rfl, i4, b4, o4⟩
      go_wp2
      go_end0
      exact ⟨rfl, by unfold octL; simpa only [List.append_assoc, List.cons_append, List.nil_append] using i4, b13.trans b4, ((o1.trans o2).trans o3).trans o4⟩
    · have h7 : 127 ≤ c.toNat := by omega
      go_enter Tryd.func28, Tryd.ntmps28
      go_wp2_with fail
      refine (h.byte hB (by omega) 92 _ (by rfl)).mono ?_
      rintro e w1 ⟨rfl, i1, b1, o1⟩
      go_wp2_with fail
      refine (i1.byte (Nat.le_trans hB b1.size) (by simp; omega) (UInt8.ofNat (48 + c.toNat / 64)) _ (by rw [Z1.out]; omega)).mono ?_
      rintro e w2 ⟨rfl, i2, b2, o2⟩
      have b12 := b1.trans b2
      go_wp2_with fail
      refine (i2.byte (Nat.le_trans hB b12.size) (by simp; omega) (UInt8.ofNat (48 + c.toNat / 8 % 8)) _ (by rw [Z2.out]; omega)).mono ?_
      rintro e w3 ⟨rfl, i3, b3, o3⟩
      have b13 := b12.trans b3
      go_wp2_with fail
      refine (i3.byte (Nat.le_trans hB b13.size) (by simp; omega) (UInt8.ofNat (48 + c.toNat % 8)) _ (by rw [Z3.out]; omega)).mono ?_
      rintro e w4 ⟨rfl, i4, b4, o4⟩
      go_wp2
      go_end0
      exact ⟨rfl, by unfold octL; simpa only [List.append_assoc, List.cons_append, List.nil_append] using i4, b13.trans b4, ((o1.trans o2).trans o3).trans o4⟩
  · rw [if_neg h5]
    have h6 : ¬ c.toNat < 32 := by omega
    have h7 : ¬ 127 ≤ c.toNat := by omega
    clear h5
    go_enter Tryd.func28, Tryd.ntmps28
    go_wp2_with fail
    refine (h.byte hB (by omega) c _ (by rfl)).mono ?_
    rintro e w1 ⟨rfl, i1, b1, o1⟩
    go_wp2
    go_end0
    exact ⟨rfl, i1, b1, o1⟩
end Go.Proofs.YtboiclejhnbonaaDoor
