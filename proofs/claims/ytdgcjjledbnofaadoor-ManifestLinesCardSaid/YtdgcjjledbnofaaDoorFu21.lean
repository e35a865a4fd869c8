/-
  Texts that belong together, one behind the other.
-/
import Derived.Test.YtdgcjjledbnofaaDoorFu16
import Derived.Test.YtdgcjjledbnofaaDoorFu18
import Derived.Deep.MidRow
import Derived.Laws.CopyRow
import Derived.Laws.ResultCell
import Derived.BigFrame
import Derived.Test.YtdgcjjledbnofaaDoorFu01
import Derived.Deep.RegionLaw
import Derived.Test.YtdgcjjledbnofaaDoorFu17
import Derived.Test.YtdgcjjledbnofaaDoorFu07
import Derived.Test.YtdgcjjledbnofaaDoorFu20
import Derived.Test.YtdgcjjledbnofaaDoorFu13
import Derived.Lib.OthersKept
/-
  Cut of Yl: cells of bytes, a load of cells from the middle of a block.
-/
namespace Go.Proofs.YtdgcjjledbnofaaDoor
set_option maxRecDepth 20000
open Go.RowKit
set_option linter.unusedVariables false
set_option linter.unusedSimpArgs false

theorem slice20_all (u : World) (g k : Nat) : (Instr.sliceAt 26 (.pointer (some ⟨g, k, none⟩)) none none none).run Tryd.prog u = .ok (.slice (some ⟨g, k, none⟩) 20 20) u := by
  have ea : Tryd.prog.arrayLen 26 = 20 := by kernel_rfl
  have ee : Tryd.prog.elem 26 = 5 := by kernel_rfl
  rw [run_sliceAt_array_all u 26 ⟨g, k, none⟩ (by rw [ea, ee]; exact Tryd.underlying26), ea, ee, Tryd.sizeOf5]
  simp [Result.andThen, slicedAt, Addr.add]
theorem bc_take (l : List UInt8) (n : Nat) : Lib.byteCells (l.take n) = (Lib.byteCells l).take n := by simp [Lib.byteCells]
theorem bc_one (l : List UInt8) : ∀ v ∈ Lib.byteCells l, v.oneCell' = true := by
  intro v hv
  simp only [Lib.byteCells, List.mem_map] at hv
  obtain ⟨b, _, rfl⟩ := hv
  rfl
/-- A load of many cells out of the middle of a block, under a guard that holds. -/
theorem wpList_load_midW {ops : Array Oper} {rest : List Oper} {op : Oper} {a : Act} {w : World} {Q : Exit → Act → World → Prop} (ty : TypeId) (x : Operand) (ho : op.op = .load ty x) (hw : Region.wanted op (yielded ops a.tmps) = true)
    (b o : Nat) (hx : a.eval x = .pointer (some ⟨b, o, none⟩)) (cs : List Value) (d : TypeDesc) (hc : w.rangeAt b o cs)
    (hu : Tryd.prog.underlying ty = some d) (hd : d.isRow = true) (hi : (Tryd.prog.info? ty).map (·.size) = some cs.length)
    (h : wpList Tryd.prog ops Q rest (a.put op.dst (.agg cs.toArray)) w) : wpList Tryd.prog ops Q (op :: rest) a w :=
  Go.BigFrame.wpList_want hw fun _ hK => wp_load_mid ty x ho b o hx cs d hc hu hd hi (hK _ _ h)
end Go.Proofs.YtdgcjjledbnofaaDoor

/-
  A region that draws its order, cut off from what follows: what holds behind it is said once, however many orders there are.
-/
namespace Go.Proofs.YtdgcjjledbnofaaDoor
open Go.RowKit

/-- Behind a region that ends. -/
def OnlyNormal (R : Act → World → Prop) : Exit → Act → World → Prop
  | .normal, a, w => R a w
  | _, _, _ => False
theorem region_cut {P : Program} {id : Nat} {ops : Array Oper} {b : Bool} {Q : Exit → Act → World → Prop} {a : Act} {w : World} (R : Act → Act → World → Prop)
    (h : (Code.region id ops b).wp P (OnlyNormal (R a)) a w) (h2 : ∀ a' u, R a a' u → Q .normal a' u) : (Code.region id ops b).wp P Q a w :=
  Code.wp_mono (fun e a' u hr => by cases e <;> first | exact h2 _ _ hr | exact (hr : False).elim) h
end Go.Proofs.YtdgcjjledbnofaaDoor

/-
  Layer 13, the program: is one of the paths a directory of that path? What a file alone must be.
-/
namespace Go.Proofs.YtdgcjjledbnofaaDoor
set_option maxRecDepth 20000
open Go.RowKit Go.Maps
set_option linter.unusedVariables false
set_option linter.unusedSimpArgs false

def hitF (D : DataW Unit) (p : List UInt8) (i : Nat) : Bool := p.getD i 0 == 47 && Maps.has D (.string (p.take i))
def belowF (D : DataW Unit) (p : List UInt8) : Bool := (List.range p.length).any (hitF D p)
theorem belowF_yes {D : DataW Unit} {p : List UInt8} (i : Nat) (hi : i < p.length) (h : hitF D p i = true) : belowF D p = true := by
  unfold belowF
  rw [List.any_eq_true]
  exact ⟨i, List.mem_range.2 hi, h⟩
theorem belowF_no {D : DataW Unit} {p : List UInt8} (h : ∀ i, i < p.length → hitF D p i = false) : belowF D p = false := by
  unfold belowF
  rw [List.any_eq_false]
  intro i hi
  rw [h i (List.mem_range.1 hi)]
  decide
theorem hit_here {D : DataW Unit} {p : List UInt8} {i : Nat} (h : p.getD i 0 = 47) : hitF D p i = Maps.has D (.string (p.take i)) := by unfold hitF; rw [h]; rfl
theorem hit_not {D : DataW Unit} {p : List UInt8} {i : Nat} (h : p.getD i 0 ≠ 47) : hitF D p i = false := by unfold hitF; rw [beq_false_of_ne h]; rfl
set_option maxHeartbeats 8000000 in
theorem below_is (l : List UInt8) (w : World) (hn : l.length ≤ 1000000) (B m : Nat) (D : DataW Unit) (hm : w.ownsMap Tryd.prog 9 unitElem B m D) (hB : B < w.heap.size) :
    Calls Tryd.prog 44 #[.string ⟨l.toArray⟩, .map (some B)] w fun e w' => e = .returned (.bool (belowF D l)) ∧ Below w.heap.size w w' := by
  have YES := Lib.hid (fun i hi h => @belowF_yes D l i hi h)
  have NO := Lib.hid (fun h => @belowF_no D l h)
  have GO := Lib.hid (fun i k r h hr ha => @seek_go l 47 (by decide) i k r h hr ha)
  have ST := Lib.hid (fun i k r h hr => @seek_stop l 47 (by decide) i k r h hr)
  have EX := Lib.hid (fun i => ext_take l i)
  have RI := Lib.hid (fun i hlt => rune_int l i hlt)
  have SZ := Lib.hid (size_toArray l)
  have KY := Lib.hid (fun i => (WideMaps.keyOf_string_mk Tryd.underlying9 (by rw [size_toArray]; simp only [List.length_take]; unfold maxLen; omega) : keyOf Tryd.prog 9 (.string ⟨(l.take i).toArray⟩) = some (.string (l.take i))))
  have MP := Lib.hid (fun u (hu : Below w.heap.size w u) => map_below hm hu)
  have HN := Lib.hid hn
  obtain ⟨R, hR⟩ : ∃ R, belowF D l = R := ⟨_, rfl⟩
  rw [hR] at YES NO ⊢
  clear hR hm hn
  obtain ⟨s, hs⟩ : ∃ s : ByteArray, (⟨l.toArray⟩ : ByteArray) = s := ⟨_, rfl⟩
  rw [hs] at SZ EX RI ⊢
  have hsz := SZ.out
  clear hs
  go_enter Tryd.func44, Tryd.ntmps44
  go_wp2_with fail
  go_loopw [5, 6] (fun _ _ wr => ∃ i : Nat, i ≤ l.length ∧ wr.heap[w.heap.size]? = some (.stringIter s i) ∧ Below w.heap.size w wr ∧ ∀ j, j < i → hitF D l j = false) (fun _ _ wr => l.length - wr.iterPos w.heap.size)
  case atStart => exact ⟨0, Nat.zero_le _, World.iter_heap w s 0, (Below.refl _ _).alloc (Nat.le_refl _) _, fun j h => absurd h (Nat.not_lt_zero _)⟩
  case round =>
    obtain ⟨i, hi, hit, hbr, hall⟩ := hrel
    have HALL := Lib.hid hall; clear hall
    by_cases hlt : i < l.length
    · have hnx := fun ty => Lib.run_next_any_at (P := Tryd.prog) wr w.heap.size s i ty hit (by omega)
      obtain ⟨r, k, hr, hk, hr0, hr1, hk1, hkl, hw⟩ := RI.out i hlt
      rw [← hr, ← hk] at hnx
      have HW := Lib.hid hw
      have HPOS := Lib.hid (show wr.iterPos w.heap.size = i by simp [World.iterPos, hit])
      clear hr hk hw
      have hit2 := Lib.iterAt_heap wr w.heap.size s i (i + k) hit
      have hbr2 := Lib.below_iterAt hbr (k := w.heap.size) (Nat.le_refl _) s (i + k)
      generalize wr.iterAt w.heap.size s (i + k) = w3 at hnx hit2 hbr2
      clear hit hbr
      have HIT2 := Lib.hid hit2
      have HBR2 := Lib.hid hbr2
      clear hit2 hbr2
      by_cases c1 : r = 47
      · have f1 : (r != 47) = false := by simp [c1]
        have at47 := ST.out i k r HW.out (by rw [c1]; rfl)
        have HH := Lib.hid (hit_here (D := D) at47)
        have K1 := Lib.hid (show k = 1 by rcases HW.out with ⟨_, _, h⟩ | ⟨h, _, _⟩ <;> omega)
        have hky := KY.out i
        rw [← EX.out i] at hky
        have HK := Lib.hid hky
        obtain ⟨ht, hht⟩ : ∃ ht, Maps.has D (.string (l.take i)) = ht := ⟨_, rfl⟩
        have HHT := Lib.hid hht
        have HHI := Lib.hid (HH.out.trans hht)
        have HOU := Lib.hid (MP.out _ HBR2.out)
        clear hky hht at47
        cases ht with
        | true =>
          have hR : true = R := (YES.out i hlt HHI.out).symm
          subst hR
          go_wp2_with (first
            | (at_lookup; refine wpList_lookup_own_unit _ rfl _ _ 73 rfl 9 76 keyLaw Tryd.underlying73 (zero_unit _) B m _ rfl HOU.out _ _ rfl HK.out ?_; rw [HHT.out])
            | fail)
          go_ret
          exact ⟨rfl, HBR2.out.alloc HBR2.out.size _⟩
        | false =>
          have u1 := (Below.refl w3.heap.size w3).alloc (Nat.le_refl _) (.cells #[] 76)
          have hit4 := (u1.block w.heap.size (lt_of_heap HIT2.out)).trans HIT2.out
          have HIT4 := Lib.hid hit4
          have HBV := Lib.hid (HBR2.out.trans (u1.mono HBR2.out.size))
          clear u1 hit4
          go_wp2_with (first
            | (at_lookup; refine wpList_lookup_own_unit _ rfl _ _ 73 rfl 9 76 keyLaw Tryd.underlying73 (zero_unit _) B m _ rfl HOU.out _ _ rfl HK.out ?_; rw [HHT.out])
            | fail)
          go_roundw
          case rel => exact ⟨i + k, hkl, HIT4.out, HBV.out, fun j hj => by
            by_cases hji : j < i
            · exact HALL.out j hji
            · obtain rfl : j = i := by have := K1.out; omega
              exact HHI.out⟩
          case measure =>
            rw [HPOS.out, show World.iterPos _ w.heap.size = i + k by simp [World.iterPos, HIT4.out]]
            omega
      · have f1 : (r != 47) = true := by simp [c1]
        have nx := GO.out i k r HW.out (by intro e; exact c1 e)
        have NX := Lib.hid (show ∀ j, j < i + k → hitF D l j = false from fun j hj => by
          by_cases hji : j < i
          · exact HALL.out j hji
          · refine hit_not ?_
            rcases HW.out with ⟨h1, h2, h3⟩ | ⟨h1, h2, h3⟩
            · obtain rfl : j = i := by omega
              intro e
              rw [e] at h2
              exact c1 h2
            · intro e
              have := h3 j (by omega) hj
              rw [e] at this
              exact absurd this (by decide))
        clear c1 nx
        go_wp2
        go_roundw
        case rel => exact ⟨i + k, hkl, HIT2.out, HBR2.out, NX.out⟩
        case measure =>
          rw [HPOS.out, show World.iterPos _ w.heap.size = i + k by simp [World.iterPos, HIT2.out]]
          omega
    · obtain rfl : i = l.length := by omega
      have hnx := fun ty => Lib.run_next_end_at (P := Tryd.prog) wr w.heap.size s l.length ty hit (by omega)
      have hs := NO.out HALL.out
      subst hs
      have HBR := Lib.hid hbr
      clear hbr
      go_wp2
      go_ret
      exact ⟨rfl, HBR.out⟩
end Go.Proofs.YtdgcjjledbnofaaDoor
