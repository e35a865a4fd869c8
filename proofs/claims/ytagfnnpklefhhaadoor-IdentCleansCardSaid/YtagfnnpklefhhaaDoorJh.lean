/-
  Layer 6: parts and Parse of the program.
-/
import Derived.Test.YtagfnnpklefhhaaDoorJg
import Derived.Test.YtagfnnpklefhhaaDoorJb
import Derived.Test.YtagfnnpklefhhaaDoorHma
import Derived.Laws.CopyOwn
import Derived.Laws.ResultCell
namespace Go.Proofs.YtagfnnpklefhhaaDoor
open Go.RowKit
set_option linter.unusedVariables false
set_option linter.unusedSimpArgs false

/-- What layer 6 reads of the world where it parses. -/
structure T7 (w : World) : Prop where
  t6 : T6 w
  zon : ZTab w
  max : ∃ m : Int, w.cell? ⟨3, 0, none⟩ = some (.int .i64 m)
theorem T7.keep {w w' : World} (h : T7 w) (hb : Below w.heap.size w w') : T7 w' := by
  obtain ⟨m, hm⟩ := h.max
  exact ⟨h.t6.keep hb, h.zon.keep hb, m, (hb.cell (p := ⟨3, 0, none⟩) (World.block_lt_of_cell? w _ hm)).trans hm⟩
theorem Cut_is (l sep : List UInt8) (hn : l.length ≤ 1000000) (w : World) (tab : T7 w) :
    Calls Tryd.prog 36 #[.string ⟨l.toArray⟩, .string ⟨sep.toArray⟩] w fun e w' => e = .returned (.tuple #[.string ⟨(Lib.cut l sep).1.toArray⟩, .string ⟨(Lib.cut l sep).2.1.toArray⟩, .bool (Lib.cut l sep).2.2]) ∧ Below w.heap.size w w' := by
  obtain ⟨m, hm⟩ := tab.max
  refine (Tryd.strings_Cut ⟨l.toArray⟩ ⟨sep.toArray⟩ m w (by rw [size_toArray]; omega) hm).mono ?_
  rintro e w' ⟨rfl, n, rfl⟩
  exact ⟨rfl, below_drewN (Below.refl _ _) n⟩
theorem cut_len (l sep : List UInt8) : (Lib.cut l sep).1.length ≤ l.length ∧ (Lib.cut l sep).2.1.length ≤ l.length := by
  unfold Lib.cut
  split
  · simp only [List.length_take, List.length_drop]; omega
  · simp
def zeroI : Idt := ⟨[], [], 0, 0⟩
abbrev id0 : Array Value := #[.string ⟨#[]⟩, .string ⟨#[]⟩, .int .i64 0, .int .i64 0]
theorem infoId : (Tryd.prog.info? 23).map (·.size) = some 4 := by kernel_rfl
theorem infoId4 (a b c d : Value) : (Tryd.prog.info? 23).map (·.size) = some (#[a, b, c, d] : Array Value).size := infoId
theorem sizeId4 (a b c d e f g h : Value) : (#[a, b, c, d] : Array Value).size = (#[e, f, g, h] : Array Value).size := rfl
theorem one_id0 : id0.all (·.oneCell') = true := by kernel_rfl
theorem results_idt {fn : Func} (h : fn.results = #[.cell 2 23, .tmp 3]) (tmps : Array Value) (w : World) (g : Nat) (cs : Array Value) (fr : Nat × Nat) (x : Value)
    (hp : tmps.getD 2 undef = .pointer (some ⟨g, 0, none⟩)) (hx : tmps.getD 3 undef = x) (hg : w.heap[g]? = some (.cells cs 23 fr)) (hn : cs.size = 4) :
    (results fn tmps).run Tryd.prog w = .ok (.tuple #[.agg cs, x]) w := by
  rw [results_cell_tmp h, hp, hx]
  have e : (asAddr (.pointer (some ⟨g, 0, none⟩))).run Tryd.prog w = .ok ⟨g, 0, none⟩ w := rfl
  rw [e]
  simp only [Result.andThen_ok]
  rw [run_loadVar_row w g 23 23 cs fr _ hg Tryd.underlying23 rfl (by rw [infoId, hn])]
  rfl
/-- The parts, from what was cut. -/
def partsG (f1 f2 f3 : Bool) (a1 a2 a3 b3 : List UInt8) : Option Idt :=
  if f1 = true ∧ f2 = true ∧ f3 = true then
    match takeN a3 with
    | none => none
    | some v => match zoneR b3 with
      | none => none
      | some z => some ⟨Lib.trimSuffix a1 [32], a2, v, z⟩
  else none
def optV (o : Option Idt) : Value := match o with
  | none => .tuple #[.agg id0, .bool false]
  | some i => .tuple #[idtV i, .bool true]
theorem tv_none {l : List UInt8} (h : takeN l = none) : ((tv l).2 == 0) = false ∧ ((tv l).2 != 0) = true := by
  unfold tv
  split
  · decide
  · rw [h]; decide
theorem tv_some {l : List UInt8} {v : Int} (h : takeN l = some v) : tv l = (v, 0) := by
  unfold tv
  split
  · rename_i e; subst e; cases h
  · rw [h]

set_option maxHeartbeats 16000000 in
set_option maxRecDepth 100000 in
theorem parts_is (l : List UInt8) (hn : l.length ≤ 1000000) (w : World) (tab : T7 w) :
    Calls Tryd.prog 19 #[.string ⟨l.toArray⟩] w fun e w' => e = .returned (optV (partsL takeN l)) ∧ Below w.heap.size w w' := by
  have c1 := fun w t => Cut_is l [60] hn w t
  have n1 := (cut_len l [60]).2
  have c2 := fun w t => Cut_is (Lib.cut l [60]).2.1 [62, 32] (by omega) w t
  have n2 := (cut_len (Lib.cut l [60]).2.1 [62, 32]).2
  have c3 := fun w t => Cut_is (Lib.cut (Lib.cut l [60]).2.1 [62, 32]).2.1 [32] (by omega) w t
  have n3 := cut_len (Lib.cut (Lib.cut l [60]).2.1 [62, 32]).2.1 [32]
  have n0 := (cut_len l [60]).1
  have E : partsL takeN l = partsG (Lib.cut l [60]).2.2 (Lib.cut (Lib.cut l [60]).2.1 [62, 32]).2.2 (Lib.cut (Lib.cut (Lib.cut l [60]).2.1 [62, 32]).2.1 [32]).2.2 (Lib.cut l [60]).1 (Lib.cut (Lib.cut l [60]).2.1 [62, 32]).1 (Lib.cut (Lib.cut (Lib.cut l [60]).2.1 [62, 32]).2.1 [32]).1 (Lib.cut (Lib.cut (Lib.cut l [60]).2.1 [62, 32]).2.1 [32]).2.1 := rfl
  rw [E]
  clear E
  generalize Lib.cut (Lib.cut (Lib.cut l [60]).2.1 [62, 32]).2.1 [32] = p3 at c3 n3 ⊢
  generalize Lib.cut (Lib.cut l [60]).2.1 [62, 32] = p2 at c2 n2 c3 n3 ⊢
  generalize Lib.cut l [60] = p1 at *
  obtain ⟨a1, b1, f1⟩ := p1
  obtain ⟨a2, b2, f2⟩ := p2
  obtain ⟨a3, b3, f3⟩ := p3
  simp only at c1 c2 c3 n0 n1 n2 n3 ⊢
  have cT := fun w => Take_all a3 (by omega) w
  have cZ := fun w t => Zone_is b3 (by omega) w t
  have cS := fun w => Tryd.strings_TrimSuffix ⟨a1.toArray⟩ ⟨[32].toArray⟩ w (by rw [size_toArray]; omega)
  have eS : Lib.trimSuffix (⟨a1.toArray⟩ : ByteArray).data.toList (⟨[32].toArray⟩ : ByteArray).data.toList = Lib.trimSuffix a1 [32] := rfl
  rw [eS] at cS
  obtain ⟨R, hR⟩ : ∃ R, R = optV (partsG f1 f2 f3 a1 a2 a3 b3) := ⟨_, rfl⟩
  rw [← hR]
  have HR := Lib.hid hR
  clear hR
  generalize (⟨l.toArray⟩ : ByteArray) = sl at c1 ⊢
  generalize (⟨a1.toArray⟩ : ByteArray) = sa1 at c1 cS
  generalize (⟨b1.toArray⟩ : ByteArray) = sb1 at c1 c2
  generalize (⟨b2.toArray⟩ : ByteArray) = sb2 at c2 c3
  have B0 := Lib.hid ((Below.refl w.heap.size w).alloc (Nat.le_refl _) (.cells id0 23))
  have T0 := Lib.hid (tab.keep B0.out)
  have N0 := Lib.hid (heap_alloc_new w (.cells id0 23))
  have S0 := Lib.hid (show (w.alloc (.cells id0 23)).heap.size = w.heap.size + 1 by simp)
  clear tab n0 n1 n2 n3 hn eS
  go_enter Tryd.func19, Tryd.ntmps19
  go_wp2_with fail
  refine (c1 _ T0.out).mono ?_
  rintro e w1 ⟨rfl, d1⟩
  have T1 := Lib.hid (T0.out.keep d1)
  go_wp2_with fail
  refine (c2 _ T1.out).mono ?_
  rintro e w2 ⟨rfl, d2⟩
  have T2 := Lib.hid (T1.out.keep d2)
  go_wp2_with fail
  refine (c3 _ T2.out).mono ?_
  rintro e w3 ⟨rfl, d3⟩
  have T3 := Lib.hid (T2.out.keep d3)
  have d13 := (d1.trans (d2.mono d1.size)).trans (d3.mono (d1.trans (d2.mono d1.size)).size)
  have D3 := Lib.hid (B0.out.trans (d13.mono B0.out.size))
  have N3 := Lib.hid ((d13.block w.heap.size (by rw [S0.out]; omega)).trans N0.out)
  have G3 := Lib.hid (show w.heap.size < w3.heap.size by have := d13.size; rw [S0.out] at this; omega)
  clear c1 c2 c3 d1 d2 d3 d13 T0 T1 T2 S0 N0 B0
  cases f1 with
  | false =>
    have HV := Lib.hid (show R = .tuple #[.agg id0, .bool false] by rw [HR.out]; rfl)
    go_wp2_with (first
      | (with_reducible refine wpList_store_row rfl 23 _ _ rfl w.heap.size id0 rfl rfl 23 id0 N3.out (infoId4 _ _ _ _) (sizeId4 _ _ _ _ _ _ _ _) one_id0 ?_)
      | fail)
    refine bodyPost_ret (results_idt Tryd.results19 _ _ w.heap.size id0 (0, 0) _ rfl rfl (setRow_heap _ w.heap.size id0 id0 _ (0, 0) N3.out) rfl) rfl ⟨by rw [HV.out]; rfl, below_setRow D3.out (Nat.le_refl _) _⟩
  | true =>
    cases f2 with
    | false =>
      have HV := Lib.hid (show R = .tuple #[.agg id0, .bool false] by rw [HR.out]; rfl)
      go_wp2_with (first
        | (with_reducible refine wpList_store_row rfl 23 _ _ rfl w.heap.size id0 rfl rfl 23 id0 N3.out (infoId4 _ _ _ _) (sizeId4 _ _ _ _ _ _ _ _) one_id0 ?_)
        | fail)
      refine bodyPost_ret (results_idt Tryd.results19 _ _ w.heap.size id0 (0, 0) _ rfl rfl (setRow_heap _ w.heap.size id0 id0 _ (0, 0) N3.out) rfl) rfl ⟨by rw [HV.out]; rfl, below_setRow D3.out (Nat.le_refl _) _⟩
    | true =>
      cases f3 with
      | false =>
        have HV := Lib.hid (show R = .tuple #[.agg id0, .bool false] by rw [HR.out]; rfl)
        go_wp2_with (first
          | (with_reducible refine wpList_store_row rfl 23 _ _ rfl w.heap.size id0 rfl rfl 23 id0 N3.out (infoId4 _ _ _ _) (sizeId4 _ _ _ _ _ _ _ _) one_id0 ?_)
          | fail)
        refine bodyPost_ret (results_idt Tryd.results19 _ _ w.heap.size id0 (0, 0) _ rfl rfl (setRow_heap _ w.heap.size id0 id0 _ (0, 0) N3.out) rfl) rfl ⟨by rw [HV.out]; rfl, below_setRow D3.out (Nat.le_refl _) _⟩
      | true =>
        go_wp2_with fail
        refine (cT _).mono ?_
        rintro e w4 ⟨rfl, d4⟩
        have D4 := Lib.hid (D3.out.trans (d4.mono D3.out.size))
        have N4 := Lib.hid ((d4.block w.heap.size G3.out).trans N3.out)
        have G4 := Lib.hid (Nat.lt_of_lt_of_le G3.out d4.size)
        have T4 := Lib.hid (T3.out.keep d4)
        clear d4 cT D3 N3 G3 T3
        cases ht : takeN a3 with
        | none =>
          obtain ⟨u1, u2⟩ := tv_none ht
          have HV := Lib.hid (show R = .tuple #[.agg id0, .bool false] by rw [HR.out]; unfold partsG; rw [if_pos ⟨rfl, rfl, rfl⟩, ht]; rfl)
          generalize (tv a3).2 = ev at u1 u2 ⊢
          generalize (tv a3).1 = vv
          clear ht
          go_wp2_with (first
            | (with_reducible refine wpList_store_row rfl 23 _ _ rfl w.heap.size id0 rfl rfl 23 id0 N4.out (infoId4 _ _ _ _) (sizeId4 _ _ _ _ _ _ _ _) one_id0 ?_)
            | fail)
          refine bodyPost_ret (results_idt Tryd.results19 _ _ w.heap.size id0 (0, 0) _ rfl rfl (setRow_heap _ w.heap.size id0 id0 _ (0, 0) N4.out) rfl) rfl ⟨by rw [HV.out]; rfl, below_setRow D4.out (Nat.le_refl _) _⟩
        | some v =>
          rw [tv_some ht]
          have HR2 := Lib.hid (show R = optV (match zoneR b3 with | none => none | some z => some ⟨Lib.trimSuffix a1 [32], a2, v, z⟩) by rw [HR.out]; unfold partsG; rw [if_pos ⟨rfl, rfl, rfl⟩, ht])
          clear ht
          go_wp2_with fail
          refine (cZ _ T4.out.t6.pow T4.out.zon).mono ?_
          rintro e w5 ⟨rfl, d5⟩
          have D5 := Lib.hid (D4.out.trans (d5.mono D4.out.size))
          have N5 := Lib.hid ((d5.block w.heap.size G4.out).trans N4.out)
          have G5 := Lib.hid (Nat.lt_of_lt_of_le G4.out d5.size)
          clear d5 cZ D4 N4 G4 T4
          unfold zoneA
          cases hz : zoneR b3 with
          | none =>
            have HV := Lib.hid (show R = .tuple #[.agg id0, .bool false] by rw [HR2.out, hz]; rfl)
            clear hz
            go_wp2_with (first
              | (with_reducible refine wpList_store_row rfl 23 _ _ rfl w.heap.size id0 rfl rfl 23 id0 N5.out (infoId4 _ _ _ _) (sizeId4 _ _ _ _ _ _ _ _) one_id0 ?_)
              | fail)
            refine bodyPost_ret (results_idt Tryd.results19 _ _ w.heap.size id0 (0, 0) _ rfl rfl (setRow_heap _ w.heap.size id0 id0 _ (0, 0) N5.out) rfl) rfl ⟨by rw [HV.out]; rfl, below_setRow D5.out (Nat.le_refl _) _⟩
          | some z =>
            have hV : R = .tuple #[.agg #[.string ⟨(Lib.trimSuffix a1 [32]).toArray⟩, .string ⟨a2.toArray⟩, .int .i64 v, .int .i64 z], .bool true] := by rw [HR2.out, hz]; rfl
            clear hz
            generalize (⟨(Lib.trimSuffix a1 [32]).toArray⟩ : ByteArray) = st at cS hV
            generalize (⟨a2.toArray⟩ : ByteArray) = sa2 at hV ⊢
            have HV := Lib.hid hV
            clear hV
            have one : (#[Value.string st, .string sa2, .int .i64 v, .int .i64 z] : Array Value).all (·.oneCell') = true := by simp [Value.oneCell']
            go_wp2_with fail
            refine (cS _).mono ?_
            rintro e w6 ⟨rfl, rfl⟩
            go_wp2_with (first
              | (with_reducible refine wpList_store_row rfl 23 _ _ rfl w.heap.size #[.string st, .string sa2, .int .i64 v, .int .i64 z] rfl rfl 23 id0 N5.out (infoId4 _ _ _ _) (sizeId4 _ _ _ _ _ _ _ _) one ?_)
              | fail)
            refine bodyPost_ret (results_idt Tryd.results19 _ _ w.heap.size _ (0, 0) _ rfl rfl (setRow_heap _ w.heap.size id0 _ _ (0, 0) N5.out) rfl) rfl ⟨by rw [HV.out]; rfl, below_setRow D5.out (Nat.le_refl _) _⟩
end Go.Proofs.YtagfnnpklefhhaaDoor
