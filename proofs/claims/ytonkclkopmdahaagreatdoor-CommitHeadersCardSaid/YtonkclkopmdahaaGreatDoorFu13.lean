/-
  Texts that belong together, one behind the other.
-/
import Derived.Test.YtonkclkopmdahaaGreatDoorFu09
import Derived.Test.YtonkclkopmdahaaGreatDoorFu12
import Derived.Test.YtonkclkopmdahaaGreatDoorFu05
import Derived.Laws.CopyOwn
import Derived.Laws.ResultCell
import Derived.Shelf.Unicode.ValidAny
import Derived.Lib.LaidU8T
import Derived.PinnedBridge
import Derived.Test.YtonkclkopmdahaaGreatDoorFu02
import Derived.Test.YtonkclkopmdahaaGreatDoorFu08
/-
  Layer 6: parts and Parse of the program.
-/
namespace Go.Proofs.YtonkclkopmdahaaGreatDoor
open Go.RowKit
set_option linter.unusedVariables false
set_option linter.unusedSimpArgs false

/-- What layer 6 reads of the world where it parses. -/
structure T7 (w : World) : Prop where
  t6 : T6 w
  zon : ZTab w
  max : ∃ m : Int, w.cell? ⟨2, 0, none⟩ = some (.int .i64 m)
theorem T7.keep {w w' : World} (h : T7 w) (hb : Below w.heap.size w w') : T7 w' := by
  obtain ⟨m, hm⟩ := h.max
  exact ⟨h.t6.keep hb, h.zon.keep hb, m, (hb.cell (p := ⟨2, 0, none⟩) (World.block_lt_of_cell? w _ hm)).trans hm⟩
theorem Cut_is (l sep : List UInt8) (hn : l.length ≤ 1000000) (w : World) (tab : T7 w) :
    Calls Tryz.prog 79 #[.string ⟨l.toArray⟩, .string ⟨sep.toArray⟩] w fun e w' => e = .returned (.tuple #[.string ⟨(Lib.cut l sep).1.toArray⟩, .string ⟨(Lib.cut l sep).2.1.toArray⟩, .bool (Lib.cut l sep).2.2]) ∧ Below w.heap.size w w' := by
  obtain ⟨m, hm⟩ := tab.max
  refine (Tryz.strings_Cut ⟨l.toArray⟩ ⟨sep.toArray⟩ m w (by rw [size_toArray]; omega) hm).mono ?_
  rintro e w' ⟨rfl, n, rfl⟩
  exact ⟨rfl, _root_.Go.below_drewN (Below.refl _ _) n⟩
theorem cut_len (l sep : List UInt8) : (Lib.cut l sep).1.length ≤ l.length ∧ (Lib.cut l sep).2.1.length ≤ l.length := by
  unfold Lib.cut
  split
  · simp only [List.length_take, List.length_drop]; omega
  · simp
def zeroI : Idt := ⟨[], [], 0, 0⟩
abbrev id0 : Array Value := #[.string ⟨#[]⟩, .string ⟨#[]⟩, .int .i64 0, .int .i64 0]
theorem infoId : (Tryz.prog.info? 26).map (·.size) = some 4 := by kernel_rfl
theorem infoId4 (a b c d : Value) : (Tryz.prog.info? 26).map (·.size) = some (#[a, b, c, d] : Array Value).size := infoId
theorem sizeId4 (a b c d e f g h : Value) : (#[a, b, c, d] : Array Value).size = (#[e, f, g, h] : Array Value).size := rfl
theorem one_id0 : id0.all (·.oneCell') = true := by kernel_rfl
theorem results_idt {fn : Func} (h : fn.results = #[.cell 2 26, .tmp 3]) (tmps : Array Value) (w : World) (g : Nat) (cs : Array Value) (fr : Nat × Nat) (x : Value)
    (hp : tmps.getD 2 undef = .pointer (some ⟨g, 0, none⟩)) (hx : tmps.getD 3 undef = x) (hg : w.heap[g]? = some (.cells cs 26 fr)) (hn : cs.size = 4) :
    (results fn tmps).run Tryz.prog w = .ok (.tuple #[.agg cs, x]) w := by
  rw [results_cell_tmp h, hp, hx]
  have e : (asAddr (.pointer (some ⟨g, 0, none⟩))).run Tryz.prog w = .ok ⟨g, 0, none⟩ w := rfl
  rw [e]
  simp only [Result.andThen_ok]
  rw [run_loadVar_row w g 26 26 cs fr _ hg Tryz.underlying26 rfl (by rw [infoId, hn])]
  rfl
/-- The parts, from what was cut. -/
def partsG (f1 f2 f3 : Bool) (a1 a2 a3 b3 : List UInt8) : Option Idt :=
  if f1 = true ∧ f2 = true ∧ f3 = true then
    match takeN a3 with
    | none => none
    | some v => match zoneR b3 with
      | none => none
      | some z => some ⟨Lib.trimSuffix a1 [32], a2, v, z⟩
  else none
def optV (o : Option Idt) : Value := match o with
  | none => .tuple #[.agg id0, .bool false]
  | some i => .tuple #[idtV i, .bool true]
theorem tv_none {l : List UInt8} (h : takeN l = none) : ((tv l).2 == 0) = false ∧ ((tv l).2 != 0) = true := by
  unfold tv
  split
  · decide
  · rw [h]; decide
theorem tv_some {l : List UInt8} {v : Int} (h : takeN l = some v) : tv l = (v, 0) := by
  unfold tv
  split
  · rename_i e; subst e; cases h
  · rw [h]

set_option maxHeartbeats 16000000 in
set_option maxRecDepth 100000 in
theorem parts_is (l : List UInt8) (hn : l.length ≤ 1000000) (w : World) (tab : T7 w) :
    Calls Tryz.prog 81 #[.string ⟨l.toArray⟩] w fun e w' => e = .returned (optV (partsL takeN l)) ∧ Below w.heap.size w w' := by
  have c1 := fun w t => Cut_is l [60] hn w t
  have n1 := (cut_len l [60]).2
  have c2 := fun w t => Cut_is (Lib.cut l [60]).2.1 [62, 32] (by omega) w t
  have n2 := (cut_len (Lib.cut l [60]).2.1 [62, 32]).2
  have c3 := fun w t => Cut_is (Lib.cut (Lib.cut l [60]).2.1 [62, 32]).2.1 [32] (by omega) w t
  have n3 := cut_len (Lib.cut (Lib.cut l [60]).2.1 [62, 32]).2.1 [32]
  have n0 := (cut_len l [60]).1
  have E : partsL takeN l = partsG (Lib.cut l [60]).2.2 (Lib.cut (Lib.cut l [60]).2.1 [62, 32]).2.2 (Lib.cut (Lib.cut (Lib.cut l [60]).2.1 [62, 32]).2.1 [32]).2.2 (Lib.cut l [60]).1 (Lib.cut (Lib.cut l [60]).2.1 [62, 32]).1 (Lib.cut (Lib.cut (Lib.cut l [60]).2.1 [62, 32]).2.1 [32]).1 (Lib.cut (Lib.cut (Lib.cut l [60]).2.1 [62, 32]).2.1 [32]).2.1 := rfl
  rw [E]
  clear E
  generalize Lib.cut (Lib.cut (Lib.cut l [60]).2.1 [62, 32]).2.1 [32] = p3 at c3 n3 ⊢
  generalize Lib.cut (Lib.cut l [60]).2.1 [62, 32] = p2 at c2 n2 c3 n3 ⊢
  generalize Lib.cut l [60] = p1 at *
  obtain ⟨a1, b1, f1⟩ := p1
  obtain ⟨a2, b2, f2⟩ := p2
  obtain ⟨a3, b3, f3⟩ := p3
  simp only at c1 c2 c3 n0 n1 n2 n3 ⊢
  have cT := fun w => Take_all a3 (by omega) w
  have cZ := fun w t => Zone_is b3 (by omega) w t
  have cS := fun w => Tryz.strings_TrimSuffix ⟨a1.toArray⟩ ⟨[32].toArray⟩ w (by rw [size_toArray]; omega)
  have eS : Lib.trimSuffix (⟨a1.toArray⟩ : ByteArray).data.toList (⟨[32].toArray⟩ : ByteArray).data.toList = Lib.trimSuffix a1 [32] := rfl
  rw [eS] at cS
  obtain ⟨R, hR⟩ : ∃ R, R = optV (partsG f1 f2 f3 a1 a2 a3 b3) := ⟨_, rfl⟩
  rw [← hR]
  have HR := Lib.hid hR
  clear hR
  generalize (⟨l.toArray⟩ : ByteArray) = sl at c1 ⊢
  generalize (⟨a1.toArray⟩ : ByteArray) = sa1 at c1 cS
  generalize (⟨b1.toArray⟩ : ByteArray) = sb1 at c1 c2
  generalize (⟨b2.toArray⟩ : ByteArray) = sb2 at c2 c3
  have B0 := Lib.hid ((Below.refl w.heap.size w).alloc (Nat.le_refl _) (.cells id0 26))
  have T0 := Lib.hid (tab.keep B0.out)
  have N0 := Lib.hid (heap_alloc_new w (.cells id0 26))
  have S0 := Lib.hid (show (w.alloc (.cells id0 26)).heap.size = w.heap.size + 1 by simp)
  clear tab n0 n1 n2 n3 hn eS
  go_enter Tryz.func81, Tryz.ntmps81
  go_wp2_with fail
  refine (c1 _ T0.out).mono ?_
  rintro e w1 ⟨rfl, d1⟩
  have T1 := Lib.hid (T0.out.keep d1)
  go_wp2_with fail
  refine (c2 _ T1.out).mono ?_
  rintro e w2 ⟨rfl, d2⟩
  have T2 := Lib.hid (T1.out.keep d2)
  go_wp2_with fail
  refine (c3 _ T2.out).mono ?_
  rintro e w3 ⟨rfl, d3⟩
  have T3 := Lib.hid (T2.out.keep d3)
  have d13 := (d1.trans (d2.mono d1.size)).trans (d3.mono (d1.trans (d2.mono d1.size)).size)
  have D3 := Lib.hid (B0.out.trans (d13.mono B0.out.size))
  have N3 := Lib.hid ((d13.block w.heap.size (by rw [S0.out]; omega)).trans N0.out)
  have G3 := Lib.hid (show w.heap.size < w3.heap.size by have := d13.size; rw [S0.out] at this; omega)
  clear c1 c2 c3 d1 d2 d3 d13 T0 T1 T2 S0 N0 B0
  cases f1 with
  | false =>
    have HV := Lib.hid (show R = .tuple #[.agg id0, .bool false] by rw [HR.out]; rfl)
    go_wp2_with (first
      | (with_reducible refine wpList_store_row rfl 26 _ _ rfl w.heap.size id0 rfl rfl 26 id0 N3.out (infoId4 _ _ _ _) (sizeId4 _ _ _ _ _ _ _ _) one_id0 ?_)
      | fail)
    refine bodyPost_ret (results_idt Tryz.results81 _ _ w.heap.size id0 (0, 0) _ rfl rfl (setRow_heap _ w.heap.size id0 id0 _ (0, 0) N3.out) rfl) rfl ⟨by rw [HV.out]; rfl, below_setRow D3.out (Nat.le_refl _) _⟩
  | true =>
    cases f2 with
    | false =>
      have HV := Lib.hid (show R = .tuple #[.agg id0, .bool false] by rw [HR.out]; rfl)
      go_wp2_with (first
        | (with_reducible refine wpList_store_row rfl 26 _ _ rfl w.heap.size id0 rfl rfl 26 id0 N3.out (infoId4 _ _ _ _) (sizeId4 _ _ _ _ _ _ _ _) one_id0 ?_)
        | fail)
      refine bodyPost_ret (results_idt Tryz.results81 _ _ w.heap.size id0 (0, 0) _ rfl rfl (setRow_heap _ w.heap.size id0 id0 _ (0, 0) N3.out) rfl) rfl ⟨by rw [HV.out]; rfl, below_setRow D3.out (Nat.le_refl _) _⟩
    | true =>
      cases f3 with
      | false =>
        have HV := Lib.hid (show R = .tuple #[.agg id0, .bool false] by rw [HR.out]; rfl)
        go_wp2_with (first
          | (with_reducible refine wpList_store_row rfl 26 _ _ rfl w.heap.size id0 rfl rfl 26 id0 N3.out (infoId4 _ _ _ _) (sizeId4 _ _ _ _ _ _ _ _) one_id0 ?_)
          | fail)
        refine bodyPost_ret (results_idt Tryz.results81 _ _ w.heap.size id0 (0, 0) _ rfl rfl (setRow_heap _ w.heap.size id0 id0 _ (0, 0) N3.out) rfl) rfl ⟨by rw [HV.out]; rfl, below_setRow D3.out (Nat.le_refl _) _⟩
      | true =>
        go_wp2_with fail
        refine (cT _).mono ?_
        rintro e w4 ⟨rfl, d4⟩
        have D4 := Lib.hid (D3.out.trans (d4.mono D3.out.size))
        have N4 := Lib.hid ((d4.block w.heap.size G3.out).trans N3.out)
        have G4 := Lib.hid (Nat.lt_of_lt_of_le G3.out d4.size)
        have T4 := Lib.hid (T3.out.keep d4)
        clear d4 cT D3 N3 G3 T3
        cases ht : takeN a3 with
        | none =>
          obtain ⟨u1, u2⟩ := tv_none ht
          have HV := Lib.hid (show R = .tuple #[.agg id0, .bool false] by rw [HR.out]; unfold partsG; rw [if_pos ⟨rfl, rfl, rfl⟩, ht]; rfl)
          generalize (tv a3).2 = ev at u1 u2 ⊢
          generalize (tv a3).1 = vv
          clear ht
          go_wp2_with (first
            | (with_reducible refine wpList_store_row rfl 26 _ _ rfl w.heap.size id0 rfl rfl 26 id0 N4.out (infoId4 _ _ _ _) (sizeId4 _ _ _ _ _ _ _ _) one_id0 ?_)
            | fail)
          refine bodyPost_ret (results_idt Tryz.results81 _ _ w.heap.size id0 (0, 0) _ rfl rfl (setRow_heap _ w.heap.size id0 id0 _ (0, 0) N4.out) rfl) rfl ⟨by rw [HV.out]; rfl, below_setRow D4.out (Nat.le_refl _) _⟩
        | some v =>
          rw [tv_some ht]
          have HR2 := Lib.hid (show R = optV (match zoneR b3 with | none => none | some z => some ⟨Lib.trimSuffix a1 [32], a2, v, z⟩) by rw [HR.out]; unfold partsG; rw [if_pos ⟨rfl, rfl, rfl⟩, ht])
          clear ht
          go_wp2_with fail
          refine (cZ _ T4.out.t6.pow T4.out.zon).mono ?_
          rintro e w5 ⟨rfl, d5⟩
          have D5 := Lib.hid (D4.out.trans (d5.mono D4.out.size))
          have N5 := Lib.hid ((d5.block w.heap.size G4.out).trans N4.out)
          have G5 := Lib.hid (Nat.lt_of_lt_of_le G4.out d5.size)
          clear d5 cZ D4 N4 G4 T4
          unfold zoneA
          cases hz : zoneR b3 with
          | none =>
            have HV := Lib.hid (show R = .tuple #[.agg id0, .bool false] by rw [HR2.out, hz]; rfl)
            clear hz
            go_wp2_with (first
              | (with_reducible refine wpList_store_row rfl 26 _ _ rfl w.heap.size id0 rfl rfl 26 id0 N5.out (infoId4 _ _ _ _) (sizeId4 _ _ _ _ _ _ _ _) one_id0 ?_)
              | fail)
            refine bodyPost_ret (results_idt Tryz.results81 _ _ w.heap.size id0 (0, 0) _ rfl rfl (setRow_heap _ w.heap.size id0 id0 _ (0, 0) N5.out) rfl) rfl ⟨by rw [HV.out]; rfl, below_setRow D5.out (Nat.le_refl _) _⟩
          | some z =>
            have hV : R = .tuple #[.agg #[.string ⟨(Lib.trimSuffix a1 [32]).toArray⟩, .string ⟨a2.toArray⟩, .int .i64 v, .int .i64 z], .bool true] := by rw [HR2.out, hz]; rfl
            clear hz
            generalize (⟨(Lib.trimSuffix a1 [32]).toArray⟩ : ByteArray) = st at cS hV
            generalize (⟨a2.toArray⟩ : ByteArray) = sa2 at hV ⊢
            have HV := Lib.hid hV
            clear hV
            have one : (#[Value.string st, .string sa2, .int .i64 v, .int .i64 z] : Array Value).all (·.oneCell') = true := by simp [Value.oneCell']
            go_wp2_with fail
            refine (cS _).mono ?_
            rintro e w6 ⟨rfl, rfl⟩
            go_wp2_with (first
              | (with_reducible refine wpList_store_row rfl 26 _ _ rfl w.heap.size #[.string st, .string sa2, .int .i64 v, .int .i64 z] rfl rfl 26 id0 N5.out (infoId4 _ _ _ _) (sizeId4 _ _ _ _ _ _ _ _) one ?_)
              | fail)
            refine bodyPost_ret (results_idt Tryz.results81 _ _ w.heap.size _ (0, 0) _ rfl rfl (setRow_heap _ w.heap.size id0 _ _ (0, 0) N5.out) rfl) rfl ⟨by rw [HV.out]; rfl, below_setRow D5.out (Nat.le_refl _) _⟩
end Go.Proofs.YtonkclkopmdahaaGreatDoor

/-
  Layer 6: Parse of the program.
-/
namespace Go.Proofs.YtonkclkopmdahaaGreatDoor
open Go.RowKit
set_option linter.unusedVariables false
set_option linter.unusedSimpArgs false

theorem lt_heap {w : World} {g : Nat} {o : Obj} (h : w.heap[g]? = some o) : g < w.heap.size := (Array.getElem?_eq_some_iff.1 h).1
theorem suffix_len (l p : List UInt8) : (Lib.trimSuffix l p).length ≤ l.length := by
  unfold Lib.trimSuffix
  split
  · rw [List.length_take]; omega
  · exact Nat.le_refl _
theorem parts_len (l : List UInt8) (i : Idt) (h : partsL takeN l = some i) : i.name.length ≤ l.length ∧ i.email.length ≤ l.length := by
  unfold partsL at h
  split at h
  · split at h
    · cases h
    · split at h
      · cases h
      · cases h
        have a := (cut_len l [60]).1
        have b := (cut_len l [60]).2
        have c := (cut_len (Lib.cut l [60]).2.1 [62, 32]).1
        have d := suffix_len (Lib.cut l [60]).1 [32]
        exact ⟨Nat.le_trans d a, Nat.le_trans c b⟩
  · cases h
/-- What Parse answers. -/
def idtA (o : Option Idt) : Value := match o with
  | none => .tuple #[.agg id0, .int .i64 4]
  | some i => .tuple #[idtV i, .int .i64 0]
theorem cells4 {w : World} {g : Nat} {a b c d : Value} {t : TypeId} (h : w.heap[g]? = some (.cells #[a, b, c, d] t (0, 0))) :
    w.cell? ⟨g, 0, none⟩ = some a ∧ w.cell? ⟨g, 1, none⟩ = some b ∧ w.cell? ⟨g, 2, none⟩ = some c ∧ w.cell? ⟨g, 3, none⟩ = some d :=
  ⟨by rw [Lib.cell_of_heap h]; rfl, by rw [Lib.cell_of_heap h]; rfl, by rw [Lib.cell_of_heap h]; rfl, by rw [Lib.cell_of_heap h]; rfl⟩

set_option maxHeartbeats 16000000 in
set_option maxRecDepth 100000 in
theorem Parse_is (l : List UInt8) (hn : l.length ≤ 1000000) (w : World) (tab : T7 w) :
    Calls Tryz.prog 68 #[.string ⟨l.toArray⟩] w fun e w' => e = .returned (idtA (parseP Lib.itoa takeN l)) ∧ Below w.heap.size w w' := by
  have B0 := Lib.hid ((Below.refl w.heap.size w).alloc (Nat.le_refl _) (.cells id0 26))
  have cP := parts_is l hn _ (tab.keep B0.out)
  have T0 := Lib.hid (tab.keep B0.out)
  have N0 := Lib.hid (heap_alloc_new w (.cells id0 26))
  have S0 := Lib.hid (show (w.alloc (.cells id0 26)).heap.size = w.heap.size + 1 by simp)
  obtain ⟨R, hR⟩ : ∃ R, R = idtA (parseP Lib.itoa takeN l) := ⟨_, rfl⟩
  rw [← hR]
  cases hp : partsL takeN l with
  | none =>
    have HV := Lib.hid (show R = .tuple #[.agg id0, .int .i64 4] by rw [hR]; unfold parseP; rw [hp]; rfl)
    rw [hp] at cP
    unfold optV at cP
    clear hR hp tab hn
    go_enter Tryz.func68, Tryz.ntmps68
    go_wp2_with fail
    refine cP.mono ?_
    rintro e w1 ⟨rfl, d1⟩
    have N1 := Lib.hid ((d1.block w.heap.size (by rw [S0.out]; omega)).trans N0.out)
    have G1 := Lib.hid (show w.heap.size < w1.heap.size by have := d1.size; rw [S0.out] at this; omega)
    have D1 := Lib.hid (B0.out.trans (d1.mono B0.out.size))
    have N2 := Lib.hid (show ((w1.alloc (.cells id0 26)).setRow w1.heap.size id0).heap[w.heap.size]? = some (.cells id0 26 (0, 0)) by
      have h := (below_setRow (B := w1.heap.size) ((Below.refl w1.heap.size w1).alloc (Nat.le_refl _) (.cells id0 26)) (Nat.le_refl _) id0)
      exact (h.block _ G1.out).trans N1.out)
    have D2 := Lib.hid (below_setRow (g := w1.heap.size) ((D1.out).alloc D1.out.size (.cells id0 26)) D1.out.size id0)
    clear d1 cP
    go_wp2_with (first
      | (with_reducible refine wpList_store_row rfl 26 (.tmp 4) (.tmp 9) rfl w1.heap.size id0 rfl rfl 26 id0 (heap_alloc_new w1 _) (infoId4 _ _ _ _) (sizeId4 _ _ _ _ _ _ _ _) one_id0 ?_)
      | (with_reducible refine wpList_store_row rfl 26 (.tmp 2) (.tmp 24) rfl w.heap.size id0 rfl rfl 26 id0 N2.out (infoId4 _ _ _ _) (sizeId4 _ _ _ _ _ _ _ _) one_id0 ?_)
      | fail)
    refine bodyPost_ret (results_idt Tryz.results68 _ _ w.heap.size id0 (0, 0) _ rfl rfl (setRow_heap _ w.heap.size id0 id0 _ (0, 0) N2.out) rfl) rfl ⟨by rw [HV.out]; rfl, below_setRow D2.out (Nat.le_refl _) _⟩
  | some i =>
    obtain ⟨k1, k2⟩ := parts_len l i hp
    have cR := fun w t => Right_is i (by omega) (by omega) w t
    have cQ := fun w t => Print_is i (by omega) (by omega) w t
    rw [hp] at cP
    unfold optV idtV at cP
    simp only at cP
    have hE : R = idtA (if rightI i = true ∧ printI Lib.itoa i = l then some i else none) := by rw [hR]; unfold parseP; rw [hp]
    have HE := Lib.hid hE
    have IV := Lib.hid (show idtV i = .agg #[.string ⟨i.name.toArray⟩, .string ⟨i.email.toArray⟩, .int .i64 i.whn, .int .i64 i.zone] from rfl)
    have FQ := Lib.hid (show printI Lib.itoa i = l → (printI Lib.itoa i == l) = true from fun h => by rw [h]; simp)
    have FN := Lib.hid (show printI Lib.itoa i ≠ l → (printI Lib.itoa i == l) = false from fun h => by rw [beq_eq_false_iff_ne]; exact h)
    rw [IV.out] at cR cQ
    clear hR hp tab hn k1 k2 hE
    generalize (⟨i.name.toArray⟩ : ByteArray) = sn at cP cR cQ IV
    generalize (⟨i.email.toArray⟩ : ByteArray) = se at cP cR cQ IV
    generalize hti : i.whn = ti at cP cR cQ IV
    generalize hzi : i.zone = zi at cP cR cQ IV
    have one : (#[Value.string sn, .string se, .int .i64 ti, .int .i64 zi] : Array Value).all (·.oneCell') = true := by simp [Value.oneCell']
    clear hti hzi
    go_enter Tryz.func68, Tryz.ntmps68
    go_wp2_with fail
    refine cP.mono ?_
    rintro e w1 ⟨rfl, d1⟩
    have N1 := Lib.hid ((d1.block w.heap.size (by rw [S0.out]; omega)).trans N0.out)
    have G1 := Lib.hid (show w.heap.size < w1.heap.size by have := d1.size; rw [S0.out] at this; omega)
    have D1 := Lib.hid (B0.out.trans (d1.mono B0.out.size))
    have T1 := Lib.hid (T0.out.keep d1)
    have hb2 := below_setRow (B := w1.heap.size) (g := w1.heap.size) ((Below.refl w1.heap.size w1).alloc (Nat.le_refl _) (.cells id0 26)) (Nat.le_refl _) #[Value.string sn, .string se, .int .i64 ti, .int .i64 zi]
    have N2 := Lib.hid ((hb2.block _ G1.out).trans N1.out)
    have D2 := Lib.hid (D1.out.trans (hb2.mono D1.out.size))
    have T2 := Lib.hid (T1.out.keep hb2)
    have hh2 := setRow_heap (w1.alloc (.cells id0 26)) w1.heap.size id0 #[Value.string sn, .string se, .int .i64 ti, .int .i64 zi] 26 (0, 0) (heap_alloc_new w1 _)
    have H2 := Lib.hid hh2
    obtain ⟨c20, c21, c22, c23⟩ := cells4 hh2
    clear hb2 d1 cP hh2
    go_wp2_with (first
      | (with_reducible refine wpList_store_row rfl 26 (.tmp 4) (.tmp 9) rfl w1.heap.size #[Value.string sn, .string se, .int .i64 ti, .int .i64 zi] rfl rfl 26 id0 (heap_alloc_new w1 _) (infoId4 _ _ _ _) (sizeId4 _ _ _ _ _ _ _ _) one ?_)
      | fail)
    refine (cR _ T2.out.t6).mono ?_
    rintro e w2 ⟨rfl, d2⟩
    have g2a := lt_heap N2.out
    have g2b := lt_heap H2.out
    have N3 := Lib.hid ((d2.block _ g2a).trans N2.out)
    have hh3 := (d2.block _ g2b).trans H2.out
    have H3 := Lib.hid hh3
    have D3 := Lib.hid (D2.out.trans (d2.mono D2.out.size))
    have T3 := Lib.hid (T2.out.keep d2)
    obtain ⟨c30, c31, c32, c33⟩ := cells4 hh3
    clear c20 c21 c22 c23 d2 hh3 g2a g2b N2 H2 D2 T2 cR
    cases hr : rightI i with
    | false =>
      have HV := Lib.hid (show R = .tuple #[.agg id0, .int .i64 4] by rw [HE.out, if_neg (fun h => by rw [hr] at h; exact absurd h.1 (by decide))]; rfl)
      clear hr
      go_wp2_with (first
        | (with_reducible refine wpList_store_row rfl 26 (.tmp 2) (.tmp 24) rfl w.heap.size id0 rfl rfl 26 id0 N3.out (infoId4 _ _ _ _) (sizeId4 _ _ _ _ _ _ _ _) one_id0 ?_)
        | fail)
      refine bodyPost_ret (results_idt Tryz.results68 _ _ w.heap.size _ (0, 0) _ rfl rfl (setRow_heap _ w.heap.size id0 _ _ (0, 0) N3.out) rfl) rfl ⟨by rw [HV.out]; rfl, below_setRow D3.out (Nat.le_refl _) _⟩
    | true =>
      go_wp2_with fail
      refine (cQ _ T3.out.t6).mono ?_
      rintro e w3 ⟨rfl, d3⟩
      have g3a := lt_heap N3.out
      have g3b := lt_heap H3.out
      have N4 := Lib.hid ((d3.block _ g3a).trans N3.out)
      have hh4 := (d3.block _ g3b).trans H3.out
      have D4 := Lib.hid (D3.out.trans (d3.mono D3.out.size))
      obtain ⟨c40, c41, c42, c43⟩ := cells4 hh4
      clear c30 c31 c32 c33 d3 hh4 g3a g3b N3 H3 D3 T3 cQ
      by_cases he : printI Lib.itoa i = l
      · have HV := Lib.hid (show R = .tuple #[.agg #[.string sn, .string se, .int .i64 ti, .int .i64 zi], .int .i64 0] by rw [HE.out, if_pos ⟨hr, he⟩]; unfold idtA; simp only; rw [IV.out])
        have feq := FQ.out he
        clear hr he HE
        go_wp2_with (first
          | (with_reducible refine wpList_store_row rfl 26 (.tmp 2) (.tmp 25) rfl w.heap.size #[Value.string sn, .string se, .int .i64 ti, .int .i64 zi] rfl rfl 26 id0 N4.out (infoId4 _ _ _ _) (sizeId4 _ _ _ _ _ _ _ _) one ?_)
          | fail)
        refine bodyPost_ret (results_idt Tryz.results68 _ _ w.heap.size _ (0, 0) _ rfl rfl (setRow_heap _ w.heap.size id0 _ _ (0, 0) N4.out) rfl) rfl ⟨by rw [HV.out]; rfl, below_setRow D4.out (Nat.le_refl _) _⟩
      · have HV := Lib.hid (show R = .tuple #[.agg id0, .int .i64 4] by rw [HE.out, if_neg (fun h => he h.2)]; rfl)
        have feq := FN.out he
        clear hr he HE
        go_wp2_with (first
          | (with_reducible refine wpList_store_row rfl 26 (.tmp 2) (.tmp 24) rfl w.heap.size id0 rfl rfl 26 id0 N4.out (infoId4 _ _ _ _) (sizeId4 _ _ _ _ _ _ _ _) one_id0 ?_)
          | fail)
        refine bodyPost_ret (results_idt Tryz.results68 _ _ w.heap.size _ (0, 0) _ rfl rfl (setRow_heap _ w.heap.size id0 _ _ (0, 0) N4.out) rfl) rfl ⟨by rw [HV.out]; rfl, below_setRow D4.out (Nat.le_refl _) _⟩
end Go.Proofs.YtonkclkopmdahaaGreatDoor

/-
  The contract of utf8.ValidString at this program, the library's own, laid by hand; the tables of unicode/utf8, from what the row lists.
-/
namespace Go.Proofs
open Go.Shelf Go.RowKit Go.Lib
def Tryz.vsRen : Go.Shelf.Ren := ⟨fun | 196 => 75 | 259 => 88 | n => n, fun | 0 => 0 | 3 => 3 | 4 => 4 | 5 => 5 | 9 => 9 | 12 => 12 | 46 => 46 | 53 => 99 | 119 => 111 | 138 => 113 | 139 => 114 | n => n, fun | 3 => 0 | 4 => 1 | n => n⟩
theorem Tryz.vs196 : Go.Proofs.Lays.n196 Tryz.prog Tryz.vsRen := {
  mixed := by kernel_rfl
  f196 := Tryz.func75.trans (congrArg some (by kernel_rfl))
  f259 := Tryz.func88.trans (congrArg some (by kernel_rfl))
  t0 := Tryz.underlying0
  a0 := Tryz.isAgg0
  z0 := Tryz.sizeOf0
  v0 := Tryz.zeroValue0
  t3 := Tryz.underlying3
  a3 := Tryz.isAgg3
  z3 := Tryz.sizeOf3
  v3 := Tryz.zeroValue3
  t4 := Tryz.underlying4
  a4 := Tryz.isAgg4
  z4 := Tryz.sizeOf4
  v4 := Tryz.zeroValue4
  t5 := Tryz.underlying5
  a5 := Tryz.isAgg5
  z5 := Tryz.sizeOf5
  v5 := Tryz.zeroValue5
  t9 := Tryz.underlying9
  a9 := Tryz.isAgg9
  z9 := Tryz.sizeOf9
  v9 := Tryz.zeroValue9
  t12 := Tryz.underlying12
  a12 := Tryz.isAgg12
  z12 := Tryz.sizeOf12
  v12 := Tryz.zeroValue12
  t46 := Tryz.underlying46
  a46 := Tryz.isAgg46
  z46 := Tryz.sizeOf46
  v46 := Tryz.zeroValue46
  t53 := Tryz.underlying99
  a53 := Tryz.isAgg99
  z53 := Tryz.sizeOf99
  v53 := Tryz.zeroValue99
  t119 := Tryz.underlying111
  a119 := Tryz.isAgg111
  z119 := Tryz.sizeOf111
  t138 := Tryz.underlying113
  a138 := Tryz.isAgg113
  z138 := Tryz.sizeOf113
  v138 := Tryz.zeroValue113
  t139 := Tryz.underlying114
  a139 := Tryz.isAgg114
  z139 := Tryz.sizeOf114
  v139 := Tryz.zeroValue114
  g3 := by kernel_rfl
  g4 := by kernel_rfl }
theorem Tryz.vsExtra : U8Extra Tryz.prog Tryz.vsRen := {
  n3 := by kernel_rfl
  n4 := by kernel_rfl
  y3 := by kernel_rfl
  y4 := by kernel_rfl
  c5 := by kernel_rfl
  c119 := by kernel_rfl
  c138 := by kernel_rfl }
namespace YtonkclkopmdahaaGreatDoor
theorem valid_is (l : List UInt8) (w : World) (hn : l.length ≤ 1000000) (hT : Lib.Utf8Tabs 0 1 w) :
    Calls Tryz.prog 75 #[.string ⟨l.toArray⟩] w fun e w' => e = .returned (.bool (Lib.validD l)) ∧ Below w.heap.size w w' :=
  Any.utf8_ValidString Tryz.vs196 ⟨l.toArray⟩ w (by rw [size_toArray]; omega) hT
/-- The first two tables. -/
theorem tabs_of (w : World) (h3 : VarReads Tryz.prog w "unicode/utf8.first" firstData) (h4 : VarReads Tryz.prog w "unicode/utf8.acceptRanges" acceptData) : Lib.Utf8Tabs 0 1 w :=
  utf8Tabs_of_readsT (U8Types.of196 Tryz.vs196) Tryz.vsExtra h3 h4
end YtonkclkopmdahaaGreatDoor
end Go.Proofs

/-
  Layer 6: word, Right and Zone of the reference.
-/
namespace Go.Proofs.YtonkclkopmdahaaGreatDoor
open Go.RowKit
set_option linter.unusedVariables false
set_option linter.unusedSimpArgs false

theorem word_false (l : List UInt8) (h : ¬ ((∀ c ∈ l, barB c = false) ∧ l.length ≤ 200 ∧ Lib.validD l = true ∧ (l ≠ [] → (l.getD 0 0).toNat ≠ 32 ∧ (l.getD (l.length - 1) 0).toNat ≠ 32))) : wordL l = false := by
  cases e : wordL l with
  | false => rfl
  | true => exact absurd ((word_iff l).1 e) h
theorem word_bad (l : List UInt8) (k : Nat) (hk : k < l.length) (h : barB (l.getD k 0) = true) : wordL l = false :=
  word_false l fun q => by
    rw [List.getD_eq_getElem?_getD, List.getElem?_eq_getElem hk] at h
    have := q.1 _ (List.getElem_mem hk)
    simp only [Option.getD_some] at h
    rw [this] at h
    cases h
theorem all_of_getD (l : List UInt8) (h : ∀ j, j < l.length → barB (l.getD j 0) = false) : ∀ c ∈ l, barB c = false := fun c hc => by
  obtain ⟨j, hj, rfl⟩ := List.getElem_of_mem hc
  have := h j hj
  rwa [List.getD_eq_getElem?_getD, List.getElem?_eq_getElem hj] at this

set_option maxHeartbeats 8000000 in
set_option maxRecDepth 100000 in
theorem rword_is (l : List UInt8) (w : World) (hn : l.length ≤ 1000000) (hT : Lib.Utf8Tabs 0 1 w) :
    Calls Tryz.prog 56 #[.string ⟨l.toArray⟩] w fun e w' => e = .returned (.bool (wordL l)) ∧ Below w.heap.size w w' := by
  have hsz := size_toArray l
  have hget : ∀ j, j < l.length → ∀ h2 : j < (⟨l.toArray⟩ : ByteArray).size, (⟨l.toArray⟩ : ByteArray)[j]'h2 = l.getD j 0 := fun j h h2 => getD_mk l j h h2
  have cV := fun w t => valid_is l w hn t
  obtain ⟨R, hR⟩ : ∃ R, R = wordL l := ⟨_, rfl⟩
  rw [← hR]
  have HR := Lib.hid hR
  have BAD := Lib.hid (fun k hk h => hR.trans (word_bad l k hk h))
  have HT := Lib.hid hT
  clear hR hT
  by_cases hnil : l = []
  · subst hnil
    have HV := Lib.hid (show R = true by rw [HR.out]; rfl)
    have vt : Lib.validD [] = true := rfl
    rw [vt] at cV
    clear BAD hget
    go_enter Tryz.func56, Tryz.ntmps56
    go_wp2_with fail
    refine wp_loop_rounds 1 ?_
    rw [rounds_succ]
    go_wp2_with fail
    refine (cV _ HT.out).mono ?_
    rintro e w1 ⟨rfl, b1⟩
    go_wp2
    go_ret
    exact ⟨ret_bool HV.out.symm, b1⟩
  have hpos : 0 < l.length := by cases l with | nil => exact absurd rfl hnil | cons _ _ => simp
  have ALL := Lib.hid (all_of_getD l)
  have FALSE := Lib.hid (fun h => HR.out.trans (word_false l h))
  have TRUE := Lib.hid (fun h => HR.out.trans ((word_iff l).2 h))
  have fi : (⟨l.toArray⟩ : ByteArray).toList.isEmpty = false := by rw [Lib.toList_data]; cases l with | nil => exact absurd rfl hnil | cons _ _ => rfl
  generalize (⟨l.toArray⟩ : ByteArray) = s at hsz hget cV fi ⊢
  have GET := Lib.hid hget
  clear hget hnil HR
  go_enter Tryz.func56, Tryz.ntmps56
  go_wp2_with fail
  go_loopw [3] (fun v3 wr => ∃ k : Nat, k ≤ l.length ∧ v3 = .int .i64 k ∧ (∀ j, j < k → barB (l.getD j 0) = false) ∧ w = wr) (fun v3 _ => l.length - (intOf v3).toNat)
  case atStart => exact ⟨0, Nat.zero_le _, rfl, fun j hj => absurd hj (Nat.not_lt_zero _), rfl⟩
  case round =>
    obtain ⟨k, hk, rfl, hall, rfl⟩ := hrel
    have HALL := Lib.hid hall
    clear hall
    by_cases hlt : k < l.length
    · have hx := GET.out k hlt (by omega)
      have j1 : (k : Int) < (s.size : Int) := by omega
      have j2 : (k : Int) < (l.length : Int) := by omega
      have BK := Lib.hid (BAD.out k hlt)
      obtain ⟨x, hxe⟩ : ∃ x : UInt8, x = l.getD k 0 := ⟨_, rfl⟩
      rw [← hxe] at hx BK
      have HX := Lib.hid hxe
      clear hxe
      have cB := fun w => rbarred_is x w
      cases hb : barB x with
      | true =>
        have HV := Lib.hid (BK.out hb)
        rw [hb] at cB
        clear hb
        go_wp2_with fail
        refine (cB _).mono ?_
        rintro e w1 ⟨rfl, rfl⟩
        go_wp2
        go_ret
        exact ⟨ret_bool HV.out.symm, Below.refl _ _⟩
      | false =>
        rw [hb] at cB
        go_wp2_with fail
        refine (cB _).mono ?_
        rintro e w1 ⟨rfl, rfl⟩
        go_wp2
        go_roundw
        case rel =>
          refine ⟨k + 1, by omega, by go_num, fun j hj => ?_, by first | trivial | rfl⟩
          by_cases e : j = k
          · rw [e, ← HX.out]; exact hb
          · exact HALL.out j (by omega)
        case measure => simp [intOf]; omega
    · obtain rfl : k = l.length := by omega
      have AL := Lib.hid (ALL.out HALL.out)
      by_cases h200 : 200 < l.length
      · have HV := Lib.hid (FALSE.out fun h => by have := h.2.1; omega)
        have f : ((l.length : Int) > 200) = True := by simp; omega
        go_wp2
        go_ret
        exact ⟨ret_bool HV.out.symm, Below.refl _ _⟩
      · have f : ((l.length : Int) > 200) = False := by simp; omega
        go_wp2_with fail
        refine (cV _ HT.out).mono ?_
        rintro e w1 ⟨rfl, b1⟩
        cases hv : Lib.validD l with
        | false =>
          have HV := Lib.hid (FALSE.out fun h => by have := h.2.2.1; rw [hv] at this; cases this)
          clear hv
          go_wp2
          go_ret
          exact ⟨ret_bool HV.out.symm, b1⟩
        | true =>
          have x0 := GET.out 0 hpos (by omega)
          have x1 := GET.out (l.length - 1) (by omega) (by omega)
          have DEC := Lib.hid (show R = (((l.getD 0 0).toNat : Int) != 32 && ((l.getD (l.length - 1) 0).toNat : Int) != 32) by
            by_cases q0 : (l.getD 0 0).toNat = 32
            · rw [q0]; exact FALSE.out fun h => (h.2.2.2 (by intro e; rw [e] at hpos; simp at hpos)).1 q0
            · by_cases q1 : (l.getD (l.length - 1) 0).toNat = 32
              · rw [q1]; simp; exact FALSE.out fun h => (h.2.2.2 (by intro e; rw [e] at hpos; simp at hpos)).2 q1
              · have a0 : ((((l.getD 0 0).toNat : Nat) : Int) != 32) = true := by rw [bne_iff_ne]; omega
                have a1 : ((((l.getD (l.length - 1) 0).toNat : Nat) : Int) != 32) = true := by rw [bne_iff_ne]; omega
                rw [a0, a1]
                exact TRUE.out ⟨AL.out, by omega, hv, fun _ => ⟨q0, q1⟩⟩)
          generalize l.getD 0 0 = y0 at x0 DEC
          generalize l.getD (l.length - 1) 0 = y1 at x1 DEC
          have ix : ((l.length - 1 : Nat) : Int) = (l.length : Int) - 1 := by omega
          clear hv
          by_cases q0 : y0.toNat = 32
          · have f0 : (((y0.toNat : Nat) : Int) != 32) = false := by rw [q0]; rfl
            rw [f0] at DEC
            clear q0
            go_wp2
            go_ret
            exact ⟨ret_bool (by rw [DEC.out]; rfl), b1⟩
          · have f0 : (((y0.toNat : Nat) : Int) != 32) = true := by rw [bne_iff_ne]; omega
            rw [f0] at DEC
            clear q0
            go_wp2
            go_ret
            exact ⟨ret_bool (by rw [DEC.out]; rfl), b1⟩

set_option maxHeartbeats 4000000 in
set_option maxRecDepth 100000 in
theorem rRight_is (i : Idt) (h1 : i.name.length ≤ 1000000) (h2 : i.email.length ≤ 1000000) (w : World) (tab : T6 w) :
    Calls Tryz.prog 34 #[idtV i] w fun e w' => e = .returned (.bool (rightI i)) ∧ Below w.heap.size w w' := by
  obtain ⟨name, email, t, z⟩ := i
  unfold idtV rightI
  simp only at h1 h2 ⊢
  have c1 := fun w hT => rword_is name w h1 hT
  have c2 := fun w hT => rword_is email w h2 hT
  generalize (⟨name.toArray⟩ : ByteArray) = sn at c1 ⊢
  generalize (⟨email.toArray⟩ : ByteArray) = se at c2 ⊢
  have B0 := Lib.hid ((Below.refl w.heap.size w).alloc (Nat.le_refl _) (.cells #[.string sn, .string se, .int .i64 t, .int .i64 z] 26))
  have T0 := Lib.hid (Utf8Tabs_below tab.utf B0.out)
  have N0 := Lib.hid (heap_alloc_new w (.cells #[.string sn, .string se, .int .i64 t, .int .i64 z] 26))
  have S0 := Lib.hid (show (w.alloc (.cells #[.string sn, .string se, .int .i64 t, .int .i64 z] 26)).heap.size = w.heap.size + 1 by simp)
  clear tab h1 h2
  generalize wordL name = bn at c1 ⊢
  generalize wordL email = be at c2 ⊢
  cases bn with
  | false =>
    go_enter Tryz.func34, Tryz.ntmps34
    go_wp2_with fail
    refine (c1 _ T0.out).mono ?_
    rintro e w1 ⟨rfl, b1⟩
    have hb1 := B0.out.trans (b1.mono B0.out.size)
    go_wp2
    go_ret
    exact ⟨rfl, hb1⟩
  | true =>
    go_enter Tryz.func34, Tryz.ntmps34
    go_wp2_with fail
    refine (c1 _ T0.out).mono ?_
    rintro e w1 ⟨rfl, b1⟩
    have hb1 := B0.out.trans (b1.mono B0.out.size)
    have hN1 := (b1.block w.heap.size (by rw [S0.out]; omega)).trans N0.out
    have hc1 : w1.cell? ⟨w.heap.size, 1, none⟩ = some (.string se) := by rw [Lib.cell_of_heap hN1]; rfl
    have T1 := Lib.hid (Utf8Tabs_below T0.out b1)
    have S1 := Lib.hid (show w.heap.size < w1.heap.size by have := b1.size; rw [S0.out] at this; omega)
    have N1 := Lib.hid hN1
    clear b1 hN1
    go_wp2_with fail
    refine (c2 _ T1.out).mono ?_
    rintro e w2 ⟨rfl, b2⟩
    have hb2 := hb1.trans (b2.mono hb1.size)
    have hN2 := (b2.block w.heap.size S1.out).trans N1.out
    have hc2 : w2.cell? ⟨w.heap.size, 2, none⟩ = some (.int .i64 t) := by rw [Lib.cell_of_heap hN2]; rfl
    have hc3 : w2.cell? ⟨w.heap.size, 3, none⟩ = some (.int .i64 z) := by rw [Lib.cell_of_heap hN2]; rfl
    clear hb1 b2 hN2 N1 N0 S0 S1 T1 T0 B0 c1 c2
    cases be with
    | false =>
      go_wp2
      go_ret
      exact ⟨rfl, hb2⟩
    | true =>
      by_cases t0 : 0 ≤ t
      · by_cases t1 : t ≤ 1099511627775
        · by_cases z0 : -840 ≤ z
          · by_cases z1 : z ≤ 840
            · go_wp2
              go_ret
              exact ⟨ret_bool (by rw [decide_eq_true t0, decide_eq_true t1, decide_eq_true z0, decide_eq_true z1]; rfl), hb2⟩
            · have v1 := decide_eq_false z1
              go_wp2
              go_ret
              exact ⟨ret_bool (by rw [v1]; simp), hb2⟩
          · have v0 := decide_eq_false z0
            go_wp2
            go_ret
            exact ⟨ret_bool (by rw [v0]; simp), hb2⟩
        · have u1 := decide_eq_false t1
          go_wp2
          go_ret
          exact ⟨ret_bool (by rw [u1]; simp), hb2⟩
      · have u0 := decide_eq_false t0
        go_wp2
        go_ret
        exact ⟨ret_bool (by rw [u0]; simp), hb2⟩

theorem conv_two (x y : Int) (w : World) :
    (convert 29 9 (.slice (some ⟨w.heap.size, 0, none⟩) 2 2)).run Tryz.prog (w.alloc (.cells #[.int .u8 x, .int .u8 y] 5)) = .ok (.string ⟨[UInt8.ofNat x.toNat, UInt8.ofNat y.toNat].toArray⟩) (w.alloc (.cells #[.int .u8 x, .int .u8 y] 5)) :=
  run_convert_bytes_arg _ 29 5 Tryz.underlying29 Tryz.underlying5 w.heap.size 0 2 2 [x, y] rfl (fun i hi => by
    obtain rfl | rfl : i = 0 ∨ i = 1 := by omega
    · exact Lib.cell_of_heap (heap_alloc_new _ _) 0
    · exact Lib.cell_of_heap (heap_alloc_new _ _) 1) 9 Tryz.underlying9
set_option maxHeartbeats 2000000 in
theorem rtwo_is (n : Int) (h0 : 0 ≤ n) (h1 : n < 100) (w : World) :
    Calls Tryz.prog 44 #[.int .i64 n] w fun e w' => e = .returned (.string ⟨(twoD n.toNat).toArray⟩) ∧ Below w.heap.size w w' := by
  have q1 := IntWalk.i64_quo n 10 (by omega)
  have q2 := IntWalk.rem_in n 10 (by omega)
  have q3 := IntWalk.u8_in (48 + n / 10) (by omega)
  have q4 := IntWalk.u8_in (48 + n % 10) (by omega)
  have q5 := IntWalk.i64_in (48 + n / 10) (by omega)
  have q6 := IntWalk.i64_in (48 + n % 10) (by omega)
  have E := Lib.hid (show [UInt8.ofNat (48 + n / 10).toNat, UInt8.ofNat (48 + n % 10).toNat] = twoD n.toNat by
    unfold twoD
    rw [show (48 + n / 10).toNat = 48 + n.toNat / 10 by omega, show (48 + n % 10).toNat = 48 + n.toNat % 10 by omega])
  have cv := conv_two (48 + n / 10) (48 + n % 10) w
  have B1 := Lib.hid ((Below.refl w.heap.size w).alloc (Nat.le_refl _) (.cells #[.int .u8 (48 + n / 10), .int .u8 (48 + n % 10)] 5))
  rw [E.out] at cv
  generalize twoD n.toNat = l at cv ⊢
  go_enter Tryz.func44, Tryz.ntmps44
  go_wp2
  go_ret
  exact ⟨rfl, B1.out⟩
end Go.Proofs.YtonkclkopmdahaaGreatDoor

/-
  Layer 6: Print of the reference.
-/
namespace Go.Proofs.YtonkclkopmdahaaGreatDoor
open Go.RowKit
set_option linter.unusedVariables false
set_option linter.unusedSimpArgs false

set_option maxHeartbeats 8000000 in
set_option maxRecDepth 100000 in
theorem rPrint_bad (i : Idt) (h1 : i.name.length ≤ 1000000) (h2 : i.email.length ≤ 1000000) (hr : rightI i = false) (w : World) (tab : T6 w) :
    Calls Tryz.prog 25 #[idtV i] w fun e w' => e = .returned (.string ⟨#[]⟩) ∧ Below w.heap.size w w' := by
  have cR := fun w t => rRight_is i h1 h2 w t
  rw [hr] at cR
  unfold idtV at cR ⊢
  have B0 := Lib.hid ((Below.refl w.heap.size w).alloc (Nat.le_refl _) (.cells #[.string ⟨i.name.toArray⟩, .string ⟨i.email.toArray⟩, .int .i64 i.whn, .int .i64 i.zone] 26))
  have T0 := Lib.hid (tab.keep B0.out)
  clear tab
  go_enter Tryz.func25, Tryz.ntmps25
  go_wp2_with fail
  refine (cR _ T0.out).mono ?_
  rintro e w1 ⟨rfl, b1⟩
  go_wp2
  go_ret
  exact ⟨rfl, B0.out.trans (b1.mono B0.out.size)⟩

/-- The text of an ident's parts, whatever its sign. -/
def signL (z : Int) : List UInt8 := if z < 0 then [45] else [43]
theorem text_sign (name email num : List UInt8) (z : Int) : textT name email num (zoneT z) = aheadT name ++ [60] ++ email ++ [62, 32] ++ num ++ [32] ++ signL z ++ twoD (z.natAbs / 60) ++ twoD (z.natAbs % 60) := by
  unfold textT zoneT signL
  split <;> simp

set_option maxHeartbeats 16000000 in
set_option maxRecDepth 100000 in
theorem rPrint_good (i : Idt) (hr : rightI i = true) (w : World) (tab : T6 w) :
    Calls Tryz.prog 25 #[idtV i] w fun e w' => e = .returned (.string ⟨(textT i.name i.email (Lib.itoa i.whn) (zoneT i.zone)).toArray⟩) ∧ Below w.heap.size w w' := by
  obtain ⟨r1, r2, r3, r4, r5, r6⟩ := (right_iff i).1 hr
  have l1 := ((word_iff _).1 r1).2.1
  have l2 := ((word_iff _).1 r2).2.1
  have l3 := num_len i.whn r3 r4
  have cR := fun w t => rRight_is i (by omega) (by omega) w t
  rw [hr] at cR
  have cN := fun w => rNumber i.whn (by omega) (by omega) w
  rw [text_sign]
  unfold idtV at cR ⊢
  obtain ⟨name, email, t, z⟩ := i
  simp only at cR cN l1 l2 l3 r5 r6 ⊢
  clear r1 r2 hr
  generalize Lib.itoa t = num at cN l3 ⊢
  obtain ⟨n, hn⟩ : ∃ n : Nat, z.natAbs = n := ⟨_, rfl⟩
  rw [hn]
  have n840 : n ≤ 840 := by omega
  have q1 := IntWalk.i64_quo (n : Int) 60 (by omega)
  have q2 := IntWalk.rem_in (n : Int) 60 (by omega)
  have c1 := fun w => rtwo_is ((n : Int) / 60) (by omega) (by omega) w
  have c2 := fun w => rtwo_is ((n : Int) % 60) (by omega) (by omega) w
  rw [show ((n : Int) / 60).toNat = n / 60 by omega] at c1
  rw [show ((n : Int) % 60).toNat = n % 60 by omega] at c2
  have q2w : IntKind.i64.wrap ((n : Int).tmod 60) = (n : Int) % 60 := by rw [q2]; exact IntWalk.i64_in _ (by omega)
  have q1w : IntKind.i64.wrap ((n : Int) / 60) = (n : Int) / 60 := IntWalk.i64_in _ (by omega)
  have q1v : (n : Int) / 60 = (n : Int) / 60 := rfl
  have q2v : (n : Int) % 60 = (n : Int) % 60 := rfl
  have q2u : IntKind.i64.wrap ((n : Int) % 60) = (n : Int) % 60 := IntWalk.i64_in _ (by omega)
  obtain ⟨qq, hqq⟩ : ∃ qq, (n : Int) / 60 = qq := ⟨_, rfl⟩
  rw [hqq] at q1 c1
  have q1w := q1w.trans hqq
  have q1v := hqq
  obtain ⟨rr, hrr⟩ : ∃ rr, (n : Int) % 60 = rr := ⟨_, rfl⟩
  rw [hrr] at q2 q2w c2
  have q2u := q2u.trans hrr
  have q2v := hrr
  have HQ := Lib.hid (And.intro q1 (And.intro q1w q1v))
  have HRR := Lib.hid (And.intro q2 (And.intro q2w (And.intro q2u q2v)))
  clear q1 q1w q1v q2 q2w q2u q2v hqq hrr
  have t1 : (twoD (n / 60)).length = 2 := rfl
  have t2 : (twoD (n % 60)).length = 2 := rfl
  generalize twoD (n / 60) = d1 at c1 t1 ⊢
  generalize twoD (n % 60) = d2 at c2 t2 ⊢
  have B0 := Lib.hid ((Below.refl w.heap.size w).alloc (Nat.le_refl _) (.cells #[.string ⟨name.toArray⟩, .string ⟨email.toArray⟩, .int .i64 t, .int .i64 z] 26))
  have T0 := Lib.hid (tab.keep B0.out)
  have N0 := Lib.hid (heap_alloc_new w (.cells #[.string ⟨name.toArray⟩, .string ⟨email.toArray⟩, .int .i64 t, .int .i64 z] 26))
  have S0 := Lib.hid (show (w.alloc (.cells #[.string ⟨name.toArray⟩, .string ⟨email.toArray⟩, .int .i64 t, .int .i64 z] 26)).heap.size = w.heap.size + 1 by simp)
  have la : (aheadT name).length ≤ 201 := by
    unfold aheadT
    split
    · simp
    · simp; omega
  have ls : (signL z).length = 1 := by unfold signL; split <;> rfl
  have ad0 := fun w => add_lists (P := Tryz.prog) w name [32] (by simp; omega)
  have ad1 := fun w => add_lists (P := Tryz.prog) w (aheadT name) [60] (by simp; omega)
  have ad2 := fun w => add_lists (P := Tryz.prog) w (aheadT name ++ [60]) email (by simp; omega)
  have ad3 := fun w => add_lists (P := Tryz.prog) w (aheadT name ++ [60] ++ email) [62, 32] (by simp; omega)
  have ad4 := fun w => add_lists (P := Tryz.prog) w (aheadT name ++ [60] ++ email ++ [62, 32]) num (by simp; omega)
  have ad5 := fun w => add_lists (P := Tryz.prog) w (aheadT name ++ [60] ++ email ++ [62, 32] ++ num) [32] (by simp; omega)
  have ad6 := fun w => add_lists (P := Tryz.prog) w (aheadT name ++ [60] ++ email ++ [62, 32] ++ num ++ [32]) (signL z) (by simp; omega)
  have ad7 := fun w => add_lists (P := Tryz.prog) w (aheadT name ++ [60] ++ email ++ [62, 32] ++ num ++ [32] ++ signL z) d1 (by simp; omega)
  have ad8 := fun w => add_lists (P := Tryz.prog) w (aheadT name ++ [60] ++ email ++ [62, 32] ++ num ++ [32] ++ signL z ++ d1) d2 (by simp; omega)
  generalize (⟨(aheadT name ++ [60] ++ email ++ [62, 32] ++ num ++ [32] ++ signL z ++ d1 ++ d2).toArray⟩ : ByteArray) = s8 at ad8 ⊢
  generalize (⟨(aheadT name ++ [60] ++ email ++ [62, 32] ++ num ++ [32] ++ signL z ++ d1).toArray⟩ : ByteArray) = s7 at ad7 ad8
  generalize (⟨(aheadT name ++ [60] ++ email ++ [62, 32] ++ num ++ [32] ++ signL z).toArray⟩ : ByteArray) = s6 at ad6 ad7
  generalize (⟨(aheadT name ++ [60] ++ email ++ [62, 32] ++ num ++ [32]).toArray⟩ : ByteArray) = s5 at ad5 ad6
  generalize (⟨(aheadT name ++ [60] ++ email ++ [62, 32] ++ num).toArray⟩ : ByteArray) = s4 at ad4 ad5
  generalize (⟨(aheadT name ++ [60] ++ email ++ [62, 32]).toArray⟩ : ByteArray) = s3 at ad3 ad4
  generalize (⟨(aheadT name ++ [60] ++ email).toArray⟩ : ByteArray) = s2 at ad2 ad3
  generalize (⟨(aheadT name ++ [60]).toArray⟩ : ByteArray) = s1 at ad1 ad2
  generalize (⟨email.toArray⟩ : ByteArray) = se at *
  generalize (⟨num.toArray⟩ : ByteArray) = sn at *
  generalize (⟨d1.toArray⟩ : ByteArray) = sd1 at *
  generalize (⟨d2.toArray⟩ : ByteArray) = sd2 at *
  have dN := fun w' (h : PS se t z w w') => ((cN w').mono (fun e w'' ⟨he, hb⟩ => ⟨he, ps_keep h hb⟩) : Calls Tryz.prog 43 #[.int .i64 t] w' fun e w'' => e = .returned (.string sn) ∧ PS se t z w w'')
  have e1 := fun w' (h : PS se t z w w') (a : Int) (ha : a = qq) => (by rw [ha]; exact (c1 w').mono (fun e w'' ⟨he, hb⟩ => ⟨he, ps_keep h hb⟩) : Calls Tryz.prog 44 #[.int .i64 a] w' fun e w'' => e = .returned (.string sd1) ∧ PS se t z w w'')
  have e2 := fun w' (h : PS se t z w w') (a : Int) (ha : a = rr) => (by rw [ha]; exact (c2 w').mono (fun e w'' ⟨he, hb⟩ => ⟨he, ps_keep h hb⟩) : Calls Tryz.prog 44 #[.int .i64 a] w' fun e w'' => e = .returned (.string sd2) ∧ PS se t z w w'')
  have DN := Lib.hid dN
  have E1 := Lib.hid e1
  have E2 := Lib.hid e2
  clear tab l1 l2 l3 la r3 r4 cN c1 c2 dN e1 e2 t1 t2 ls
  by_cases hneg : z < 0
  · by_cases hne : name = []
    · subst hne
      have ea : aheadT ([] : List UInt8) = [] := rfl
      rw [ea] at ad1
      have hz : -z = (n : Int) := by omega
      have hs : signL z = [45] := by unfold signL; rw [if_pos hneg]
      rw [hs] at ad6
      clear hn hs
      go_enter Tryz.func25, Tryz.ntmps25
      go_wp2_with fail
      refine (cR _ T0.out).mono ?_
      rintro e w1 ⟨rfl, b1⟩
      have hb1 := B0.out.trans (b1.mono B0.out.size)
      have hN1 := (b1.block w.heap.size (by rw [S0.out]; omega)).trans N0.out
      have hS1 : PS se t z w w1 := ⟨by rw [Lib.cell_of_heap hN1]; rfl, by rw [Lib.cell_of_heap hN1]; rfl, by rw [Lib.cell_of_heap hN1]; rfl, T0.out.keep b1, hb1, by have := b1.size; rw [S0.out] at this; omega⟩
      have hc0 : w1.cell? ⟨w.heap.size, 0, none⟩ = some (.string ⟨#[]⟩) := by rw [Lib.cell_of_heap hN1]; rfl
      have K0 := ps_drew hS1
      have K1 := ps_drew K0
      clear b1 hb1 hN1 hS1 B0 T0 N0 S0 cR
      go_wp2_with fail
      go_region_held3 (fun w' => w'.cell? ⟨w.heap.size, 1, none⟩ = some (.string se) ∧ w'.cell? ⟨w.heap.size, 2, none⟩ = some (.int .i64 t) ∧ w'.cell? ⟨w.heap.size, 3, none⟩ = some (.int .i64 z) ∧ Rest w w') (assumption) (fail)
      go_wp2_with fail
      go_region_held3 (fun w' => w'.cell? ⟨w.heap.size, 1, none⟩ = some (.string se) ∧ w'.cell? ⟨w.heap.size, 2, none⟩ = some (.int .i64 t) ∧ w'.cell? ⟨w.heap.size, 3, none⟩ = some (.int .i64 z) ∧ Rest w w') (assumption)
        (first | (go_at_call 43; refine (DN.out _ (by assumption)).mono ?_; rintro e w' ⟨rfl, hS⟩) | (go_at_call 44; refine (E1.out _ (by assumption) _ (by first | with_reducible exact HQ.out.1 | with_reducible exact HQ.out.2.1 | with_reducible exact HQ.out.2.2)).mono ?_; rintro e w' ⟨rfl, hS⟩) | (go_at_call 44; refine (E2.out _ (by assumption) _ (by first | with_reducible exact HRR.out.1 | with_reducible exact HRR.out.2.1 | with_reducible exact HRR.out.2.2.1 | with_reducible exact HRR.out.2.2.2)).mono ?_; rintro e w' ⟨rfl, hS⟩))
      go_wp2
      go_ret
      exact ⟨rfl, hS.2.2.2.2.1⟩
    · skip
      have ea : aheadT name = name ++ [32] := by unfold aheadT; rw [if_neg hne]
      rw [ea] at ad1
      generalize (⟨(name ++ [32]).toArray⟩ : ByteArray) = sA at ad0 ad1
      have fe : (name == ([] : List UInt8)) = false := by rw [beq_eq_false_iff_ne]; exact hne
      have fi : name.isEmpty = false := by cases name with | nil => exact absurd rfl hne | cons _ _ => rfl
      clear hne ea
      have hz : -z = (n : Int) := by omega
      have hs : signL z = [45] := by unfold signL; rw [if_pos hneg]
      rw [hs] at ad6
      clear hn hs
      go_enter Tryz.func25, Tryz.ntmps25
      go_wp2_with fail
      refine (cR _ T0.out).mono ?_
      rintro e w1 ⟨rfl, b1⟩
      have hb1 := B0.out.trans (b1.mono B0.out.size)
      have hN1 := (b1.block w.heap.size (by rw [S0.out]; omega)).trans N0.out
      have hS1 : PS se t z w w1 := ⟨by rw [Lib.cell_of_heap hN1]; rfl, by rw [Lib.cell_of_heap hN1]; rfl, by rw [Lib.cell_of_heap hN1]; rfl, T0.out.keep b1, hb1, by have := b1.size; rw [S0.out] at this; omega⟩
      have hc0 : w1.cell? ⟨w.heap.size, 0, none⟩ = some (.string ⟨name.toArray⟩) := by rw [Lib.cell_of_heap hN1]; rfl
      have K0 := ps_drew hS1
      have K1 := ps_drew K0
      clear b1 hb1 hN1 hS1 B0 T0 N0 S0 cR
      go_wp2_with fail
      go_region_held3 (fun w' => w'.cell? ⟨w.heap.size, 1, none⟩ = some (.string se) ∧ w'.cell? ⟨w.heap.size, 2, none⟩ = some (.int .i64 t) ∧ w'.cell? ⟨w.heap.size, 3, none⟩ = some (.int .i64 z) ∧ Rest w w') (assumption) (fail)
      go_wp2_with fail
      go_region_held3 (fun w' => w'.cell? ⟨w.heap.size, 1, none⟩ = some (.string se) ∧ w'.cell? ⟨w.heap.size, 2, none⟩ = some (.int .i64 t) ∧ w'.cell? ⟨w.heap.size, 3, none⟩ = some (.int .i64 z) ∧ Rest w w') (assumption)
        (first | (go_at_call 43; refine (DN.out _ (by assumption)).mono ?_; rintro e w' ⟨rfl, hS⟩) | (go_at_call 44; refine (E1.out _ (by assumption) _ (by first | with_reducible exact HQ.out.1 | with_reducible exact HQ.out.2.1 | with_reducible exact HQ.out.2.2)).mono ?_; rintro e w' ⟨rfl, hS⟩) | (go_at_call 44; refine (E2.out _ (by assumption) _ (by first | with_reducible exact HRR.out.1 | with_reducible exact HRR.out.2.1 | with_reducible exact HRR.out.2.2.1 | with_reducible exact HRR.out.2.2.2)).mono ?_; rintro e w' ⟨rfl, hS⟩))
      go_wp2
      go_ret
      exact ⟨rfl, hS.2.2.2.2.1⟩
  · by_cases hne : name = []
    · subst hne
      have ea : aheadT ([] : List UInt8) = [] := rfl
      rw [ea] at ad1
      have hz : z = (n : Int) := by omega
      have hs : signL z = [43] := by unfold signL; rw [if_neg hneg]
      rw [hs] at ad6
      clear hn hs
      subst hz
      go_enter Tryz.func25, Tryz.ntmps25
      go_wp2_with fail
      refine (cR _ T0.out).mono ?_
      rintro e w1 ⟨rfl, b1⟩
      have hb1 := B0.out.trans (b1.mono B0.out.size)
      have hN1 := (b1.block w.heap.size (by rw [S0.out]; omega)).trans N0.out
      have hS1 : PS se t (n : Int) w w1 := ⟨by rw [Lib.cell_of_heap hN1]; rfl, by rw [Lib.cell_of_heap hN1]; rfl, by rw [Lib.cell_of_heap hN1]; rfl, T0.out.keep b1, hb1, by have := b1.size; rw [S0.out] at this; omega⟩
      have hc0 : w1.cell? ⟨w.heap.size, 0, none⟩ = some (.string ⟨#[]⟩) := by rw [Lib.cell_of_heap hN1]; rfl
      have K0 := ps_drew hS1
      have K1 := ps_drew K0
      clear b1 hb1 hN1 hS1 B0 T0 N0 S0 cR
      go_wp2_with fail
      go_region_held3 (fun w' => w'.cell? ⟨w.heap.size, 1, none⟩ = some (.string se) ∧ w'.cell? ⟨w.heap.size, 2, none⟩ = some (.int .i64 t) ∧ w'.cell? ⟨w.heap.size, 3, none⟩ = some (.int .i64 (n : Int)) ∧ Rest w w') (assumption) (fail)
      go_wp2_with fail
      go_region_held3 (fun w' => w'.cell? ⟨w.heap.size, 1, none⟩ = some (.string se) ∧ w'.cell? ⟨w.heap.size, 2, none⟩ = some (.int .i64 t) ∧ w'.cell? ⟨w.heap.size, 3, none⟩ = some (.int .i64 (n : Int)) ∧ Rest w w') (assumption)
        (first | (go_at_call 43; refine (DN.out _ (by assumption)).mono ?_; rintro e w' ⟨rfl, hS⟩) | (go_at_call 44; refine (E1.out _ (by assumption) _ (by first | with_reducible exact HQ.out.1 | with_reducible exact HQ.out.2.1 | with_reducible exact HQ.out.2.2)).mono ?_; rintro e w' ⟨rfl, hS⟩) | (go_at_call 44; refine (E2.out _ (by assumption) _ (by first | with_reducible exact HRR.out.1 | with_reducible exact HRR.out.2.1 | with_reducible exact HRR.out.2.2.1 | with_reducible exact HRR.out.2.2.2)).mono ?_; rintro e w' ⟨rfl, hS⟩))
      go_wp2
      go_ret
      exact ⟨rfl, hS.2.2.2.2.1⟩
    · skip
      have ea : aheadT name = name ++ [32] := by unfold aheadT; rw [if_neg hne]
      rw [ea] at ad1
      generalize (⟨(name ++ [32]).toArray⟩ : ByteArray) = sA at ad0 ad1
      have fe : (name == ([] : List UInt8)) = false := by rw [beq_eq_false_iff_ne]; exact hne
      have fi : name.isEmpty = false := by cases name with | nil => exact absurd rfl hne | cons _ _ => rfl
      clear hne ea
      have hz : z = (n : Int) := by omega
      have hs : signL z = [43] := by unfold signL; rw [if_neg hneg]
      rw [hs] at ad6
      clear hn hs
      subst hz
      go_enter Tryz.func25, Tryz.ntmps25
      go_wp2_with fail
      refine (cR _ T0.out).mono ?_
      rintro e w1 ⟨rfl, b1⟩
      have hb1 := B0.out.trans (b1.mono B0.out.size)
      have hN1 := (b1.block w.heap.size (by rw [S0.out]; omega)).trans N0.out
      have hS1 : PS se t (n : Int) w w1 := ⟨by rw [Lib.cell_of_heap hN1]; rfl, by rw [Lib.cell_of_heap hN1]; rfl, by rw [Lib.cell_of_heap hN1]; rfl, T0.out.keep b1, hb1, by have := b1.size; rw [S0.out] at this; omega⟩
      have hc0 : w1.cell? ⟨w.heap.size, 0, none⟩ = some (.string ⟨name.toArray⟩) := by rw [Lib.cell_of_heap hN1]; rfl
      have K0 := ps_drew hS1
      have K1 := ps_drew K0
      clear b1 hb1 hN1 hS1 B0 T0 N0 S0 cR
      go_wp2_with fail
      go_region_held3 (fun w' => w'.cell? ⟨w.heap.size, 1, none⟩ = some (.string se) ∧ w'.cell? ⟨w.heap.size, 2, none⟩ = some (.int .i64 t) ∧ w'.cell? ⟨w.heap.size, 3, none⟩ = some (.int .i64 (n : Int)) ∧ Rest w w') (assumption) (fail)
      go_wp2_with fail
      go_region_held3 (fun w' => w'.cell? ⟨w.heap.size, 1, none⟩ = some (.string se) ∧ w'.cell? ⟨w.heap.size, 2, none⟩ = some (.int .i64 t) ∧ w'.cell? ⟨w.heap.size, 3, none⟩ = some (.int .i64 (n : Int)) ∧ Rest w w') (assumption)
        (first | (go_at_call 43; refine (DN.out _ (by assumption)).mono ?_; rintro e w' ⟨rfl, hS⟩) | (go_at_call 44; refine (E1.out _ (by assumption) _ (by first | with_reducible exact HQ.out.1 | with_reducible exact HQ.out.2.1 | with_reducible exact HQ.out.2.2)).mono ?_; rintro e w' ⟨rfl, hS⟩) | (go_at_call 44; refine (E2.out _ (by assumption) _ (by first | with_reducible exact HRR.out.1 | with_reducible exact HRR.out.2.1 | with_reducible exact HRR.out.2.2.1 | with_reducible exact HRR.out.2.2.2)).mono ?_; rintro e w' ⟨rfl, hS⟩))
      go_wp2
      go_ret
      exact ⟨rfl, hS.2.2.2.2.1⟩
theorem rPrint_is (i : Idt) (h1 : i.name.length ≤ 1000000) (h2 : i.email.length ≤ 1000000) (w : World) (tab : T6 w) :
    Calls Tryz.prog 25 #[idtV i] w fun e w' => e = .returned (.string ⟨(printI Lib.itoa i).toArray⟩) ∧ Below w.heap.size w w' := by
  unfold printI
  cases hr : rightI i with
  | true => rw [if_pos rfl]; exact rPrint_good i hr w tab
  | false => rw [if_neg (by decide)]; exact rPrint_bad i h1 h2 hr w tab
end Go.Proofs.YtonkclkopmdahaaGreatDoor
