/-
  Texts that belong together, one behind the other.
-/
import Derived.Test.YtnohonjjfjppoaaGreatDoorFu15
import Derived.Test.YtnohonjjfjppoaaGreatDoorFu13
import Derived.Laws.IdiomStrings
import Derived.Lib.FrozenHead2
import Derived.Test.YtnohonjjfjppoaaGreatDoorFu01
/-
  bytes.Clone, bytes.Equal.
-/
namespace Go.Proofs.YtnohonjjfjppoaaGreatDoor
open Go.RowKit
set_option linter.unusedVariables false
set_option maxHeartbeats 1000000 in
theorem bClone_any (l : List UInt8) (w : World) (a : Option Addr) (n c : Nat) (hb : BAt w a l) (hn : n = l.length) (hno : a = none → n = 0 ∧ c = 0) (hl : l.length ≤ 1099511627776) :
    Calls Tryz.prog 67 #[.slice a n c] w fun e w' => ∃ v', e = .returned v' ∧ Row w' v' l ∧ (∀ g, foot v' = some g → w.heap.size ≤ g) ∧ Below w.heap.size w w' := by
  subst hn
  have HB := Lib.hid hb; have HNO := Lib.hid hno
  clear hb hno
  cases a with
  | none =>
    have e1 := (HNO.out rfl).1
    obtain rfl : l = [] := List.eq_nil_of_length_eq_zero e1
    obtain rfl := (HNO.out rfl).2
    clear e1 HB HNO
    have qT : ∀ (w : World) (a : Option Addr) (n c n' c' : Nat), (binOp .eql 50 (.slice a n c) (.slice none n' c')).run Tryz.prog w = .ok (.bool a.isNone) w := fun w a n c n' c' => Lib.run_eql_slice_nil w _ _ a n c n' c' Tryz.underlying50
    go_enter Tryz.func67, Tryz.ntmps67
    go_wp2
    go_ret
    exact ⟨_, rfl, Row.nil _ _, fun g hg => by simp [foot] at hg, Below.refl _ _⟩
  | some ad =>
    have qT : ∀ (w : World) (a : Option Addr) (n c n' c' : Nat), (binOp .eql 50 (.slice a n c) (.slice none n' c')).run Tryz.prog w = .ok (.bool a.isNone) w := fun w a n c n' c' => Lib.run_eql_slice_nil w _ _ a n c n' c' Tryz.underlying50
    go_enter Tryz.func67, Tryz.ntmps67
    go_wp2_with (first
      | (at_builtin; refine wpList_append_row rfl (.tmp 5) (.tmp 6) rfl (.slice (some ⟨w.heap.size, 0, none⟩) 0 0) rfl [] l (Row.nil _ _) (some ad) l.length c rfl ((HB.out.below ((Below.refl _ w).alloc (Nat.le_refl _) _) (Nat.le_refl _))) rfl HNO.out (by simpa using hl) ?_; intro v' w' hap)
      | fail)
    obtain ⟨h1, h2, h3⟩ := hap
    have H1 := Lib.hid h1
    have hb2 : Below w.heap.size w w' := ((Below.refl _ w).alloc (Nat.le_refl _) _).grown h2 (by simp) (fun k hk => by rw [foot_zero] at hk; cases hk)
    have hf : ∀ g, foot v' = some g → w.heap.size ≤ g := fun g hg => by
      rcases h3 with h3 | h3 | h3
      · rw [h3, foot_zero] at hg; cases hg
      · rw [h3] at hg; cases hg
      · rw [h3] at hg; simp at hg; omega
    have HF := Lib.hid hf
    clear h1 h2 h3 hf
    go_wp2
    go_ret
    exact ⟨_, rfl, by simpa using H1.out, HF.out, hb2⟩
set_option maxHeartbeats 400000 in
theorem bEqual_any (a1 a2 : Option Addr) (n1 n2 c1 c2 : Nat) (l1 l2 : List UInt8) (w : World) (h1 : BAt w a1 l1) (h2 : BAt w a2 l2) (e1 : n1 = l1.length) (e2 : n2 = l2.length) :
    Calls Tryz.prog 120 #[.slice a1 n1 c1, .slice a2 n2 c2] w fun e w' => e = .returned (.bool (l1 == l2)) ∧ w = w' := by
  subst e1; subst e2
  have g1 := h1.conv (P := Tryz.prog) c1 50 5 Tryz.underlying50 Tryz.underlying5 9 Tryz.underlying9
  have g2 := h2.conv (P := Tryz.prog) c2 50 5 Tryz.underlying50 Tryz.underlying5 9 Tryz.underlying9
  clear h1 h2
  go_enter Tryz.func120, Tryz.ntmps120
  go_wp2
  go_ret
  exact ⟨rfl, rfl⟩
end Go.Proofs.YtnohonjjfjppoaaGreatDoor

/-
  Layer 10, the program: New; an object as a value of its kind's type.
-/
namespace Go.Proofs.YtnohonjjfjppoaaGreatDoor
set_option maxRecDepth 20000
open Go.RowKit
set_option linter.unusedVariables false
set_option linter.unusedSimpArgs false
theorem new_is (w : World) : Calls Tryz.prog 11 #[] w fun e w' => e = .returned (.pointer (some ⟨w.heap.size, 0, none⟩)) ∧ w' = w.alloc (.cells #[.map none] 66) := by
  go_enter Tryz.func11, Tryz.ntmps11
  go_wp2
  go_ret
  exact ⟨rfl, rfl⟩
theorem StoreP.new (S : Nat → Prop) (w : World) (hS : S w.heap.size) : StoreP S (w.alloc (.cells #[.map none] 66)) w.heap.size [] := by
  refine ⟨hS, [], none, rfl, heap_alloc_new w _, ?_, fun _ => rfl, ?_⟩
  · intro e he
    cases he
  · intro b hb
    cases hb
theorem tp_same (T : TypeId) (hT : T = 148 ∨ T = 150 ∨ T = 152) (x : Value) (w : World) : (Instr.typeAssert (.iface T x) 100 T true).run Tryz.prog w = .ok (.tuple #[x, .bool true]) w := by
  rcases hT with rfl | rfl | rfl <;> kernel_rfl
theorem tp_21 (x : Value) (w : World) : (Instr.typeAssert (.iface 150 x) 100 148 true).run Tryz.prog w = .ok (.tuple #[.agg #[.slice none 0 0], .bool false]) w := by kernel_rfl
theorem tp_31 (x : Value) (w : World) : (Instr.typeAssert (.iface 152 x) 100 148 true).run Tryz.prog w = .ok (.tuple #[.agg #[.slice none 0 0], .bool false]) w := by kernel_rfl
theorem tp_32 (x : Value) (w : World) : (Instr.typeAssert (.iface 152 x) 100 150 true).run Tryz.prog w = .ok (.tuple #[.agg #[.slice none 0 0], .bool false]) w := by kernel_rfl
set_option maxHeartbeats 4000000 in
theorem kind_is (k : Int) (hk : kindO k) (a : Option Addr) (n c : Nat) (w : World) :
    Calls Tryz.prog 66 #[thingP k (.slice a n c)] w fun e w' => e = .returned (.int .i64 k) ∧ Below w.heap.size w w' := by
  rcases hk with rfl | rfl | rfl
  · rw [thingP1]
    have t1 := tp_same 148 (by simp) (.agg #[.slice a n c])
    have B0 := (Below.refl w.heap.size w).alloc (Nat.le_refl _) (.cells #[.slice a n c] 148)
    have B := Lib.hid B0
    clear B0
    go_enter Tryz.func66, Tryz.ntmps66
    go_wp2
    go_ret
    exact ⟨rfl, B.out⟩
  · rw [thingP2]
    have t1 := tp_21 (.agg #[.slice a n c])
    have t2 := tp_same 150 (by simp) (.agg #[.slice a n c])
    have B0 := (Below.refl w.heap.size w).alloc (Nat.le_refl _) (.cells #[.slice none 0 0] 148)
    have B1 := B0.alloc B0.size (.cells #[.slice a n c] 150)
    have B := Lib.hid B1
    clear B0 B1
    go_enter Tryz.func66, Tryz.ntmps66
    go_wp2
    go_ret
    exact ⟨rfl, B.out⟩
  · rw [thingP3]
    have t1 := tp_31 (.agg #[.slice a n c])
    have t2 := tp_32 (.agg #[.slice a n c])
    have t3 := tp_same 152 (by simp) (.agg #[.slice a n c])
    have B0 := (Below.refl w.heap.size w).alloc (Nat.le_refl _) (.cells #[.slice none 0 0] 148)
    have B1 := B0.alloc B0.size (.cells #[.slice none 0 0] 150)
    have B2 := B1.alloc B1.size (.cells #[.slice a n c] 152)
    have B := Lib.hid B2
    clear B0 B1 B2
    go_enter Tryz.func66, Tryz.ntmps66
    go_wp2
    go_ret
    exact ⟨rfl, B.out⟩
/-- The bytes of a thing: the store's own ones. -/
theorem m_bytes (T : TypeId) (hT : T = 148 ∨ T = 150 ∨ T = 152) (x : Value) (w : World) : (method 366 T (.agg #[x]) "trestle/objects.bytes").run Tryz.prog w = .ok (204, x) w := by
  rcases hT with rfl | rfl | rfl <;> kernel_rfl
set_option maxHeartbeats 1000000 in
theorem obytes_is (a : Option Addr) (n c : Nat) (w : World) :
    Calls Tryz.prog 204 #[.slice a n c] w fun e w' => e = .returned (.slice a n c) ∧ w = w' := by
  go_enter Tryz.func204, Tryz.ntmps204
  go_wp2
  go_ret
  exact ⟨rfl, rfl⟩
theorem kind_ty {k : Int} (hk : kindO k) : ∃ T, (T = 148 ∨ T = 150 ∨ T = 152) ∧ ∀ v, thingP k v = .iface T (.agg #[v]) := by
  rcases hk with rfl | rfl | rfl
  · exact ⟨_, .inl rfl, thingP1⟩
  · exact ⟨_, .inr (.inl rfl), thingP2⟩
  · exact ⟨_, .inr (.inr rfl), thingP3⟩
theorem row_shape {w : World} {v : Value} {l : List UInt8} (h : Row w v l) : ∃ a n c, v = .slice a n c := by
  rcases h with ⟨a, e, _⟩ | ⟨g, cap, cur, e, _⟩
  · exact ⟨_, _, _, e⟩
  · exact ⟨_, _, _, e⟩
set_option maxHeartbeats 4000000 in
theorem typedP_is (k : Int) (hk : kindO k) (a : Option Addr) (n c : Nat) (l : List UInt8) (w : World) (hn : n = l.length) (hb : BAt w a l) (hno : a = none → n = 0 ∧ c = 0) (hl : l.length ≤ 1099511627776) :
    Calls Tryz.prog 86 #[.agg #[.int .i64 k, .slice a n c]] w fun e w' => ∃ v', e = .returned (thingP k v') ∧ Row w' v' l ∧ (∀ g, foot v' = some g → w.heap.size ≤ g) ∧ Below w.heap.size w w' := by
  have B0 := (Below.refl w.heap.size w).alloc (Nat.le_refl _) (.cells #[.int .i64 k, .slice a n c] 52)
  have C := Lib.hid (bClone_any l _ a n c (hb.keep B0) hn hno hl)
  have B := Lib.hid B0
  clear B0 hb hno hl hn
  rcases hk with rfl | rfl | rfl
  · go_enter Tryz.func86, Tryz.ntmps86
    go_wp2_with fail
    refine C.out.mono ?_
    rintro e w1 ⟨v', rfl, hr, hf, hb1⟩
    obtain ⟨a', n', c', rfl⟩ := row_shape hr
    have F := Lib.hid (And.intro hr (And.intro (fun g hg => Nat.le_trans B.out.size (hf g hg)) (B.out.trans (hb1.mono B.out.size))))
    have K : w1.cell? ⟨w.heap.size, 0, none⟩ = some (.int .i64 1) := by
      rw [Lib.cell_of_heap ((hb1.block w.heap.size (by simp)).trans (heap_alloc_new w _))]
      rfl
    clear hr hf hb1
    go_wp2
    go_ret
    exact ⟨_, rfl, F.out⟩
  · go_enter Tryz.func86, Tryz.ntmps86
    go_wp2_with fail
    refine C.out.mono ?_
    rintro e w1 ⟨v', rfl, hr, hf, hb1⟩
    obtain ⟨a', n', c', rfl⟩ := row_shape hr
    have F := Lib.hid (And.intro hr (And.intro (fun g hg => Nat.le_trans B.out.size (hf g hg)) (B.out.trans (hb1.mono B.out.size))))
    have K : w1.cell? ⟨w.heap.size, 0, none⟩ = some (.int .i64 2) := by
      rw [Lib.cell_of_heap ((hb1.block w.heap.size (by simp)).trans (heap_alloc_new w _))]
      rfl
    clear hr hf hb1
    go_wp2
    go_ret
    exact ⟨_, rfl, F.out⟩
  · go_enter Tryz.func86, Tryz.ntmps86
    go_wp2_with fail
    refine C.out.mono ?_
    rintro e w1 ⟨v', rfl, hr, hf, hb1⟩
    obtain ⟨a', n', c', rfl⟩ := row_shape hr
    have F := Lib.hid (And.intro hr (And.intro (fun g hg => Nat.le_trans B.out.size (hf g hg)) (B.out.trans (hb1.mono B.out.size))))
    have K : w1.cell? ⟨w.heap.size, 0, none⟩ = some (.int .i64 3) := by
      rw [Lib.cell_of_heap ((hb1.block w.heap.size (by simp)).trans (heap_alloc_new w _))]
      rfl
    clear hr hf hb1
    go_wp2
    go_ret
    exact ⟨_, rfl, F.out⟩
end Go.Proofs.YtnohonjjfjppoaaGreatDoor

/-
  '[]byte(s)' of a text as a row of bytes, and what is appended to it.
-/
namespace Go.Proofs.YtnohonjjfjppoaaGreatDoor
open Go.RowKit
set_option linter.unusedVariables false
set_option linter.unusedSimpArgs false
/-- A row of bytes with its room, of which no cell is frozen. -/
def RowX (w : World) (g cap : Nat) (l : List UInt8) : Prop :=
  ∃ cur fz, w.heap[g]? = some (.cells cur 5 fz) ∧ l.length ≤ cap ∧ cap ≤ maxLen ∧ cur.size = cap ∧ cur.toList.take l.length = Lib.byteCells l ∧ ∀ j, j < cur.size → ¬ (fz.1 ≤ j ∧ j < fz.2)
theorem RowX.lt {w : World} {g cap : Nat} {l : List UInt8} (h : RowX w g cap l) : g < w.heap.size := by
  obtain ⟨cur, fz, hg, _⟩ := h
  exact (Array.getElem?_eq_some_iff.1 hg).1
theorem RowX.below {w w' : World} {g cap : Nat} {l : List UInt8} (h : RowX w g cap l) {B : Nat} (hb : Below B w w') (hB : g < B) : RowX w' g cap l := by
  obtain ⟨cur, fz, hg, r⟩ := h
  exact ⟨cur, fz, (hb.block g hB).trans hg, r⟩
theorem RowX.cells {w : World} {g cap : Nat} {l : List UInt8} (h : RowX w g cap l) : ∀ j u, (Lib.byteCells l)[j]? = some u → w.cell? ((⟨g, 0, none⟩ : Addr).add j) = some u := by
  obtain ⟨cur, fz, hg, h1, h2, h3, h4, _⟩ := h
  intro j u hj
  have hlt : j < l.length := by
    rcases Nat.lt_or_ge j l.length with h' | h'
    · exact h'
    · rw [List.getElem?_eq_none (by rw [byteCells_len]; exact h')] at hj; cases hj
  rw [← h4, List.getElem?_take, if_pos hlt] at hj
  rw [show (⟨g, 0, none⟩ : Addr).add j = ⟨g, j, none⟩ by unfold Addr.add; split <;> simp_all, cell_of_row w g j cur _ _ hg, ← Array.getElem?_toList, hj]
theorem RowX.bat {w : World} {g cap : Nat} {l : List UInt8} (h : RowX w g cap l) : BAt w (some ⟨g, 0, none⟩) l := fun _ => by
  refine ⟨g, 0, rfl, h.lt, fun i hi => ?_⟩
  have := h.cells i (.int .u8 (l[i]).toNat) (by simp [Lib.byteCells, List.getElem?_map, hi])
  rwa [show (⟨g, 0, none⟩ : Addr).add i = ⟨g, 0 + i, none⟩ by unfold Addr.add; split <;> simp_all] at this
/-- '[]byte(s)'. -/
theorem str_row (w : World) (l : List UInt8) (hl : l.length ≤ 1099511627776) :
    ∃ cap w', (convert 9 50 (.string ⟨l.toArray⟩)).run Tryz.prog w = .ok (.slice (some ⟨w.heap.size, 0, none⟩) l.length cap) w' ∧ Below w.heap.size w w' ∧ RowX w' w.heap.size cap l := by
  have h := run_bytes_of_string (P := Tryz.prog) w 9 50 5 ⟨l.toArray⟩ Tryz.underlying9 Tryz.underlying50 Tryz.underlying5
  rw [size_toArray] at h
  have hge := grownCap_ge w l.length 0 5
  have hcm : grownCap w l.length 0 5 ≤ maxLen := grownCap_le_maxLen w _ _ _ (by unfold maxLen; omega)
  have hsz : (bytesRow ⟨l.toArray⟩ (grownCap w l.length 0 5)).size = grownCap w l.length 0 5 := by
    unfold bytesRow
    simp only [Array.size_append, Array.size_map, Array.size_replicate, List.size_toArray, size_toArray]
    omega
  refine ⟨_, _, h, ((Below.refl _ w).drew).alloc (Nat.le_refl _) _, _, _, heap_alloc_new w.drew _, hge, hcm, hsz, ?_, fun j hj hf => ?_⟩
  · simp [bytesRow, Lib.byteCells]
  · have := hf.1
    simp only at this
    omega
end Go.Proofs.YtnohonjjfjppoaaGreatDoor

/-
  Layer 7: an object as a value of its kind's type, and its word.
-/
namespace Go.Proofs.YtnohonjjfjppoaaGreatDoor
set_option maxRecDepth 20000
open Go.RowKit
set_option linter.unusedVariables false
set_option linter.unusedSimpArgs false
/-- An object as a value of its kind's type. -/
def thingV (k : Int) (v : Value) : Value := if k = 1 then .iface 168 (.agg #[v]) else if k = 2 then .iface 169 (.agg #[v]) else if k = 3 then .iface 170 (.agg #[v]) else .nilIface
theorem thing1 (v : Value) : thingV 1 v = .iface 168 (.agg #[v]) := rfl
theorem thing2 (v : Value) : thingV 2 v = .iface 169 (.agg #[v]) := rfl
theorem thing3 (v : Value) : thingV 3 v = .iface 170 (.agg #[v]) := rfl
theorem thing_none (k : Int) (v : Value) (h : ¬ kindO k) : thingV k v = .nilIface := by
  unfold kindO at h; unfold thingV
  rw [if_neg (fun e => h (.inl e)), if_neg (fun e => h (.inr (.inl e))), if_neg (fun e => h (.inr (.inr e)))]
theorem wordO_not (k : Int) (h : ¬ kindO k) : wordO k = [] := (wordO_nil k).2 h
set_option maxHeartbeats 2000000 in
theorem typed_is (k : Int) (a : Option Addr) (n c : Nat) (w : World) :
    Calls Tryz.prog 78 #[.agg #[.int .i64 k, .slice a n c]] w fun e w' => e = .returned (thingV k (.slice a n c)) ∧ Below w.heap.size w w' := by
  by_cases h1 : k = 1
  · subst h1
    rw [thing1]
    have B0 := Lib.hid ((Below.refl w.heap.size w).alloc (Nat.le_refl _) (.cells #[.int .i64 1, .slice a n c] 52))
    go_enter Tryz.func78, Tryz.ntmps78
    go_wp2
    go_ret
    exact ⟨rfl, B0.out⟩
  · by_cases h2 : k = 2
    · subst h2
      rw [thing2]
      have B0 := Lib.hid ((Below.refl w.heap.size w).alloc (Nat.le_refl _) (.cells #[.int .i64 2, .slice a n c] 52))
      go_enter Tryz.func78, Tryz.ntmps78
      go_wp2
      go_ret
      exact ⟨rfl, B0.out⟩
    · by_cases h3 : k = 3
      · subst h3
        rw [thing3]
        have B0 := Lib.hid ((Below.refl w.heap.size w).alloc (Nat.le_refl _) (.cells #[.int .i64 3, .slice a n c] 52))
        go_enter Tryz.func78, Tryz.ntmps78
        go_wp2
        go_ret
        exact ⟨rfl, B0.out⟩
      · rw [thing_none k _ (by unfold kindO; omega)]
        have B0 := Lib.hid ((Below.refl w.heap.size w).alloc (Nat.le_refl _) (.cells #[.int .i64 k, .slice a n c] 52))
        go_enter Tryz.func78, Tryz.ntmps78
        go_wp2
        go_ret
        exact ⟨rfl, B0.out⟩
theorem ta_same (T : TypeId) (hT : T = 168 ∨ T = 169 ∨ T = 170) (x : Value) (w : World) : (Instr.typeAssert (.iface T x) 125 T true).run Tryz.prog w = .ok (.tuple #[x, .bool true]) w := by
  rcases hT with rfl | rfl | rfl <;> kernel_rfl
theorem ta_21 (x : Value) (w : World) : (Instr.typeAssert (.iface 169 x) 125 168 true).run Tryz.prog w = .ok (.tuple #[.agg #[.slice none 0 0], .bool false]) w := by kernel_rfl
theorem ta_31 (x : Value) (w : World) : (Instr.typeAssert (.iface 170 x) 125 168 true).run Tryz.prog w = .ok (.tuple #[.agg #[.slice none 0 0], .bool false]) w := by kernel_rfl
theorem ta_32 (x : Value) (w : World) : (Instr.typeAssert (.iface 170 x) 125 169 true).run Tryz.prog w = .ok (.tuple #[.agg #[.slice none 0 0], .bool false]) w := by kernel_rfl
theorem ta_n1 (w : World) : (Instr.typeAssert .nilIface 125 168 true).run Tryz.prog w = .ok (.tuple #[.agg #[.slice none 0 0], .bool false]) w := by kernel_rfl
theorem ta_n2 (w : World) : (Instr.typeAssert .nilIface 125 169 true).run Tryz.prog w = .ok (.tuple #[.agg #[.slice none 0 0], .bool false]) w := by kernel_rfl
theorem ta_n3 (w : World) : (Instr.typeAssert .nilIface 125 170 true).run Tryz.prog w = .ok (.tuple #[.agg #[.slice none 0 0], .bool false]) w := by kernel_rfl
set_option maxHeartbeats 4000000 in
theorem word_blob (a : Option Addr) (n c : Nat) (w : World) :
    Calls Tryz.prog 108 #[.iface 168 (.agg #[.slice a n c])] w fun e w' => e = .returned (.string ⟨#[98, 108, 111, 98]⟩) ∧ Below w.heap.size w w' := by
  have t1 := ta_same 168 (by simp) (.agg #[.slice a n c])
  have B0 := (Below.refl w.heap.size w).alloc (Nat.le_refl _) (.cells #[.slice a n c] 168)
  have B := Lib.hid B0
  clear B0
  go_enter Tryz.func108, Tryz.ntmps108
  go_wp2
  go_ret
  exact ⟨rfl, B.out⟩
set_option maxHeartbeats 4000000 in
theorem word_tree (a : Option Addr) (n c : Nat) (w : World) :
    Calls Tryz.prog 108 #[.iface 169 (.agg #[.slice a n c])] w fun e w' => e = .returned (.string ⟨#[116, 114, 101, 101]⟩) ∧ Below w.heap.size w w' := by
  have t1 := ta_21 (.agg #[.slice a n c])
  have t2 := ta_same 169 (by simp) (.agg #[.slice a n c])
  have B0 := (Below.refl w.heap.size w).alloc (Nat.le_refl _) (.cells #[.slice none 0 0] 168)
  have B1 := B0.alloc B0.size (.cells #[.slice a n c] 169)
  have B := Lib.hid B1
  clear B0 B1
  go_enter Tryz.func108, Tryz.ntmps108
  go_wp2
  go_ret
  exact ⟨rfl, B.out⟩
set_option maxHeartbeats 4000000 in
theorem word_commit (a : Option Addr) (n c : Nat) (w : World) :
    Calls Tryz.prog 108 #[.iface 170 (.agg #[.slice a n c])] w fun e w' => e = .returned (.string ⟨#[99, 111, 109, 109, 105, 116]⟩) ∧ Below w.heap.size w w' := by
  have t1 := ta_31 (.agg #[.slice a n c])
  have t2 := ta_32 (.agg #[.slice a n c])
  have t3 := ta_same 170 (by simp) (.agg #[.slice a n c])
  have B0 := (Below.refl w.heap.size w).alloc (Nat.le_refl _) (.cells #[.slice none 0 0] 168)
  have B1 := B0.alloc B0.size (.cells #[.slice none 0 0] 169)
  have B2 := B1.alloc B1.size (.cells #[.slice a n c] 170)
  have B := Lib.hid B2
  clear B0 B1 B2
  go_enter Tryz.func108, Tryz.ntmps108
  go_wp2
  go_ret
  exact ⟨rfl, B.out⟩
set_option maxHeartbeats 4000000 in
theorem word_nil (w : World) :
    Calls Tryz.prog 108 #[.nilIface] w fun e w' => e = .returned (.string ⟨#[]⟩) ∧ Below w.heap.size w w' := by
  have t1 := ta_n1
  have t2 := ta_n2
  have t3 := ta_n3
  have B0 := (Below.refl w.heap.size w).alloc (Nat.le_refl _) (.cells #[.slice none 0 0] 168)
  have B1 := B0.alloc B0.size (.cells #[.slice none 0 0] 169)
  have B2 := B1.alloc B1.size (.cells #[.slice none 0 0] 170)
  have B := Lib.hid B2
  clear B0 B1 B2
  go_enter Tryz.func108, Tryz.ntmps108
  go_wp2
  go_ret
  exact ⟨rfl, B.out⟩
theorem kindO_dec (k : Int) : kindO k ∨ ¬ kindO k := Classical.em _
theorem oword_is (k : Int) (a : Option Addr) (n c : Nat) (w : World) :
    Calls Tryz.prog 108 #[thingV k (.slice a n c)] w fun e w' => e = .returned (.string ⟨(wordO k).toArray⟩) ∧ Below w.heap.size w w' := by
  rcases kindO_dec k with h | h
  · rcases h with rfl | rfl | rfl
    · exact word_blob a n c w
    · exact word_tree a n c w
    · exact word_commit a n c w
  · rw [thing_none k _ h, wordO_not k h]
    exact word_nil w
/-- How many bytes a thing has. -/
theorem m_size (T : TypeId) (hT : T = 168 ∨ T = 169 ∨ T = 170) (x : Value) (w : World) : (method 366 T (.agg #[x]) "trestle/object.size").run Tryz.prog w = .ok (205, x) w := by
  rcases hT with rfl | rfl | rfl <;> kernel_rfl
set_option maxHeartbeats 1000000 in
theorem size_is (a : Option Addr) (n c : Nat) (w : World) :
    Calls Tryz.prog 205 #[.slice a n c] w fun e w' => e = .returned (.int .i64 n) ∧ w = w' := by
  go_enter Tryz.func205, Tryz.ntmps205
  go_wp2
  go_ret
  exact ⟨rfl, rfl⟩
end Go.Proofs.YtnohonjjfjppoaaGreatDoor
