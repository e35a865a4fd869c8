/-
  Layer 7: an object as a value of its kind's type, and its word.
-/
import Derived.Test.YtbcbbkdfdfgnfaaDoorNa
import Derived.Test.YtbcbbkdfdfgnfaaDoorNb
namespace Go.Proofs.YtbcbbkdfdfgnfaaDoor
set_option maxRecDepth 20000
open Go.RowKit
set_option linter.unusedVariables false
set_option linter.unusedSimpArgs false

/-- An object as a value of its kind's type. -/
def thingV (k : Int) (v : Value) : Value := if k = 1 then .iface 70 (.agg #[v]) else if k = 2 then .iface 71 (.agg #[v]) else if k = 3 then .iface 72 (.agg #[v]) else .nilIface
theorem thing1 (v : Value) : thingV 1 v = .iface 70 (.agg #[v]) := rfl
theorem thing2 (v : Value) : thingV 2 v = .iface 71 (.agg #[v]) := rfl
theorem thing3 (v : Value) : thingV 3 v = .iface 72 (.agg #[v]) := rfl
theorem thing_none (k : Int) (v : Value) (h : ¬ kindO k) : thingV k v = .nilIface := by
  unfold kindO at h; unfold thingV
  rw [if_neg (fun e => h (.inl e)), if_neg (fun e => h (.inr (.inl e))), if_neg (fun e => h (.inr (.inr e)))]
theorem wordO_not (k : Int) (h : ¬ kindO k) : wordO k = [] := (wordO_nil k).2 h

set_option maxHeartbeats 2000000 in
theorem typed_is (k : Int) (a : Option Addr) (n c : Nat) (w : World) :
    Calls Tryd.prog 23 #[.agg #[.int .i64 k, .slice a n c]] w fun e w' => e = .returned (thingV k (.slice a n c)) ∧ Below w.heap.size w w' := by
  by_cases h1 : k = 1
  · subst h1
    rw [thing1]
    have B0 := Lib.hid ((Below.refl w.heap.size w).alloc (Nat.le_refl _) (.cells #[.int .i64 1, .slice a n c] 24))
    go_enter Tryd.func23, Tryd.ntmps23
    go_wp2
    go_ret
    exact ⟨rfl, B0.out⟩
  · by_cases h2 : k = 2
    · subst h2
      rw [thing2]
      have B0 := Lib.hid ((Below.refl w.heap.size w).alloc (Nat.le_refl _) (.cells #[.int .i64 2, .slice a n c] 24))
      go_enter Tryd.func23, Tryd.ntmps23
      go_wp2
      go_ret
      exact ⟨rfl, B0.out⟩
    · by_cases h3 : k = 3
      · subst h3
        rw [thing3]
        have B0 := Lib.hid ((Below.refl w.heap.size w).alloc (Nat.le_refl _) (.cells #[.int .i64 3, .slice a n c] 24))
        go_enter Tryd.func23, Tryd.ntmps23
        go_wp2
        go_ret
        exact ⟨rfl, B0.out⟩
      · rw [thing_none k _ (by unfold kindO; omega)]
        have B0 := Lib.hid ((Below.refl w.heap.size w).alloc (Nat.le_refl _) (.cells #[.int .i64 k, .slice a n c] 24))
        go_enter Tryd.func23, Tryd.ntmps23
        go_wp2
        go_ret
        exact ⟨rfl, B0.out⟩

theorem ta_same (T : TypeId) (hT : T = 70 ∨ T = 71 ∨ T = 72) (x : Value) (w : World) : (Instr.typeAssert (.iface T x) 49 T true).run Tryd.prog w = .ok (.tuple #[x, .bool true]) w := by
  rcases hT with rfl | rfl | rfl <;> kernel_rfl
theorem ta_21 (x : Value) (w : World) : (Instr.typeAssert (.iface 71 x) 49 70 true).run Tryd.prog w = .ok (.tuple #[.agg #[.slice none 0 0], .bool false]) w := by kernel_rfl
theorem ta_31 (x : Value) (w : World) : (Instr.typeAssert (.iface 72 x) 49 70 true).run Tryd.prog w = .ok (.tuple #[.agg #[.slice none 0 0], .bool false]) w := by kernel_rfl
theorem ta_32 (x : Value) (w : World) : (Instr.typeAssert (.iface 72 x) 49 71 true).run Tryd.prog w = .ok (.tuple #[.agg #[.slice none 0 0], .bool false]) w := by kernel_rfl
theorem ta_n1 (w : World) : (Instr.typeAssert .nilIface 49 70 true).run Tryd.prog w = .ok (.tuple #[.agg #[.slice none 0 0], .bool false]) w := by kernel_rfl
theorem ta_n2 (w : World) : (Instr.typeAssert .nilIface 49 71 true).run Tryd.prog w = .ok (.tuple #[.agg #[.slice none 0 0], .bool false]) w := by kernel_rfl
theorem ta_n3 (w : World) : (Instr.typeAssert .nilIface 49 72 true).run Tryd.prog w = .ok (.tuple #[.agg #[.slice none 0 0], .bool false]) w := by kernel_rfl

set_option maxHeartbeats 4000000 in
theorem word_blob (a : Option Addr) (n c : Nat) (w : World) :
    Calls Tryd.prog 32 #[.iface 70 (.agg #[.slice a n c])] w fun e w' => e = .returned (.string ⟨#[98, 108, 111, 98]⟩) ∧ Below w.heap.size w w' := by
  have t1 := ta_same 70 (by simp) (.agg #[.slice a n c])
  have B0 := (Below.refl w.heap.size w).alloc (Nat.le_refl _) (.cells #[.slice a n c] 70)
  have B := Lib.hid B0
  clear B0
  go_enter Tryd.func32, Tryd.ntmps32
  go_wp2
  go_ret
  exact ⟨rfl, B.out⟩
set_option maxHeartbeats 4000000 in
theorem word_tree (a : Option Addr) (n c : Nat) (w : World) :
    Calls Tryd.prog 32 #[.iface 71 (.agg #[.slice a n c])] w fun e w' => e = .returned (.string ⟨#[116, 114, 101, 101]⟩) ∧ Below w.heap.size w w' := by
  have t1 := ta_21 (.agg #[.slice a n c])
  have t2 := ta_same 71 (by simp) (.agg #[.slice a n c])
  have B0 := (Below.refl w.heap.size w).alloc (Nat.le_refl _) (.cells #[.slice none 0 0] 70)
  have B1 := B0.alloc B0.size (.cells #[.slice a n c] 71)
  have B := Lib.hid B1
  clear B0 B1
  go_enter Tryd.func32, Tryd.ntmps32
  go_wp2
  go_ret
  exact ⟨rfl, B.out⟩
set_option maxHeartbeats 4000000 in
theorem word_commit (a : Option Addr) (n c : Nat) (w : World) :
    Calls Tryd.prog 32 #[.iface 72 (.agg #[.slice a n c])] w fun e w' => e = .returned (.string ⟨#[99, 111, 109, 109, 105, 116]⟩) ∧ Below w.heap.size w w' := by
  have t1 := ta_31 (.agg #[.slice a n c])
  have t2 := ta_32 (.agg #[.slice a n c])
  have t3 := ta_same 72 (by simp) (.agg #[.slice a n c])
  have B0 := (Below.refl w.heap.size w).alloc (Nat.le_refl _) (.cells #[.slice none 0 0] 70)
  have B1 := B0.alloc B0.size (.cells #[.slice none 0 0] 71)
  have B2 := B1.alloc B1.size (.cells #[.slice a n c] 72)
  have B := Lib.hid B2
  clear B0 B1 B2
  go_enter Tryd.func32, Tryd.ntmps32
  go_wp2
  go_ret
  exact ⟨rfl, B.out⟩
set_option maxHeartbeats 4000000 in
theorem word_nil (w : World) :
    Calls Tryd.prog 32 #[.nilIface] w fun e w' => e = .returned (.string ⟨#[]⟩) ∧ Below w.heap.size w w' := by
  have t1 := ta_n1
  have t2 := ta_n2
  have t3 := ta_n3
  have B0 := (Below.refl w.heap.size w).alloc (Nat.le_refl _) (.cells #[.slice none 0 0] 70)
  have B1 := B0.alloc B0.size (.cells #[.slice none 0 0] 71)
  have B2 := B1.alloc B1.size (.cells #[.slice none 0 0] 72)
  have B := Lib.hid B2
  clear B0 B1 B2
  go_enter Tryd.func32, Tryd.ntmps32
  go_wp2
  go_ret
  exact ⟨rfl, B.out⟩
theorem kindO_dec (k : Int) : kindO k ∨ ¬ kindO k := Classical.em _
theorem word_is (k : Int) (a : Option Addr) (n c : Nat) (w : World) :
    Calls Tryd.prog 32 #[thingV k (.slice a n c)] w fun e w' => e = .returned (.string ⟨(wordO k).toArray⟩) ∧ Below w.heap.size w w' := by
  rcases kindO_dec k with h | h
  · rcases h with rfl | rfl | rfl
    · exact word_blob a n c w
    · exact word_tree a n c w
    · exact word_commit a n c w
  · rw [thing_none k _ h, wordO_not k h]
    exact word_nil w
set_option maxHeartbeats 4000000 in
theorem Word_is (k : Int) (w : World) :
    Calls Tryd.prog 17 #[.int .i64 k] w fun e w' => e = .returned (.string ⟨(wordO k).toArray⟩) ∧ Below w.heap.size w w' := by
  have c1 := fun w => typed_is k none 0 0 w
  have c2 := fun w => word_is k none 0 0 w
  generalize thingV k (.slice none 0 0) = x at c1 c2
  generalize (⟨(wordO k).toArray⟩ : ByteArray) = s at c2 ⊢
  go_enter Tryd.func17, Tryd.ntmps17
  go_wp2_with fail
  refine (c1 _).mono ?_
  rintro e w1 ⟨rfl, b1⟩
  have B1 := Lib.hid b1
  clear b1
  go_wp2_with fail
  refine (c2 _).mono ?_
  rintro e w2 ⟨rfl, b2⟩
  have B2 := Lib.hid (B1.out.trans (b2.mono B1.out.size))
  clear b2
  go_wp2
  go_ret
  exact ⟨rfl, B2.out⟩

/-- How many bytes a thing has. -/
theorem m_size (T : TypeId) (hT : T = 70 ∨ T = 71 ∨ T = 72) (x : Value) (w : World) : (method 217 T (.agg #[x]) "trestle/object.size").run Tryd.prog w = .ok (77, x) w := by
  rcases hT with rfl | rfl | rfl <;> kernel_rfl
set_option maxHeartbeats 1000000 in
theorem size_is (a : Option Addr) (n c : Nat) (w : World) :
    Calls Tryd.prog 77 #[.slice a n c] w fun e w' => e = .returned (.int .i64 n) ∧ w = w' := by
  go_enter Tryd.func77, Tryd.ntmps77
  go_wp2
  go_ret
  exact ⟨rfl, rfl⟩
end Go.Proofs.YtbcbbkdfdfgnfaaDoor
