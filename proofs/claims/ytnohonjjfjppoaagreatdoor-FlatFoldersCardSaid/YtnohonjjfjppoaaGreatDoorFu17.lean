/-
  Texts that belong together, one behind the other.
-/
import Derived.Test.YtnohonjjfjppoaaGreatDoorFu02
import Derived.Test.YtnohonjjfjppoaaGreatDoorFu08
import Derived.Lib.LaidTab
import Derived.Lib.ItoaNum
import Derived.WalkSmall
import Derived.IntWalk
import Derived.Lib.AppendIntMem
import Derived.Test.YtnohonjjfjppoaaGreatDoorFu16
import Derived.Test.YtnohonjjfjppoaaGreatDoorFu01
import Derived.Test.YtnohonjjfjppoaaGreatDoorFu13
import Derived.Deep.RegionLaw
import Derived.OwnWalk
import Derived.Test.YtnohonjjfjppoaaGreatDoorFu15
import Derived.Deep.QuietTactic
import Derived.BigQuiet
import Derived.Laws.OwnMore
import Derived.Laws.CopyOwn
import Derived.Laws.ResultCell
/-
  Layer 1: Number of the program.
-/
namespace Go.Proofs.YtnohonjjfjppoaaGreatDoor
set_option maxRecDepth 20000
open Go.RowKit
set_option linter.unusedVariables false
/-- strconv's table of powers holds what its initialiser lays. -/
def Tab (w : World) : Prop := Lib.TabIs Tryz.prog w "internal/strconv.uint64pow10" .u64 Lib.pow10Tab ∧ 6 < w.heap.size
theorem gPow : Tryz.prog.globalNamed "internal/strconv.uint64pow10" = some 6 := by kernel_rfl
theorem Tab.keep {w w' : World} (h : Tab w) (hb : Below w.heap.size w w') : Tab w' :=
  ⟨var?_below hb gPow h.2 h.1, Nat.lt_of_lt_of_le h.2 hb.size⟩
set_option maxHeartbeats 400000 in
theorem Number_any (n : Int) (h0 : -9223372036854775808 ≤ n) (h1 : n ≤ 9223372036854775807) (w : World) (htab : Tab w) :
    Calls Tryz.prog 109 #[.int .i64 n] w fun e w' => e = .returned (.string ⟨(Lib.itoa n).toArray⟩) ∧ Below w.heap.size w w' := by
  go_enter Tryz.func109, Tryz.ntmps109
  go_wp2_with fail
  refine (Tryz.strconv_FormatInt_10 n h0 h1 _ htab.1).mono ?_
  rintro e w1 ⟨rfl, k, os, rfl⟩
  go_wp2
  go_ret
  exact ⟨rfl, Lib.below_grow _ _ (Nat.le_refl _) _ _⟩
end Go.Proofs.YtnohonjjfjppoaaGreatDoor

/-
  Layer 7: the head of an object.
-/
namespace Go.Proofs.YtnohonjjfjppoaaGreatDoor
set_option maxRecDepth 20000
open Go.RowKit
set_option linter.unusedVariables false
set_option linter.unusedSimpArgs false
set_option maxHeartbeats 4000000 in
theorem head_none (w : World) : Calls Tryz.prog 77 #[.nilIface] w fun e w' => e = .returned (.tuple #[.slice none 0 0, .int .i64 10]) ∧ Below w.heap.size w w' := by
  have cW := fun w => word_nil w
  go_enter Tryz.func77, Tryz.ntmps77
  go_wp2_with fail
  refine (cW _).mono ?_
  rintro e w1 ⟨rfl, b1⟩
  have B1 := Lib.hid b1
  clear b1
  go_wp2
  go_ret2
  exact ⟨rfl, B1.out⟩
set_option maxHeartbeats 4000000 in
theorem head_limit (T : TypeId) (hT : T = 168 ∨ T = 169 ∨ T = 170) (a : Option Addr) (n c : Nat) (wd : List UInt8) (hwd : wd ≠ [])
    (hw : ∀ w, Calls Tryz.prog 108 #[.iface T (.agg #[.slice a n c])] w fun e w' => e = .returned (.string ⟨wd.toArray⟩) ∧ Below w.heap.size w w') (hn : 65536 < n) (hm : n ≤ maxLen) (w : World) :
    Calls Tryz.prog 77 #[.iface T (.agg #[.slice a n c])] w fun e w' => e = .returned (.tuple #[.slice none 0 0, .int .i64 5]) ∧ Below w.heap.size w w' := by
  unfold maxLen at hm
  have fe : (wd == ([] : List UInt8)) = false := by rw [beq_eq_false_iff_ne]; exact hwd
  have fi : wd.isEmpty = false := by cases wd with | nil => exact absurd rfl hwd | cons _ _ => rfl
  have m := m_size T hT (.slice a n c)
  have cs := fun w => size_is a n c w
  clear hT hwd
  go_enter Tryz.func77, Tryz.ntmps77
  go_wp2_with fail
  refine (hw _).mono ?_
  rintro e w1 ⟨rfl, b1⟩
  have B1 := Lib.hid b1
  clear b1
  go_wp2_with fail
  refine (cs _).mono ?_
  rintro e w2 ⟨rfl, rfl⟩
  go_wp2
  go_ret2
  exact ⟨rfl, B1.out⟩
set_option maxHeartbeats 8000000 in
theorem head_ok (T : TypeId) (hT : T = 168 ∨ T = 169 ∨ T = 170) (a : Option Addr) (n c : Nat) (wd : List UInt8) (hwd : wd ≠ []) (wl : wd.length ≤ 6)
    (hw : ∀ w, Calls Tryz.prog 108 #[.iface T (.agg #[.slice a n c])] w fun e w' => e = .returned (.string ⟨wd.toArray⟩) ∧ Below w.heap.size w w') (hn : n ≤ 65536) (w : World) (tab : Tab w) :
    Calls Tryz.prog 77 #[.iface T (.agg #[.slice a n c])] w fun e w' => ∃ g cap, e = .returned (.tuple #[.slice (some ⟨g, 0, none⟩) (wd ++ 32 :: numO n ++ [0]).length cap, .int .i64 0]) ∧ RowX w' g cap (wd ++ 32 :: numO n ++ [0]) ∧ w.heap.size ≤ g ∧ Below w.heap.size w w' := by
  have fe : (wd == ([] : List UInt8)) = false := by rw [beq_eq_false_iff_ne]; exact hwd
  have fi : wd.isEmpty = false := by cases wd with | nil => exact absurd rfl hwd | cons _ _ => rfl
  have m := m_size T hT (.slice a n c)
  have cs := fun w => size_is a n c w
  have hO : wd ++ 32 :: numO n ++ [0] = wd ++ [32] ++ numO n ++ [0] := by simp
  rw [hO]
  have nl : (numO n).length ≤ 5 := numO_le n 4 (by omega)
  have cN := fun w t => Number_any (n : Int) (by omega) (by omega) w t
  rw [show Lib.itoa (n : Int) = numO n from rfl] at cN
  generalize numO n = nm at cN nl ⊢
  have ad0 := fun w => add_lists (P := Tryz.prog) w wd [32] (by simp; omega)
  have ad1 := fun w => add_lists (P := Tryz.prog) w (wd ++ [32]) nm (by simp; omega)
  have ad2 := fun w => add_lists (P := Tryz.prog) w (wd ++ [32] ++ nm) [0] (by simp; omega)
  obtain ⟨hd, hhd⟩ : ∃ hd, wd ++ [32] ++ nm ++ [0] = hd := ⟨_, rfl⟩
  have hdl : hd.length ≤ 13 := by rw [← hhd]; simp; omega
  rw [hhd] at ad2 ⊢
  have SR := Lib.hid (fun w => str_row w hd (by omega))
  generalize (⟨hd.toArray⟩ : ByteArray) = s3 at ad2 SR
  generalize (⟨(wd ++ [32] ++ nm).toArray⟩ : ByteArray) = s2 at ad1 ad2
  generalize (⟨(wd ++ [32]).toArray⟩ : ByteArray) = s1 at ad0 ad1
  generalize (⟨nm.toArray⟩ : ByteArray) = sn at ad1 cN
  have TB := Lib.hid tab
  have hn2 : n ≤ 1000000 := by omega
  obtain ⟨hl, hhl⟩ : ∃ hl, hd.length = hl := ⟨_, rfl⟩
  have HHL := Lib.hid hhl
  rw [hhl] at SR hdl ⊢
  clear hT hwd tab hO hhd nl hhl
  go_enter Tryz.func77, Tryz.ntmps77
  go_wp2_with fail
  refine (hw _).mono ?_
  rintro e w1 ⟨rfl, b1⟩
  have B1 := Lib.hid b1
  clear b1
  go_wp2_with fail
  refine (cs _).mono ?_
  rintro e w2 ⟨rfl, rfl⟩
  go_wp2_with fail
  refine (cN _ (TB.out.keep B1.out)).mono ?_
  rintro e w3 ⟨rfl, b3⟩
  obtain ⟨cap, w4, cv, b4, r4⟩ := SR.out w3
  have B4 := Lib.hid ((B1.out.trans (b3.mono B1.out.size)).trans (b4.mono (Nat.le_trans B1.out.size b3.size)))
  have HS := Lib.hid (Nat.le_trans B1.out.size b3.size)
  have R4 := Lib.hid r4
  clear b3 b4 r4
  go_wp2
  go_ret2
  exact ⟨_, _, rfl, R4.out, HS.out, B4.out⟩
end Go.Proofs.YtnohonjjfjppoaaGreatDoor

/-
  Layer 7: Word and Print of the document's answers.
-/
namespace Go.Proofs.YtnohonjjfjppoaaGreatDoor
open Go.RowKit
set_option linter.unusedVariables false
set_option linter.unusedSimpArgs false
theorem RowX.red {w : World} {g cap : Nat} {l : List UInt8} (h : RowX w g cap l) (n : Nat) (hn : n = l.length) : Red w (.slice (some ⟨g, 0, .none⟩) n cap) l := by
  subst hn
  have hb := h.bat
  obtain ⟨cur, fz, hg, h1, h2, _⟩ := h
  exact ⟨_, cap, rfl, hb, (fun e => nomatch e), h1, h2⟩
/-- What stays while an object is printed. -/
def RestN (a : Option Addr) (l : List UInt8) (w w' : World) : Prop := BAt w' a l ∧ Below w.heap.size w w' ∧ w.heap.size + 1 ≤ w'.heap.size
/-- And the object's own cell. -/
abbrev PN (a : Option Addr) (n c : Nat) (l : List UInt8) (w w' : World) : Prop := w'.cell? ⟨w.heap.size, 1, .none⟩ = some (.slice a n c) ∧ RestN a l w w'
end Go.Proofs.YtnohonjjfjppoaaGreatDoor

/-
  Layer 7: Print and Parse of the document's answers.
-/
namespace Go.Proofs.YtnohonjjfjppoaaGreatDoor
open Go.RowKit
set_option linter.unusedVariables false
set_option linter.unusedSimpArgs false
theorem infoOb : (Tryz.prog.info? 52).map (·.size) = some 2 := by kernel_rfl
theorem Row.red {w : World} {v : Value} {l : List UInt8} (h : Row w v l) : Red w v l := by
  obtain ⟨a, c, e, h1, h2, h3, h4⟩ := h.shape
  exact ⟨a, c, e, h3, h4, h1, h2⟩
theorem cells2 {w : World} {g : Nat} {a b : Value} {t : TypeId} {fr : Nat × Nat} (h : w.heap[g]? = some (.cells #[a, b] t fr)) :
    w.cell? ⟨g, 0, none⟩ = some a ∧ w.cell? ⟨g, 1, none⟩ = some b :=
  ⟨by rw [Lib.cell_of_heap h]; rfl, by rw [Lib.cell_of_heap h]; rfl⟩
end Go.Proofs.YtnohonjjfjppoaaGreatDoor
