/-
  Texts that belong together, one behind the other.
-/
import Derived.Test.YtnohonjjfjppoaaGreatDoorFu33
import Derived.Test.YtnohonjjfjppoaaGreatDoorRows
import Derived.ProofKit
import Derived.OpenShut
import Derived.Below
import Derived.Carry
import Derived.Test.YtnohonjjfjppoaaGreatDoorFu09
import Derived.Test.YtnohonjjfjppoaaGreatDoorFu08
import Derived.Test.YtnohonjjfjppoaaGreatDoorFu02
import Derived.ShutString
import Derived.Lay
import Derived.LaidSub
import Derived.SevenTiedAt
import Derived.Deep.DeepHandedRow
import Derived.Lib.LaidTab
import Derived.Test.YtnohonjjfjppoaaGreatDoorFu26
import Derived.Lib.SmallJoins
/-
  The helpers Plain, Kept of the statements over items; few.
-/
namespace Go.Proofs.YtnohonjjfjppoaaGreatDoor
set_option maxRecDepth 20000
open Go.RowKit
set_option linter.unusedVariables false
set_option linter.unusedSimpArgs false
set_option maxHeartbeats 400000 in
theorem SameFil_none (a1 a2 : Option Addr) (c1 c2 : Nat) (w : World) :
    Calls Tryz.prog 40 #[.slice a1 0 c1, .slice a2 0 c2, .func (.func 41) #[] #[]] w fun e w' => e = .returned (.bool true) ∧ Below w.heap.size w w' := by
  go_enter Tryz.func40, Tryz.ntmps40
  go_wp2_with fail
  refine wp_loop_rounds 1 ?_
  rw [rounds_succ]
  go_wp2
  go_ret
  exact ⟨rfl, Below.refl _ _⟩
theorem SameFil_any (a1 a2 : Option Addr) (n c1 c2 : Nat) (l : List Fil) (w : World) (h1 : FilesAt w a1 l) (h2 : FilesAt w a2 l) (hn : n = l.length) (hm : n ≤ 1000000) (hid : ∀ i ∈ l, i.id.length = 20) :
    Calls Tryz.prog 40 #[.slice a1 n c1, .slice a2 n c2, .func (.func 41) #[] #[]] w fun e w' => e = .returned (.bool true) ∧ Below w.heap.size w w' := by
  by_cases hp : 0 < l.length
  · obtain ⟨b1, o1, rfl, hb1, hc1⟩ := h1 hp
    obtain ⟨b2, o2, rfl, hb2, hc2⟩ := h2 hp
    exact SameFil_some b1 o1 b2 o2 c1 c2 n l w hn hm hb1 hb2 hc1 hc2 hid
  · obtain rfl : n = 0 := by omega
    exact SameFil_none a1 a2 c1 c2 w
set_option maxHeartbeats 400000 in
theorem PlainFil_any (a1 a2 : Option Addr) (n c1 c2 : Nat) (l : List Fil) (w : World) (h1 : FilesAt w a1 l) (h2 : FilesAt w a2 l) (hn : n = l.length) (hm : n ≤ 1000000) (hid : ∀ i ∈ l, i.id.length = 20) :
    Calls Tryz.prog 17 #[.slice a1 n c1, .slice a2 n c2] w fun e w' => e = .returned (.bool true) ∧ Below w.heap.size w w' := by
  have C := Lib.hid (SameFil_any a1 a2 n c1 c2 l w h1 h2 hn hm hid)
  clear h1 h2 hn hm hid
  go_enter Tryz.func17, Tryz.ntmps17
  go_wp2_with fail
  refine C.out.mono ?_
  rintro e w1 ⟨rfl, hb⟩
  go_wp2
  go_ret
  exact ⟨rfl, hb⟩
end Go.Proofs.YtnohonjjfjppoaaGreatDoor

/-
  What a law's frame shares where no table is listed: how the world is laid, bounds of a byte.
-/
namespace Go.Proofs.YtnohonjjfjppoaaGreatDoor
open Go.ChangeShapes Go.WideShapes Go.ChangeAt Go.RowKit
set_option linter.unusedVariables false
theorem lt_of_cell {w : World} {a : Addr} {v : Value} (h : w.cell? a = some v) : a.block < w.heap.size := by
  rcases Nat.lt_or_ge a.block w.heap.size with h' | h'
  · exact h'
  · simp [World.cell?, Array.getElem?_eq_none h'] at h
end Go.Proofs.YtnohonjjfjppoaaGreatDoor

/-
  What the frames of layers that call quote share: the tables, from what the row lists and from the world's shape.
-/
namespace Go.Proofs.YtnohonjjfjppoaaGreatDoor
open Go.ChangeShapes Go.WideShapes Go.ChangeAt Go.RowKit Go.Lib
open Go.ChangeMaps (open_string shut_string)
set_option linter.unusedVariables false
theorem own : ownKnob Tryz.prog.godebug = none := by kernel_rfl
theorem acc_data : Rows.laid_unicode_utf8_acceptRanges (H := Unit) = acceptData := by kernel_rfl
theorem first_data : Rows.laid_unicode_utf8_first = firstData := Pinned.utf8First_eq
def foldZ : List Int := match Rows.laid_unicode_asciiFold (H := Unit) with
  | .agg ds => ds.map fun d => match d with | .lit (.int _ z) => z | _ => 0
  | _ => []
theorem fold_data : Rows.laid_unicode_asciiFold (H := Unit) = tabData .u16 foldZ := by kernel_rfl
theorem tab_of {W : World} {l : List (String × DataW Unit)} (h : laidMetH Tryz.prog l W) (hS : W.ShapedOpen Tryz.prog)
    (h1 : ("unicode/utf8.first", Rows.laid_unicode_utf8_first) ∈ l.filter fun a => a.2.handleName?.isNone)
    (h2 : ("unicode/utf8.acceptRanges", Rows.laid_unicode_utf8_acceptRanges) ∈ l.filter fun a => a.2.handleName?.isNone)
    (h3 : ("unicode.asciiFold", Rows.laid_unicode_asciiFold) ∈ l.filter fun a => a.2.handleName?.isNone) : QTab W := by
  have h0 := (laidMetH_iff.1 h).1
  have r1 := Lib.laidMet.reads h0 h1
  have r2 := Lib.laidMet.reads h0 h2
  have r3 := Lib.laidMet.reads h0 h3
  rw [first_data] at r1
  rw [acc_data] at r2
  rw [fold_data] at r3
  exact ⟨tabs_of W r1 r2, fold_of W foldZ r3 (by kernel_rfl) (by kernel_rfl) (by kernel_rfl) (by kernel_rfl) (by kernel_rfl) (by kernel_rfl) (by kernel_rfl), Tryz.laysM146.s1_3 W hS⟩
theorem bd_i64 {n : Int} (h : (Lit.int .i64 n).wf = true) : -9223372036854775808 ≤ n ∧ n ≤ 9223372036854775807 := by
  have e1 : IntKind.i64.min = -9223372036854775808 := rfl
  have e2 : IntKind.i64.max = 9223372036854775807 := rfl
  simpa [Lit.wf, e1, e2] using h
end Go.Proofs.YtnohonjjfjppoaaGreatDoor

/-
  Layer 13: the tables that its functions read, out of what a row lists.
-/
namespace Go.Proofs.YtnohonjjfjppoaaGreatDoor
open Go.ChangeShapes Go.WideShapes Go.ChangeAt Go.RowKit Go.Lib Go.Joins
set_option linter.unusedVariables false
theorem pow_data : Rows.laid_internal_strconv_uint64pow10 (H := Unit) = Lib.tabData .u64 Lib.pow10Tab := by kernel_rfl
theorem pow_of {W : World} {l : List (String × DataW Unit)} (hl : (l.filter fun x => x.1 == "internal/strconv.uint64pow10") = [("internal/strconv.uint64pow10", Rows.laid_internal_strconv_uint64pow10)]) (h : laidMetH Tryz.prog l W) : Tab W := by
  have h1 := ((laidMetH_iff.1 h).1).filter (fun x => x.1 == "internal/strconv.uint64pow10")
  have e : (l.filter fun a => a.1 == "internal/strconv.uint64pow10" && a.2.handleName?.isNone) = (l.filter fun a => a.1 == "internal/strconv.uint64pow10").filter fun a => a.2.handleName?.isNone := by
    rw [List.filter_filter]; congr 1; funext a; exact Bool.and_comm _ _
  rw [List.filter_filter, e, hl] at h1
  have h2 : laidMet Tryz.prog (("internal/strconv.uint64pow10", Lib.tabData .u64 Lib.pow10Tab) :: []) W := by rw [← pow_data]; exact h1
  have ht : Lib.TabIs Tryz.prog W "internal/strconv.uint64pow10" .u64 Lib.pow10Tab := Lib.tabIs_of_head gPow (by kernel_rfl) Tryz.underlying248 Tryz.underlying175 (by kernel_rfl) (by kernel_rfl) h2
  exact ⟨ht, lt_of_cell (a := ⟨6, 0, none⟩) (ht.cell gPow 0 (by decide))⟩
theorem t13_of {W : World} {l : List (String × DataW Unit)} (h : laidMetH Tryz.prog l W) (hS : W.ShapedOpen Tryz.prog)
    (hl : (l.filter fun x => x.1 == "internal/strconv.uint64pow10") = [("internal/strconv.uint64pow10", Rows.laid_internal_strconv_uint64pow10)])
    (h1 : ("unicode/utf8.first", Rows.laid_unicode_utf8_first) ∈ l.filter fun a => a.2.handleName?.isNone)
    (h2 : ("unicode/utf8.acceptRanges", Rows.laid_unicode_utf8_acceptRanges) ∈ l.filter fun a => a.2.handleName?.isNone)
    (h3 : ("unicode.asciiFold", Rows.laid_unicode_asciiFold) ∈ l.filter fun a => a.2.handleName?.isNone) : T13 W := ⟨tab_of h hS h1 h2 h3, pow_of hl h⟩
end Go.Proofs.YtnohonjjfjppoaaGreatDoor
