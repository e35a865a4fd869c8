/-
  What the frames of layer 6 share: the tables, from what the row lists and from the world's shape; an ident that came in by value.
-/
import Derived.Test.YtagfnnpklefhhaaDoorRows
import Derived.Test.YtagfnnpklefhhaaDoorJh
import Derived.Test.YtagfnnpklefhhaaDoorVu
import Derived.Test.YtagfnnpklefhhaaDoorFs
import Derived.ProofKit
import Derived.OpenShut
import Derived.ShutString
import Derived.Below
import Derived.Lay
import Derived.LaidSub
import Derived.SevenTiedAt
import Derived.Deep.DeepHandedRow
import Derived.Lib.LaidTab
import Derived.Lib.SmallJoins
namespace Go.Proofs.YtagfnnpklefhhaaDoor
open Go.ChangeShapes Go.WideShapes Go.ChangeAt Go.RowKit Go.Lib Go.Joins
open Go.ChangeMaps (open_string shut_string)
set_option linter.unusedVariables false

theorem own : ownKnob Tryd.prog.godebug = none := by kernel_rfl
theorem acc_data : Rows.laid_unicode_utf8_acceptRanges (H := Unit) = acceptData := by kernel_rfl
theorem first_data : Rows.laid_unicode_utf8_first = firstData := Pinned.utf8First_eq
theorem pow_data : Rows.laid_internal_strconv_uint64pow10 (H := Unit) = Lib.tabData .u64 Lib.pow10Tab := by kernel_rfl
theorem place_data : Rows.laid_trestle_ident_zonePlaces (H := Unit) = Lib.tabData .i64 [600, 60, 10, 1] := by kernel_rfl
theorem pow_of {W : World} {l : List (String × DataW Unit)} (hl : (l.filter fun x => x.1 == "internal/strconv.uint64pow10") = [("internal/strconv.uint64pow10", Rows.laid_internal_strconv_uint64pow10)]) (h : laidMetH Tryd.prog l W) : Tab W := by
  have h1 := ((laidMetH_iff.1 h).1).filter (fun x => x.1 == "internal/strconv.uint64pow10")
  have e : (l.filter fun a => a.1 == "internal/strconv.uint64pow10" && a.2.handleName?.isNone) = (l.filter fun a => a.1 == "internal/strconv.uint64pow10").filter fun a => a.2.handleName?.isNone := by
    rw [List.filter_filter]; congr 1; funext a; exact Bool.and_comm _ _
  rw [List.filter_filter, e, hl] at h1
  have h2 : laidMet Tryd.prog (("internal/strconv.uint64pow10", Lib.tabData .u64 Lib.pow10Tab) :: []) W := by rw [← pow_data]; exact h1
  have ht : Lib.TabIs Tryd.prog W "internal/strconv.uint64pow10" .u64 Lib.pow10Tab := Lib.tabIs_of_head gPow (by kernel_rfl) Tryd.underlying108 Tryd.underlying57 (by kernel_rfl) (by kernel_rfl) h2
  exact ⟨ht, lt_of_cell (a := ⟨4, 0, none⟩) (ht.cell gPow 0 (by decide))⟩
theorem t6_of {W : World} {l : List (String × DataW Unit)} (h : laidMetH Tryd.prog l W)
    (hl : (l.filter fun x => x.1 == "internal/strconv.uint64pow10") = [("internal/strconv.uint64pow10", Rows.laid_internal_strconv_uint64pow10)])
    (h1 : ("unicode/utf8.first", Rows.laid_unicode_utf8_first) ∈ l.filter fun a => a.2.handleName?.isNone)
    (h2 : ("unicode/utf8.acceptRanges", Rows.laid_unicode_utf8_acceptRanges) ∈ l.filter fun a => a.2.handleName?.isNone) : T6 W := by
  have h0 := (laidMetH_iff.1 h).1
  have r1 := Lib.laidMet.reads h0 h1
  have r2 := Lib.laidMet.reads h0 h2
  rw [first_data] at r1
  rw [acc_data] at r2
  exact ⟨pow_of hl h, tabs_of W r1 r2⟩
theorem places_of (w : World) (h : VarReads Tryd.prog w "trestle/ident.zonePlaces" (tabData .i64 [600, 60, 10, 1])) : ZTab w := by
  obtain ⟨g, t, cs, fuel, p, hg, hty, hvar, hd⟩ := h
  obtain rfl := Option.some.inj ((show Tryd.prog.globalNamed "trestle/ident.zonePlaces" = some 0 by kernel_rfl).symm.trans hg)
  obtain rfl := Option.some.inj ((show (Tryd.prog.globals[0]?).map (·.type) = some 58 by kernel_rfl).symm.trans hty)
  have hcs := cells_of_tab Tryd.underlying58 Tryd.underlying3 (by kernel_rfl) (by kernel_rfl) hd
  have key0 : w.cell? ⟨0, 0, none⟩ = some (.int .i64 600) := by rw [World.var?_cell hg hvar 0, ← Array.getElem?_toList, hcs]; rfl
  have key1 : w.cell? ⟨0, 1, none⟩ = some (.int .i64 60) := by rw [World.var?_cell hg hvar 1, ← Array.getElem?_toList, hcs]; rfl
  have key2 : w.cell? ⟨0, 2, none⟩ = some (.int .i64 10) := by rw [World.var?_cell hg hvar 2, ← Array.getElem?_toList, hcs]; rfl
  have key3 : w.cell? ⟨0, 3, none⟩ = some (.int .i64 1) := by rw [World.var?_cell hg hvar 3, ← Array.getElem?_toList, hcs]; rfl
  refine ⟨lt_of_cell (a := ⟨0, 0, none⟩) key0, fun k hk => ?_⟩
  obtain rfl | rfl | rfl | rfl : k = 0 ∨ k = 1 ∨ k = 2 ∨ k = 3 := by omega
  · exact key0
  · exact key1
  · exact key2
  · exact key3
theorem t7_of {W : World} {l : List (String × DataW Unit)} (h : laidMetH Tryd.prog l W) (hS : W.ShapedOpen Tryd.prog)
    (hl : (l.filter fun x => x.1 == "internal/strconv.uint64pow10") = [("internal/strconv.uint64pow10", Rows.laid_internal_strconv_uint64pow10)])
    (h1 : ("unicode/utf8.first", Rows.laid_unicode_utf8_first) ∈ l.filter fun a => a.2.handleName?.isNone)
    (h2 : ("unicode/utf8.acceptRanges", Rows.laid_unicode_utf8_acceptRanges) ∈ l.filter fun a => a.2.handleName?.isNone)
    (h3 : ("trestle/ident.zonePlaces", Rows.laid_trestle_ident_zonePlaces) ∈ l.filter fun a => a.2.handleName?.isNone) : T7 W := by
  have r3 := Lib.laidMet.reads (laidMetH_iff.1 h).1 h3
  rw [place_data] at r3
  exact ⟨t6_of h hl h1 h2, places_of W r3, Tryd.laysM145.s1_3 W hS⟩
theorem len_of_str {l : List UInt8} (h : (⟨l.toArray⟩ : ByteArray).size ≤ maxLen) : l.length ≤ maxLen := by rwa [size_toArray] at h
theorem bd_i64 {n : Int} (h : (Lit.int .i64 n).wf = true) : -9223372036854775808 ≤ n ∧ n ≤ 9223372036854775807 := by
  have e1 : IntKind.i64.min = -9223372036854775808 := rfl
  have e2 : IntKind.i64.max = 9223372036854775807 := rfl
  simpa [Lit.wf, e1, e2] using h
set_option maxRecDepth 100000 in
/-- An ident that came in by value: what it is, and that it reads so in every world. -/
theorem open_ident {H : Type} {enc : TypeId × Value → H} {W : World} {b0 base : Nat} {v : Value} {d : DataW H} {p : List MemPlace} (hv : Value.okWide Tryd.prog W .any b0 23 v) (h : DataW.Trod enc Tryd.prog W base (fun _ => true) true 23 v d p) :
    ∃ i : Idt, v = idtV i ∧ p = [] ∧ i.name.length ≤ maxLen ∧ i.email.length ≤ maxLen ∧ (-9223372036854775808 ≤ i.whn ∧ i.whn ≤ 9223372036854775807) ∧ (-9223372036854775808 ≤ i.zone ∧ i.zone ≤ 9223372036854775807) ∧
      ∀ (W' : World) (sp : Nat → Bool) (base' : Nat), DataW.Trod enc Tryd.prog W' base' sp true 23 (idtV i) d [] := by
  have hc : Tryd.prog.cellsOf 23 = 4 := by kernel_rfl
  obtain ⟨c0, c1, c2, c3, y0, y1, y2, y3, m, rfl, rfl, rfl, h0, h1, h2, h3⟩ := open_agg4 Tryd.underlying23 (by kernel_rfl) hc hv h
  obtain ⟨s0, e0, z0, w0⟩ := DataW.trod_string Tryd.underlying9 h0
  obtain ⟨s1, e1, z1, w1⟩ := DataW.trod_string Tryd.underlying9 h1
  obtain ⟨n2, e2, z2, w2⟩ := DataW.trod_int Tryd.underlying2 h2
  obtain ⟨n3, e3, z3, w3⟩ := DataW.trod_int Tryd.underlying3 h3
  simp only [List.cons.injEq, and_true] at e0 e1 e2 e3
  subst e0 e1 e2 e3 z0 z1 z2 z3
  have q0 : (⟨s0.data.toList.toArray⟩ : ByteArray) = s0 := by cases s0; simp
  have q1 : (⟨s1.data.toList.toArray⟩ : ByteArray) = s1 := by cases s1; simp
  have hV : idtV ⟨s0.data.toList, s1.data.toList, n2, n3⟩ = .agg #[.string s0, .string s1, .int .i64 n2, .int .i64 n3] := by unfold idtV; simp only [q0, q1]
  refine ⟨⟨s0.data.toList, s1.data.toList, n2, n3⟩, hV.symm, rfl, by rw [← Lib.size_eq]; exact w0, by rw [← Lib.size_eq]; exact w1, bd_i64 w2, bd_i64 w3, fun W' sp base' => ?_⟩
  rw [hV]
  exact shut_agg4 (y0 := (.lit (.string s0.data.toList), [])) (y1 := (.lit (.string s1.data.toList), [])) (y2 := (.lit (.int .i64 n2), [])) (y3 := (.lit (.int .i64 n3), [])) Tryd.underlying23 (by kernel_rfl) hc
    ⟨1, by simp [DataW.trod, Tryd.underlying9, w0]⟩ ⟨1, by simp [DataW.trod, Tryd.underlying9, w1]⟩ ⟨1, by simp [DataW.trod, Tryd.underlying2, w2]⟩ ⟨1, by simp [DataW.trod, Tryd.underlying3, w3]⟩
end Go.Proofs.YtagfnnpklefhhaaDoor
