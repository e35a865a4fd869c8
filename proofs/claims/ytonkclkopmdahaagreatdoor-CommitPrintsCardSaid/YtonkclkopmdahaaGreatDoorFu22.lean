/-
  Texts that belong together, one behind the other.
-/
import Derived.Test.YtonkclkopmdahaaGreatDoorFu20
import Derived.Test.YtonkclkopmdahaaGreatDoorFu14
import Derived.Test.YtonkclkopmdahaaGreatDoorFu21
import Derived.Test.YtonkclkopmdahaaGreatDoorRows
import Derived.Test.YtonkclkopmdahaaGreatDoorFu13
import Derived.ProofKit
import Derived.OpenShut
import Derived.ShutString
import Derived.Below
import Derived.Lay
import Derived.LaidSub
import Derived.SevenTiedAt
import Derived.Deep.DeepHandedRow
import Derived.Lib.LaidTab
import Derived.Lib.SmallJoins
/-
  Layer 9: what the laws over records share.
-/
namespace Go.Proofs.YtonkclkopmdahaaGreatDoor
set_option maxRecDepth 20000
open Go.RowKit
set_option linter.unusedVariables false
set_option linter.unusedSimpArgs false

/-- What stands in the spare room of a copy. -/
def fill71 : List UInt8 := 71 :: List.replicate 19 0
theorem built_fill : Tryz.prog.built 23 [(0, .int .u8 71)] = some (arrD fill71) := by kernel_rfl
theorem fill_len : fill71.length = 20 := rfl
/-- A literal of one part, in a region that draws its order. -/
theorem yields_build1 {P : Program} {ops : Array Oper} {S : World → Prop} {o : Oper} {a : Act} (hw : Region.wanted o (yielded ops a.tmps) = true) (t : TypeId) (k0 : Nat) (x0 : Operand) (ho : o.op = .build t #[(k0, x0)])
    (v0 : Value) (h0 : a.eval x0 = v0) (cells : Array Value) (hb : P.built t [(k0, v0)] = some cells) : YieldsIf P ops S o (.agg cells) a :=
  .inl ⟨hw, fun u _ => by
    have hp : P.built t (#[(k0, x0)].map fun (i, x) => (i, a.eval x)).toList = some cells := by simp [h0, hb]
    unfold execOp
    simp only [ho, Sem.run_bind, run_build u t _ cells hp, Result.andThen_ok, Sem.run_pure]⟩
theorem red_bat9 {w : World} {a : Option Addr} {n c : Nat} {l : List UInt8} (h : Red w (.slice a n c) l) : BAt w a l ∧ n = l.length := by
  obtain ⟨a', c', hv, hb, _⟩ := h
  cases hv
  exact ⟨hb, rfl⟩
theorem red_shape {w : World} {v : Value} {l : List UInt8} (h : Red w v l) : ∃ a c, v = .slice a l.length c ∧ (a = none → l.length = 0 ∧ c = 0) ∧ l.length ≤ c ∧ c ≤ maxLen := by
  obtain ⟨a, c, hv, hb, h1, h2, h3⟩ := h
  exact ⟨a, c, hv, h1, h2, h3⟩
theorem red_keep {w u : World} {v : Value} {l : List UInt8} (h : Red w v l) (hb : Below w.heap.size w u) : Red u v l := h.below hb (Nat.le_refl _)
/-- Two records that tell the same. -/
theorem record_red (A B : Array Value) (c : Rcd) (w : World) (h : RecRed w A c) (k : RecRed w B c) (hm : c.parents.length ≤ 1000000) :
    Calls Tryz.prog 17 #[.agg A, .agg B] w fun e w' => e = .returned (.bool true) ∧ Below w.heap.size w w' := by
  obtain ⟨hf, pa, ca, rfl, _, _, hi, _⟩ := h
  obtain ⟨_, pb, cb, rfl, _, _, hj, _⟩ := k
  exact Record_same c.tree pa pb c.parents.length ca cb c.parents c.author c.committer c.text w hf.tree hi hj rfl hm hf.parents
theorem parsed_right {s : List UInt8} {c : Rcd} (h : parseK s = some c) : c.Fit ∧ rightR c = true ∧ printC hexL (printI Lib.itoa) c = s := parse_onlyC wr9 h
theorem parsed_len (s : List UInt8) : (parsedR s).1.parents.length ≤ 16 := by
  unfold parsedR
  cases e : parseK s with
  | none => exact Nat.zero_le _
  | some c => exact ((rightR_iff c).1 (parsed_right e).2.1).2.1
theorem rec_size {w : World} {A : Array Value} {c : Rcd} (h : RecRed w A c) : A.size = 30 ∧ A.all (·.oneCell') = true := by
  obtain ⟨hf, pa, ca, rfl, _⟩ := h
  exact ⟨arrC_size _ _ _ _ _ hf.tree, arrC_one _ _ _ _ _ _ _⟩
/-- A load of a whole block, in a region that draws its order. -/
theorem yields_load_all {ops : Array Oper} {S : World → Prop} {o : Oper} {a : Act} (hw : Region.wanted o (yielded ops a.tmps) = true) (ty : TypeId) (x : Operand) (ho : o.op = .load ty x) (g : Nat) (A : Array Value) (hx : a.eval x = .pointer (some ⟨g, 0, none⟩))
    (hS : ∀ u, S u → u.rangeAt g 0 A.toList) (d : TypeDesc) (hu : Tryz.prog.underlying ty = some d) (hd : d.isRow = true) (hi : (Tryz.prog.info? ty).map (·.size) = some A.size) : YieldsIf Tryz.prog ops S o (.agg A) a := by
  have h := yieldsIf_load_mid (P := Tryz.prog) (ops := ops) (S := S) (op := o) (a := a) hw ty x ho g 0 hx A.toList d hS hu hd (by rw [Array.length_toList]; exact hi)
  rwa [Array.toArray_toList] at h
end Go.Proofs.YtonkclkopmdahaaGreatDoor

/-
  Layer 9: texts whose lines are of another kind, in another order, or twice, are no record's.
-/
namespace Go.Proofs.YtonkclkopmdahaaGreatDoor
set_option maxRecDepth 20000
set_option linter.unusedVariables false
set_option linter.unusedSimpArgs false

def twoI : List UInt8 := 2 :: List.replicate 19 0
def who5 : Idt := ⟨[65], [97], 5, 0⟩
def who6 : Idt := ⟨[66], [98], 6, -60⟩
def tB : List UInt8 := [116, 114, 101, 101, 32, 48, 49, 48, 48, 48, 48, 48, 48, 48, 48, 48, 48, 48, 48, 48, 48, 48, 48, 48, 48, 48, 48, 48, 48, 48, 48, 48, 48, 48, 48, 48, 48, 48, 48, 48, 48, 48, 48, 48, 48, 10]
def pB : List UInt8 := [112, 97, 114, 101, 110, 116, 32, 48, 50, 48, 48, 48, 48, 48, 48, 48, 48, 48, 48, 48, 48, 48, 48, 48, 48, 48, 48, 48, 48, 48, 48, 48, 48, 48, 48, 48, 48, 48, 48, 48, 48, 48, 48, 48, 48, 48, 48, 10]
def aB : List UInt8 := [97, 117, 116, 104, 111, 114, 32, 65, 32, 60, 97, 62, 32, 53, 32, 43, 48, 48, 48, 48, 10]
def cB : List UInt8 := [99, 111, 109, 109, 105, 116, 116, 101, 114, 32, 66, 32, 60, 98, 62, 32, 54, 32, 45, 48, 49, 48, 48, 10]
def gB : List UInt8 := [103, 112, 103, 115, 105, 103, 32, 120, 10, 10]
def eB : List UInt8 := [101, 110, 99, 111, 100, 105, 110, 103, 32, 117, 116, 102, 45, 56, 10]
theorem tB_is : tB = treeW ++ hexL oneD ++ [10] := by decide +kernel
theorem pB_is : pB = parentW ++ hexL twoI ++ [10] := by decide +kernel
theorem aB_is : aB = authorW ++ printI Lib.itoa who5 ++ [10] := by decide +kernel
theorem cB_is : cB = committerW ++ printI Lib.itoa who6 ++ [10] := by decide +kernel
theorem right5 : rightI who5 = true := by decide +kernel
theorem right6 : rightI who6 = true := by decide +kernel
theorem lit_line {B w x : List UInt8} (h : B = w ++ x ++ [10]) (r : List UInt8) : B ++ r = lineT w x r := by rw [h]; unfold lineT; simp
theorem line_tB (r : List UInt8) : lineL (tB ++ r) treeW = some (hexL oneD, r) := by rw [lit_line tB_is]; exact line_print noEol_tree (hex_eol _) r
theorem line_aB (r : List UInt8) : lineL (aB ++ r) authorW = some (printI Lib.itoa who5, r) := by rw [lit_line aB_is]; exact line_print noEol_author (ident_eol _ right5) r
theorem line_cB (r : List UInt8) : lineL (cB ++ r) committerW = some (printI Lib.itoa who6, r) := by rw [lit_line cB_is]; exact line_print noEol_committer (ident_eol _ right6) r
/-- What is told of a text that begins with the tree's line. -/
theorem eval_tree (ps : List (List UInt8)) (q : List UInt8) (h16 : ps.length ≤ 16) (hps : ∀ p ∈ ps, p.length = 20) (hq : lineL q parentW = none) :
    parseK (tB ++ parsT hexL ps q) = match whoL (parseR Lib.itoa takeN) q with
      | none => none
      | some (a, c, tx) => if rightR ⟨oneD, ps, a, c, tx⟩ = true then some ⟨oneD, ps, a, c, tx⟩ else none := by
  unfold parseK parseC
  rw [line_tB]
  simp only
  rw [wr9.hb oneD rfl]
  simp only
  rw [pars_print wr9 q hq ps 16 h16 hps]
  rfl
theorem one_two (p : List UInt8) (hp : p ∈ [twoI]) : p.length = 20 := by rw [List.mem_singleton.1 hp]; rfl
theorem two_two (p : List UInt8) (hp : p ∈ [twoI, twoI]) : p.length = 20 := by
  rcases List.mem_cons.1 hp with rfl | hp
  · rfl
  · exact one_two p hp
theorem pars_one (q : List UInt8) : pB ++ q = parsT hexL [twoI] q := lit_line pB_is q
theorem pars_two (q : List UInt8) : pB ++ (pB ++ q) = parsT hexL [twoI, twoI] q := by rw [pars_one q]; exact lit_line pB_is _
theorem who_aB (q : List UInt8) : whoL (parseR Lib.itoa takeN) (aB ++ q) = match lineL q committerW with
    | none => none
    | some (y, s) => match parseR Lib.itoa takeN y with
      | none => none
      | some c => match s with
        | [] => none
        | d :: t => if d = 10 then some (who5, c, t) else none := by
  unfold whoL
  rw [line_aB]
  simp only
  rw [wr9.ib who5 right5]
  rfl
theorem who_aBcB (s : List UInt8) : whoL (parseR Lib.itoa takeN) (aB ++ (cB ++ s)) = match s with
    | [] => none
    | d :: t => if d = 10 then some (who5, who6, t) else none := by
  rw [who_aB, line_cB]
  simp only
  rw [wr9.ib who6 right6]
theorem bad_0 (x : List UInt8) : parseK (pB ++ x) = none := by
  unfold parseK parseC
  rw [show lineL (pB ++ x) treeW = none from line_first 112 116 (by decide) _]
theorem bad_1 (x : List UInt8) : parseK (tB ++ (pB ++ (cB ++ x))) = none := by
  rw [pars_one, eval_tree [twoI] (cB ++ x) (by decide) one_two (line_first 99 112 (by decide) _)]
  unfold whoL
  rw [show lineL (cB ++ x) authorW = none from line_first 99 97 (by decide) _]
theorem bad_2 (x : List UInt8) : parseK (tB ++ (pB ++ (aB ++ (cB ++ (gB ++ x))))) = none := by
  rw [pars_one, eval_tree [twoI] (aB ++ (cB ++ (gB ++ x))) (by decide) one_two (line_first 97 112 (by decide) _), who_aBcB]
  rfl
theorem bad_3 (x : List UInt8) : parseK (tB ++ (tB ++ x)) = none := by
  have h := eval_tree [] (tB ++ x) (by decide) (fun p hp => by cases hp) (line_first 116 112 (by decide) _)
  unfold whoL at h
  rw [show lineL (tB ++ x) authorW = none from line_first 116 97 (by decide) _] at h
  exact h
theorem dup_two (a c : Idt) (tx : List UInt8) : rightR ⟨oneD, [twoI, twoI], a, c, tx⟩ = false := by
  cases e : rightR ⟨oneD, [twoI, twoI], a, c, tx⟩ with
  | false => rfl
  | true =>
    have h := ((rightR_iff _).1 e).2.2.1
    exact absurd (show parentsR [twoI, twoI] = true from h) (by decide)
theorem bad_4 (x : List UInt8) : parseK (tB ++ (pB ++ (pB ++ (aB ++ (cB ++ (10 :: x)))))) = none := by
  rw [pars_two, eval_tree [twoI, twoI] (aB ++ (cB ++ (10 :: x))) (by decide) two_two (line_first 97 112 (by decide) _), who_aBcB]
  simp only [if_pos, dup_two]
  rfl
theorem bad_5 (x : List UInt8) : parseK (tB ++ (pB ++ (aB ++ (aB ++ x)))) = none := by
  rw [pars_one, eval_tree [twoI] (aB ++ (aB ++ x)) (by decide) one_two (line_first 97 112 (by decide) _), who_aB, show lineL (aB ++ x) committerW = none from line_first 97 99 (by decide) _]
theorem bad_6 : parseK (tB ++ (pB ++ (aB ++ cB))) = none := by
  rw [pars_one, eval_tree [twoI] (aB ++ cB) (by decide) one_two (line_first 97 112 (by decide) _), show aB ++ cB = aB ++ (cB ++ []) by rw [List.append_nil], who_aBcB]
theorem bad_7 (x : List UInt8) : parseK (tB ++ (pB ++ (aB ++ (10 :: x)))) = none := by
  rw [pars_one, eval_tree [twoI] (aB ++ (10 :: x)) (by decide) one_two (line_first 97 112 (by decide) _), who_aB, show lineL (10 :: x) committerW = none from line_first 10 99 (by decide) _]
theorem bad_8 (x : List UInt8) : parseK (tB ++ (eB ++ x)) = none := by
  have h := eval_tree [] (eB ++ x) (by decide) (fun p hp => by cases hp) (line_first 101 112 (by decide) _)
  unfold whoL at h
  rw [show lineL (eB ++ x) authorW = none from line_first 101 97 (by decide) _] at h
  exact h
theorem right_good (x : List UInt8) (h1 : x.length ≤ 500) (h2 : ∀ d ∈ x, d ≠ 0) : rightR ⟨oneD, [twoI], who5, who6, x⟩ = true := by
  rw [rightR_iff]
  exact ⟨(show oneD ≠ idZ by decide), (show [twoI].length ≤ 16 by decide), (show parentsR [twoI] = true by decide), right5, right6, (show x.length ≤ 32768 by omega), h2⟩
theorem good_is (x : List UInt8) (h1 : x.length ≤ 500) (h2 : ∀ d ∈ x, d ≠ 0) : parsedR (tB ++ (pB ++ (aB ++ (cB ++ (10 :: x))))) = (⟨oneD, [twoI], who5, who6, x⟩, 0) := by
  unfold parsedR
  rw [pars_one, eval_tree [twoI] (aB ++ (cB ++ (10 :: x))) (by decide) one_two (line_first 97 112 (by decide) _), who_aBcB]
  simp only [if_pos, right_good x h1 h2]
/-- The texts that are none, by number. -/
def badT (x : List UInt8) (r : Nat) : List UInt8 :=
  match r with
  | 0 => pB ++ tB ++ aB ++ cB ++ [10] ++ x
  | 1 => tB ++ pB ++ cB ++ aB ++ [10] ++ x
  | 2 => tB ++ pB ++ aB ++ cB ++ gB ++ x
  | 3 => tB ++ tB ++ aB ++ cB ++ [10] ++ x
  | 4 => tB ++ pB ++ pB ++ aB ++ cB ++ [10] ++ x
  | 5 => tB ++ pB ++ aB ++ aB ++ cB ++ [10] ++ x
  | 6 => tB ++ pB ++ aB ++ cB
  | 7 => tB ++ pB ++ aB ++ [10] ++ x
  | _ => tB ++ eB ++ aB ++ cB ++ [10] ++ x
theorem badT_none (x : List UInt8) (r : Nat) : parsedR (badT x r) = (rcdZ, 4) := by
  have key : parseK (badT x r) = none := by
    unfold badT
    split
    · have h := bad_0 (tB ++ aB ++ cB ++ [10] ++ x); simpa only [List.append_assoc, List.cons_append, List.nil_append] using h
    · have h := bad_1 (aB ++ [10] ++ x); simpa only [List.append_assoc, List.cons_append, List.nil_append] using h
    · have h := bad_2 x; simpa only [List.append_assoc, List.cons_append, List.nil_append] using h
    · have h := bad_3 (aB ++ cB ++ [10] ++ x); simpa only [List.append_assoc, List.cons_append, List.nil_append] using h
    · have h := bad_4 x; simpa only [List.append_assoc, List.cons_append, List.nil_append] using h
    · have h := bad_5 (cB ++ [10] ++ x); simpa only [List.append_assoc, List.cons_append, List.nil_append] using h
    · have h := bad_6; simpa only [List.append_assoc, List.cons_append, List.nil_append] using h
    · have h := bad_7 x; simpa only [List.append_assoc, List.cons_append, List.nil_append] using h
    · have h := bad_8 (aB ++ cB ++ [10] ++ x); simpa only [List.append_assoc, List.cons_append, List.nil_append] using h
  unfold parsedR
  rw [key]
theorem badT_len (x : List UInt8) (r : Nat) (h1 : x.length ≤ 500) : (badT x r).length ≤ 1000 := by
  have l1 : tB.length = 46 := rfl
  have l2 : pB.length = 48 := rfl
  have l3 : aB.length = 21 := rfl
  have l4 : cB.length = 24 := rfl
  have l5 : gB.length = 10 := rfl
  have l6 : eB.length = 15 := rfl
  unfold badT
  split <;> simp only [List.length_append, List.length_cons, List.length_nil, l1, l2, l3, l4, l5, l6] <;> omega
end Go.Proofs.YtonkclkopmdahaaGreatDoor

/-
  What the frames of layer 6 share: the tables, from what the row lists and from the world's shape; an ident that came in by value.
-/
namespace Go.Proofs.YtonkclkopmdahaaGreatDoor
open Go.ChangeShapes Go.WideShapes Go.ChangeAt Go.RowKit Go.Lib Go.Joins
open Go.ChangeMaps (open_string shut_string)
set_option linter.unusedVariables false

theorem own : ownKnob Tryz.prog.godebug = none := by kernel_rfl
theorem acc_data : Rows.laid_unicode_utf8_acceptRanges (H := Unit) = acceptData := by kernel_rfl
theorem first_data : Rows.laid_unicode_utf8_first = firstData := Pinned.utf8First_eq
theorem pow_data : Rows.laid_internal_strconv_uint64pow10 (H := Unit) = Lib.tabData .u64 Lib.pow10Tab := by kernel_rfl
theorem place_data : Rows.laid_trestle_ident_zonePlaces (H := Unit) = Lib.tabData .i64 [600, 60, 10, 1] := by kernel_rfl
theorem pow_of {W : World} {l : List (String × DataW Unit)} (hl : (l.filter fun x => x.1 == "internal/strconv.uint64pow10") = [("internal/strconv.uint64pow10", Rows.laid_internal_strconv_uint64pow10)]) (h : laidMetH Tryz.prog l W) : Tab W := by
  have h1 := ((laidMetH_iff.1 h).1).filter (fun x => x.1 == "internal/strconv.uint64pow10")
  have e : (l.filter fun a => a.1 == "internal/strconv.uint64pow10" && a.2.handleName?.isNone) = (l.filter fun a => a.1 == "internal/strconv.uint64pow10").filter fun a => a.2.handleName?.isNone := by
    rw [List.filter_filter]; congr 1; funext a; exact Bool.and_comm _ _
  rw [List.filter_filter, e, hl] at h1
  have h2 : laidMet Tryz.prog (("internal/strconv.uint64pow10", Lib.tabData .u64 Lib.pow10Tab) :: []) W := by rw [← pow_data]; exact h1
  have ht : Lib.TabIs Tryz.prog W "internal/strconv.uint64pow10" .u64 Lib.pow10Tab := Lib.tabIs_of_head gPow (by kernel_rfl) Tryz.underlying134 Tryz.underlying99 (by kernel_rfl) (by kernel_rfl) h2
  exact ⟨ht, lt_of_cell (a := ⟨3, 0, none⟩) (ht.cell gPow 0 (by decide))⟩
theorem t6_of {W : World} {l : List (String × DataW Unit)} (h : laidMetH Tryz.prog l W)
    (hl : (l.filter fun x => x.1 == "internal/strconv.uint64pow10") = [("internal/strconv.uint64pow10", Rows.laid_internal_strconv_uint64pow10)])
    (h1 : ("unicode/utf8.first", Rows.laid_unicode_utf8_first) ∈ l.filter fun a => a.2.handleName?.isNone)
    (h2 : ("unicode/utf8.acceptRanges", Rows.laid_unicode_utf8_acceptRanges) ∈ l.filter fun a => a.2.handleName?.isNone) : T6 W := by
  have h0 := (laidMetH_iff.1 h).1
  have r1 := Lib.laidMet.reads h0 h1
  have r2 := Lib.laidMet.reads h0 h2
  rw [first_data] at r1
  rw [acc_data] at r2
  exact ⟨pow_of hl h, tabs_of W r1 r2⟩
theorem places_of (w : World) (h : VarReads Tryz.prog w "trestle/ident.zonePlaces" (tabData .i64 [600, 60, 10, 1])) : ZTab w := by
  obtain ⟨g, t, cs, fuel, p, hg, hty, hvar, hd⟩ := h
  obtain rfl := Option.some.inj ((show Tryz.prog.globalNamed "trestle/ident.zonePlaces" = some 4 by kernel_rfl).symm.trans hg)
  obtain rfl := Option.some.inj ((show (Tryz.prog.globals[4]?).map (·.type) = some 149 by kernel_rfl).symm.trans hty)
  have hcs := cells_of_tab Tryz.underlying149 Tryz.underlying3 (by kernel_rfl) (by kernel_rfl) hd
  have key0 : w.cell? ⟨4, 0, none⟩ = some (.int .i64 600) := by rw [World.var?_cell hg hvar 0, ← Array.getElem?_toList, hcs]; rfl
  have key1 : w.cell? ⟨4, 1, none⟩ = some (.int .i64 60) := by rw [World.var?_cell hg hvar 1, ← Array.getElem?_toList, hcs]; rfl
  have key2 : w.cell? ⟨4, 2, none⟩ = some (.int .i64 10) := by rw [World.var?_cell hg hvar 2, ← Array.getElem?_toList, hcs]; rfl
  have key3 : w.cell? ⟨4, 3, none⟩ = some (.int .i64 1) := by rw [World.var?_cell hg hvar 3, ← Array.getElem?_toList, hcs]; rfl
  refine ⟨lt_of_cell (a := ⟨4, 0, none⟩) key0, fun k hk => ?_⟩
  obtain rfl | rfl | rfl | rfl : k = 0 ∨ k = 1 ∨ k = 2 ∨ k = 3 := by omega
  · exact key0
  · exact key1
  · exact key2
  · exact key3
theorem t7_of {W : World} {l : List (String × DataW Unit)} (h : laidMetH Tryz.prog l W) (hS : W.ShapedOpen Tryz.prog)
    (hl : (l.filter fun x => x.1 == "internal/strconv.uint64pow10") = [("internal/strconv.uint64pow10", Rows.laid_internal_strconv_uint64pow10)])
    (h1 : ("unicode/utf8.first", Rows.laid_unicode_utf8_first) ∈ l.filter fun a => a.2.handleName?.isNone)
    (h2 : ("unicode/utf8.acceptRanges", Rows.laid_unicode_utf8_acceptRanges) ∈ l.filter fun a => a.2.handleName?.isNone)
    (h3 : ("trestle/ident.zonePlaces", Rows.laid_trestle_ident_zonePlaces) ∈ l.filter fun a => a.2.handleName?.isNone) : T7 W := by
  have r3 := Lib.laidMet.reads (laidMetH_iff.1 h).1 h3
  rw [place_data] at r3
  exact ⟨t6_of h hl h1 h2, places_of W r3, Tryz.laysM145.s1_3 W hS⟩
theorem len_of_str {l : List UInt8} (h : (⟨l.toArray⟩ : ByteArray).size ≤ maxLen) : l.length ≤ maxLen := by rwa [size_toArray] at h
theorem bd_i64 {n : Int} (h : (Lit.int .i64 n).wf = true) : -9223372036854775808 ≤ n ∧ n ≤ 9223372036854775807 := by
  have e1 : IntKind.i64.min = -9223372036854775808 := rfl
  have e2 : IntKind.i64.max = 9223372036854775807 := rfl
  simpa [Lit.wf, e1, e2] using h
set_option maxRecDepth 100000 in
/-- An ident that came in by value: what it is, and that it reads so in every world. -/
theorem open_ident {H : Type} {enc : TypeId × Value → H} {W : World} {b0 base : Nat} {v : Value} {d : DataW H} {p : List MemPlace} (hv : Value.okWide Tryz.prog W .any b0 26 v) (h : DataW.Trod enc Tryz.prog W base (fun _ => true) true 26 v d p) :
    ∃ i : Idt, v = idtV i ∧ p = [] ∧ i.name.length ≤ maxLen ∧ i.email.length ≤ maxLen ∧ (-9223372036854775808 ≤ i.whn ∧ i.whn ≤ 9223372036854775807) ∧ (-9223372036854775808 ≤ i.zone ∧ i.zone ≤ 9223372036854775807) ∧
      ∀ (W' : World) (sp : Nat → Bool) (base' : Nat), DataW.Trod enc Tryz.prog W' base' sp true 26 (idtV i) d [] := by
  have hc : Tryz.prog.cellsOf 26 = 4 := by kernel_rfl
  obtain ⟨c0, c1, c2, c3, y0, y1, y2, y3, m, rfl, rfl, rfl, h0, h1, h2, h3⟩ := open_agg4 Tryz.underlying26 (by kernel_rfl) hc hv h
  obtain ⟨s0, e0, z0, w0⟩ := DataW.trod_string Tryz.underlying9 h0
  obtain ⟨s1, e1, z1, w1⟩ := DataW.trod_string Tryz.underlying9 h1
  obtain ⟨n2, e2, z2, w2⟩ := DataW.trod_int Tryz.underlying2 h2
  obtain ⟨n3, e3, z3, w3⟩ := DataW.trod_int Tryz.underlying3 h3
  simp only [List.cons.injEq, and_true] at e0 e1 e2 e3
  subst e0 e1 e2 e3 z0 z1 z2 z3
  have q0 : (⟨s0.data.toList.toArray⟩ : ByteArray) = s0 := by cases s0; simp
  have q1 : (⟨s1.data.toList.toArray⟩ : ByteArray) = s1 := by cases s1; simp
  have hV : idtV ⟨s0.data.toList, s1.data.toList, n2, n3⟩ = .agg #[.string s0, .string s1, .int .i64 n2, .int .i64 n3] := by unfold idtV; simp only [q0, q1]
  refine ⟨⟨s0.data.toList, s1.data.toList, n2, n3⟩, hV.symm, rfl, by rw [← Lib.size_eq]; exact w0, by rw [← Lib.size_eq]; exact w1, bd_i64 w2, bd_i64 w3, fun W' sp base' => ?_⟩
  rw [hV]
  exact shut_agg4 (y0 := (.lit (.string s0.data.toList), [])) (y1 := (.lit (.string s1.data.toList), [])) (y2 := (.lit (.int .i64 n2), [])) (y3 := (.lit (.int .i64 n3), [])) Tryz.underlying26 (by kernel_rfl) hc
    ⟨1, by simp [DataW.trod, Tryz.underlying9, w0]⟩ ⟨1, by simp [DataW.trod, Tryz.underlying9, w1]⟩ ⟨1, by simp [DataW.trod, Tryz.underlying2, w2]⟩ ⟨1, by simp [DataW.trod, Tryz.underlying3, w3]⟩
end Go.Proofs.YtonkclkopmdahaaGreatDoor
