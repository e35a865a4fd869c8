/-
  Texts that belong together, one behind the other.
-/
import Derived.Test.YtalmoaofodjehaaDoorFu01
import Derived.Test.YtalmoaofodjehaaDoorFu04
import Derived.Deep.AppendSrc
import Derived.Deep.Upon
import Derived.Laws.AppendOwn
import Derived.Laws.Rows
import Derived.Laws.Tables
import Derived.Laws.IdiomStrings
import Derived.Lib.FrozenHead2
import Derived.Test.YtalmoaofodjehaaDoorRows
import Derived.Test.YtalmoaofodjehaaDoorFu02
import Derived.ProofKit
import Derived.OpenShut
import Derived.Below
import Derived.Carry
/-
  Layer 8, plain: items put in order one by one; what a cut through a tree's bytes leaves.
-/
namespace Go.Proofs.YtalmoaofodjehaaDoor
set_option linter.unusedVariables false
set_option linter.unusedSimpArgs false

abbrev Srt (l : List Itm) : Prop := l.Pairwise (fun a b => befI a b = true)
theorem bef_trans {a b c : Itm} (h : befI a b = true) (k : befI b c = true) : befI a c = true := by
  unfold befI at *
  simp only [decide_eq_true_eq] at *
  exact List.lt_trans h k
theorem bef_not {a b : Itm} (h : befI a b = true) : befI b a = false := by
  unfold befI at *
  simp only [decide_eq_true_eq, decide_eq_false_iff_not] at *
  exact List.lt_asymm h
theorem bef_total {a b : Itm} (h : befI a b = false) (k : fullI a ≠ fullI b) : befI b a = true := by
  unfold befI at *
  simp only [decide_eq_true_eq, decide_eq_false_iff_not] at *
  rcases Nat.lt_or_ge 0 1 with _ | _
  · have h1 : fullI b ≤ fullI a := h
    by_cases h2 : fullI b < fullI a
    · exact h2
    · exact absurd (List.le_antisymm (show fullI a ≤ fullI b from h2) h1) k
  · omega
theorem name_no_slash {i : Itm} (h : nameI i.name = true) : (47 : UInt8) ∉ i.name := by
  unfold nameI at h
  simp only [Bool.and_eq_true, Bool.not_eq_true', List.any_eq_false] at h
  intro hm
  exact h.2 47 hm rfl
theorem full_name {i j : Itm} (hi : nameI i.name = true) (hj : nameI j.name = true) (h : fullI i = fullI j) : i.name = j.name := by
  unfold fullI at h
  by_cases a : i.mode = 4 <;> by_cases b : j.mode = 4
  · rw [if_pos a, if_pos b] at h; exact List.append_cancel_right h
  · rw [if_pos a, if_neg b] at h; exact absurd (by rw [← h]; simp) (name_no_slash hj)
  · rw [if_neg a, if_pos b] at h; exact absurd (by rw [h]; simp) (name_no_slash hi)
  · rw [if_neg a, if_neg b] at h; exact h
theorem getD_get (l : List Itm) (k : Nat) (h : k < l.length) : l.getD k noI = l[k] := by rw [List.getD_eq_getElem?_getD, List.getElem?_eq_getElem h]; rfl
/-- Items in order, each right by itself, no two of one name, are a tree. -/
theorem right_of_srt {l : List Itm} (h1 : 1 ≤ l.length) (h5 : l.length ≤ 500) (ho : ∀ i ∈ l, oneI i = true) (hn : (l.map Itm.name).Nodup) (hs : Srt l) : rightI l = true := by
  refine right_yes l h1 h5 (fun i hi => ?_)
  unfold stepI aheadI
  rw [getD_get l i hi, ho _ (List.getElem_mem hi), Bool.true_and, Bool.and_eq_true, Bool.or_eq_true]
  refine ⟨?_, (other_iff l i).2 (fun k hk e => ?_)⟩
  · by_cases h0 : i = 0
    · left; rw [h0]; rfl
    · right
      rw [getD_get l (i - 1) (by omega)]
      exact List.pairwise_iff_getElem.1 hs (i - 1) i (by omega) hi (by omega)
  · rw [getD_get l k (by omega), getD_get l i hi] at e
    have hnn := List.pairwise_iff_getElem.1 hn k i (by rw [List.length_map]; omega) (by rw [List.length_map]; omega) hk
    rw [List.getElem_map, List.getElem_map] at hnn
    exact hnn e
/-- The last one once more. -/
theorem right_twice {l : List Itm} (h1 : 0 < l.length) : rightI (l ++ [l[l.length - 1]]) = false := by
  refine right_no_step _ l.length (by simp) ?_
  unfold stepI
  rw [other_no _ l.length (l.length - 1) (by omega) ?_, Bool.and_false]
  rw [getD_get _ _ (by simp; omega), getD_get _ _ (by simp), List.getElem_append_left (by omega)]
  simp
/-- The first two turned round. -/
theorem right_turned {l : List Itm} (h2 : 2 ≤ l.length) (hs : Srt l) : rightI ((l.set 0 l[1]).set 1 l[0]) = false := by
  refine right_no_step _ 1 (by simp; omega) ?_
  unfold stepI aheadI
  rw [getD_get _ 1 (by simp; omega), getD_get _ (1 - 1) (by simp; omega)]
  have hb := List.pairwise_iff_getElem.1 hs 0 1 (by omega) (by omega) (by omega)
  simp [bef_not hb]

/-- A list of which the items up to one place are in order, but for one of them, which stands before all those behind it. -/
def Ins (l : List Itm) (i k : Nat) : Prop := ∃ A x B C, l = A ++ x :: (B ++ C) ∧ A.length = k ∧ A.length + B.length = i ∧ Srt (A ++ B) ∧ ∀ b ∈ B, befI x b = true
theorem ins_start {l : List Itm} {i : Nat} (hi : i < l.length) (hs : Srt (l.take i)) : Ins l i i :=
  ⟨l.take i, l[i], [], l.drop (i + 1), by simp, by rw [List.length_take]; omega, by rw [List.length_take]; simp; omega, by simpa using hs, fun b hb => by cases hb⟩
theorem ins_le {l : List Itm} {i k : Nat} (h : Ins l i k) : k ≤ i ∧ i < l.length := by
  obtain ⟨A, x, B, C, rfl, h1, h2, h3, h4⟩ := h
  simp only [List.length_append, List.length_cons]
  omega
theorem ins_first {l : List Itm} {i : Nat} (h : Ins l i 0) : Srt (l.take (i + 1)) := by
  obtain ⟨A, x, B, C, rfl, h1, h2, h3, h4⟩ := h
  obtain rfl : A = [] := List.eq_nil_of_length_eq_zero h1
  simp only [List.nil_append, List.length_nil, Nat.zero_add] at *
  subst h2
  rw [List.take_succ_cons, List.take_left]
  exact List.pairwise_cons.2 ⟨h4, h3⟩
theorem ins_stop {l : List Itm} {i k : Nat} (h : Ins l i k) (hk : 0 < k) (hd : (l.map fullI).Nodup) (hb : befI (l.getD k noI) (l.getD (k - 1) noI) = false) : Srt (l.take (i + 1)) := by
  obtain ⟨A, x, B, C, rfl, h1, h2, h3, h4⟩ := h
  obtain ⟨A', y, rfl⟩ : ∃ A' y, A = A' ++ [y] := ⟨A.dropLast, A.getLast (by intro e; subst e; simp at h1; omega), (List.dropLast_concat_getLast _).symm⟩
  simp only [List.length_append, List.length_cons, List.length_nil] at h1 h2
  have e1 : ((A' ++ [y]) ++ x :: (B ++ C)).getD k noI = x := by
    rw [getD_get _ _ (by simp; omega), List.getElem_append_right (by simp; omega)]
    simp [show k - (A'.length + 1) = 0 by omega]
  have e2 : ((A' ++ [y]) ++ x :: (B ++ C)).getD (k - 1) noI = y := by
    rw [getD_get _ _ (by simp; omega), List.getElem_append_left (by simp; omega), List.getElem_append_right (by omega)]
    simp [show k - 1 - A'.length = 0 by omega]
  rw [e1, e2] at hb
  have hxy : fullI x ≠ fullI y := by
    intro e
    rw [List.map_append, List.map_append, List.map_cons, List.map_cons, List.map_nil] at hd
    have := (List.nodup_append.1 hd).2.2 (fullI y) (by simp) (fullI x) (by simp)
    exact this e.symm
  have hyx := bef_total hb hxy
  have et : ((A' ++ [y]) ++ x :: (B ++ C)).take (i + 1) = (A' ++ [y]) ++ x :: B := by
    rw [show (A' ++ [y]) ++ x :: (B ++ C) = ((A' ++ [y]) ++ x :: B) ++ C by simp]
    exact List.take_left' (by simp; omega)
  rw [et]
  have h5 := List.pairwise_append.1 h3
  refine List.pairwise_append.2 ⟨h5.1, List.pairwise_cons.2 ⟨h4, h5.2.1⟩, fun a ha b hb2 => ?_⟩
  rcases List.mem_cons.1 hb2 with rfl | hb2
  · rcases List.mem_append.1 ha with ha | ha
    · exact bef_trans ((List.pairwise_append.1 h5.1).2.2 a ha y (by simp)) hyx
    · rw [List.mem_singleton.1 ha]; exact hyx
  · exact h5.2.2 a ha b hb2
theorem swap_eq (A R : List Itm) (x y : Itm) (k : Nat) (h1 : A.length + 1 = k) : (((A ++ [y]) ++ x :: R).set k y).set (k - 1) x = A ++ x :: y :: R := by
  subst h1
  simp [List.set_append]
theorem ins_swap {l : List Itm} {i k : Nat} (h : Ins l i k) (hk : 0 < k) (hb : befI (l.getD k noI) (l.getD (k - 1) noI) = true) :
    Ins ((l.set k (l.getD (k - 1) noI)).set (k - 1) (l.getD k noI)) i (k - 1) ∧ ((l.set k (l.getD (k - 1) noI)).set (k - 1) (l.getD k noI)).Perm l := by
  obtain ⟨A, x, B, C, rfl, h1, h2, h3, h4⟩ := h
  obtain ⟨A', y, rfl⟩ : ∃ A' y, A = A' ++ [y] := ⟨A.dropLast, A.getLast (by intro e; subst e; simp at h1; omega), (List.dropLast_concat_getLast _).symm⟩
  simp only [List.length_append, List.length_cons, List.length_nil] at h1 h2
  have e1 : ((A' ++ [y]) ++ x :: (B ++ C)).getD k noI = x := by
    rw [getD_get _ _ (by simp; omega), List.getElem_append_right (by simp; omega)]
    simp [show k - (A'.length + 1) = 0 by omega]
  have e2 : ((A' ++ [y]) ++ x :: (B ++ C)).getD (k - 1) noI = y := by
    rw [getD_get _ _ (by simp; omega), List.getElem_append_left (by simp; omega), List.getElem_append_right (by omega)]
    simp [show k - 1 - A'.length = 0 by omega]
  rw [e1, e2] at hb ⊢
  rw [swap_eq A' (B ++ C) x y k (by omega)]
  refine ⟨⟨A', x, y :: B, C, by simp, by omega, by simp; omega, by simpa using h3, fun b hb2 => ?_⟩, ?_⟩
  · rcases List.mem_cons.1 hb2 with rfl | hb2
    · exact hb
    · exact h4 b hb2
  · rw [List.append_assoc]
    exact List.Perm.append_left A' (List.Perm.swap y x _)
/-- What stays while items are put in order. -/
structure Same7 (l m : List Itm) : Prop where
  perm : m.Perm l
theorem same7_len {l m : List Itm} (h : m.Perm l) : m.length = l.length := h.length_eq
theorem full_nodup {l : List Itm} (ho : ∀ i ∈ l, oneI i = true) (hn : (l.map Itm.name).Nodup) : (l.map fullI).Nodup := by
  have h2 : l.Pairwise (fun a b => a.name ≠ b.name) := List.pairwise_map.1 hn
  refine List.pairwise_map.2 (List.Pairwise.imp_of_mem (fun {a b} ha hb hab e => hab (full_name ?_ ?_ e)) h2)
  · have := ho a ha; unfold oneI at this; simp only [Bool.and_eq_true] at this; exact this.1.1.1
  · have := ho b hb; unfold oneI at this; simp only [Bool.and_eq_true] at this; exact this.1.1.1

theorem right_take {l : List Itm} (hr : rightI l = true) (j : Nat) : l.take j = [] ∨ rightI (l.take j) = true := by
  by_cases h0 : l.take j = []
  · exact .inl h0
  · right
    have hlt : (l.take j).length ≤ l.length := by rw [List.length_take]; omega
    have h0l : 1 ≤ (l.take j).length := by
      rcases Nat.eq_zero_or_pos (l.take j).length with h | h
      · exact absurd (List.eq_nil_of_length_eq_zero h) h0
      · exact h
    obtain ⟨r1, r2, r3⟩ := (right_iff l).1 hr
    refine right_yes _ h0l (by omega) (fun i hi => ?_)
    have hil : i < l.length := by omega
    have gt : ∀ q, q ≤ i → (l.take j).getD q noI = l.getD q noI := fun q hq => by
      rw [getD_get _ q (by omega), getD_get _ q (by omega), List.getElem_take]
    have := r3 i hil
    unfold stepI aheadI otherI at this ⊢
    rw [gt i (Nat.le_refl _), gt (i - 1) (by omega)]
    rw [Bool.and_eq_true] at this ⊢
    refine ⟨this.1, ?_⟩
    rw [List.all_eq_true] at *
    intro q hq
    have hq2 := this.2 q hq
    rw [gt q (by have := List.mem_range.1 hq; omega)]
    exact hq2
/-- Bytes of a tree, cut: a tree's only between two items. -/
theorem cut_parsed {l m : List Itm} {k : Nat} {e : Int} (hr : rightI l = true) (hid : ∀ i ∈ l, i.id.length = 20) (h6 : (flatI l).length ≤ 65536) (hk : k < (flatI l).length) (hp : ParsedT ((flatI l).take k) m e) :
    (e = 0 ∧ ∃ j, j < l.length ∧ (flatI (l.take j)).length = k) ∨ (e = 4 ∧ m = [] ∧ ∀ j, j ≤ l.length → (flatI (l.take j)).length ≠ k) := by
  have hf := right_fine hr hid
  have hlen : ((flatI l).take k).length = k := by rw [List.length_take]; omega
  have hsplit : ∀ j, j ≤ l.length → flatI l = flatI (l.take j) ++ flatI (l.drop j) := fun j hj => by rw [← flat_append, List.take_append_drop]
  rcases hp with ⟨h1, _⟩ | ⟨h1, h2, h3, h4, h5⟩ | ⟨h1, h2, h3, h4⟩
  · omega
  · left
    refine ⟨h2, ?_⟩
    obtain ⟨l2, e1, e2⟩ := flat_prefix m l ((flatI l).drop k) h4 hf (by rw [h3, List.take_append_drop]) (.inl (by intro e; have := congrArg List.length e; rw [List.length_drop] at this; simp at this; omega))
    have hml : (flatI m).length = k := by rw [h3, hlen]
    refine ⟨m.length, ?_, by rw [e1, List.take_left]; exact hml⟩
    rcases Nat.lt_or_ge m.length l.length with h | h
    · exact h
    · have : l2 = [] := List.eq_nil_of_length_eq_zero (by have := congrArg List.length e1; rw [List.length_append] at this; omega)
      subst this
      rw [List.append_nil] at e1
      rw [e1] at hk
      omega
  · right
    refine ⟨h2, h3, fun j hj e0 => ?_⟩
    have ht : flatI (l.take j) = (flatI l).take k := by
      rw [hsplit j hj, ← e0, List.take_left]
    refine h4 (l.take j) (fun i hi => hf i (List.mem_of_mem_take hi)) ?_ ht
    exact right_take hr j
end Go.Proofs.YtalmoaofodjehaaDoor

/-
  Layer 4: rows of bytes that a tape holds, a tape's own block, and what a call of a tape may turn.
-/
namespace Go.Proofs.YtalmoaofodjehaaDoor
open Go.RowKit
set_option linter.unusedVariables false

theorem byteCells_len (l : List UInt8) : (Lib.byteCells l).length = l.length := by simp [Lib.byteCells]
theorem byteCells_one (l : List UInt8) : ∀ u ∈ Lib.byteCells l, u.oneCell' = true := by
  intro u hu; simp [Lib.byteCells] at hu; obtain ⟨x, _, rfl⟩ := hu; rfl
theorem byteCells_take (l : List UInt8) (n : Nat) : (Lib.byteCells l).take n = Lib.byteCells (l.take n) := by simp [Lib.byteCells, List.map_take]

/-- What a call may turn: the blocks that S names, of those that were there. -/
structure Chg (S : Nat → Prop) (w w' : World) : Prop where
  os : w'.os = w.os
  tape : w'.tape = w.tape
  output : w'.output = w.output
  size : w.heap.size ≤ w'.heap.size
  block : ∀ k, k < w.heap.size → ¬ S k → w'.heap[k]? = w.heap[k]?
theorem Chg.refl (S : Nat → Prop) (w : World) : Chg S w w := ⟨rfl, rfl, rfl, Nat.le_refl _, fun _ _ _ => rfl⟩
theorem Chg.trans {S : Nat → Prop} {a b c : World} (h : Chg S a b) (k : Chg S b c) : Chg S a c :=
  ⟨k.os.trans h.os, k.tape.trans h.tape, k.output.trans h.output, Nat.le_trans h.size k.size, fun i hi hs => (k.block i (Nat.lt_of_lt_of_le hi h.size) hs).trans (h.block i hi hs)⟩
/-- What is turned behind may also be new. -/
theorem Chg.more {S T : Nat → Prop} {a b c : World} (h : Chg S a b) (k : Chg T b c) (hT : ∀ i, i < a.heap.size → T i → S i) : Chg S a c :=
  ⟨k.os.trans h.os, k.tape.trans h.tape, k.output.trans h.output, Nat.le_trans h.size k.size, fun i hi hs => (k.block i (Nat.lt_of_lt_of_le hi h.size) (fun ht => hs (hT i hi ht))).trans (h.block i hi hs)⟩
theorem Chg.weak {S T : Nat → Prop} {a b : World} (h : Chg S a b) (hT : ∀ i, i < a.heap.size → S i → T i) : Chg T a b := (Chg.refl T a).more h hT
theorem Chg.of_below {S : Nat → Prop} {w w' : World} (h : Below w.heap.size w w') : Chg S w w' := ⟨h.os, h.tape, h.output, h.size, fun k hk _ => h.block k hk⟩
theorem Chg.below {S : Nat → Prop} {B : Nat} {w w' : World} (h : Chg S w w') (hB : B ≤ w.heap.size) (hS : ∀ i, i < w.heap.size → S i → B ≤ i) : Below B w w' :=
  ⟨h.os, h.tape, h.output, h.size, fun k hk => h.block k (by omega) (fun hs => by have := hS k (by omega) hs; omega)⟩
theorem Chg.drew {S : Nat → Prop} {a w : World} (h : Chg S a w) : Chg S a w.drew := ⟨h.os, h.tape, h.output, h.size, h.block⟩
theorem Chg.drewN {S : Nat → Prop} {a w : World} (h : Chg S a w) : ∀ n, Chg S a (w.drewN n)
  | n => ⟨h.os, h.tape, h.output, h.size, h.block⟩
theorem Chg.alloc {S : Nat → Prop} {a w : World} (h : Chg S a w) (o : Obj) : Chg S a (w.alloc o) :=
  ⟨h.os, h.tape, h.output, by have := h.size; simp; omega, fun k hk hs => (Below.heap_alloc _ _ _ (Nat.lt_of_lt_of_le hk h.size)).trans (h.block k hk hs)⟩
theorem Chg.setCell {S : Nat → Prop} {a w : World} (h : Chg S a w) (p : Addr) (hp : p.block < a.heap.size → S p.block) (v : Value) : Chg S a (w.setCell p v) :=
  ⟨h.os, h.tape, h.output, by simpa using h.size, fun k hk hs => (Below.heap_setCell _ _ _ _ (fun (e : k = p.block) => hs (by rw [e] at hk ⊢; exact hp hk))).trans (h.block k hk hs)⟩
theorem Chg.setRow {S : Nat → Prop} {a w : World} (h : Chg S a w) (g : Nat) (hp : g < a.heap.size → S g) (cs : Array Value) : Chg S a (w.setRow g cs) :=
  ⟨h.os, h.tape, h.output, by simpa [World.setRow] using h.size, fun k hk hs => (setRow_other _ _ _ _ (fun (e : k = g) => hs (by rw [e] at hk ⊢; exact hp hk))).trans (h.block k hk hs)⟩
theorem Chg.grown {S : Nat → Prop} {a w w' : World} {row : Option Nat} (h : Chg S a w) (g : w.grownBy w' row) (hr : ∀ k, row = some k → k < a.heap.size → S k) : Chg S a w' :=
  ⟨g.os.trans h.os, g.tape.trans h.tape, g.output.trans h.output, Nat.le_trans h.size g.size, fun k hk hs => (g.block k (Nat.lt_of_lt_of_le hk h.size) (fun e => hs (hr k e.symm hk))).trans (h.block k hk hs)⟩

/-- The block that a slice can write into. -/
def foot : Value → Option Nat
  | .slice (some a) _ (_ + 1) => some a.block
  | _ => none
theorem foot_zero (a : Option Addr) (n : Nat) : foot (.slice a n 0) = none := by cases a <;> rfl
theorem foot_succ (a : Addr) (n c : Nat) : foot (.slice (some a) n (c + 1)) = some a.block := rfl

/-- The bytes l: at the head of a block without marks; or none, and no room. -/
def Row (w : World) (v : Value) (l : List UInt8) : Prop :=
  (∃ a, v = .slice a 0 0 ∧ l = []) ∨
  ∃ g cap cur, v = .slice (some ⟨g, 0, none⟩) l.length (cap + 1) ∧ w.heap[g]? = some (.cells cur 5 (0, 0)) ∧ l.length ≤ cap + 1 ∧ cap + 1 ≤ maxLen ∧ cur.size = cap + 1 ∧ cur.toList.take l.length = Lib.byteCells l
theorem Row.nil (w : World) (a : Option Addr) : Row w (.slice a 0 0) [] := .inl ⟨a, rfl, rfl⟩
theorem Row.lt {w : World} {v : Value} {l : List UInt8} (h : Row w v l) (g : Nat) (hg : foot v = some g) : g < w.heap.size := by
  rcases h with ⟨a, rfl, _⟩ | ⟨g', cap, cur, rfl, hh, _⟩
  · rw [foot_zero] at hg; cases hg
  · cases hg; exact (Array.getElem?_eq_some_iff.1 hh).1
theorem Row.keep {w w' : World} {v : Value} {l : List UInt8} (h : Row w v l) (hk : ∀ g, foot v = some g → w'.heap[g]? = w.heap[g]?) : Row w' v l := by
  rcases h with h | ⟨g', cap, cur, rfl, hh, r⟩
  · exact .inl h
  · exact .inr ⟨g', cap, cur, rfl, (hk g' rfl).trans hh, r⟩
theorem Row.chg {S : Nat → Prop} {w w' : World} {v : Value} {l : List UInt8} (h : Row w v l) (hc : Chg S w w') (hn : ∀ g, foot v = some g → ¬ S g) : Row w' v l :=
  h.keep fun g hg => hc.block g (h.lt g hg) (hn g hg)
theorem Row.shape {w : World} {v : Value} {l : List UInt8} (h : Row w v l) : ∃ a c, v = .slice a l.length c ∧ l.length ≤ c ∧ c ≤ maxLen ∧ BAt w a l ∧ (a = none → l.length = 0 ∧ c = 0) := by
  rcases h with ⟨a, rfl, rfl⟩ | ⟨g, cap, cur, rfl, hh, h1, h2, h3, h4⟩
  · exact ⟨a, 0, rfl, Nat.le_refl _, Nat.zero_le _, BAt.nil _ _, fun _ => ⟨rfl, rfl⟩⟩
  · refine ⟨_, _, rfl, h1, h2, fun hp => ⟨g, 0, rfl, (Array.getElem?_eq_some_iff.1 hh).1, fun i hi => ?_⟩, fun h => by cases h⟩
    have e : (cur.toList.take l.length)[i]? = (Lib.byteCells l)[i]? := by rw [h4]
    rw [List.getElem?_take, if_pos hi, byteCells_at, List.getElem?_eq_getElem hi] at e
    rw [Nat.zero_add, cell_of_row w g i cur _ _ hh, ← Array.getElem?_toList, e]; rfl
/-- Its first n bytes. -/
theorem Row.cut {w : World} {a : Option Addr} {c : Nat} {l : List UInt8} (h : Row w (.slice a l.length c) l) (n : Nat) (hn : n ≤ l.length) : Row w (.slice a n c) (l.take n) ∧ foot (.slice a n c) = foot (.slice a l.length c) := by
  have hlen : (l.take n).length = n := by rw [List.length_take]; omega
  rcases h with ⟨a', e, rfl⟩ | ⟨g, cap, cur, e, hh, h1, h2, h3, h4⟩
  · simp only [Value.slice.injEq, List.length_nil] at e
    obtain ⟨rfl, _, rfl⟩ := e
    obtain rfl : n = 0 := by simpa using hn
    exact ⟨by simpa using Row.nil w a, rfl⟩
  · simp only [Value.slice.injEq] at e
    obtain ⟨rfl, _, rfl⟩ := e
    refine ⟨.inr ⟨g, cap, cur, by rw [hlen], hh, by omega, h2, h3, ?_⟩, rfl⟩
    rw [hlen, ← byteCells_take, ← h4, List.take_take, Nat.min_eq_left hn]

theorem info_u8 : (Tryd.prog.info? 5).map (fun i => (i.zero, i.size, i.bytes)) = some (some (.int .u8 0), 1, 1) := by kernel_rfl
/-- What is appended: bytes behind an address, or none. -/
theorem src_of {w : World} {x : Option Addr} {n c : Nat} {m : List UInt8} (hx : BAt w x m) (hn : n = m.length) (hno : x = none → n = 0 ∧ c = 0) : Src Tryd.prog 1 23 (.slice x n c) n (Lib.byteCells m) w := by
  subst hn
  cases x with
  | none =>
    obtain ⟨h1, h2⟩ := hno rfl
    obtain rfl : m = [] := List.eq_nil_of_length_eq_zero h1
    exact Src.ofNil w Tryd.underlying23 c
  | some a =>
    refine Src.ofSlice w Tryd.underlying23 a m.length c (Lib.byteCells m) (by rw [byteCells_len, Nat.mul_one]) (fun j u hj => ?_) (byteCells_one m)
    have hlt : j < m.length := by
      rcases Nat.lt_or_ge j m.length with h' | h'
      · exact h'
      · rw [byteCells_at, List.getElem?_eq_none h'] at hj; cases hj
    obtain ⟨b, o, e, _, hc⟩ := hx (by omega)
    cases e
    rw [show (⟨b, o, none⟩ : Addr).add j = ⟨b, o + j, none⟩ by unfold Addr.add; split <;> simp_all, hc j hlt]
    rw [byteCells_at, List.getElem?_eq_getElem hlt] at hj
    simpa using hj
/-- What an append leaves: the row; what it may have written; its block is the old one or a new one. -/
def Appended (w : World) (v : Value) (l : List UInt8) (v' : Value) (w' : World) : Prop :=
  Row w' v' l ∧ w.grownBy w' (foot v) ∧ (foot v' = foot v ∨ foot v' = none ∨ foot v' = some w.heap.size)
theorem run_append_row {w : World} {v : Value} {l m : List UInt8} (h : Row w v l) {x : Option Addr} {n c : Nat} (hx : BAt w x m) (hn : n = m.length) (hno : x = none → n = 0 ∧ c = 0) (hb : l.length + m.length ≤ 1099511627776) (ty : TypeId) :
    ∃ v' w', (Builtin.append_ #[23, 23] ty #[v, .slice x n c]).run Tryd.prog w = .ok v' w' ∧ Appended w v (l ++ m) v' w' := by
  obtain ⟨i, hi, hz, hs, hby⟩ := info_parts info_u8
  have hsrc := src_of hx hn hno
  rw [← hs] at hsrc
  subst hn
  have hml : (Lib.byteCells m).length = m.length := byteCells_len m
  by_cases hm0 : m.length = 0
  · obtain rfl : m = [] := List.eq_nil_of_length_eq_zero hm0
    obtain ⟨a, c', rfl, hle, _, _, _⟩ := h.shape
    refine ⟨_, w, run_append_nothing w 23 23 ty 5 i Tryd.underlying23 hi a l.length c' hle _ (by simpa [Lib.byteCells] using hsrc), ?_, ⟨rfl, rfl, rfl, Nat.le_refl _, fun _ _ _ => rfl⟩, .inl rfl⟩
    rw [List.append_nil]; exact h
  · have grow : ∀ (base : Option Addr) (cap : Nat), cap < l.length + m.length → (Builtin.firstCells i.size l.length (.slice base l.length cap)).run Tryd.prog w.drew = .ok (Lib.byteCells l).toArray w.drew →
        ∃ v' w', (Builtin.append_ #[23, 23] ty #[.slice base l.length cap, .slice x m.length c]).run Tryd.prog w = .ok v' w' ∧ Row w' v' (l ++ m) ∧ w.grownBy w' (foot (.slice base l.length cap)) ∧ foot v' = some w.heap.size := by
      intro base cap hcap hold
      have hge := grownCap_ge w (l.length + m.length) cap 5
      have hcm : grownCap w (l.length + m.length) cap 5 ≤ maxLen := grownCap_le_maxLen w _ _ _ (by unfold maxLen; omega)
      have hr := run_append_grow_src w 23 23 ty 5 i (.int .u8 0) Tryd.underlying23 hi hz base l.length cap (Lib.byteCells l) hold (.slice x m.length c) m.length (Lib.byteCells m) hsrc hcap (by omega) (growslice_fits (by omega) (by rw [hby]; omega))
      refine ⟨_, _, hr, ?_, ⟨rfl, rfl, rfl, by simp, fun k hk _ => Below.heap_alloc w.drew _ k hk⟩, ?_⟩
      · obtain ⟨cap', hc'⟩ : ∃ cap', grownCap w (l.length + m.length) cap 5 = cap' + 1 := ⟨grownCap w (l.length + m.length) cap 5 - 1, by omega⟩
        rw [hc'] at hge hcm ⊢
        refine .inr ⟨w.heap.size, cap', _, by rw [List.length_append], heap_alloc_new w.drew _, by rw [List.length_append]; exact hge, hcm, ?_, ?_⟩
        · simp only [Array.size_append, List.size_toArray, size_zeroCells, List.length_append, byteCells_len, Value.cells]
          simp; omega
        · rw [List.length_append, ← Lib.byteCells_append]
          simp only [Array.toList_append]
          rw [← List.length_append, ← byteCells_len (l ++ m)]
          exact List.take_left
      · obtain ⟨cap', hc'⟩ : ∃ cap', grownCap w (l.length + m.length) cap 5 = cap' + 1 := ⟨grownCap w (l.length + m.length) cap 5 - 1, by omega⟩
        rw [hc', foot_succ]
    rcases h with ⟨a, rfl, rfl⟩ | ⟨g, cap, cur, rfl, hh, h1, h2, h3, h4⟩
    · obtain ⟨v', w', r1, r2, r3, r4⟩ := grow a 0 (by simp; omega) (by
        have e : (Lib.byteCells []).toArray = (#[] : Array Value) := rfl
        rw [e]
        cases a with
        | none => exact run_firstCells_none w.drew i.size 0 0 0
        | some ad => exact run_firstCells_some w.drew i.size 0 ad 0 0 [] (by simp) (fun j v hj => by simp at hj))
      exact ⟨v', w', r1, r2, r3, .inr (.inr r4)⟩
    · by_cases hroom : l.length + m.length ≤ cap + 1
      · have hfit : l.length * i.size + (Lib.byteCells m).length ≤ cur.size := by rw [hs, hml, h3]; omega
        have hcells : ∀ j, j < cap + 1 → (w.cell? ⟨g, j, none⟩).isSome = true := fun j hj => by
          rw [cell_of_row w g j cur _ _ hh, Array.getElem?_eq_getElem (by omega)]; rfl
        have hfz : ∀ j, w.frozen? ⟨g, j, none⟩ = false := fun j => by simp [World.frozen?, hh]
        have hr : (Builtin.append_ #[23, 23] ty #[.slice (some ⟨g, 0, none⟩) l.length (cap + 1), .slice x m.length c]).run Tryd.prog w = .ok (.slice (some ⟨g, 0, none⟩) (l.length + m.length) (cap + 1)) (w.setRow g (cur.toList.take (l.length * i.size) ++ Lib.byteCells m ++ cur.toList.drop (l.length * i.size + (Lib.byteCells m).length)).toArray) := by
          cases x with
          | none => exact absurd (hno rfl).1 hm0
          | some ad =>
            refine run_append_room w 23 ty 5 i Tryd.underlying23 hi g l.length (cap + 1) cur hh ad m.length c (Lib.byteCells m) (by rw [hs, hml, Nat.mul_one]) (fun j u hj => ?_) (byteCells_one m) hroom hfit
            have hlt : j < m.length := by
              rcases Nat.lt_or_ge j m.length with h' | h'
              · exact h'
              · rw [byteCells_at, List.getElem?_eq_none h'] at hj; cases hj
            obtain ⟨b, o, e, _, hc⟩ := hx (by omega)
            cases e
            rw [show (⟨b, o, none⟩ : Addr).add j = ⟨b, o + j, none⟩ by unfold Addr.add; split <;> simp_all, hc j hlt]
            rw [byteCells_at, List.getElem?_eq_getElem hlt] at hj
            simpa using hj
        refine ⟨_, _, hr, ?_, ⟨rfl, rfl, rfl, by simp, fun k _ hk => setRow_other w g k _ (fun e => hk (by rw [foot_succ, e]))⟩, .inl rfl⟩
        refine .inr ⟨g, cap, _, by rw [List.length_append], setRow_heap w g cur _ _ _ hh, by rw [List.length_append]; exact hroom, h2, ?_, ?_⟩
        · simp only [List.size_toArray, List.length_append, List.length_take, List.length_drop, Array.length_toList, hml, hs]
          omega
        · simp only [hs, Nat.mul_one]
          rw [h4, ← Lib.byteCells_append, ← byteCells_len (l ++ m)]
          exact List.take_left
      · obtain ⟨v', w', r1, r2, r3, r4⟩ := grow (some ⟨g, 0, none⟩) (cap + 1) (by omega) (by
          refine run_firstCells_some w.drew i.size l.length ⟨g, 0, none⟩ l.length (cap + 1) (Lib.byteCells l) (by rw [byteCells_len, hs, Nat.mul_one]) (fun j u hj => ?_)
          have hlt : j < l.length := by
            rcases Nat.lt_or_ge j l.length with h' | h'
            · exact h'
            · rw [byteCells_at, List.getElem?_eq_none h'] at hj; cases hj
          have e : (cur.toList.take l.length)[j]? = (Lib.byteCells l)[j]? := by rw [h4]
          rw [List.getElem?_take, if_pos hlt] at e
          show w.cell? _ = _
          rw [show (⟨g, 0, none⟩ : Addr).add j = ⟨g, j, none⟩ by unfold Addr.add; split <;> simp_all, cell_of_row w g j cur _ _ hh, ← Array.getElem?_toList, e, hj])
        exact ⟨v', w', r1, r2, r3, .inr (.inr r4)⟩
/-- The same, as a law for the walk. -/
theorem wpList_append_row {ops : Array Oper} {rest : List Oper} {o : Oper} {a : Act} {w : World} {Q : Exit → Act → World → Prop} (hgd : o.guard = none) (s y : Operand)
    (ho : o.op = .call { callee := .builtin .append, args := #[s, y], argTypes := #[23, 23] })
    (v : Value) (hs : a.eval s = v) (l m : List UInt8) (hrow : Row w v l) (x : Option Addr) (n c : Nat) (hy : a.eval y = .slice x n c) (hx : BAt w x m) (hn : n = m.length) (hno : x = none → n = 0 ∧ c = 0) (hb : l.length + m.length ≤ 1099511627776)
    (h : ∀ v' w', Appended w v (l ++ m) v' w' → wpList Tryd.prog ops Q rest (a.put o.dst v') w') : wpList Tryd.prog ops Q (o :: rest) a w := by
  obtain ⟨v', w', hr, hap⟩ := run_append_row hrow hx hn hno hb o.type
  refine wpList_plain hgd fun K hK => ?_
  unfold Oper.wp execOp
  simp only [ho, resolve, invoke, builtin, Sem.run_bind, Sem.run_pure, Result.andThen_ok, List.map_toArray, List.map_cons, List.map_nil, hs, hy, hr]
  exact hK _ _ (h v' w' hap)
end Go.Proofs.YtalmoaofodjehaaDoor

/-
  '[]byte(s)' of a text as a row of bytes, and what is appended to it.
-/
namespace Go.Proofs.YtalmoaofodjehaaDoor
open Go.RowKit
set_option linter.unusedVariables false
set_option linter.unusedSimpArgs false

/-- Stores into a row of which no cell is frozen, whatever its mark. -/
theorem run_storeCells_atX (P : Program) (g o : Nat) (t : TypeId) (fz : Nat × Nat) : ∀ (vs : List Value) (i : Nat) (cur : Array Value) (w : World), w.heap[g]? = some (.cells cur t fz) → (∀ j, j < cur.size → ¬ (fz.1 ≤ j ∧ j < fz.2)) → o + i + vs.length ≤ cur.size → (∀ v ∈ vs, v.oneCell' = true) →
    (storeCells ⟨g, o, none⟩ vs i).run P w = .ok () (w.setRow g (cur.toList.take (o + i) ++ vs ++ cur.toList.drop (o + i + vs.length)).toArray)
  | [], i, cur, w, hg, _, _, _ => by
    simp only [storeCells, List.append_nil, List.length_nil, Nat.add_zero, List.take_append_drop, Array.toArray_toList]
    rw [setRow_self w g cur t fz hg]
    rfl
  | v :: rest, i, cur, w, hg, hfz, hl, h1 => by
    have hi : o + i < cur.size := by simp at hl; omega
    have hadd : (⟨g, o, none⟩ : Addr).add i = ⟨g, o + i, none⟩ := by unfold Addr.add; split <;> simp_all
    have hcell : w.cell? ⟨g, o + i, none⟩ = some cur[o + i] := by simp [World.cell?, hg, hi]
    have hfro : w.frozen? ⟨g, o + i, none⟩ = false := by
      have h := hfz (o + i) hi
      obtain ⟨lo, hi'⟩ := fz
      simp only [World.frozen?, hg, Bool.and_eq_false_iff, decide_eq_false_iff_not]
      simp only at h
      omega
    have hst : (store ((⟨g, o, none⟩ : Addr).add i) v).run P w = .ok () (w.setRow g (cur.setIfInBounds (o + i) v)) := by
      rw [hadd, run_store P w _ v _ (h1 v (by simp)), hcell]
      simp [hfro, setCell_eq_setRow w g (o + i) cur t fz v hg]
    have ih := run_storeCells_atX P g o t fz rest (i + 1) (cur.setIfInBounds (o + i) v) (w.setRow g (cur.setIfInBounds (o + i) v)) (setRow_heap w g cur _ t _ hg) (fun j hj => hfz j (by simpa using hj)) (by simp at hl ⊢; omega) (fun x hx => h1 x (by simp [hx]))
    simp only [storeCells, Sem.run_bind, hst, Result.andThen_ok, ih, setRow_setRow]
    congr 3
    have e := list_seg_step cur.toList (o + i) v rest (by simp at hl ⊢; omega)
    simpa [Array.toList_setIfInBounds, Nat.add_assoc] using e

/-- A row of bytes with its room, of which no cell is frozen. -/
def RowX (w : World) (g cap : Nat) (l : List UInt8) : Prop :=
  ∃ cur fz, w.heap[g]? = some (.cells cur 5 fz) ∧ l.length ≤ cap ∧ cap ≤ maxLen ∧ cur.size = cap ∧ cur.toList.take l.length = Lib.byteCells l ∧ ∀ j, j < cur.size → ¬ (fz.1 ≤ j ∧ j < fz.2)
theorem RowX.lt {w : World} {g cap : Nat} {l : List UInt8} (h : RowX w g cap l) : g < w.heap.size := by
  obtain ⟨cur, fz, hg, _⟩ := h
  exact (Array.getElem?_eq_some_iff.1 hg).1
theorem RowX.below {w w' : World} {g cap : Nat} {l : List UInt8} (h : RowX w g cap l) {B : Nat} (hb : Below B w w') (hB : g < B) : RowX w' g cap l := by
  obtain ⟨cur, fz, hg, r⟩ := h
  exact ⟨cur, fz, (hb.block g hB).trans hg, r⟩
theorem RowX.cells {w : World} {g cap : Nat} {l : List UInt8} (h : RowX w g cap l) : ∀ j u, (Lib.byteCells l)[j]? = some u → w.cell? ((⟨g, 0, none⟩ : Addr).add j) = some u := by
  obtain ⟨cur, fz, hg, h1, h2, h3, h4, _⟩ := h
  intro j u hj
  have hlt : j < l.length := by
    rcases Nat.lt_or_ge j l.length with h' | h'
    · exact h'
    · rw [List.getElem?_eq_none (by rw [byteCells_len]; exact h')] at hj; cases hj
  rw [← h4, List.getElem?_take, if_pos hlt] at hj
  rw [show (⟨g, 0, none⟩ : Addr).add j = ⟨g, j, none⟩ by unfold Addr.add; split <;> simp_all, cell_of_row w g j cur _ _ hg, ← Array.getElem?_toList, hj]
theorem RowX.bat {w : World} {g cap : Nat} {l : List UInt8} (h : RowX w g cap l) : BAt w (some ⟨g, 0, none⟩) l := fun _ => by
  refine ⟨g, 0, rfl, h.lt, fun i hi => ?_⟩
  have := h.cells i (.int .u8 (l[i]).toNat) (by simp [Lib.byteCells, List.getElem?_map, hi])
  rwa [show (⟨g, 0, none⟩ : Addr).add i = ⟨g, 0 + i, none⟩ by unfold Addr.add; split <;> simp_all] at this
/-- '[]byte(s)'. -/
theorem str_row (w : World) (l : List UInt8) (hl : l.length ≤ 1099511627776) :
    ∃ cap w', (convert 9 23 (.string ⟨l.toArray⟩)).run Tryd.prog w = .ok (.slice (some ⟨w.heap.size, 0, none⟩) l.length cap) w' ∧ Below w.heap.size w w' ∧ RowX w' w.heap.size cap l := by
  have h := run_bytes_of_string (P := Tryd.prog) w 9 23 5 ⟨l.toArray⟩ Tryd.underlying9 Tryd.underlying23 Tryd.underlying5
  rw [size_toArray] at h
  have hge := grownCap_ge w l.length 0 5
  have hcm : grownCap w l.length 0 5 ≤ maxLen := grownCap_le_maxLen w _ _ _ (by unfold maxLen; omega)
  have hsz : (bytesRow ⟨l.toArray⟩ (grownCap w l.length 0 5)).size = grownCap w l.length 0 5 := by
    unfold bytesRow
    simp only [Array.size_append, Array.size_map, Array.size_replicate, List.size_toArray, size_toArray]
    omega
  refine ⟨_, _, h, ((Below.refl _ w).drew).alloc (Nat.le_refl _) _, _, _, heap_alloc_new w.drew _, hge, hcm, hsz, ?_, fun j hj hf => ?_⟩
  · simp [bytesRow, Lib.byteCells]
  · have := hf.1
    simp only at this
    omega

/-- 'append(b, x...)' to such a row. -/
theorem run_append_rowX {w : World} {g cap : Nat} {l m : List UInt8} (h : RowX w g cap l) {x : Option Addr} {n c : Nat} (hx : BAt w x m) (hn : n = m.length) (hno : x = none → n = 0 ∧ c = 0) (hb : l.length + m.length ≤ 1099511627776) (ty : TypeId) :
    ∃ g' cap' w', (Builtin.append_ #[23, 23] ty #[.slice (some ⟨g, 0, none⟩) l.length cap, .slice x n c]).run Tryd.prog w = .ok (.slice (some ⟨g', 0, none⟩) (l.length + m.length) cap') w' ∧ RowX w' g' cap' (l ++ m) ∧ w.grownBy w' (some g) ∧ (g' = g ∨ w.heap.size ≤ g') := by
  obtain ⟨i, hi, hz, hs, hby⟩ := info_parts info_u8
  have hsrc := src_of hx hn hno
  rw [← hs] at hsrc
  subst hn
  have hml : (Lib.byteCells m).length = m.length := byteCells_len m
  have hcl := h.cells
  by_cases hm0 : m.length = 0
  · obtain rfl : m = [] := List.eq_nil_of_length_eq_zero hm0
    obtain ⟨cur, fz, hg, h1, h2, h3, h4, h5⟩ := h
    refine ⟨g, cap, w, run_append_nothing w 23 23 ty 5 i Tryd.underlying23 hi _ l.length cap h1 _ (by simpa [Lib.byteCells] using hsrc), ?_, ⟨rfl, rfl, rfl, Nat.le_refl _, fun _ _ _ => rfl⟩, .inl rfl⟩
    rw [List.append_nil]; exact ⟨cur, fz, hg, h1, h2, h3, h4, h5⟩
  · obtain ⟨cur, fz, hg, h1, h2, h3, h4, h5⟩ := h
    by_cases hroom : l.length + m.length ≤ cap
    · have hfit : l.length * i.size + (Lib.byteCells m).length ≤ cur.size := by rw [hs, hml, h3]; omega
      have hr : (Builtin.append_ #[23, 23] ty #[.slice (some ⟨g, 0, none⟩) l.length cap, .slice x m.length c]).run Tryd.prog w = .ok (.slice (some ⟨g, 0, none⟩) (l.length + m.length) cap) (w.setRow g (cur.toList.take (l.length * i.size) ++ Lib.byteCells m ++ cur.toList.drop (l.length * i.size + (Lib.byteCells m).length)).toArray) := by
        cases x with
        | none => exact absurd (hno rfl).1 hm0
        | some ad =>
          have hnews : ∀ j u, (Lib.byteCells m)[j]? = some u → w.cell? (ad.add j) = some u := fun j u hj => by
            have hlt : j < m.length := by
              rcases Nat.lt_or_ge j m.length with h' | h'
              · exact h'
              · rw [byteCells_at, List.getElem?_eq_none h'] at hj; cases hj
            obtain ⟨b, o, e, _, hc⟩ := hx (by omega)
            cases e
            rw [show (⟨b, o, none⟩ : Addr).add j = ⟨b, o + j, none⟩ by unfold Addr.add; split <;> simp_all, hc j hlt]
            rw [byteCells_at, List.getElem?_eq_getElem hlt] at hj
            simpa using hj
          have hf := run_firstCells_some (P := Tryd.prog) w i.size m.length ad m.length c (Lib.byteCells m) (by rw [hs, hml, Nat.mul_one]) hnews
          have hst := run_storeCells_atX Tryd.prog g (l.length * i.size) 5 fz (Lib.byteCells m) 0 cur w hg h5 (by simpa using hfit) (byteCells_one m)
          simp only [Nat.add_zero] at hst
          have hu := Tryd.underlying23
          simp [Builtin.append_, run_underlying hu, sizeOf, typeInfo, hi, Builtin.lenOf, hroom, hf, Addr.add_lit, hst]
      have hsz : (cur.toList.take (l.length * i.size) ++ Lib.byteCells m ++ cur.toList.drop (l.length * i.size + (Lib.byteCells m).length)).toArray.size = cur.size := by
        simp only [List.size_toArray, List.length_append, List.length_take, List.length_drop, Array.length_toList, hml, hs]
        omega
      refine ⟨g, cap, _, hr, ⟨_, fz, setRow_heap w g cur _ _ _ hg, by rw [List.length_append]; exact hroom, h2, by rw [hsz]; exact h3, ?_, fun j hj => h5 j (by rw [hsz] at hj; exact hj)⟩, ⟨rfl, rfl, rfl, by simp, fun k _ hk => setRow_other w g k _ (fun e => hk (by rw [e]))⟩, .inl rfl⟩
      simp only [hs, Nat.mul_one]
      rw [h4, ← Lib.byteCells_append, ← byteCells_len (l ++ m)]
      exact List.take_left
    · have hge := grownCap_ge w (l.length + m.length) cap 5
      have hcm : grownCap w (l.length + m.length) cap 5 ≤ maxLen := grownCap_le_maxLen w _ _ _ (by unfold maxLen; omega)
      have hold : (Builtin.firstCells i.size l.length (.slice (some ⟨g, 0, none⟩) l.length cap)).run Tryd.prog w.drew = .ok (Lib.byteCells l).toArray w.drew :=
        run_firstCells_some w.drew i.size l.length ⟨g, 0, none⟩ l.length cap (Lib.byteCells l) (by rw [byteCells_len, hs, Nat.mul_one]) hcl
      have hr := run_append_grow_src w 23 23 ty 5 i (.int .u8 0) Tryd.underlying23 hi hz (some ⟨g, 0, none⟩) l.length cap (Lib.byteCells l) hold (.slice x m.length c) m.length (Lib.byteCells m) hsrc (by omega) (by omega) (growslice_fits (by omega) (by rw [hby]; omega))
      refine ⟨_, _, _, hr, ⟨_, (0, 0), heap_alloc_new w.drew _, by rw [List.length_append]; exact hge, hcm, ?_, ?_, fun j _ hf => absurd hf.2 (Nat.not_lt_zero j)⟩, ⟨rfl, rfl, rfl, by simp, fun k hk _ => Below.heap_alloc w.drew _ k hk⟩, .inr (Nat.le_refl _)⟩
      · simp only [Array.size_append, List.size_toArray, size_zeroCells, List.length_append, byteCells_len, Value.cells]
        simp; omega
      · rw [List.length_append, ← Lib.byteCells_append]
        simp only [Array.toList_append]
        rw [← List.length_append, ← byteCells_len (l ++ m)]
        exact List.take_left
/-- The same, at one operation. -/
theorem wp_append_rowX {o : Oper} {a : Act} {w : World} {K : Act → World → Prop} {Q : Exit → Act → World → Prop} (s y : Operand)
    (ho : o.op = .call { callee := .builtin .append, args := #[s, y], argTypes := #[23, 23] })
    (g cap k : Nat) (l m : List UInt8) (hk : k = l.length) (hs : a.eval s = .slice (some ⟨g, 0, none⟩) k cap) (hrow : RowX w g cap l) (x : Option Addr) (n c : Nat) (hy : a.eval y = .slice x n c) (hx : BAt w x m) (hn : n = m.length) (hno : x = none → n = 0 ∧ c = 0) (hb : l.length + m.length ≤ 1099511627776)
    (h : ∀ g' cap' w', RowX w' g' cap' (l ++ m) → w.grownBy w' (some g) → (g' = g ∨ w.heap.size ≤ g') → K (a.put o.dst (.slice (some ⟨g', 0, none⟩) (l.length + m.length) cap')) w') : Oper.wp Tryd.prog o a w K Q := by
  subst hk
  obtain ⟨g', cap', w', hr, h1, h2, h3⟩ := run_append_rowX hrow hx hn hno hb o.type
  unfold Oper.wp execOp
  simp only [ho, resolve, invoke, builtin, Sem.run_bind, Sem.run_pure, Result.andThen_ok, List.map_toArray, List.map_cons, List.map_nil, hs, hy, hr]
  exact h g' cap' w' h1 h2 h3
/-- The same, in a region that draws its order. -/
theorem step_append_rowX {ops : Array Oper} {o : Oper} {a : Act} {w : World} {K : Act → World → Prop} {Q : Exit → Act → World → Prop} {E : Prop} (hgd : o.guard = none) (s y : Operand)
    (ho : o.op = .call { callee := .builtin .append, args := #[s, y], argTypes := #[23, 23] })
    (g cap k : Nat) (l m : List UInt8) (hk : k = l.length) (hs : a.eval s = .slice (some ⟨g, 0, none⟩) k cap) (hrow : RowX w g cap l) (x : Option Addr) (n c : Nat) (hy : a.eval y = .slice x n c) (hx : BAt w x m) (hn : n = m.length) (hno : x = none → n = 0 ∧ c = 0) (hb : l.length + m.length ≤ 1099511627776)
    (h : ∀ g' cap' w', RowX w' g' cap' (l ++ m) → w.grownBy w' (some g) → (g' = g ∨ w.heap.size ≤ g') → K (a.put o.dst (.slice (some ⟨g', 0, none⟩) (l.length + m.length) cap')) w') : if Region.wanted o (yielded ops a.tmps) = true then Oper.wp Tryd.prog o a w K Q else E := by
  have hw : Region.wanted o (yielded ops a.tmps) = true := by simp [Region.wanted, hgd]
  rw [if_pos hw]
  exact wp_append_rowX s y ho g cap k l m hk hs hrow x n c hy hx hn hno hb h
/-- The same, as a law for the walk. -/
theorem wpList_append_rowX {ops : Array Oper} {rest : List Oper} {o : Oper} {a : Act} {w : World} {Q : Exit → Act → World → Prop} (hgd : o.guard = none) (s y : Operand)
    (ho : o.op = .call { callee := .builtin .append, args := #[s, y], argTypes := #[23, 23] })
    (g cap k : Nat) (l m : List UInt8) (hk : k = l.length) (hs : a.eval s = .slice (some ⟨g, 0, none⟩) k cap) (hrow : RowX w g cap l) (x : Option Addr) (n c : Nat) (hy : a.eval y = .slice x n c) (hx : BAt w x m) (hn : n = m.length) (hno : x = none → n = 0 ∧ c = 0) (hb : l.length + m.length ≤ 1099511627776)
    (h : ∀ g' cap' w', RowX w' g' cap' (l ++ m) → w.grownBy w' (some g) → (g' = g ∨ w.heap.size ≤ g') → wpList Tryd.prog ops Q rest (a.put o.dst (.slice (some ⟨g', 0, none⟩) (l.length + m.length) cap')) w') : wpList Tryd.prog ops Q (o :: rest) a w := by
  subst hk
  obtain ⟨g', cap', w', hr, h1, h2, h3⟩ := run_append_rowX hrow hx hn hno hb o.type
  refine wpList_plain hgd fun K hK => ?_
  unfold Oper.wp execOp
  simp only [ho, resolve, invoke, builtin, Sem.run_bind, Sem.run_pure, Result.andThen_ok, List.map_toArray, List.map_cons, List.map_nil, hs, hy, hr]
  exact hK _ _ (h g' cap' w' h1 h2 h3)
end Go.Proofs.YtalmoaofodjehaaDoor

/-
  What a law's frame shares where no table is listed: slices of bytes, and of ints, opened.
-/
namespace Go.Proofs.YtalmoaofodjehaaDoor
open Go.ChangeShapes Go.WideShapes Go.ChangeAt Go.RowKit
set_option linter.unusedVariables false

theorem laidOut : laidOutB Tryd.prog = true := by kernel_rfl
theorem lt_of_cell {w : World} {a : Addr} {v : Value} (h : w.cell? a = some v) : a.block < w.heap.size := by
  rcases Nat.lt_or_ge a.block w.heap.size with h' | h'
  · exact h'
  · simp [World.cell?, Array.getElem?_eq_none h'] at h
theorem bounds_byte {n : Int} (h : (Lit.int .u8 n).wf = true) : 0 ≤ n ∧ n ≤ 255 := by
  have e1 : IntKind.u8.min = 0 := rfl
  have e2 : IntKind.u8.max = 255 := rfl
  simpa [Lit.wf, e1, e2] using h
/-- A slice of bytes that came in. -/
theorem open_bytes {H : Type} {enc : TypeId × Value → H} {W : World} {base : Nat} {a : Option Addr} {n c : Nat} {d : DataW H} {p : List MemPlace} (h : DataW.Trod enc Tryd.prog W base (fun _ => true) true 23 (.slice a n c) d p) :
    ∃ l : List UInt8, n = l.length ∧ BAt W a l ∧ (a = none → n = 0 ∧ c = 0) ∧ (n ≤ c ∧ c ≤ maxLen) := by
  obtain ⟨fuel, hf⟩ := h
  rcases open_ints Tryd.underlying23 Tryd.underlying5 (by kernel_rfl) hf with ⟨hcs, _⟩ | ⟨x, l, c', zs, hcs, _, hl, hm, hz, _, hcell, hwz⟩
  · simp [Value.cells] at hcs
    obtain ⟨rfl, rfl, rfl⟩ := hcs
    exact ⟨[], rfl, BAt.nil _ _, fun _ => ⟨rfl, rfl⟩, Nat.le_refl _, Nat.zero_le _⟩
  · simp [Value.cells] at hcs
    obtain ⟨rfl, rfl, rfl⟩ := hcs
    have hzl : zs.length = c := by simpa using hz
    refine ⟨(zs.take n).map fun z => UInt8.ofNat z.toNat, by simp; omega, fun hp => ?_, (fun h => by cases h), hl, hm⟩
    have hn : 0 < n := by simp at hp; omega
    obtain ⟨b, o, rfl, hc⟩ := ints_at hcell (by omega)
    refine ⟨b, o, rfl, lt_of_cell (a := ⟨b, o + 0, none⟩) (hc 0 (by omega)), fun i hi => ?_⟩
    have hi2 : i < n := by simp at hi; omega
    have hi3 : i < zs.length := by omega
    rw [hc i hi3]
    have hw := bounds_byte (hwz (zs.getD i 0) (by rw [List.getD_eq_getElem?_getD, List.getElem?_eq_getElem hi3]; exact List.getElem_mem _))
    simp only [List.getElem_map, List.getElem_take]
    rw [List.getD_eq_getElem?_getD, List.getElem?_eq_getElem hi3] at hw ⊢
    simp only [Option.getD_some] at hw ⊢
    congr 2
    rw [UInt8.toNat_ofNat']
    omega
end Go.Proofs.YtalmoaofodjehaaDoor
