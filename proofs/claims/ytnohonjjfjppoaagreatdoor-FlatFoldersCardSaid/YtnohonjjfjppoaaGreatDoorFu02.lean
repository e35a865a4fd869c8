/-
  Texts that belong together, one behind the other.
-/
import Derived.Test.YtnohonjjfjppoaaGreatDoorFu01
import Derived.Laws.AppendOwn
import Derived.Laws.OwnMore
import Derived.Laws.CopyRow
import Derived.Laws.Tables
import Derived.Deep.Upon
import Derived.Deep.AppendSrc
import Derived.Deep.MidRow
import Derived.Great.BuildSlice
import Derived.Great.FillDense
import Derived.Below
import Derived.Test.YtnohonjjfjppoaaGreatDoorProg
import Derived.WalkKit
import Derived.WalkSpells
import Derived.WalkLawsBesides
import Derived.Laws.BytesArg
import Derived.Lib.UnsafeStr
import Derived.Lib.Hide
/-
  Layer 10, plain: objects by rising ids; where an id stands; what a put leaves. Nothing of the program.
-/
namespace Go.Proofs.YtnohonjjfjppoaaGreatDoor
set_option linter.unusedVariables false
set_option linter.unusedSimpArgs false
/-- An object with its id. -/
structure Cel where
  id : List UInt8
  kind : Int
  body : List UInt8
/-- Where an id stands, or would stand. -/
def atS : List Cel → List UInt8 → Nat
  | [], _ => 0
  | c :: l, i => if c.id < i then atS l i + 1 else 0
/-- What stands there. -/
def getS (l : List Cel) (i : List UInt8) : Option Cel :=
  match l[atS l i]? with
  | some c => if c.id = i then some c else none
  | none => none
/-- A list with one more, at a place. -/
def putAt (l : List Cel) (k : Nat) (c : Cel) : List Cel := l.take k ++ c :: l.drop k
abbrev SrtS (l : List Cel) : Prop := l.Pairwise (fun a b => a.id < b.id)
theorem atS_le : ∀ (l : List Cel) (i : List UInt8), atS l i ≤ l.length
  | [], _ => Nat.le_refl _
  | c :: l, i => by
    unfold atS
    have := atS_le l i
    by_cases h : c.id < i
    · rw [if_pos h, List.length_cons]; omega
    · rw [if_neg h]; omega
theorem atS_lt : ∀ (l : List Cel) (i : List UInt8) (k : Nat) (h : k < l.length), k < atS l i → l[k].id < i
  | [], _, k, h, _ => absurd h (Nat.not_lt_zero _)
  | c :: l, i, k, h, hk => by
    unfold atS at hk
    by_cases hc : c.id < i
    · rw [if_pos hc] at hk
      match k, h with
      | 0, h => exact hc
      | k + 1, h => exact atS_lt l i k (by simpa using h) (by omega)
    · rw [if_neg hc] at hk
      omega
theorem atS_at : ∀ (l : List Cel) (i : List UInt8) (h : atS l i < l.length), ¬ l[atS l i].id < i
  | [], _, h => absurd h (Nat.not_lt_zero _)
  | c :: l, i, h => by
    by_cases hc : c.id < i
    · have e : atS (c :: l) i = atS l i + 1 := by rw [atS.eq_2, if_pos hc]
      have h2 : atS l i < l.length := by rw [e, List.length_cons] at h; omega
      have := atS_at l i h2
      simpa only [e, List.getElem_cons_succ] using this
    · have e : atS (c :: l) i = 0 := by rw [atS.eq_2, if_neg hc]
      simpa only [e, List.getElem_cons_zero] using hc
theorem getS_some {l : List Cel} {i : List UInt8} (h : atS l i < l.length) (e : l[atS l i].id = i) : getS l i = some l[atS l i] := by
  unfold getS
  rw [List.getElem?_eq_getElem h]
  exact if_pos e
theorem getS_id {l : List Cel} {i : List UInt8} {c : Cel} (h : getS l i = some c) : c.id = i ∧ ∃ h : atS l i < l.length, l[atS l i] = c := by
  unfold getS at h
  cases e : l[atS l i]? with
  | none => rw [e] at h; cases h
  | some d =>
    rw [e] at h
    by_cases hd : d.id = i
    · have h : (if d.id = i then some d else none) = some c := h
      rw [if_pos hd] at h
      cases h
      exact ⟨hd, List.getElem?_eq_some_iff.1 e⟩
    · have h : (if d.id = i then some d else none) = some c := h
      rw [if_neg hd] at h
      cases h
theorem getS_mem {l : List Cel} {i : List UInt8} {c : Cel} (h : getS l i = some c) : c ∈ l := by
  obtain ⟨_, h1, rfl⟩ := getS_id h
  exact List.getElem_mem h1
theorem lt_of_not {a b : List UInt8} (h : ¬ a < b) (hne : a ≠ b) : b < a := by
  by_cases h2 : b < a
  · exact h2
  · exact absurd (List.le_antisymm (show a ≤ b from h2) (show b ≤ a from h)) hne
/-- Put in at its place, the order stays. -/
theorem srt_put {l : List Cel} {c : Cel} (hs : SrtS l) (hn : getS l c.id = none) : SrtS (putAt l (atS l c.id) c) := by
  have hle := atS_le l c.id
  unfold putAt SrtS
  rw [List.pairwise_append]
  refine ⟨hs.sublist (List.take_sublist _ _), ?_, ?_⟩
  · rw [List.pairwise_cons]
    refine ⟨fun d hd => ?_, hs.sublist (List.drop_sublist _ _)⟩
    obtain ⟨j, hj, rfl⟩ := List.getElem_of_mem hd
    rw [List.length_drop] at hj
    rw [List.getElem_drop]
    have hlt : atS l c.id < l.length := by omega
    have h1 := atS_at l c.id hlt
    have hne : l[atS l c.id].id ≠ c.id := fun e => by rw [getS_some hlt e] at hn; cases hn
    have h2 := lt_of_not h1 hne
    by_cases h0 : j = 0
    · subst h0; exact h2
    · exact List.lt_trans h2 (List.pairwise_iff_getElem.1 hs (atS l c.id) (atS l c.id + j) hlt (by omega) (by omega))
  · intro a ha b hb
    obtain ⟨j, hj, rfl⟩ := List.getElem_of_mem ha
    rw [List.length_take] at hj
    rw [List.getElem_take]
    have h1 := atS_lt l c.id j (by omega) (by omega)
    rcases List.mem_cons.1 hb with rfl | hb
    · exact h1
    · obtain ⟨q, hq, rfl⟩ := List.getElem_of_mem hb
      rw [List.length_drop] at hq
      rw [List.getElem_drop]
      exact List.pairwise_iff_getElem.1 hs j (atS l c.id + q) (by omega) (by omega) (by omega)
theorem printO_zero {k : Int} {b : List UInt8} (h : (printO k b).2 = 0) : kindO k ∧ b.length ≤ 65536 := by
  by_cases hk : kindO k
  · by_cases hl : b.length ≤ 65536
    · exact ⟨hk, hl⟩
    · rw [printO_limit k b hk (by omega)] at h
      exact absurd h (by decide)
  · rw [printO_kind k b hk] at h
    exact absurd h (by decide)
end Go.Proofs.YtnohonjjfjppoaaGreatDoor

/-
  Layer 13, plain: files; which lists are valid; the trees that a list of files becomes. Nothing of the program.
-/
namespace Go.Proofs.YtnohonjjfjppoaaGreatDoor
set_option linter.unusedVariables false
set_option linter.unusedSimpArgs false
structure Fil where
  path : List UInt8
  mode : Int
  id : List UInt8
def noF : Fil := ⟨[], 0, []⟩
def soundF (f : Fil) : Bool := decide (1 ≤ f.mode) && decide (f.mode ≤ 3) && pathL f.path && !(f.id == zeroId)
/-- Is p within the directory d? -/
def underF (d p : List UInt8) : Bool := (d ++ [47]).isPrefixOf p
def clearF (l : List Fil) (i : Nat) : Bool := (List.range i).all (fun k => !underF (l.getD k noF).path (l.getD i noF).path)
def stepF (l : List Fil) (i : Nat) : Bool := soundF (l.getD i noF) && (i == 0 || decide ((l.getD (i - 1) noF).path < (l.getD i noF).path)) && clearF l i
def rightF (l : List Fil) : Bool := decide (l.length ≤ 500) && (List.range l.length).all (stepF l)
theorem rightF_iff (l : List Fil) : rightF l = true ↔ l.length ≤ 500 ∧ ∀ i, i < l.length → stepF l i = true := by
  unfold rightF; simp only [Bool.and_eq_true, decide_eq_true_eq, List.all_eq_true, List.mem_range]
theorem rightF_len (l : List Fil) (h : 500 < l.length) : rightF l = false := by
  cases e : rightF l with
  | false => rfl
  | true => have := (rightF_iff l).1 e; omega
theorem rightF_step (l : List Fil) (i : Nat) (hi : i < l.length) (h : stepF l i = false) : rightF l = false := by
  cases e : rightF l with
  | false => rfl
  | true => rw [((rightF_iff l).1 e).2 i hi] at h; cases h
theorem clearF_iff (l : List Fil) (i : Nat) : clearF l i = true ↔ ∀ k, k < i → underF (l.getD k noF).path (l.getD i noF).path = false := by
  unfold clearF; simp only [List.all_eq_true, List.mem_range, Bool.not_eq_true']
def slashF (p : List UInt8) : Nat := p.findIdx (· == 47)
def headF (p : List UInt8) : List UInt8 := p.take (slashF p)
theorem slash_split {p : List UInt8} (h : slashF p < p.length) : p = headF p ++ 47 :: p.drop (slashF p + 1) := by
  have h2 := List.findIdx_getElem (p := (· == (47 : UInt8))) (w := h)
  have e : p[slashF p] = 47 := eq_of_beq h2
  unfold headF
  rw [← e, List.getElem_cons_drop, List.take_append_drop]
theorem head_clean (p : List UInt8) : ∀ c ∈ headF p, c ≠ 47 := by
  intro c hc
  unfold headF slashF at hc
  have : ∀ (p : List UInt8), ∀ c ∈ p.take (p.findIdx (· == 47)), c ≠ 47 := by
    intro p
    induction p with
    | nil => simp
    | cons d p ih =>
      intro c hc
      rw [List.findIdx_cons] at hc
      cases hd : (d == (47 : UInt8)) with
      | true => rw [hd] at hc; simp at hc
      | false =>
        rw [hd] at hc
        simp only [cond_false, List.take_succ_cons, List.mem_cons] at hc
        rcases hc with rfl | hc
        · simpa using hd
        · exact ih c hc
  exact this p c hc
theorem head_len {p : List UInt8} (h : slashF p < p.length) : (headF p).length = slashF p := by
  unfold headF; rw [List.length_take]; omega
def cntF (d : List UInt8) : List Fil → Nat
  | [] => 0
  | f :: r => if d.isPrefixOf f.path then cntF d r + 1 else 0
def cutF (n : Nat) (f : Fil) : Fil := { f with path := f.path.drop n }
abbrev PutT := List Cel → Int → List UInt8 → List Cel × List UInt8 × Int
def wl (pt : PutT) : Nat → List Cel → List Fil → List Itm → List Cel × List UInt8 × Int
  | 0, M, _, _ => (M, zeroId, 99)
  | n + 1, M, [], acc => if (printT acc).2 = 0 then pt M 2 (printT acc).1 else (M, zeroId, (printT acc).2)
  | n + 1, M, f :: r, acc =>
    if slashF f.path < f.path.length then
      let z := wl pt n M (((f :: r).take (cntF (headF f.path ++ [47]) (f :: r))).map (cutF (slashF f.path + 1))) []
      if z.2.2 = 0 then wl pt n z.1 ((f :: r).drop (cntF (headF f.path ++ [47]) (f :: r))) (acc ++ [⟨4, headF f.path, z.2.1⟩]) else (z.1, zeroId, z.2.2)
    else wl pt n M r (acc ++ [⟨f.mode, f.path, f.id⟩])
def costF (l : List Fil) : Nat := (l.map (fun f => f.path.length + 1)).sum + 1
def slF (l : List Fil) : Nat := (l.map (fun f => f.path.count 47)).sum
theorem cnt_le (d : List UInt8) : ∀ l, cntF d l ≤ l.length
  | [] => Nat.le_refl _
  | f :: r => by
    have := cnt_le d r
    unfold cntF
    split
    · rw [List.length_cons]; omega
    · exact Nat.zero_le _
theorem cnt_all (d : List UInt8) : ∀ l : List Fil, ∀ f ∈ l.take (cntF d l), d.isPrefixOf f.path = true
  | [], f, h => by simp at h
  | g :: r, f, h => by
    unfold cntF at h
    split at h
    · next hd =>
      rw [List.take_succ_cons, List.mem_cons] at h
      rcases h with rfl | h
      · exact hd
      · exact cnt_all d r f h
    · simp at h
theorem cnt_stop (d : List UInt8) : ∀ (l : List Fil) (h : cntF d l < l.length), d.isPrefixOf l[cntF d l].path = false
  | [], h => by simp at h
  | g :: r, h => by
    by_cases hd : d.isPrefixOf g.path = true
    · have e : cntF d (g :: r) = cntF d r + 1 := by rw [cntF, if_pos hd]
      have := cnt_stop d r (by rw [e, List.length_cons] at h; omega)
      simpa only [e, List.getElem_cons_succ] using this
    · have e : cntF d (g :: r) = 0 := by rw [cntF, if_neg hd]
      simpa only [e, List.getElem_cons_zero, Bool.not_eq_true] using hd
theorem cnt_is {d : List UInt8} {l : List Fil} {k : Nat} (hk : k ≤ l.length) (h : ∀ j (hj : j < l.length), j < k → d.isPrefixOf l[j].path = true) (hs : ∀ h : k < l.length, d.isPrefixOf l[k].path = false) : cntF d l = k := by
  have h1 := cnt_le d l
  rcases Nat.lt_trichotomy (cntF d l) k with h2 | h2 | h2
  · have := h (cntF d l) (by omega) h2
    rw [cnt_stop d l (by omega)] at this
    cases this
  · exact h2
  · have h3 := cnt_all d l l[k] (List.mem_iff_getElem.2 ⟨k, by rw [List.length_take]; omega, by rw [List.getElem_take]⟩)
    rw [hs (by omega)] at h3
    cases h3
theorem head_prefix {p : List UInt8} (h : slashF p < p.length) : (headF p ++ [47]).isPrefixOf p = true := by
  rw [List.isPrefixOf_iff_prefix]
  refine ⟨p.drop (slashF p + 1), ?_⟩
  rw [List.append_assoc, List.singleton_append, ← slash_split h]
theorem cnt_pos {f : Fil} {r : List Fil} (h : slashF f.path < f.path.length) : 1 ≤ cntF (headF f.path ++ [47]) (f :: r) := by
  rw [cntF, if_pos (head_prefix h)]; omega
/-- What a file loses by a cut. -/
theorem cut_parts {p d : List UInt8} (hd : ∀ c ∈ d, c ≠ 47) (h : (d ++ [47]).isPrefixOf p = true) : (p.drop (d.length + 1)).length + d.length + 1 = p.length ∧ (p.drop (d.length + 1)).count 47 + 1 = p.count 47 := by
  rw [List.isPrefixOf_iff_prefix] at h
  obtain ⟨t, rfl⟩ := h
  have e : (d ++ [47] ++ t).drop (d.length + 1) = t := by
    rw [show d.length + 1 = (d ++ [(47 : UInt8)]).length by simp]
    exact List.drop_left
  have z : d.count 47 = 0 := List.count_eq_zero.2 (fun h => hd 47 h rfl)
  rw [e]
  simp [List.count_append, z]
  omega
theorem sums_cut {d : List UInt8} (hd : ∀ c ∈ d, c ≠ 47) : ∀ (l : List Fil), (∀ f ∈ l, (d ++ [47]).isPrefixOf f.path = true) →
    costF (l.map (cutF (d.length + 1))) + l.length ≤ costF l ∧ slF (l.map (cutF (d.length + 1))) + l.length = slF l
  | [], _ => ⟨Nat.le_refl _, rfl⟩
  | f :: r, h => by
    have ih := sums_cut hd r (fun g hg => h g (by simp [hg]))
    have hp := cut_parts hd (h f (by simp))
    simp only [costF, slF, List.map_cons, List.sum_cons, List.length_cons, cutF] at ih hp ⊢
    omega
theorem cost_split (l : List Fil) (k : Nat) : costF (l.take k) + costF (l.drop k) = costF l + 1 ∧ slF (l.take k) + slF (l.drop k) = slF l := by
  have h1 : (l.map (fun f => f.path.length + 1)).sum = ((l.take k).map (fun f => f.path.length + 1)).sum + ((l.drop k).map (fun f => f.path.length + 1)).sum := by
    rw [← List.sum_append_nat, ← List.map_append, List.take_append_drop]
  have h2 : (l.map (fun f => f.path.count 47)).sum = ((l.take k).map (fun f => f.path.count 47)).sum + ((l.drop k).map (fun f => f.path.count 47)).sum := by
    rw [← List.sum_append_nat, ← List.map_append, List.take_append_drop]
  unfold costF slF
  omega
/-- A directory's files, and the others. -/
theorem group_cost {f : Fil} {r : List Fil} (h : slashF f.path < f.path.length) :
    costF (((f :: r).take (cntF (headF f.path ++ [47]) (f :: r))).map (cutF (slashF f.path + 1))) < costF (f :: r) ∧
    costF ((f :: r).drop (cntF (headF f.path ++ [47]) (f :: r))) < costF (f :: r) ∧
    slF (((f :: r).take (cntF (headF f.path ++ [47]) (f :: r))).map (cutF (slashF f.path + 1))) + 1 + slF ((f :: r).drop (cntF (headF f.path ++ [47]) (f :: r))) ≤ slF (f :: r) := by
  have h1 := cnt_pos (r := r) h
  have h2 := cnt_le (headF f.path ++ [47]) (f :: r)
  have h3 := cnt_all (headF f.path ++ [47]) (f :: r)
  generalize cntF (headF f.path ++ [47]) (f :: r) = c at h1 h2 h3 ⊢
  have h4 := sums_cut (head_clean f.path) _ h3
  rw [head_len h] at h4
  have h5 := cost_split (f :: r) c
  have h6 : ((f :: r).take c).length = c := by rw [List.length_take]; omega
  rw [h6] at h4
  have h7 : 1 ≤ costF ((f :: r).drop c) := by unfold costF; omega
  have h8 : 1 ≤ costF (((f :: r).take c).map (cutF (slashF f.path + 1))) := by unfold costF; omega
  omega
theorem cost_cons (f : Fil) (r : List Fil) : costF (f :: r) = f.path.length + 1 + costF r ∧ slF (f :: r) = f.path.count 47 + slF r := by
  simp only [costF, slF, List.map_cons, List.sum_cons]
  exact ⟨by omega, trivial⟩
theorem cost_pos (l : List Fil) : 1 ≤ costF l := Nat.le_add_left _ _
theorem wl_len {pt : PutT} (hlen : ∀ L k b, (pt L k b).1.length ≤ L.length + 1) : ∀ n L l acc, (wl pt n L l acc).1.length ≤ L.length + slF l + 1
  | 0, L, l, acc => by unfold wl; show L.length ≤ _; omega
  | n + 1, L, [], acc => by
    unfold wl
    split
    · have := hlen L 2 (printT acc).1; omega
    · show L.length ≤ _; omega
  | n + 1, L, f :: r, acc => by
    rw [wl]
    by_cases h : slashF f.path < f.path.length
    · rw [if_pos h]
      have hg := (group_cost (r := r) h).2.2
      have h1 := wl_len hlen n L (((f :: r).take (cntF (headF f.path ++ [47]) (f :: r))).map (cutF (slashF f.path + 1))) []
      generalize wl pt n L (((f :: r).take (cntF (headF f.path ++ [47]) (f :: r))).map (cutF (slashF f.path + 1))) [] = z at h1 ⊢
      have h2 := wl_len hlen n z.1 ((f :: r).drop (cntF (headF f.path ++ [47]) (f :: r))) (acc ++ [⟨4, headF f.path, z.2.1⟩])
      simp only
      split
      · omega
      · show z.1.length ≤ _; omega
    · rw [if_neg h]
      have h1 := wl_len hlen n L r (acc ++ [⟨f.mode, f.path, f.id⟩])
      have := (cost_cons f r).2
      omega
end Go.Proofs.YtnohonjjfjppoaaGreatDoor

/-
  Rows of structs of whatever type, over any program: what a call owns, what lies somewhere, what is appended, what is stored.
-/
namespace Go.Proofs.YtnohonjjfjppoaaGreatDoor
open Go.RowKit
set_option linter.unusedVariables false
set_option linter.unusedSimpArgs false
/-- Elements of a row: their cells, their type. -/
structure RowT (α : Type) where
  cl : α → List Value
  size : Nat
  bytes : Nat
  ty : TypeId
  sl : TypeId
  ok : α → Prop
/-- What the program says of that type. -/
structure RowT.Good {α : Type} (R : RowT α) (P : Program) : Prop where
  pos : 0 < R.size
  len : ∀ x, R.ok x → (R.cl x).length = R.size
  one : ∀ x, R.ok x → ∀ v ∈ R.cl x, v.oneCell' = true
  under : P.underlying R.sl = some (.slice R.ty)
  info : ∃ ie z, P.info? R.ty = some ie ∧ ie.zero = some z ∧ ie.size = R.size ∧ ie.bytes = R.bytes ∧ z.cells.size = R.size
  small : R.size ≤ 1000 ∧ R.bytes ≤ 1000
section
variable {α : Type} {R : RowT α} {P : Program}
def RowT.flat (R : RowT α) (l : List α) : List Value := l.flatMap R.cl
theorem rflat_cons (x : α) (l : List α) : R.flat (x :: l) = R.cl x ++ R.flat l := by unfold RowT.flat; rw [List.flatMap_cons]
theorem rflat_append (l m : List α) : R.flat (l ++ m) = R.flat l ++ R.flat m := by unfold RowT.flat; rw [List.flatMap_append]
theorem rflat_len (G : R.Good P) : ∀ (l : List α), (∀ x ∈ l, R.ok x) → (R.flat l).length = l.length * R.size
  | [], _ => by simp [RowT.flat]
  | x :: l, h => by
    rw [rflat_cons, List.length_append, G.len x (h x (by simp)), rflat_len G l (fun y hy => h y (by simp [hy])), List.length_cons, Nat.add_mul, Nat.one_mul, Nat.add_comm]
theorem rflat_at (G : R.Good P) : ∀ (l : List α) (h : ∀ x ∈ l, R.ok x) (k : Nat) (hk : k < l.length) (j : Nat) (v : Value), (R.cl l[k])[j]? = some v → (R.flat l)[k * R.size + j]? = some v
  | [], _, k, hk, _, _, _ => absurd hk (Nat.not_lt_zero _)
  | x :: l, h, 0, hk, j, v, hv => by
    have hj : j < (R.cl x).length := (List.getElem?_eq_some_iff.1 hv).1
    rw [rflat_cons, Nat.zero_mul, Nat.zero_add, List.getElem?_append_left hj]
    exact hv
  | x :: l, h, k + 1, hk, j, v, hv => by
    have hl := G.len x (h x (by simp))
    rw [rflat_cons, Nat.add_mul, Nat.one_mul, List.getElem?_append_right (by omega), hl, show k * R.size + R.size + j - R.size = k * R.size + j by omega]
    exact rflat_at G l (fun y hy => h y (by simp [hy])) k (by simpa using hk) j v hv
theorem rflat_one (G : R.Good P) (l : List α) (h : ∀ x ∈ l, R.ok x) : ∀ v ∈ R.flat l, v.oneCell' = true := by
  intro v hv
  unfold RowT.flat at hv
  obtain ⟨x, hm, hx⟩ := List.mem_flatMap.1 hv
  exact G.one x (h x hm) v hx
theorem rflat_back (G : R.Good P) : ∀ (l : List α) (h : ∀ x ∈ l, R.ok x) (j : Nat) (v : Value), (R.flat l)[j]? = some v → ∃ (k : Nat) (hk : k < l.length) (q : Nat), j = k * R.size + q ∧ (R.cl l[k])[q]? = some v
  | [], _, j, v, hv => by simp [RowT.flat] at hv
  | x :: l, h, j, v, hv => by
    have hl := G.len x (h x (by simp))
    rw [rflat_cons] at hv
    by_cases hj : j < R.size
    · rw [List.getElem?_append_left (by omega)] at hv
      exact ⟨0, by simp, j, by simp, hv⟩
    · rw [List.getElem?_append_right (by omega), hl] at hv
      obtain ⟨k, hk, q, e, hq⟩ := rflat_back G l (fun y hy => h y (by simp [hy])) (j - R.size) v hv
      exact ⟨k + 1, by simpa using hk, q, by rw [Nat.add_mul]; omega, by simpa using hq⟩
/-- Elements, one behind the other, somewhere. -/
def RowAt (R : RowT α) (w : World) (a : Option Addr) (l : List α) : Prop :=
  0 < l.length → ∃ b o, a = some ⟨b, o, none⟩ ∧ b < w.heap.size ∧ ∀ k (h : k < l.length) j v, (R.cl l[k])[j]? = some v → w.cell? ⟨b, o + k * R.size + j, none⟩ = some v
theorem RowAt.nil (w : World) (a : Option Addr) : RowAt R w a [] := fun h => absurd h (Nat.lt_irrefl 0)
theorem RowAt.keep {w u : World} {a : Option Addr} {l : List α} (h : RowAt R w a l) (b : Below w.heap.size w u) : RowAt R u a l := fun hp => by
  obtain ⟨g, o, h1, h2, h3⟩ := h hp
  exact ⟨g, o, h1, Nat.lt_of_lt_of_le h2 b.size, fun k hk j v hv => (b.cell (p := ⟨g, o + k * R.size + j, none⟩) h2).trans (h3 k hk j v hv)⟩
/-- The block it lies in is as it was. -/
theorem RowAt.same {w u : World} {a : Option Addr} {l : List α} (h : RowAt R w a l) (hs : w.heap.size ≤ u.heap.size) (hb : ∀ ad, a = Option.some ad → u.heap[ad.block]? = w.heap[ad.block]?) : RowAt R u a l := fun hp => by
  obtain ⟨g, o, h1, h2, h3⟩ := h hp
  refine ⟨g, o, h1, Nat.lt_of_lt_of_le h2 hs, fun k hk j v hv => ?_⟩
  rw [← h3 k hk j v hv]
  exact World.cell?_of_block (w := w) (hb ⟨g, o, none⟩ h1)
theorem RowAt.take {w : World} {a : Option Addr} {l : List α} (h : RowAt R w a l) (n : Nat) : RowAt R w a (l.take n) := fun hp => by
  have hp2 : 0 < l.length := by rw [List.length_take] at hp; omega
  obtain ⟨g, o, h1, h2, h3⟩ := h hp2
  refine ⟨g, o, h1, h2, fun k hk j v hv => ?_⟩
  rw [List.length_take] at hk
  exact h3 k (by omega) j v (by rw [List.getElem_take] at hv; exact hv)
theorem RowAt.drop {w : World} {b o : Nat} {l : List α} (h : RowAt R w (some ⟨b, o, none⟩) l) (n : Nat) : RowAt R w (some ⟨b, o + n * R.size, none⟩) (l.drop n) := fun hp => by
  have hp2 : 0 < l.length := by rw [List.length_drop] at hp; omega
  obtain ⟨g, o', h1, h2, h3⟩ := h hp2
  cases h1
  refine ⟨b, o + n * R.size, rfl, h2, fun k hk j v hv => ?_⟩
  rw [List.length_drop] at hk
  have := h3 (n + k) (by omega) j v (by rw [List.getElem_drop] at hv; exact hv)
  rw [Nat.add_mul] at this
  rw [show o + n * R.size + k * R.size + j = o + (n * R.size + k * R.size) + j by omega]
  exact this
/-- One of them. -/
theorem RowAt.elem {w : World} {b o : Nat} {l : List α} (h : RowAt R w (some ⟨b, o, none⟩) l) (k : Nat) (hk : k < l.length) : w.rangeAt b (o + k * R.size) (R.cl l[k]) := by
  obtain ⟨g, o', h1, h2, h3⟩ := h (by omega)
  cases h1
  exact fun j v hv => h3 k hk j v hv
theorem RowAt.lt {w : World} {b o : Nat} {l : List α} (h : RowAt R w (some ⟨b, o, none⟩) l) (hp : 0 < l.length) : b < w.heap.size := by
  obtain ⟨g, o', h1, h2, h3⟩ := h hp
  cases h1
  exact h2
theorem RowAt.some {w : World} {a : Option Addr} {l : List α} (h : RowAt R w a l) (hp : 0 < l.length) : ∃ b o, a = Option.some ⟨b, o, none⟩ ∧ b < w.heap.size := by
  obtain ⟨g, o', h1, h2, h3⟩ := h hp
  exact ⟨g, o', h1, h2⟩
theorem RowAt.cells (G : R.Good P) {w : World} {b o : Nat} {l : List α} (h : RowAt R w (Option.some ⟨b, o, none⟩) l) (hid : ∀ x ∈ l, R.ok x) (j : Nat) (u : Value) (hj : (R.flat l)[j]? = Option.some u) : w.cell? ((⟨b, o, none⟩ : Addr).add j) = Option.some u := by
  obtain ⟨k, hk, q, rfl, hq⟩ := rflat_back G l hid j u hj
  obtain ⟨g, o', h1, h2, h3⟩ := h (by omega)
  cases h1
  rw [show (⟨b, o, none⟩ : Addr).add (k * R.size + q) = ⟨b, o + (k * R.size + q), none⟩ by unfold Addr.add; split <;> simp_all, ← Nat.add_assoc]
  exact h3 k hk q u hq
/-- A row that a call owns. -/
def OwnR (R : RowT α) (B : Nat) (v : Value) (l : List α) (w : World) : Prop := w.ownsRow B R.ty R.size v l.length (R.flat l)
theorem ownR_nil (w : World) (B : Nat) : OwnR R B (.slice none 0 0) [] w := World.ownsRow_nil w B _ _
/-- Its block is as it was. -/
theorem ownR_same {B : Nat} {v : Value} {l : List α} {w u : World} (h : OwnR R B v l w) (hb : ∀ g, v.ownBlock = Option.some g → u.heap[g]? = w.heap[g]?) : OwnR R B v l u :=
  ⟨h.1, h.2.imp id (fun ⟨g', cap', cur, h', hb', hh, r⟩ => ⟨g', cap', cur, h', hb', (hb g' (by rw [h']; rfl)).trans hh, r⟩)⟩
theorem ownR_shape (G : R.Good P) {B : Nat} {v : Value} {l : List α} {w : World} (h : OwnR R B v l w) (hid : ∀ x ∈ l, R.ok x) :
    ∃ a c, v = .slice a l.length c ∧ l.length ≤ c ∧ c ≤ maxLen ∧ RowAt R w a l ∧ (a = none → l.length = 0 ∧ c = 0) ∧ ∀ ad, a = Option.some ad → B ≤ ad.block ∧ ad.off = 0 ∧ ad.block < w.heap.size := by
  rcases h.2 with ⟨hv, h0⟩ | ⟨g, cap, cur, hv, hB, hg, hc, hm, _, _⟩
  · obtain rfl : l = [] := List.eq_nil_of_length_eq_zero h0
    exact ⟨none, 0, hv, Nat.le_refl _, Nat.zero_le _, RowAt.nil w _, fun _ => ⟨rfl, rfl⟩, fun ad e => (by cases e)⟩
  · have hcs := World.ownsRow.cells h (g := g) (by rw [hv]; rfl)
    have hlt : g < w.heap.size := (Array.getElem?_eq_some_iff.1 hg).1
    refine ⟨_, cap, hv, hc, hm, fun _ => ⟨g, 0, rfl, hlt, fun k hk j u hu => ?_⟩, fun e => (by cases e), fun ad e => (by cases e; exact ⟨hB, rfl, hlt⟩)⟩
    have := hcs (k * R.size + j) u (rflat_at G l hid k hk j u hu)
    rw [show (⟨g, 0, none⟩ : Addr).add (k * R.size + j) = ⟨g, 0 + k * R.size + j, none⟩ by unfold Addr.add; split <;> simp_all] at this
    exact this
end
end Go.Proofs.YtnohonjjfjppoaaGreatDoor

/-
  Small words for walks over byte slices: what lies in a slice of bytes, and 'string(b)' of it.
-/
namespace Go.Proofs.YtnohonjjfjppoaaGreatDoor
open Go.RowKit
set_option linter.unusedVariables false
theorem ret_int {k : IntKind} {a b : Int} (h : a = b) : Ending.returned (.int k a) = .returned (.int k b) := by rw [h]
theorem ret_bool {a b : Bool} (h : a = b) : Ending.returned (.bool a) = .returned (.bool b) := by rw [h]
/-- What lies at the head of a slice of bytes: of an empty one nothing is said. -/
def BAt (w : World) (a : Option Addr) (l : List UInt8) : Prop :=
  0 < l.length → ∃ b o, a = some ⟨b, o, none⟩ ∧ b < w.heap.size ∧ ∀ i (h : i < l.length), w.cell? ⟨b, o + i, none⟩ = some (.int .u8 (l[i]).toNat)
theorem BAt.nil (w : World) (a : Option Addr) : BAt w a [] := fun h => absurd h (Nat.lt_irrefl 0)
theorem BAt.below {w w' : World} {a : Option Addr} {l : List UInt8} (h : BAt w a l) {B : Nat} (hb : Below B w w') (hB : w.heap.size ≤ B) : BAt w' a l := fun hp => by
  obtain ⟨b, o, rfl, hlt, hc⟩ := h hp
  exact ⟨b, o, rfl, Nat.lt_of_lt_of_le hlt hb.size, fun i hi => (hb.cell (p := ⟨b, o + i, none⟩) (by show b < B; omega)).trans (hc i hi)⟩
theorem BAt.keep {w w' : World} {a : Option Addr} {l : List UInt8} (h : BAt w a l) (hb : Below w.heap.size w w') : BAt w' a l := h.below hb (Nat.le_refl _)
theorem size_toArray (l : List UInt8) : (⟨l.toArray⟩ : ByteArray).size = l.length := by simp [ByteArray.size]
theorem bytes_append (a b : List UInt8) : (⟨a.toArray⟩ ++ ⟨b.toArray⟩ : ByteArray) = ⟨(a ++ b).toArray⟩ := by
  apply ByteArray.ext
  simp
theorem add_lists {P : Program} (w : World) (a b : List UInt8) (h : a.length + b.length ≤ 9223372036854775807) :
    (Op.stringOp .add ⟨a.toArray⟩ ⟨b.toArray⟩).run P w = .ok (.string ⟨(a ++ b).toArray⟩) w := by
  rw [← bytes_append]
  exact run_string_add_sum w _ _ (by rw [size_toArray, size_toArray]; exact h)
theorem strOfNums_toNat (l : List UInt8) : strOfNums (l.map fun c => (c.toNat : Int)) = ⟨l.toArray⟩ := by
  unfold strOfNums
  congr 2
  rw [List.map_map]
  conv => rhs; rw [← List.map_id l]
  apply List.map_congr_left
  intro c _
  simp
/-- 'string(b)'. -/
theorem BAt.conv {P : Program} {w : World} {a : Option Addr} {l : List UInt8} (h : BAt w a l) (c : Nat) (src e : TypeId) (hs : P.underlying src = some (.slice e)) (he : P.underlying e = some (.int .u8)) :
    ∀ dst, P.underlying dst = some .string → (convert src dst (.slice a l.length c)).run P w = .ok (.string ⟨l.toArray⟩) w := by
  intro dst hd
  by_cases hp : 0 < l.length
  · obtain ⟨b, o, rfl, _, hc⟩ := h hp
    rw [← strOfNums_toNat]
    exact run_convert_bytes_arg w src e hs he b o l.length c (l.map fun c => (c.toNat : Int)) (by simp) (fun i hi => by rw [hc i hi]; simp [List.getD, hi]) dst hd
  · obtain rfl : l = [] := List.eq_nil_of_length_eq_zero (by omega)
    rw [run_convert_bytes_string w src dst e _ _ c hs he hd]
    cases a <;> simp [Conv.bytesToString, loadCells]
    all_goals rfl
end Go.Proofs.YtnohonjjfjppoaaGreatDoor
