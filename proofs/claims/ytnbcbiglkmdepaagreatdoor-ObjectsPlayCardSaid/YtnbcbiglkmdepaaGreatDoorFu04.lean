/-
  Texts that belong together, one behind the other.
-/
import Derived.Test.YtnbcbiglkmdepaaGreatDoorFu03
import Derived.Deep.AppendSrc
import Derived.Deep.Upon
import Derived.Laws.AppendOwn
import Derived.Laws.Rows
import Derived.Laws.Tables
import Derived.IntWalk
import Derived.WalkSmall
import Derived.OwnWalk
import Derived.Laws.OwnMore
set_option maxHeartbeats 64000000
set_option linter.unusedVariables false
set_option linter.unusedSimpArgs false
open Go.Lib renaming hid → hyd
namespace Go.Proofs.YtnbcbiglkmdepaaGreatDoor
set_option maxRecDepth 20000
open Go.RowKit Go.Maps
def thingP (k : Int) (v : Value) : Value := if k = 1 then .iface 132 (.agg #[v]) else if k = 2 then .iface 133 (.agg #[v]) else if k = 3 then .iface 134 (.agg #[v]) else .nilIface
theorem thingP1 (v : Value) : thingP 1 v = .iface 132 (.agg #[v]) := rfl
theorem thingP2 (v : Value) : thingP 2 v = .iface 133 (.agg #[v]) := rfl
theorem thingP3 (v : Value) : thingP 3 v = .iface 134 (.agg #[v]) := rfl
def celP (E : List Ent) : List (Value × Value) := E.map (fun e => (.agg (arrD e.c.id), thingP e.c.kind e.v))
theorem celP_keys {E : List Ent} (h : ∀ e ∈ E, okE e) : ∀ m ∈ celP E, ∃ l, keyOf Tryz.prog 24 m.1 = some l := by
 intro m hm; obtain ⟨e, he, rfl⟩ := List.mem_map.1 hm; exact key_id _ (h e he).1
def getM (M : List Cel) (i : List UInt8) : Option Cel := M.find? (fun c => c.id == i)
def StoreP (S : Nat → Prop) (w : World) (g : Nat) (M : List Cel) : Prop :=
 S g ∧ ∃ (E : List Ent) (mb : Option Nat), E.map Ent.c = M ∧ w.heap[g]? = some (.cells #[.map mb] 48 (0, 0)) ∧
  (∀ e ∈ E, okE e ∧ kindO e.c.kind ∧ RedS (fun k => S k ∧ k ≠ g ∧ mb ≠ some k) w e.v e.c.body) ∧
  (mb = none → E = []) ∧ ∀ b, mb = some b → S b ∧ b ≠ g ∧ MapAt w b (celP E)
theorem StoreP.lt {S : Nat → Prop} {w : World} {g : Nat} {M : List Cel} (h : StoreP S w g M) : g < w.heap.size := by
 obtain ⟨hg, E, mb, h1, h2, h3, h4, h5⟩ := h; exact lt_of_heap h2
theorem StoreP.keep {S : Nat → Prop} {w u : World} {g : Nat} {M : List Cel} (h : StoreP S w g M) (hk : Stays S w u) : StoreP S u g M := by
 obtain ⟨hg, E, mb, h1, h2, h3, h4, h5⟩ := h; refine ⟨hg, E, mb, h1, (hk.2 g hg (lt_of_heap h2)).trans h2, fun e he => ?_, h4, fun b hb => ?_⟩
 ·obtain ⟨k1, k2, k3⟩ := h3 e he
  exact ⟨k1, k2, k3.keep (hk.mono fun k h => h.1)⟩
 ·obtain ⟨k1, k2, k3⟩ := h5 b hb
  exact ⟨k1, k2, k3.keep (hk.2 b k1 k3.lt)⟩
theorem StoreP.mono {S S' : Nat → Prop} {w : World} {g : Nat} {M : List Cel} (h : StoreP S w g M) (hs : ∀ k, k < w.heap.size → S k → S' k) : StoreP S' w g M := by
 obtain ⟨hg, E, mb, h1, h2, h3, h4, h5⟩ := h; refine ⟨hs g (lt_of_heap h2) hg, E, mb, h1, h2, fun e he => ?_, h4, fun b hb => ?_⟩
 ·obtain ⟨k1, k2, k3⟩ := h3 e he
  exact ⟨k1, k2, k3.mono (fun k hk h => ⟨hs k hk h.1, h.2⟩)⟩
 ·obtain ⟨k1, k2, k3⟩ := h5 b hb
  exact ⟨hs b k3.lt k1, k2, k3⟩
theorem StoreP.below {S : Nat → Prop} {w u : World} {g : Nat} {M : List Cel} (h : StoreP S w g M) (hb : Below w.heap.size w u) : StoreP S u g M := h.keep (Stays.of hb)
theorem StoreP.ids {S : Nat → Prop} {w : World} {g : Nat} {M : List Cel} (h : StoreP S w g M) : ∀ x ∈ M, x.id.length = 20 ∧ kindO x.kind := by
 obtain ⟨hg, E, mb, h1, h2, h3, h4, h5⟩ := h; intro x hx; rw [← h1] at hx; obtain ⟨e, he, rfl⟩ := List.mem_map.1 hx; exact ⟨(h3 e he).1.1, (h3 e he).2.1⟩
theorem getM_some {M : List Cel} {i : List UInt8} {c : Cel} (h : getM M i = some c) : c ∈ M ∧ c.id = i := ⟨List.mem_of_find?_eq_some h, by simpa using List.find?_some h⟩
theorem getM_none {M : List Cel} {i : List UInt8} (h : getM M i = none) : ∀ c ∈ M, c.id ≠ i := fun c hc => by simpa using List.find?_eq_none.1 h c hc
theorem id_one : ∀ {M : List Cel}, M.Pairwise (fun a b => a.id ≠ b.id) → ∀ {x y : Cel}, x ∈ M → y ∈ M → x.id = y.id → x = y
 | [], _, _, _, hx, _, _ => by cases hx
 | a :: r, hp, x, y, hx, hy, h => by
  obtain ⟨h1, h2⟩ := List.pairwise_cons.1 hp
  rcases List.mem_cons.1 hx with ex | hx'
  ·rcases List.mem_cons.1 hy with ey | hy'
   ·rw [ex, ey]
   ·exact absurd (ex ▸ h) (h1 y hy')
  ·rcases List.mem_cons.1 hy with ey | hy'
   ·exact absurd (ey ▸ h).symm (h1 x hx')
   ·exact id_one h2 hx' hy' h
theorem getM_mem {M : List Cel} (ha : M.Pairwise (fun a b => a.id ≠ b.id)) {c : Cel} (hc : c ∈ M) : getM M c.id = some c := by
 cases h : getM M c.id with
 | none => exact absurd rfl (getM_none h c hc)
 | some d =>
  obtain ⟨h1, h2⟩ := getM_some h; rw [id_one ha h1 hc h2]
theorem getM_getS {M L : List Cel} (hp : M.Perm L) (hs : SrtS L) (i : List UInt8) : getM M i = getS L i := by
 have ha : M.Pairwise (fun a b => a.id ≠ b.id) := by
  refine (hp.pairwise_iff (fun {a b} (h : a.id ≠ b.id) => h.symm)).2 (hs.imp (fun {a b} h e => ?_)); rw [e] at h; exact List.lt_irrefl _ h
 cases h : getS L i with
 | some c =>
  have h1 := (getS_id h).1; subst h1; exact getM_mem ha (hp.mem_iff.2 (getS_mem h))
 | none =>
  cases h2 : getM M i with
  | none => rfl
  | some c =>
   obtain ⟨h3, rfl⟩ := getM_some h2; rw [getS_of_mem hs (hp.mem_iff.1 h3)] at h
   cases h
end Go.Proofs.YtnbcbiglkmdepaaGreatDoor
namespace Go.Proofs.YtnbcbiglkmdepaaGreatDoor
open Go.RowKit
theorem byteCells_len (l : List UInt8) : (Lib.byteCells l).length = l.length := by simp [Lib.byteCells]
theorem byteCells_one (l : List UInt8) : ∀ u ∈ Lib.byteCells l, u.oneCell' = true := by
 intro u hu; simp [Lib.byteCells] at hu; obtain ⟨x, _, rfl⟩ := hu; rfl
structure Chg (S : Nat → Prop) (w w' : World) : Prop where
 os : w'.os = w.os
 tape : w'.tape = w.tape
 output : w'.output = w.output
 size : w.heap.size ≤ w'.heap.size
 block : ∀ k, k < w.heap.size → ¬ S k → w'.heap[k]? = w.heap[k]?
theorem Chg.refl (S : Nat → Prop) (w : World) : Chg S w w := ⟨rfl, rfl, rfl, Nat.le_refl _, fun _ _ _ => rfl⟩
theorem Chg.more {S T : Nat → Prop} {a b c : World} (h : Chg S a b) (k : Chg T b c) (hT : ∀ i, i < a.heap.size → T i → S i) : Chg S a c :=
 ⟨k.os.trans h.os, k.tape.trans h.tape, k.output.trans h.output, Nat.le_trans h.size k.size, fun i hi hs => (k.block i (Nat.lt_of_lt_of_le hi h.size) (fun ht => hs (hT i hi ht))).trans (h.block i hi hs)⟩
theorem Chg.weak {S T : Nat → Prop} {a b : World} (h : Chg S a b) (hT : ∀ i, i < a.heap.size → S i → T i) : Chg T a b := (Chg.refl T a).more h hT
theorem Chg.of_below {S : Nat → Prop} {w w' : World} (h : Below w.heap.size w w') : Chg S w w' := ⟨h.os, h.tape, h.output, h.size, fun k hk _ => h.block k hk⟩
theorem Chg.below {S : Nat → Prop} {B : Nat} {w w' : World} (h : Chg S w w') (hB : B ≤ w.heap.size) (hS : ∀ i, i < w.heap.size → S i → B ≤ i) : Below B w w' :=
 ⟨h.os, h.tape, h.output, h.size, fun k hk => h.block k (by omega) (fun hs => by have := hS k (by omega) hs; omega)⟩
theorem Chg.alloc {S : Nat → Prop} {a w : World} (h : Chg S a w) (o : Obj) : Chg S a (w.alloc o) :=
 ⟨h.os, h.tape, h.output, by have := h.size; simp; omega, fun k hk hs => (Below.heap_alloc _ _ _ (Nat.lt_of_lt_of_le hk h.size)).trans (h.block k hk hs)⟩
theorem Chg.setCell {S : Nat → Prop} {a w : World} (h : Chg S a w) (p : Addr) (hp : p.block < a.heap.size → S p.block) (v : Value) : Chg S a (w.setCell p v) :=
 ⟨h.os, h.tape, h.output, by simpa using h.size, fun k hk hs => (Below.heap_setCell _ _ _ _ (fun (e : k = p.block) => hs (by rw [e] at hk ⊢; exact hp hk))).trans (h.block k hk hs)⟩
theorem Chg.grown {S : Nat → Prop} {a w w' : World} {row : Option Nat} (h : Chg S a w) (g : w.grownBy w' row) (hr : ∀ k, row = some k → k < a.heap.size → S k) : Chg S a w' :=
 ⟨g.os.trans h.os, g.tape.trans h.tape, g.output.trans h.output, Nat.le_trans h.size g.size, fun k hk hs => (g.block k (Nat.lt_of_lt_of_le hk h.size) (fun e => hs (hr k e.symm hk))).trans (h.block k hk hs)⟩
def foot : Value → Option Nat
 | .slice (some a) _ (_ + 1) => some a.block
 | _ => none
theorem foot_zero (a : Option Addr) (n : Nat) : foot (.slice a n 0) = none := by cases a <;> rfl
theorem foot_succ (a : Addr) (n c : Nat) : foot (.slice (some a) n (c + 1)) = some a.block := rfl
def Row (w : World) (v : Value) (l : List UInt8) : Prop :=
 (∃ a, v = .slice a 0 0 ∧ l = []) ∨
 ∃ g cap cur, v = .slice (some ⟨g, 0, none⟩) l.length (cap + 1) ∧ w.heap[g]? = some (.cells cur 5 (0, 0)) ∧ l.length ≤ cap + 1 ∧ cap + 1 ≤ maxLen ∧ cur.size = cap + 1 ∧ cur.toList.take l.length = Lib.byteCells l
theorem Row.nil (w : World) (a : Option Addr) : Row w (.slice a 0 0) [] := .inl ⟨a, rfl, rfl⟩
theorem Row.lt {w : World} {v : Value} {l : List UInt8} (h : Row w v l) (g : Nat) (hg : foot v = some g) : g < w.heap.size := by
 rcases h with ⟨a, rfl, _⟩ | ⟨g', cap, cur, rfl, hh, _⟩
 ·rw [foot_zero] at hg; cases hg
 ·cases hg; exact (Array.getElem?_eq_some_iff.1 hh).1
theorem Row.keep {w w' : World} {v : Value} {l : List UInt8} (h : Row w v l) (hk : ∀ g, foot v = some g → w'.heap[g]? = w.heap[g]?) : Row w' v l := by
 rcases h with h | ⟨g', cap, cur, rfl, hh, r⟩
 ·exact .inl h
 ·exact .inr ⟨g', cap, cur, rfl, (hk g' rfl).trans hh, r⟩
theorem Row.shape {w : World} {v : Value} {l : List UInt8} (h : Row w v l) : ∃ a c, v = .slice a l.length c ∧ l.length ≤ c ∧ c ≤ maxLen ∧ BAt w a l ∧ (a = none → l.length = 0 ∧ c = 0) := by
 rcases h with ⟨a, rfl, rfl⟩ | ⟨g, cap, cur, rfl, hh, h1, h2, h3, h4⟩
 ·exact ⟨a, 0, rfl, Nat.le_refl _, Nat.zero_le _, BAt.nil _ _, fun _ => ⟨rfl, rfl⟩⟩
 ·refine ⟨_, _, rfl, h1, h2, fun hp => ⟨g, 0, rfl, (Array.getElem?_eq_some_iff.1 hh).1, fun i hi => ?_⟩, fun h => by cases h⟩
  have e : (cur.toList.take l.length)[i]? = (Lib.byteCells l)[i]? := by rw [h4]
  rw [List.getElem?_take, if_pos hi, byteCells_at, List.getElem?_eq_getElem hi] at e; rw [Nat.zero_add, cell_of_row w g i cur _ _ hh, ← Array.getElem?_toList, e]; rfl
theorem info_u8 : (Tryz.prog.info? 5).map (fun i => (i.zero, i.size, i.bytes)) = some (some (.int .u8 0), 1, 1) := by kernel_rfl
theorem src_of {w : World} {x : Option Addr} {n c : Nat} {m : List UInt8} (hx : BAt w x m) (hn : n = m.length) (hno : x = none → n = 0 ∧ c = 0) : Src Tryz.prog 1 32 (.slice x n c) n (Lib.byteCells m) w := by
 subst hn
 cases x with
 | none =>
  obtain ⟨h1, h2⟩ := hno rfl; obtain rfl : m = [] := List.eq_nil_of_length_eq_zero h1; exact Src.ofNil w Tryz.underlying32 c
 | some a =>
  refine Src.ofSlice w Tryz.underlying32 a m.length c (Lib.byteCells m) (by rw [byteCells_len, Nat.mul_one]) (fun j u hj => ?_) (byteCells_one m)
  have hlt : j < m.length := by
   rcases Nat.lt_or_ge j m.length with h' | h'
   ·exact h'
   ·rw [byteCells_at, List.getElem?_eq_none h'] at hj; cases hj
  obtain ⟨b, o, e, _, hc⟩ := hx (by omega)
  cases e
  rw [show (⟨b, o, none⟩ : Addr).add j = ⟨b, o + j, none⟩ by unfold Addr.add; split <;> simp_all, hc j hlt]; rw [byteCells_at, List.getElem?_eq_getElem hlt] at hj
  simpa using hj
def Appended (w : World) (v : Value) (l : List UInt8) (v' : Value) (w' : World) : Prop :=
 Row w' v' l ∧ w.grownBy w' (foot v) ∧ (foot v' = foot v ∨ foot v' = none ∨ foot v' = some w.heap.size)
theorem run_append_row {w : World} {v : Value} {l m : List UInt8} (h : Row w v l) {x : Option Addr} {n c : Nat} (hx : BAt w x m) (hn : n = m.length) (hno : x = none → n = 0 ∧ c = 0) (hb : l.length + m.length ≤ 1099511627776) (ty : TypeId) :
  ∃ v' w', (Builtin.append_ #[32, 32] ty #[v, .slice x n c]).run Tryz.prog w = .ok v' w' ∧ Appended w v (l ++ m) v' w' := by
 obtain ⟨i, hi, hz, hs, hby⟩ := info_parts info_u8; have hsrc := src_of hx hn hno; rw [← hs] at hsrc; subst hn; have hml : (Lib.byteCells m).length = m.length := byteCells_len m
 by_cases hm0 : m.length = 0
 ·obtain rfl : m = [] := List.eq_nil_of_length_eq_zero hm0
  obtain ⟨a, c', rfl, hle, _, _, _⟩ := h.shape; refine ⟨_, w, run_append_nothing w 32 32 ty 5 i Tryz.underlying32 hi a l.length c' hle _ (by simpa [Lib.byteCells] using hsrc), ?_, ⟨rfl, rfl, rfl, Nat.le_refl _, fun _ _ _ => rfl⟩, .inl rfl⟩; rw [List.append_nil]; exact h
 ·have grow : ∀ (base : Option Addr) (cap : Nat), cap < l.length + m.length → (Builtin.firstCells i.size l.length (.slice base l.length cap)).run Tryz.prog w.drew = .ok (Lib.byteCells l).toArray w.drew →
    ∃ v' w', (Builtin.append_ #[32, 32] ty #[.slice base l.length cap, .slice x m.length c]).run Tryz.prog w = .ok v' w' ∧ Row w' v' (l ++ m) ∧ w.grownBy w' (foot (.slice base l.length cap)) ∧ foot v' = some w.heap.size := by
   intro base cap hcap hold; have hge := grownCap_ge w (l.length + m.length) cap 5; have hcm : grownCap w (l.length + m.length) cap 5 ≤ maxLen := grownCap_le_maxLen w _ _ _ (by unfold maxLen; omega); have hr := run_append_grow_src w 32 32 ty 5 i (.int .u8 0) Tryz.underlying32 hi hz base l.length cap (Lib.byteCells l) hold (.slice x m.length c) m.length (Lib.byteCells m) hsrc hcap (by omega) (growslice_fits (by omega) (by rw [hby]; omega)); refine ⟨_, _, hr, ?_, ⟨rfl, rfl, rfl, by simp, fun k hk _ => Below.heap_alloc w.drew _ k hk⟩, ?_⟩
   ·obtain ⟨cap', hc'⟩ : ∃ cap', grownCap w (l.length + m.length) cap 5 = cap' + 1 := ⟨grownCap w (l.length + m.length) cap 5 - 1, by omega⟩
    rw [hc'] at hge hcm ⊢; refine .inr ⟨w.heap.size, cap', _, by rw [List.length_append], heap_alloc_new w.drew _, by rw [List.length_append]; exact hge, hcm, ?_, ?_⟩
    ·simp only [Array.size_append, List.size_toArray, size_zeroCells, List.length_append, byteCells_len, Value.cells]
     simp; omega
    ·rw [List.length_append, ← Lib.byteCells_append]
     simp only [Array.toList_append]; rw [← List.length_append, ← byteCells_len (l ++ m)]; exact List.take_left
   ·obtain ⟨cap', hc'⟩ : ∃ cap', grownCap w (l.length + m.length) cap 5 = cap' + 1 := ⟨grownCap w (l.length + m.length) cap 5 - 1, by omega⟩
    rw [hc', foot_succ]
  rcases h with ⟨a, rfl, rfl⟩ | ⟨g, cap, cur, rfl, hh, h1, h2, h3, h4⟩
  ·obtain ⟨v', w', r1, r2, r3, r4⟩ := grow a 0 (by simp; omega) (by
    have e : (Lib.byteCells []).toArray = (#[] : Array Value) := rfl; rw [e]
    cases a with
    | none => exact run_firstCells_none w.drew i.size 0 0 0
    | some ad => exact run_firstCells_some w.drew i.size 0 ad 0 0 [] (by simp) (fun j v hj => by simp at hj))
   exact ⟨v', w', r1, r2, r3, .inr (.inr r4)⟩
  ·by_cases hroom : l.length + m.length ≤ cap + 1
   ·have hfit : l.length * i.size + (Lib.byteCells m).length ≤ cur.size := by rw [hs, hml, h3]; omega
    have hcells : ∀ j, j < cap + 1 → (w.cell? ⟨g, j, none⟩).isSome = true := fun j hj => by
     rw [cell_of_row w g j cur _ _ hh, Array.getElem?_eq_getElem (by omega)]; rfl
    have hfz : ∀ j, w.frozen? ⟨g, j, none⟩ = false := fun j => by simp [World.frozen?, hh]
    have hr : (Builtin.append_ #[32, 32] ty #[.slice (some ⟨g, 0, none⟩) l.length (cap + 1), .slice x m.length c]).run Tryz.prog w = .ok (.slice (some ⟨g, 0, none⟩) (l.length + m.length) (cap + 1)) (w.setRow g (cur.toList.take (l.length * i.size) ++ Lib.byteCells m ++ cur.toList.drop (l.length * i.size + (Lib.byteCells m).length)).toArray) := by
     cases x with
     | none => exact absurd (hno rfl).1 hm0
     | some ad =>
      refine run_append_room w 32 ty 5 i Tryz.underlying32 hi g l.length (cap + 1) cur hh ad m.length c (Lib.byteCells m) (by rw [hs, hml, Nat.mul_one]) (fun j u hj => ?_) (byteCells_one m) hroom hfit
      have hlt : j < m.length := by
       rcases Nat.lt_or_ge j m.length with h' | h'
       ·exact h'
       ·rw [byteCells_at, List.getElem?_eq_none h'] at hj; cases hj
      obtain ⟨b, o, e, _, hc⟩ := hx (by omega)
      cases e
      rw [show (⟨b, o, none⟩ : Addr).add j = ⟨b, o + j, none⟩ by unfold Addr.add; split <;> simp_all, hc j hlt]; rw [byteCells_at, List.getElem?_eq_getElem hlt] at hj
      simpa using hj
    refine ⟨_, _, hr, ?_, ⟨rfl, rfl, rfl, by simp, fun k _ hk => setRow_other w g k _ (fun e => hk (by rw [foot_succ, e]))⟩, .inl rfl⟩; refine .inr ⟨g, cap, _, by rw [List.length_append], setRow_heap w g cur _ _ _ hh, by rw [List.length_append]; exact hroom, h2, ?_, ?_⟩
    ·simp only [List.size_toArray, List.length_append, List.length_take, List.length_drop, Array.length_toList, hml, hs]
     omega
    ·simp only [hs, Nat.mul_one]
     rw [h4, ← Lib.byteCells_append, ← byteCells_len (l ++ m)]; exact List.take_left
   ·obtain ⟨v', w', r1, r2, r3, r4⟩ := grow (some ⟨g, 0, none⟩) (cap + 1) (by omega) (by
     refine run_firstCells_some w.drew i.size l.length ⟨g, 0, none⟩ l.length (cap + 1) (Lib.byteCells l) (by rw [byteCells_len, hs, Nat.mul_one]) (fun j u hj => ?_)
     have hlt : j < l.length := by
      rcases Nat.lt_or_ge j l.length with h' | h'
      ·exact h'
      ·rw [byteCells_at, List.getElem?_eq_none h'] at hj; cases hj
     have e : (cur.toList.take l.length)[j]? = (Lib.byteCells l)[j]? := by rw [h4]
     rw [List.getElem?_take, if_pos hlt] at e
     show w.cell? _ = _
     rw [show (⟨g, 0, none⟩ : Addr).add j = ⟨g, j, none⟩ by unfold Addr.add; split <;> simp_all, cell_of_row w g j cur _ _ hh, ← Array.getElem?_toList, e, hj])
    exact ⟨v', w', r1, r2, r3, .inr (.inr r4)⟩
theorem wpList_append_row {ops : Array Oper} {rest : List Oper} {o : Oper} {a : Act} {w : World} {Q : Exit → Act → World → Prop} (hgd : o.guard = none) (s y : Operand)
  (ho : o.op = .call { callee := .builtin .append, args := #[s, y], argTypes := #[32, 32] })
  (v : Value) (hs : a.eval s = v) (l m : List UInt8) (hrow : Row w v l) (x : Option Addr) (n c : Nat) (hy : a.eval y = .slice x n c) (hx : BAt w x m) (hn : n = m.length) (hno : x = none → n = 0 ∧ c = 0) (hb : l.length + m.length ≤ 1099511627776)
  (h : ∀ v' w', Appended w v (l ++ m) v' w' → wpList Tryz.prog ops Q rest (a.put o.dst v') w') : wpList Tryz.prog ops Q (o :: rest) a w := by
 obtain ⟨v', w', hr, hap⟩ := run_append_row hrow hx hn hno hb o.type
 refine wpList_plain hgd fun K hK => ?_
 unfold Oper.wp execOp; simp only [ho, resolve, invoke, builtin, Sem.run_bind, Sem.run_pure, Result.andThen_ok, List.map_toArray, List.map_cons, List.map_nil, hs, hy, hr]; exact hK _ _ (h v' w' hap)
set_option maxRecDepth 20000
theorem Own_core (ao : Option Addr) (c : Nat) (l : List UInt8) (f : Int) (w : World)
  (hnone : ao = none → l.length = 0 ∧ c = 0) (hcells : ∀ w', Below w.heap.size w w' → ∀ ad, ao = some ad → ∀ j u, (Lib.byteCells l)[j]? = some u → w'.cell? (ad.add j) = some u) (hn : l.length ≤ 1099511627776) :
  Calls Tryz.prog 6 #[.slice ao l.length c, .int .u8 f] w fun e w' => e = .returned (.slice (some ⟨w.heap.size, 0, none⟩) l.length (l.length + 3)) ∧
   w'.ownsRow w.heap.size 5 1 (.slice (some ⟨w.heap.size, 0, none⟩) (l.length + 3) (l.length + 3)) (l.length + 3) (Lib.byteCells l ++ List.replicate 3 (.int .u8 f)) ∧ Below w.heap.size w w' := by
 obtain ⟨i0, hi, hz0, hz1, hz2⟩ := info_parts info5; have HC := hyd hcells; clear hcells; have HN := hyd hnone; clear hnone
 have hbl : (Lib.byteCells l).length = l.length := by simp [Lib.byteCells]
 have HBL := hyd hbl; clear hbl
 go_enter Tryz.func6, Tryz.ntmps6
 go_wp2_with (at_make; refine wpList_make_own _ rfl _ _ 32 rfl w.heap.size 5 i0 (.int .u8 0) 1 Tryz.underlying32 hi hz0 hz1 _ _ _ (l.length + 3) rfl rfl (by omega) ?b2 ?b3 (Nat.le_refl _) ?_)
 case b2 => rw [hz2]; omega
 case b3 => unfold maxLen; omega
 intro w0 hown0 hgrow0; have hb0 : Below w.heap.size w w0 := (Below.refl _ _).grown hgrow0 (Nat.le_refl _) (fun k h => by cases h); have HC0 := hyd (HC.out w0 hb0)
 go_wp2_with (at_builtin; refine wpList_append_fits_any _ rfl _ _ 32 rfl w.heap.size 5 i0 1 Tryz.underlying32 hi hz1 w.heap.size 0 (l.length + 3) _ rfl hown0 ao l.length c (Lib.byteCells l) rfl ?c1 ?c2 ?c3 ?c4 ?c5 ?_)
 case c1 => rw [HBL.out]; omega
 case c2 => exact HN.out
 case c3 => exact HC0.out
 case c4 => intro u hu; simp [Lib.byteCells] at hu; obtain ⟨x, _, rfl⟩ := hu; rfl
 case c5 => omega
 intro w1 hown1 hgrow1; have hb1 : Below w.heap.size w w1 := hb0.grown hgrow1 hb0.size (fun k hk => by cases hk; exact Nat.le_refl _); clear hown0 hgrow0 hgrow1 HC0 hb0
 have hown2 : w1.ownsRow w.heap.size 5 1 (.slice (some ⟨w.heap.size, 0, none⟩) l.length (l.length + 3)) l.length (Lib.byteCells l) := by simpa using hown1
 obtain ⟨ys, hown, hys⟩ := own_full hown2; clear hown2; clear hown1; have HY := hyd hys; clear hys
 go_wp2_with fail
 go_loopw [7] (fun i wr => ∃ (k : Nat) (ys : List Value), l.length ≤ k ∧ k ≤ l.length + 3 ∧ i = .int .i64 k ∧ wr.ownsRow w.heap.size 5 1 (.slice (some ⟨w.heap.size, 0, none⟩) (l.length + 3) (l.length + 3)) (l.length + 3) ys ∧
   ys.take k = Lib.byteCells l ++ List.replicate (k - l.length) (.int .u8 f) ∧ Below w.heap.size w wr) (fun i _ => l.length + 3 - (intOf i).toNat)
 case atStart => exact ⟨l.length, ys, Nat.le_refl _, by omega, rfl, hown, by rw [HY.out]; simp, hb1⟩
 case round =>
  clear hown hb1 HY; obtain ⟨k, ys, hk0, hk, rfl, hown, hys, hbr⟩ := hrel; have HY := hyd hys; clear hys
  by_cases hlt : k < l.length + 3
  ·obtain ⟨y, hy⟩ := own_cell hown k hlt
   have hfz := hown.frozenAt k; obtain ⟨hst, hgr⟩ := hown.stored k (.int .u8 f); have hlen := own_len hown; have HL := hyd hlen; clear hlen; have HS := hyd hst; clear hst; have HG := hyd hgr; clear hgr; go_wp2
   go_roundw
   case rel =>
    refine ⟨k + 1, ys.set k (.int .u8 f), by omega, by omega, by go_num, HS.out, ?_, hbr.grown HG.out hbr.size (fun k hk => by cases hk; exact Nat.le_refl _)⟩; have hl := HL.out; rw [List.take_succ_eq_append_getElem (by simp; omega), List.take_set_of_le (Nat.le_refl _), HY.out, show k + 1 - l.length = (k - l.length) + 1 by omega, List.replicate_succ', List.append_assoc]
    simp
   case measure => simp [intOf]; omega
  ·obtain rfl : k = l.length + 3 := by omega
   go_wp2; go_ret; have hl := own_len hown; have e := HY.out; rw [List.take_of_length_le (by omega), show l.length + 3 - l.length = 3 by omega] at e; rw [e] at hown; exact ⟨rfl, hown, hbr⟩
def OwnAt (w : World) (g : Nat) (l : List UInt8) (f : Int) : Prop :=
 w.ownsRow g 5 1 (.slice (some ⟨g, 0, none⟩) (l.length + 3) (l.length + 3)) (l.length + 3) (Lib.byteCells l ++ List.replicate 3 (.int .u8 f))
theorem OwnAt.keep {w w' : World} {g : Nat} {l : List UInt8} {f : Int} (h : OwnAt w g l f) (hb : Below w.heap.size w w') : OwnAt w' g l f := own_keep h hb
theorem OwnAt.lt {w : World} {g : Nat} {l : List UInt8} {f : Int} (h : OwnAt w g l f) : g < w.heap.size := own_lt h
theorem OwnAt.bat {w : World} {g : Nat} {l : List UInt8} {f : Int} (h : OwnAt w g l f) : BAt w (some ⟨g, 0, none⟩) l := fun hp =>
 ⟨g, 0, rfl, own_lt h, fun i hi => by
  rw [Nat.zero_add, h.cellAt i (by omega), List.getElem?_append_left (by simpa [Lib.byteCells] using hi), byteCells_at]
  simp [hi]⟩
theorem OwnAt.room {w : World} {g : Nat} {l : List UInt8} {f : Int} (h : OwnAt w g l f) (i : Nat) (h0 : l.length ≤ i) (h1 : i < l.length + 3) : w.cell? ⟨g, i, none⟩ = some (.int .u8 f) := by
 have e : (Lib.byteCells l).length = l.length := by simp [Lib.byteCells]
 rw [h.cellAt i (by omega), List.getElem?_append_right (by omega), e, List.getElem?_replicate, if_pos (by omega)]
theorem BAt.cells {w : World} {a : Option Addr} {l : List UInt8} (h : BAt w a l) (ad : Addr) (had : a = some ad) (j : Nat) (u : Value) (hj : (Lib.byteCells l)[j]? = some u) : w.cell? (ad.add j) = some u := by
 have hlt : j < l.length := by
  rcases Nat.lt_or_ge j l.length with h' | h'
  ·exact h'
  ·rw [byteCells_at, List.getElem?_eq_none h'] at hj; cases hj
 obtain ⟨b, o, e, _, hc⟩ := h (by omega); rw [had] at e
 cases e
 rw [show (⟨b, o, none⟩ : Addr).add j = ⟨b, o + j, none⟩ by unfold Addr.add; split <;> simp_all, hc j hlt]; rw [byteCells_at, List.getElem?_eq_getElem hlt] at hj
 simpa using hj
theorem Own_any (a : Option Addr) (n c : Nat) (l : List UInt8) (f : Int) (w : World) (h : BAt w a l) (hnone : a = none → n = 0 ∧ c = 0) (hl : n = l.length) (hn : l.length ≤ 1099511627776) :
  Calls Tryz.prog 6 #[.slice a n c, .int .u8 f] w fun e w' => e = .returned (.slice (some ⟨w.heap.size, 0, none⟩) l.length (l.length + 3)) ∧ OwnAt w' w.heap.size l f ∧ Below w.heap.size w w' := by
 subst hl; exact Own_core a c l f w hnone (fun w' hb => (h.keep hb).cells) hn
end Go.Proofs.YtnbcbiglkmdepaaGreatDoor
