/-
  Texts that belong together, one behind the other.
-/
import Derived.Maps.Range
import Derived.Maps.OwnIn
import Derived.MapKept
import Derived.ChangeMaps5
import Derived.WalkKit
import Derived.Lib.ValidLaws
import Derived.Laws.Entries
import Derived.Laws.BitsAllLaws
import Derived.Laws.RangeAny
import Derived.Lib.MapLaws
import Derived.Test.YtnbcbiglkmdepaaGreatDoorFu01
import Derived.Lib.Hide
import Derived.Deep.RegionHeld3
import Derived.Lib.Bytes
import Derived.IntWalk
import Derived.WalkSmall
import Derived.BigFrame
set_option maxHeartbeats 64000000
set_option linter.unusedVariables false
set_option linter.unusedSimpArgs false
namespace Go.Proofs.YtnbcbiglkmdepaaGreatDoor
open Go.Maps Go.MapKept Go.ChangeMaps
open Go.WideElems (Fit rd rg rd_mk rg_of)
def MapAt (w : World) (b : Nat) (M : List (Value × Value)) : Prop :=
 ∃ es clock, w.heap[b]? = some (.map es clock) ∧ Stamped es clock ∧ es.size ≤ maxLen ∧ es.toList.map (fun e => (e.key, e.val)) = M
variable {P : Program} {k e t : TypeId} {w : World} {b : Nat} {M : List (Value × Value)}
theorem MapAt.keep {u : World} (h : MapAt w b M) (hb : u.heap[b]? = w.heap[b]?) : MapAt u b M := by
 obtain ⟨es, clock, h1, h2, h3, h4⟩ := h; exact ⟨es, clock, hb.trans h1, h2, h3, h4⟩
theorem MapAt.lt (h : MapAt w b M) : b < w.heap.size := by
 obtain ⟨es, clock, h1, h2, h3, h4⟩ := h; exact (Array.getElem?_eq_some_iff.1 h1).1
theorem MapAt.made (w : World) : MapAt (w.alloc (.map #[] 0)) w.heap.size [] := ⟨#[], 0, (MapKept.heap_alloc w _).1, stamped_empty 0, Nat.zero_le _, rfl⟩
theorem MapAt.key_mem {es : Array MapEntry} (h4 : es.toList.map (fun e => (e.key, e.val)) = M) {x : MapEntry} (hx : x ∈ es.toList) : (x.key, x.val) ∈ M := by
 rw [← h4]; exact List.mem_map.2 ⟨x, hx, rfl⟩
theorem MapAt.look_some (h : MapAt w b M) (K : Keyed P k) (ht : P.underlying t = some (.map k e)) (hk : ∀ m ∈ M, ∃ l, keyOf P k m.1 = some l) {key v : Value} (hm : (key, v) ∈ M) :
  (Instr.lookup t (.map (some b)) key true).run P w = .ok (.tuple #[v, .bool true]) w := by
 obtain ⟨es, clock, h1, h2, h3, h4⟩ := h; obtain ⟨l, hl⟩ := hk _ hm
 have hks : ∀ x ∈ es.toList, ∃ l, keyOf P k x.key = some l := fun x hx => hk _ (MapAt.key_mem h4 hx)
 rw [← h4] at hm; obtain ⟨x, hx, hxe⟩ := List.mem_map.1 hm; obtain ⟨rfl, rfl⟩ := Prod.mk.inj hxe
 rcases K.find w hl es.toList hks with ⟨_, h6⟩ | ⟨j, e0, h5, h6, h7⟩
 ·exact absurd rfl (h6 x hx)
 ·have he : e0 = x := entry_eq_of_key ((stamped_iff es clock).1 h2).2.2 (List.mem_of_getElem? h6) hx h7
  subst he
  simp [Instr.lookup, run_underlying ht, MapKept.run_getObj_map h1, K.check w _ hl, h5, Result.andThen]
theorem MapAt.look_none (h : MapAt w b M) (K : Keyed P k) (ht : P.underlying t = some (.map k e)) {z : Value} (hz : (zeroValue e).run P w = .ok z w) (hk : ∀ m ∈ M, ∃ l, keyOf P k m.1 = some l) {key : Value} {l : Lit} (hl : keyOf P k key = some l) (hm : ∀ m ∈ M, m.1 ≠ key) :
  (Instr.lookup t (.map (some b)) key true).run P w = .ok (.tuple #[z, .bool false]) w := by
 obtain ⟨es, clock, h1, h2, h3, h4⟩ := h
 have hks : ∀ x ∈ es.toList, ∃ l, keyOf P k x.key = some l := fun x hx => hk _ (MapAt.key_mem h4 hx)
 rcases K.find w hl es.toList hks with ⟨h5, _⟩ | ⟨j, e0, h5, h6, h7⟩
 ·simp [Instr.lookup, run_underlying ht, MapKept.run_getObj_map h1, K.check w _ hl, h5, hz, Result.andThen]
 ·exact absurd h7 (hm _ (MapAt.key_mem h4 (List.mem_of_getElem? h6)))
theorem look_nilMap (K : Keyed P k) (ht : P.underlying t = some (.map k e)) {z : Value} (hz : (zeroValue e).run P w = .ok z w) {key : Value} {l : Lit} (hl : keyOf P k key = some l) :
  (Instr.lookup t (.map none) key true).run P w = .ok (.tuple #[z, .bool false]) w := by
 rcases K.find w hl [] (fun x hx => by cases hx) with ⟨h5, _⟩ | ⟨j, e0, h5, h6, h7⟩
 ·simp [Instr.lookup, run_underlying ht, K.check w _ hl, h5, hz, Result.andThen]
 ·simp at h6
theorem MapAt.put (h : MapAt w b M) (K : Keyed P k) (ht : P.underlying t = some (.map k e)) (hk : ∀ m ∈ M, ∃ l, keyOf P k m.1 = some l) {key v : Value} {l : Lit} (hl : keyOf P k key = some l) (hm : ∀ m ∈ M, m.1 ≠ key) (hr : M.length < maxLen) :
  ∃ w', (Instr.mapUpdate t (.map (some b)) key v).run P w = .ok () w' ∧ MapAt w' b (M ++ [(key, v)]) ∧ w.grownBy w' (some b) ∧ w'.heap.size = w.heap.size := by
 obtain ⟨es, clock, h1, h2, h3, h4⟩ := h
 have hks : ∀ x ∈ es.toList, ∃ l, keyOf P k x.key = some l := fun x hx => hk _ (MapAt.key_mem h4 hx)
 have hne : ∀ x ∈ es.toList, x.key ≠ key := fun x hx => hm _ (MapAt.key_mem h4 hx)
 have hsz : es.size = M.length := by rw [← h4, List.length_map, Array.length_toList]
 rcases K.find w hl es.toList hks with ⟨h5, _⟩ | ⟨j, e0, h5, h6, h7⟩
 ·refine ⟨setBlock w b (.map (es.push ⟨key, v, clock⟩) (clock + 1)), ?_, ⟨_, _, heap_setBlock_same h1 _, stamped_push h2 hne, by rw [Array.size_push]; omega, by rw [Array.toList_push, List.map_append, h4]; rfl⟩, ⟨rfl, rfl, rfl, by simp [setBlock], fun i _ hi => heap_setBlock_other h1 _ (fun e => hi (by rw [e]))⟩, by simp [setBlock]⟩
  simp [Instr.mapUpdate, run_underlying ht, MapKept.run_getObj_map h1, K.check w false hl, h5, MapKept.run_setObj_map _ h1, Result.andThen, setBlock]
 ·exact absurd h7 (hne _ (List.mem_of_getElem? h6))
theorem MapAt.length (h : MapAt w b M) (ht : P.underlying t = some (.map k e)) (ty : TypeId) : (Builtin.len_ #[t] ty #[.map (some b)]).run P w = .ok (goInt M.length) w := by
 obtain ⟨es, clock, h1, h2, h3, h4⟩ := h
 have hsz : es.size = M.length := by rw [← h4, List.length_map, Array.length_toList]
 rw [← hsz]; exact run_len_map w t ty b es clock (by simp [Program.mapKeyOf, Program.mapElemOf, ht]) h1
def anyElem (v : Value) : Option (DataW Unit × List MemPlace) := some (.lit (.bool true), [])
theorem MapAt.fit (h : MapAt w b M) (hk : ∀ m ∈ M, ∃ l, keyOf P k m.1 = some l) : ∃ es clock, w.heap[b]? = some (.map es clock) ∧ Fit P k anyElem es clock ∧ es.size = M.length ∧ es.toList.map (fun e => (e.key, e.val)) = M := by
 obtain ⟨es, clock, h1, h2, h3, h4⟩ := h
 have hsz : es.size = M.length := by rw [← h4, List.length_map, Array.length_toList]
 refine ⟨es, clock, h1, ⟨h3, h2, fun x hx => ?_⟩, hsz, h4⟩; obtain ⟨l, hl⟩ := hk _ (MapAt.key_mem h4 hx); exact ⟨_, rd_mk hl rfl⟩
theorem MapAt.owns (h : MapAt w b M) (K : Keyed P k) (hk : ∀ m ∈ M, ∃ l, keyOf P k m.1 = some l) :
  ∃ D : DataW Unit, w.ownsMap P k anyElem b M.length D ∧ Maps.size D = M.length ∧ ∀ key l, keyOf P k key = some l → (Maps.has D l = true ↔ ∃ m ∈ M, m.1 = key) := by
 obtain ⟨es, clock, h1, F, hsz, h4⟩ := h.fit hk; refine ⟨_, ⟨es, clock, h1, F, Nat.le_of_eq hsz, rfl⟩, ?_, fun key l hl => ?_⟩
 ·simp [Maps.size, length_sorted, hsz]
 ·constructor
  ·intro hh
   obtain ⟨p, hp, hpk⟩ := List.any_eq_true.1 hh; obtain ⟨x, hx, rfl⟩ := List.mem_map.1 (mem_sorted.1 hp); obtain ⟨lx, hlx⟩ := hk _ (MapAt.key_mem h4 hx)
   have e1 : (rg P k anyElem x).1 = lx := by rw [rg_of (rd_mk hlx rfl)]
   have e2 := WideAt.sameKey_eq hpk; rw [e1] at e2; subst e2; exact ⟨_, MapAt.key_mem h4 hx, K.inj hlx hl⟩
  ·rintro ⟨m, hm, rfl⟩
   rw [← h4] at hm; obtain ⟨x, hx, rfl⟩ := List.mem_map.1 hm; refine List.any_eq_true.2 ⟨rg P k anyElem x, mem_sorted.2 (List.mem_map.2 ⟨x, hx, rfl⟩), ?_⟩; rw [rg_of (rd_mk hl rfl)]; exact WideAt.sameKey_self (K.key hl)
end Go.Proofs.YtnbcbiglkmdepaaGreatDoor
namespace Go.Proofs.YtnbcbiglkmdepaaGreatDoor
def splitL : List UInt8 → List (List UInt8)
 | [] => [[]]
 | c :: r => if c.toNat = 47 then [] :: splitL r else
   match splitL r with
   | [] => [[c]]
   | n :: m => (c :: n) :: m
def lowB (c : UInt8) : UInt8 := if 65 ≤ c.toNat ∧ c.toNat ≤ 90 then UInt8.ofNat (c.toNat + 32) else c
def nameL (l : List UInt8) : Bool := !(l == []) && !(l == [46]) && !(l == [46, 46]) && !(l.map lowB == [46, 103, 105, 116])
def pathL (l : List UInt8) : Bool :=
 decide (1 ≤ l.length) && decide (l.length ≤ 400) && Lib.validD l && !l.any (fun c => c.toNat == 0) && decide ((splitL l).length ≤ 16) && (splitL l).all nameL
theorem split_slash (c : UInt8) (r : List UInt8) (h : c.toNat = 47) : splitL (c :: r) = [] :: splitL r := by
 rw [splitL.eq_def]; simp only [if_pos h]
theorem split_other (c : UInt8) (r n : List UInt8) (m : List (List UInt8)) (h : c.toNat ≠ 47) (hr : splitL r = n :: m) : splitL (c :: r) = (c :: n) :: m := by
 rw [splitL.eq_def]; simp only [if_neg h, hr]
theorem split_ne (l : List UInt8) : splitL l ≠ [] := by
 cases l with
 | nil => simp [splitL]
 | cons c r =>
  rw [splitL.eq_def]; simp only
  split
  ·simp
  ·split <;> simp
theorem split_form (l : List UInt8) : ∃ n m, splitL l = n :: m := by
 cases h : splitL l with
 | nil => exact absurd h (split_ne l)
 | cons n m => exact ⟨n, m, rfl⟩
theorem split_none : ∀ (x : List UInt8), (∀ c ∈ x, c.toNat ≠ 47) → splitL x = [x]
 | [], _ => rfl
 | c :: r, h => split_other c r r [] (h c (by simp)) (split_none r (fun d hd => h d (by simp [hd])))
theorem split_at (y : List UInt8) (z : UInt8) (hz : z.toNat = 47) : ∀ (x : List UInt8), (∀ c ∈ x, c.toNat ≠ 47) → splitL (x ++ z :: y) = x :: splitL y
 | [], _ => split_slash z y hz
 | c :: r, h => split_other c (r ++ z :: y) r (splitL y) (h c (by simp)) (split_at y z hz r (fun d hd => h d (by simp [hd])))
theorem drop_at (l : List UInt8) (i : Nat) (h : i < l.length) : l.drop i = l.getD i 0 :: l.drop (i + 1) := by
 rw [List.drop_eq_getElem_cons h, List.getD_eq_getElem?_getD, List.getElem?_eq_getElem h]; rfl
theorem getD_mem (l : List UInt8) (i : Nat) (h : i < l.length) : l.getD i 0 ∈ l := by
 rw [List.getD_eq_getElem?_getD, List.getElem?_eq_getElem h]; exact List.getElem_mem h
structure PathAt (l : List UInt8) (from_ n : Nat) : Prop where
 le : from_ ≤ l.length
 pos : 1 ≤ n
 split : ∃ done, done.length + 1 = n ∧ done.all nameL = true ∧ splitL l = done ++ splitL (l.drop from_)
theorem PathAt.start (l : List UInt8) : PathAt l 0 1 := ⟨Nat.zero_le _, Nat.le_refl _, [], rfl, rfl, rfl⟩
def cutL (l : List UInt8) (a b : Nat) : List UInt8 := (l.drop a).take (b - a)
theorem cut_split (l : List UInt8) (a i : Nat) (ha : a ≤ i) (hi : i < l.length) (h : ∀ j, a ≤ j → j < i → (l.getD j 0).toNat ≠ 47) (hs : (l.getD i 0).toNat = 47) : splitL (l.drop a) = cutL l a i :: splitL (l.drop (i + 1)) := by
 have e : l.drop a = cutL l a i ++ l.getD i 0 :: l.drop (i + 1) := by
  rw [← drop_at l i hi]; unfold cutL; have := List.take_append_drop (i - a) (l.drop a); rw [List.drop_drop, show a + (i - a) = i by omega] at this; exact this.symm
 rw [e]; refine split_at _ _ hs _ (fun c hc => ?_); unfold cutL at hc; obtain ⟨j, hj, rfl⟩ := List.getElem_of_mem hc
 have hj2 : j < i - a := by simp at hj; omega
 have := h (a + j) (by omega) (by omega); rw [List.getElem_take, List.getElem_drop]
 rwa [List.getD_eq_getElem?_getD, List.getElem?_eq_getElem (by omega)] at this
theorem cut_last (l : List UInt8) (a : Nat) (ha : a ≤ l.length) (h : ∀ j, a ≤ j → j < l.length → (l.getD j 0).toNat ≠ 47) : splitL (l.drop a) = [cutL l a l.length] := by
 have e : l.drop a = cutL l a l.length := by unfold cutL; rw [List.take_of_length_le (by simp)]
 rw [← e]; refine split_none _ (fun c hc => ?_); obtain ⟨j, hj, rfl⟩ := List.getElem_of_mem hc
 have hj2 : a + j < l.length := by simp at hj; omega
 have := h (a + j) (by omega) hj2; rw [List.getElem_drop]
 rwa [List.getD_eq_getElem?_getD, List.getElem?_eq_getElem hj2] at this
theorem PathAt.next {l : List UInt8} {a n i : Nat} (p : PathAt l a n) (ha : a ≤ i) (hi : i < l.length) (h : ∀ j, a ≤ j → j < i → (l.getD j 0).toNat ≠ 47) (hs : (l.getD i 0).toNat = 47) (hn : nameL (cutL l a i) = true) : PathAt l (i + 1) (n + 1) where
 le := hi
 pos := by omega
 split := by
  obtain ⟨d, h1, h2, h3⟩ := p.split; refine ⟨d ++ [cutL l a i], by simp; omega, by simp [h2, hn], ?_⟩; rw [h3, cut_split l a i ha hi h hs]; simp
theorem PathAt.bad {l : List UInt8} {a n i : Nat} (p : PathAt l a n) (ha : a ≤ i) (hi : i ≤ l.length) (h : ∀ j, a ≤ j → j < i → (l.getD j 0).toNat ≠ 47) (hs : i < l.length → (l.getD i 0).toNat = 47) (hn : nameL (cutL l a i) = false) : pathL l = false := by
 obtain ⟨d, h1, h2, h3⟩ := p.split; unfold pathL; rw [h3]
 by_cases he : i < l.length
 ·rw [cut_split l a i ha he h (hs he)]; simp [hn]
 ·obtain rfl : i = l.length := by omega
  rw [cut_last l a p.le h]; simp [hn]
theorem PathAt.fin {l : List UInt8} {a n : Nat} (p : PathAt l a n) (h : ∀ j, a ≤ j → j < l.length → (l.getD j 0).toNat ≠ 47) (hn : nameL (cutL l a l.length) = true) (h1 : 1 ≤ l.length) (h2 : l.length ≤ 400) (h3 : Lib.validD l = true) (h4 : ∀ j, j < l.length → (l.getD j 0).toNat ≠ 0) :
  pathL l = decide (n ≤ 16) := by
 obtain ⟨d, e1, e2, e3⟩ := p.split
 have e4 : l.any (fun c => c.toNat == 0) = false := by
  rw [List.any_eq_false]; intro c hc; obtain ⟨j, hj, rfl⟩ := List.getElem_of_mem hc; have := h4 j hj; rw [List.getD_eq_getElem?_getD, List.getElem?_eq_getElem hj] at this
  simpa using this
 unfold pathL; rw [e3, cut_last l a p.le h, h3, e4]
 simp [e2, hn, h1, h2, ← e1]
theorem zero_bad (l : List UInt8) (i : Nat) (hi : i < l.length) (h : (l.getD i 0).toNat = 0) : pathL l = false := by
 have e : l.any (fun c => c.toNat == 0) = true := List.any_eq_true.2 ⟨_, getD_mem l i hi, by simpa using h⟩; unfold pathL; rw [e]; simp
theorem decodeN_wide (n b0 b1 b2 b3 : Nat) (h0 : 128 ≤ b0) (hn : 1 ≤ n) :
  128 ≤ (Lib.decodeN n b0 b1 b2 b3).1 ∧ 1 ≤ (Lib.decodeN n b0 b1 b2 b3).2 ∧ (Lib.decodeN n b0 b1 b2 b3).2 ≤ n ∧ (Lib.decodeN n b0 b1 b2 b3).2 ≤ 4 ∧
  (1 < (Lib.decodeN n b0 b1 b2 b3).2 → 128 ≤ b1) ∧ (2 < (Lib.decodeN n b0 b1 b2 b3).2 → 128 ≤ b2) ∧ (3 < (Lib.decodeN n b0 b1 b2 b3).2 → 128 ≤ b3) := by
 unfold Lib.decodeN; rw [if_neg (by omega)]
 split
 ·split
  ·refine ⟨?_, ?_, ?_, ?_, ?_, ?_, ?_⟩ <;> simp only <;> omega
  ·refine ⟨?_, ?_, ?_, ?_, ?_, ?_, ?_⟩ <;> simp only <;> omega
 ·split
  ·split
   ·refine ⟨?_, ?_, ?_, ?_, ?_, ?_, ?_⟩ <;> simp only <;> omega
   ·refine ⟨?_, ?_, ?_, ?_, ?_, ?_, ?_⟩ <;> simp only <;> omega
  ·split
   ·split
    ·refine ⟨?_, ?_, ?_, ?_, ?_, ?_, ?_⟩ <;> simp only <;> omega
    ·refine ⟨?_, ?_, ?_, ?_, ?_, ?_, ?_⟩ <;> simp only <;> omega
   ·refine ⟨?_, ?_, ?_, ?_, ?_, ?_, ?_⟩ <;> simp only <;> omega
theorem rune_at (l : List UInt8) (i : Nat) (hi : i < l.length) :
  ((l.getD i 0).toNat < 128 ∧ Utf8.decode ⟨l.toArray⟩ i = ((l.getD i 0).toNat, 1)) ∨
  (128 ≤ (l.getD i 0).toNat ∧ 128 ≤ (Utf8.decode ⟨l.toArray⟩ i).1 ∧ (Utf8.decode ⟨l.toArray⟩ i).1 ≤ 2147483647 ∧ 1 ≤ (Utf8.decode ⟨l.toArray⟩ i).2 ∧ (Utf8.decode ⟨l.toArray⟩ i).2 ≤ 4 ∧ i + (Utf8.decode ⟨l.toArray⟩ i).2 ≤ l.length ∧
   ∀ j, i ≤ j → j < i + (Utf8.decode ⟨l.toArray⟩ i).2 → 128 ≤ (l.getD j 0).toNat) := by
 have e : Utf8.decode ⟨l.toArray⟩ i = Lib.decodeN (l.length - i) (l.getD i 0).toNat (l.getD (i + 1) 0).toNat (l.getD (i + 2) 0).toNat (l.getD (i + 3) 0).toNat := Lib.decode_N ⟨l.toArray⟩ i
 by_cases h : (l.getD i 0).toNat < 128
 ·left
  refine ⟨h, ?_⟩; rw [e]; unfold Lib.decodeN; rw [if_pos h]
 ·right
  have w := decodeN_wide (l.length - i) (l.getD i 0).toNat (l.getD (i + 1) 0).toNat (l.getD (i + 2) 0).toNat (l.getD (i + 3) 0).toNat (by omega) (by omega); have le := decode_le ⟨l.toArray⟩ i; rw [e] at le ⊢; obtain ⟨w1, w2, w3, w4, w5, w6, w7⟩ := w; refine ⟨by omega, w1, le, w2, w4, by omega, fun j h1 h2 => ?_⟩
  obtain h3 | h3 | h3 | h3 : j = i ∨ j = i + 1 ∨ j = i + 2 ∨ j = i + 3 := by omega
  ·subst h3; omega
  ·subst h3; exact w5 (by omega)
  ·subst h3; exact w6 (by omega)
  ·subst h3; exact w7 (by omega)
theorem decodeN_same (L M b0 b1 b2 b3 c1 c2 c3 : Nat) (h : ¬ ((Lib.decodeN L b0 b1 b2 b3).1 = 65533 ∧ (Lib.decodeN L b0 b1 b2 b3).2 = 1)) (hM : (Lib.decodeN L b0 b1 b2 b3).2 ≤ M)
  (h1 : 1 < (Lib.decodeN L b0 b1 b2 b3).2 → c1 = b1) (h2 : 2 < (Lib.decodeN L b0 b1 b2 b3).2 → c2 = b2) (h3 : 3 < (Lib.decodeN L b0 b1 b2 b3).2 → c3 = b3) :
  Lib.decodeN M b0 c1 c2 c3 = Lib.decodeN L b0 b1 b2 b3 := by
 unfold Lib.decodeN at h hM h1 h2 h3 ⊢
 by_cases a : b0 < 128
 ·simp only [if_pos a]
 ·simp only [if_neg a] at h hM h1 h2 h3 ⊢
  by_cases b : b0 / 32 = 6 ∧ (1 < L ∧ b1 / 64 = 2)
  ·simp only [if_pos b] at h hM h1 h2 h3 ⊢
   by_cases c : b0 % 32 * 64 + b1 % 64 ≥ 128
   ·simp only [if_pos c] at h hM h1 h2 h3 ⊢
    have e1 := h1 (by omega); subst e1; rw [if_pos ⟨b.1, by omega, b.2.2⟩, if_pos c]
   ·simp only [if_neg c] at h
    exact absurd (And.intro trivial trivial) h
  ·simp only [if_neg b] at h hM h1 h2 h3 ⊢
   by_cases d : b0 / 16 = 14 ∧ (1 < L ∧ b1 / 64 = 2) ∧ (2 < L ∧ b2 / 64 = 2)
   ·simp only [if_pos d] at h hM h1 h2 h3 ⊢
    by_cases c : b0 % 16 * 4096 + b1 % 64 * 64 + b2 % 64 ≥ 2048 ∧ (b0 % 16 * 4096 + b1 % 64 * 64 + b2 % 64 < 55296 ∨ (57344 ≤ b0 % 16 * 4096 + b1 % 64 * 64 + b2 % 64 ∧ b0 % 16 * 4096 + b1 % 64 * 64 + b2 % 64 ≤ 1114111))
    ·simp only [if_pos c] at h hM h1 h2 h3 ⊢
     have e1 := h1 (by omega); have e2 := h2 (by omega); subst e1; subst e2; rw [if_neg (by omega), if_pos ⟨d.1, ⟨by omega, d.2.1.2⟩, by omega, d.2.2.2⟩, if_pos c]
    ·simp only [if_neg c] at h
     exact absurd (And.intro trivial trivial) h
   ·simp only [if_neg d] at h hM h1 h2 h3 ⊢
    by_cases f : b0 / 8 = 30 ∧ (1 < L ∧ b1 / 64 = 2) ∧ (2 < L ∧ b2 / 64 = 2) ∧ (3 < L ∧ b3 / 64 = 2)
    ·simp only [if_pos f] at h hM h1 h2 h3 ⊢
     by_cases c : b0 % 8 * 262144 + b1 % 64 * 4096 + b2 % 64 * 64 + b3 % 64 ≥ 65536 ∧ (b0 % 8 * 262144 + b1 % 64 * 4096 + b2 % 64 * 64 + b3 % 64 < 55296 ∨ (57344 ≤ b0 % 8 * 262144 + b1 % 64 * 4096 + b2 % 64 * 64 + b3 % 64 ∧ b0 % 8 * 262144 + b1 % 64 * 4096 + b2 % 64 * 64 + b3 % 64 ≤ 1114111))
     ·simp only [if_pos c] at h hM h1 h2 h3 ⊢
      have e1 := h1 (by omega); have e2 := h2 (by omega); have e3 := h3 (by omega); subst e1; subst e2; subst e3; rw [if_neg (by omega), if_neg (by omega), if_pos ⟨f.1, ⟨by omega, f.2.1.2⟩, ⟨by omega, f.2.2.1.2⟩, by omega, f.2.2.2.2⟩, if_pos c]
     ·simp only [if_neg c] at h
      exact absurd (And.intro trivial trivial) h
    ·simp only [if_neg f] at h
     exact absurd (And.intro trivial trivial) h
theorem decodeL_N (l : List UInt8) : Lib.decodeL l = Lib.decodeN l.length (l.getD 0 0).toNat (l.getD 1 0).toNat (l.getD 2 0).toNat (l.getD 3 0).toNat := by
 have := Lib.decode_N ⟨l.toArray⟩ 0
 simpa [Lib.decodeL] using this
def goodL (l : List UInt8) : Prop := ¬ ((Lib.decodeL l).1 = 65533 ∧ (Lib.decodeL l).2 = 1)
instance (l : List UInt8) : Decidable (goodL l) := by unfold goodL; exact inferInstance
def widL (l : List UInt8) : Nat := (Lib.decodeL l).2
theorem wid_pos (l : List UInt8) : 1 ≤ widL l := Lib.decodeL_width l
theorem wid_le (l : List UInt8) (h : l ≠ []) : widL l ≤ l.length := Lib.decodeL_le l h
theorem good_take (l t : List UInt8) (h : l ≠ []) (hg : goodL l) : Lib.decodeL (l.take (widL l) ++ t) = Lib.decodeL l := by
 have hp := wid_pos l; have hle := wid_le l h
 have e : ∀ i, i < widL l → (l.take (widL l) ++ t).getD i 0 = l.getD i 0 := fun i hi => by
  rw [List.getD_eq_getElem?_getD, List.getD_eq_getElem?_getD, List.getElem?_append_left (by rw [List.length_take]; omega), List.getElem?_take, if_pos hi]
 unfold goodL at hg
 unfold widL at *
 rw [decodeL_N l] at hg hp hle e ⊢; rw [decodeL_N (_ ++ t), e 0 (by omega)]; refine decodeN_same _ _ _ _ _ _ _ _ _ hg (by rw [List.length_append, List.length_take]; omega) (fun h1 => by rw [e 1 h1]) (fun h2 => by rw [e 2 h2]) (fun h3 => by rw [e 3 h3])
def barB (c : UInt8) : Bool := c.toNat == 0 || c.toNat == 10 || c.toNat == 60 || c.toNat == 62
structure Rune (g : List UInt8) : Prop where
 ne : g ≠ []
 wid : ∀ t, widL (g ++ t) = g.length
 good : ∀ t, goodL (g ++ t)
 bar : ∀ c ∈ g, barB c = false
 low : (∃ c : UInt8, g = [c] ∧ c.toNat < 128) ∨ ∀ c ∈ g, 128 ≤ c.toNat
def keepL (l : List UInt8) : Prop := goodL l ∧ ¬ (widL l = 1 ∧ barB (l.getD 0 0) = true)
instance (l : List UInt8) : Decidable (keepL l) := by unfold keepL; exact inferInstance
theorem wid_high (l : List UInt8) (h : l ≠ []) (h0 : 128 ≤ (l.getD 0 0).toNat) (hg : goodL l) : ∀ c ∈ l.take (widL l), 128 ≤ c.toNat := by
 have hr := rune_at l 0 (by cases l with | nil => exact absurd rfl h | cons _ _ => simp)
 rcases hr with ⟨h1, _⟩ | ⟨_, _, _, _, _, h5, h6⟩
 ·omega
 ·intro c hc
  obtain ⟨i, hi, rfl⟩ := List.getElem_of_mem hc; rw [List.length_take] at hi; have := h6 i (Nat.zero_le _) (by show i < 0 + (Lib.decodeL l).2; rw [Nat.zero_add]; exact Nat.lt_of_lt_of_le hi (Nat.min_le_left _ _)); rw [List.getElem_take]; rw [List.getD_eq_getElem?_getD, List.getElem?_eq_getElem (by omega)] at this
  simpa using this
theorem wid_low (l : List UInt8) (h : l ≠ []) (h0 : (l.getD 0 0).toNat < 128) : widL l = 1 := by
 unfold widL; rw [decodeL_N]; unfold Lib.decodeN; rw [if_pos h0]
theorem good_high (l : List UInt8) (h : l ≠ []) (h0 : 128 ≤ (l.getD 0 0).toNat) (hg : goodL l) : 1 < widL l := by
 unfold goodL at hg; unfold widL; rw [decodeL_N] at hg ⊢; unfold Lib.decodeN at hg ⊢; rw [if_neg (by omega)] at hg ⊢
 split
 ·split
  ·simp
  ·rename_i a b; simp only [if_pos a, if_neg b] at hg; exact absurd (And.intro trivial trivial) hg
 ·split
  ·split
   ·simp
   ·rename_i x a b; simp only [if_neg x, if_pos a, if_neg b] at hg; exact absurd (And.intro trivial trivial) hg
  ·split
   ·split
    ·simp
    ·rename_i x y a b; simp only [if_neg x, if_neg y, if_pos a, if_neg b] at hg; exact absurd (And.intro trivial trivial) hg
   ·rename_i x y a; simp only [if_neg x, if_neg y, if_neg a] at hg; exact absurd (And.intro trivial trivial) hg
theorem rune_of (l : List UInt8) (h : l ≠ []) (hk : keepL l) : Rune (l.take (widL l)) := by
 have hp := wid_pos l; have hle := wid_le l h
 have hlen : (l.take (widL l)).length = widL l := by rw [List.length_take]; omega
 have hd := fun t => good_take l t h hk.1
 refine ⟨fun e => by rw [e] at hlen; simp at hlen; omega, fun t => by rw [hlen]; unfold widL; rw [show (Lib.decodeL l).2 = widL l from rfl, hd t]; rfl, fun t => by unfold goodL; rw [hd t]; exact hk.1, ?_, ?_⟩
 ·by_cases h0 : (l.getD 0 0).toNat < 128
  ·have h1 := wid_low l h h0
   have hb : barB (l.getD 0 0) = false := by
    cases hb : barB (l.getD 0 0) with
    | false => rfl
    | true => exact absurd ⟨h1, hb⟩ hk.2
   intro c hc; rw [h1] at hc
   cases l with
   | nil => exact absurd rfl h
   | cons x r => simp at hc; subst hc; simpa using hb
  ·intro c hc
   have := wid_high l h (by omega) hk.1 c hc; unfold barB
   simp
   omega
 ·by_cases h0 : (l.getD 0 0).toNat < 128
  ·left
   have h1 := wid_low l h h0
   cases l with
   | nil => exact absurd rfl h
   | cons x r => exact ⟨x, by rw [h1]; rfl, by simpa using h0⟩
  ·right; exact wid_high l h (by omega) hk.1
def piecesN : Nat → List UInt8 → List (List UInt8)
 | 0, _ => []
 | n + 1, l => if l = [] then [] else if keepL l then l.take (widL l) :: piecesN n (l.drop (widL l)) else piecesN n (l.drop (widL l))
def pieces (l : List UInt8) : List (List UInt8) := piecesN l.length l
theorem pieces_fuel : ∀ (n m : Nat) (l : List UInt8), l.length ≤ n → l.length ≤ m → piecesN n l = piecesN m l
 | 0, 0, _, _, _ => rfl
 | 0, m + 1, l, h, _ => by
  have e : l = [] := List.eq_nil_of_length_eq_zero (by omega)
  simp [piecesN, e]
 | n + 1, 0, l, _, h => by
  have e : l = [] := List.eq_nil_of_length_eq_zero (by omega)
  simp [piecesN, e]
 | n + 1, m + 1, l, h1, h2 => by
  by_cases e : l = []
  ·simp [piecesN, e]
  ·have hp := wid_pos l
   have ih := pieces_fuel n m (l.drop (widL l)) (by rw [List.length_drop]; omega) (by rw [List.length_drop]; omega); unfold piecesN; rw [if_neg e, if_neg e, ih]
theorem pieces_nil : pieces [] = [] := rfl
theorem pieces_step (l : List UInt8) (h : l ≠ []) : pieces l = if keepL l then l.take (widL l) :: pieces (l.drop (widL l)) else pieces (l.drop (widL l)) := by
 have hp := wid_pos l
 have hl : 1 ≤ l.length := by cases l with | nil => exact absurd rfl h | cons _ _ => simp
 obtain ⟨n, hn⟩ : ∃ n, l.length = n + 1 := ⟨l.length - 1, by omega⟩; have e : piecesN n (l.drop (widL l)) = pieces (l.drop (widL l)) := pieces_fuel _ _ _ (by rw [List.length_drop]; omega) (Nat.le_refl _); rw [← e]; unfold pieces; rw [hn]
 conv => lhs; unfold piecesN
 rw [if_neg h]
theorem pieces_rune : ∀ (n : Nat) (l : List UInt8), l.length ≤ n → ∀ g ∈ pieces l, Rune g
 | 0, l, h => by
  have e : l = [] := List.eq_nil_of_length_eq_zero (by omega); rw [e, pieces_nil]; intro g hg; cases hg
 | n + 1, l, h => by
  by_cases e : l = []
  ·rw [e, pieces_nil]; intro g hg; cases hg
  ·have hp := wid_pos l
   have ih := pieces_rune n (l.drop (widL l)) (by rw [List.length_drop]; omega); rw [pieces_step l e]
   split
   ·rename_i hk
    intro g hg
    rcases List.mem_cons.1 hg with rfl | hg
    ·exact rune_of l e hk
    ·exact ih g hg
   ·exact ih
theorem valid_flatten : ∀ (gs : List (List UInt8)), (∀ g ∈ gs, Rune g) → Lib.validD gs.flatten = true
 | [], _ => rfl
 | g :: r, h => by
  have hg := h g (by simp)
  have hne : g ++ r.flatten ≠ [] := fun e => hg.ne (List.append_eq_nil_iff.1 e).1
  rw [List.flatten_cons, Lib.validD_step _ hne, if_neg (hg.good _)]; have := hg.wid r.flatten; unfold widL at this; rw [this, List.drop_left]; exact valid_flatten r (fun x hx => h x (by simp [hx]))
theorem pieces_whole : ∀ (n : Nat) (l : List UInt8), l.length ≤ n → Lib.validD l = true → (∀ c ∈ l, barB c = false) → (pieces l).flatten = l
 | 0, l, h, _, _ => by
  have e : l = [] := List.eq_nil_of_length_eq_zero (by omega); rw [e]; rfl
 | n + 1, l, h, hv, hb => by
  by_cases e : l = []
  ·rw [e]; rfl
  ·have hp := wid_pos l
   rw [Lib.validD_step l e] at hv
   split at hv
   ·cases hv
   ·rename_i hg
    have hk : keepL l := ⟨hg, fun hh => by
     cases l with
     | nil => exact e rfl
     | cons x r => have := hb x (by simp); simp at hh; rw [this] at hh; exact absurd hh.2 (by decide)⟩
    rw [pieces_step l e, if_pos hk, List.flatten_cons, pieces_whole n (l.drop (widL l)) (by rw [List.length_drop]; omega) hv (fun c hc => hb c (List.mem_of_mem_drop hc)), List.take_append_drop]
def wordL (l : List UInt8) : Bool :=
 l.all (fun c => !barB c) && decide (l.length ≤ 200) && Lib.validD l && (decide (l = []) || (decide ((l.getD 0 0).toNat ≠ 32) && decide ((l.getD (l.length - 1) 0).toNat ≠ 32)))
theorem word_iff (l : List UInt8) : wordL l = true ↔ (∀ c ∈ l, barB c = false) ∧ l.length ≤ 200 ∧ Lib.validD l = true ∧ (l ≠ [] → (l.getD 0 0).toNat ≠ 32 ∧ (l.getD (l.length - 1) 0).toNat ≠ 32) := by
 unfold wordL; simp only [Bool.and_eq_true, Bool.or_eq_true, decide_eq_true_eq, List.all_eq_true, Bool.not_eq_true', and_assoc]
 constructor
 ·rintro ⟨h1, h2, h3, h4⟩
  refine ⟨h1, h2, h3, fun hne => ?_⟩
  rcases h4 with h4 | h4
  ·exact absurd h4 hne
  ·exact h4
 ·rintro ⟨h1, h2, h3, h4⟩
  refine ⟨h1, h2, h3, ?_⟩
  by_cases e : l = []
  ·exact .inl e
  ·exact .inr (h4 e)
def fitL : Nat → List (List UInt8) → List (List UInt8)
 | _, [] => []
 | n, g :: r => if g.length ≤ n then g :: fitL (n - g.length) r else []
def blank (g : List UInt8) : Bool := decide (g = [32])
def lstrip (gs : List (List UInt8)) : List (List UInt8) := gs.dropWhile blank
def rstrip : List (List UInt8) → List (List UInt8)
 | [] => []
 | g :: r => match rstrip r with
  | [] => if blank g then [] else [g]
  | x :: y => g :: x :: y
def cleanT (l : List UInt8) : List UInt8 := (rstrip (fitL 200 (lstrip (pieces l)))).flatten
theorem fit_sub : ∀ (gs : List (List UInt8)) (n : Nat), ∀ g ∈ fitL n gs, g ∈ gs
 | [], n => by simp [fitL]
 | x :: r, n => by
  intro g hg; unfold fitL at hg
  split at hg
  ·rcases List.mem_cons.1 hg with rfl | hg
   ·simp
   ·exact List.mem_cons_of_mem _ (fit_sub r _ g hg)
  ·cases hg
theorem fit_len : ∀ (gs : List (List UInt8)) (n : Nat), (fitL n gs).flatten.length ≤ n
 | [], n => by simp [fitL]
 | x :: r, n => by
  unfold fitL
  split
  ·rw [List.flatten_cons, List.length_append]; have := fit_len r (n - x.length); omega
  ·simp
theorem fit_all : ∀ (gs : List (List UInt8)) (n : Nat), gs.flatten.length ≤ n → fitL n gs = gs
 | [], n, _ => rfl
 | x :: r, n, h => by
  rw [List.flatten_cons, List.length_append] at h; unfold fitL; rw [if_pos (by omega), fit_all r _ (by omega)]
theorem fit_head (g : List UInt8) (r : List (List UInt8)) (n : Nat) : fitL n (g :: r) = [] ∨ ∃ s, fitL n (g :: r) = g :: s := by
 unfold fitL
 split
 ·exact .inr ⟨_, rfl⟩
 ·exact .inl rfl
theorem lstrip_sub (gs : List (List UInt8)) : ∀ g ∈ lstrip gs, g ∈ gs := fun g hg => (List.dropWhile_suffix blank).subset hg
theorem lstrip_head : ∀ gs : List (List UInt8), lstrip gs = [] ∨ ∃ g r, lstrip gs = g :: r ∧ blank g = false
 | [] => .inl rfl
 | g :: r => by
  unfold lstrip
  cases h : blank g with
  | true => rw [List.dropWhile_cons_of_pos h]; exact lstrip_head r
  | false => rw [List.dropWhile_cons_of_neg (by rw [h]; decide)]; exact .inr ⟨g, r, rfl, h⟩
theorem lstrip_none (g : List UInt8) (r : List (List UInt8)) (h : blank g = false) : lstrip (g :: r) = g :: r := List.dropWhile_cons_of_neg (by rw [h]; decide)
theorem rstrip_sub : ∀ gs : List (List UInt8), ∀ g ∈ rstrip gs, g ∈ gs
 | [] => by simp [rstrip]
 | x :: r => by
  intro g hg; have ih := rstrip_sub r; unfold rstrip at hg
  split at hg
  ·split at hg
   ·cases hg
   ·rw [List.mem_singleton.1 hg]; simp
  ·rename_i a b e
   rcases List.mem_cons.1 hg with rfl | hg
   ·simp
   ·exact List.mem_cons_of_mem _ (ih g (by rw [e]; exact hg))
theorem rstrip_len : ∀ gs : List (List UInt8), (rstrip gs).flatten.length ≤ gs.flatten.length
 | [] => by simp [rstrip]
 | x :: r => by
  have ih := rstrip_len r; unfold rstrip
  split
  ·split
   ·simp
   ·simp
  ·rename_i a b e
   rw [e] at ih; simp only [List.flatten_cons, List.length_append] at ih ⊢
   omega
theorem rstrip_head (g : List UInt8) (r : List (List UInt8)) (h : blank g = false) : ∃ s, rstrip (g :: r) = g :: s := by
 unfold rstrip
 split
 ·rw [h]; exact ⟨[], rfl⟩
 ·exact ⟨_, rfl⟩
theorem rstrip_last : ∀ gs : List (List UInt8), rstrip gs = [] ∨ ∃ r g, rstrip gs = r ++ [g] ∧ blank g = false
 | [] => .inl rfl
 | x :: r => by
  have ih := rstrip_last r; unfold rstrip
  split
  ·cases h : blank x with
   | true => exact .inl (by simp)
   | false => exact .inr ⟨[], x, by simp, h⟩
  ·rename_i a b e
   right
   rcases ih with ih | ⟨s, g, ih, hg⟩
   ·rw [e] at ih; cases ih
   ·rw [e] at ih; exact ⟨x :: s, g, by rw [ih]; rfl, hg⟩
theorem rstrip_none : ∀ (r : List (List UInt8)) (g : List UInt8), blank g = false → rstrip (r ++ [g]) = r ++ [g]
 | [], g, h => by simp [rstrip, h]
 | x :: r, g, h => by
  have ih := rstrip_none r g h; rw [List.cons_append]; unfold rstrip; rw [ih]
  split
  ·rename_i e; simp at e
  ·rename_i a b e; rw [e]
theorem Rune.first {g : List UInt8} (h : Rune g) (hb : blank g = false) : (g.getD 0 0).toNat ≠ 32 := by
 intro e
 rcases h.low with ⟨c, rfl, hc⟩ | hh
 ·have : c = 32 := UInt8.toNat_inj.1 (by simpa using e)
  subst this; exact absurd hb (by decide)
 ·cases hg : g with
  | nil => exact h.ne hg
  | cons x r =>
   rw [hg] at e hh; have := hh x (by simp)
   simp at e
   omega
theorem Rune.final {g : List UInt8} (h : Rune g) (hb : blank g = false) : (g.getD (g.length - 1) 0).toNat ≠ 32 := by
 intro e
 rcases h.low with ⟨c, rfl, hc⟩ | hh
 ·have : c = 32 := UInt8.toNat_inj.1 (by simpa using e)
  subst this; exact absurd hb (by decide)
 ·have hl : 0 < g.length := by cases hg : g with | nil => exact absurd hg h.ne | cons _ _ => simp
  rw [List.getD_eq_getElem?_getD, List.getElem?_eq_getElem (by omega)] at e; have := hh _ (List.getElem_mem (show g.length - 1 < g.length by omega))
  simp at e
  omega
theorem clean_isword (l : List UInt8) : wordL (cleanT l) = true := by
 have hr : ∀ g ∈ rstrip (fitL 200 (lstrip (pieces l))), Rune g := fun g hg => pieces_rune l.length l (Nat.le_refl _) g (lstrip_sub _ g (fit_sub _ _ g (rstrip_sub _ g hg)))
 have hlast := rstrip_last (fitL 200 (lstrip (pieces l))); have hlen := Nat.le_trans (rstrip_len (fitL 200 (lstrip (pieces l)))) (fit_len (lstrip (pieces l)) 200)
 have hhead : rstrip (fitL 200 (lstrip (pieces l))) = [] ∨ ∃ g r, rstrip (fitL 200 (lstrip (pieces l))) = g :: r ∧ blank g = false := by
  rcases lstrip_head (pieces l) with e | ⟨g, r, e, hb⟩
  ·left; rw [e]; rfl
  ·rw [e]
   rcases fit_head g r 200 with e2 | ⟨s, e2⟩
   ·left; rw [e2]; rfl
   ·rw [e2]
    obtain ⟨t, e3⟩ := rstrip_head g s hb; exact .inr ⟨g, t, e3, hb⟩
 unfold cleanT; generalize rstrip (fitL 200 (lstrip (pieces l))) = gs at hr hlast hlen hhead; rw [word_iff]; refine ⟨fun c hc => ?_, hlen, valid_flatten gs hr, fun hne => ⟨?_, ?_⟩⟩
 ·obtain ⟨g, hg, hcg⟩ := List.mem_flatten.1 hc
  exact (hr g hg).bar c hcg
 ·rcases hhead with rfl | ⟨g, r, rfl, hb⟩
  ·exact absurd rfl hne
  ·have hg := hr g (by simp)
   have := hg.first hb
   cases h : g with
   | nil => exact absurd h hg.ne
   | cons x y => rw [h] at this; simpa using this
 ·rcases hlast with rfl | ⟨r, g, rfl, hb⟩
  ·exact absurd rfl hne
  ·have hg := hr g (by simp)
   have := hg.final hb
   have hl : 0 < g.length := by cases h : g with | nil => exact absurd h hg.ne | cons _ _ => simp
   rw [List.flatten_append, List.flatten_singleton, List.length_append, List.getD_eq_getElem?_getD, List.getElem?_append_right (by omega), show r.flatten.length + g.length - 1 - r.flatten.length = g.length - 1 by omega, ← List.getD_eq_getElem?_getD]; exact this
theorem word_stays (l : List UInt8) (h : wordL l = true) : cleanT l = l := by
 obtain ⟨h1, h2, h3, h4⟩ := (word_iff l).1 h; have hw := pieces_whole l.length l (Nat.le_refl _) h3 h1; have hr := pieces_rune l.length l (Nat.le_refl _); unfold cleanT; generalize pieces l = gs at hw hr
 by_cases e : gs = []
 ·subst e
  rw [← hw]; rfl
 ·have hne : l ≠ [] := fun e2 => by
   rw [e2] at hw
   cases gs with
   | nil => exact e rfl
   | cons g r =>
    rw [List.flatten_cons] at hw; exact (hr g (by simp)).ne (List.append_eq_nil_iff.1 hw).1
  obtain ⟨h5, h6⟩ := h4 hne
  have hl : lstrip gs = gs := by
   cases gs with
   | nil => rfl
   | cons g r =>
    refine lstrip_none g r ?_
    cases hb : blank g with
    | false => rfl
    | true =>
     have : g = [32] := of_decide_eq_true hb; rw [← hw, this] at h5; exact absurd rfl h5
  have hf : fitL 200 gs = gs := fit_all gs 200 (by rw [hw]; exact h2); rw [hl, hf]
  have hs : rstrip gs = gs := by
   obtain ⟨r, g, rfl⟩ : ∃ r g, gs = r ++ [g] := ⟨gs.dropLast, gs.getLast e, (List.dropLast_concat_getLast e).symm⟩; refine rstrip_none r g ?_
   cases hb : blank g with
   | false => rfl
   | true =>
    have hg : g = [32] := of_decide_eq_true hb; subst hg; rw [← hw] at h6
    apply absurd _ h6
    rw [List.flatten_append, List.flatten_singleton, List.length_append, List.getD_eq_getElem?_getD, List.getElem?_append_right (by simp)]
    simp
  rw [hs, hw]
def twoD (n : Nat) : List UInt8 := [UInt8.ofNat (48 + n / 10), UInt8.ofNat (48 + n % 10)]
def zoneT (z : Int) : List UInt8 := (if z < 0 then 45 else 43) :: (twoD (z.natAbs / 60) ++ twoD (z.natAbs % 60))
def digV (c : UInt8) : Nat := c.toNat - 48
def digB (c : UInt8) : Bool := decide (48 ≤ c.toNat) && decide (c.toNat ≤ 57)
def zoneV (s a b c d : UInt8) : Option Int :=
 if (s.toNat = 43 ∨ s.toNat = 45) ∧ digB a = true ∧ digB b = true ∧ digB c = true ∧ digB d = true then
  if 59 < digV c * 10 + digV d ∨ 840 < (digV a * 10 + digV b) * 60 + (digV c * 10 + digV d) ∨ (s.toNat = 45 ∧ (digV a * 10 + digV b) * 60 + (digV c * 10 + digV d) = 0) then none
  else some (if s.toNat = 45 then -(((digV a * 10 + digV b) * 60 + (digV c * 10 + digV d) : Nat) : Int) else (((digV a * 10 + digV b) * 60 + (digV c * 10 + digV d) : Nat) : Int))
 else none
def zoneR : List UInt8 → Option Int
 | [s, a, b, c, d] => zoneV s a b c d
 | _ => none
theorem dig_of (n : Nat) (h : n < 10) : (UInt8.ofNat (48 + n)).toNat = 48 + n := by rw [UInt8.toNat_ofNat']; omega
theorem digB_of (n : Nat) (h : n < 10) : digB (UInt8.ofNat (48 + n)) = true ∧ digV (UInt8.ofNat (48 + n)) = n := by
 unfold digB digV; rw [dig_of n h]; exact ⟨by simp; omega, by omega⟩
theorem digB_iff (c : UInt8) (h : digB c = true) : c = UInt8.ofNat (48 + digV c) ∧ digV c < 10 := by
 unfold digB at h; simp only [Bool.and_eq_true, decide_eq_true_eq] at h; unfold digV; refine ⟨?_, by omega⟩
 apply UInt8.toNat_inj.1
 rw [UInt8.toNat_ofNat']
 omega
theorem zone_len (z : Int) : (zoneT z).length = 5 := rfl
theorem zone_read (z : Int) (h0 : -840 ≤ z) (h1 : z ≤ 840) : zoneR (zoneT z) = some z := by
 obtain ⟨n, hn⟩ : ∃ n, z.natAbs = n := ⟨_, rfl⟩
 have hn840 : n ≤ 840 := by omega
 have e1 := digB_of (n / 60 / 10) (by omega); have e2 := digB_of (n / 60 % 10) (by omega); have e3 := digB_of (n % 60 / 10) (by omega); have e4 := digB_of (n % 60 % 10) (by omega)
 have hz : (n / 60 / 10 * 10 + n / 60 % 10) * 60 + (n % 60 / 10 * 10 + n % 60 % 10) = n := by omega
 have hm : ¬ 59 < n % 60 / 10 * 10 + n % 60 % 10 := by omega
 unfold zoneT twoD; rw [hn]; simp only [List.cons_append, List.nil_append]
 show zoneV _ _ _ _ _ = some z
 unfold zoneV; rw [e1.1, e1.2, e2.1, e2.2, e3.1, e3.2, e4.1, e4.2, hz]
 by_cases hneg : z < 0
 ·rw [if_pos hneg, if_pos ⟨.inr rfl, rfl, rfl, rfl, rfl⟩, if_neg, if_pos (by decide)]
  ·congr 1; omega
  ·rintro (h | h | h)
   ·exact hm h
   ·omega
   ·omega
 ·rw [if_neg hneg, if_pos ⟨.inl rfl, rfl, rfl, rfl, rfl⟩, if_neg, if_neg (by decide)]
  ·congr 1; omega
  ·rintro (h | h | h)
   ·exact hm h
   ·omega
   ·exact absurd h.1 (by decide)
theorem zone_back (s : List UInt8) (z : Int) (h : zoneR s = some z) : zoneT z = s ∧ -840 ≤ z ∧ z ≤ 840 := by
 match s, h with
 | [s, a, b, c, d], h =>
  have h : zoneV s a b c d = some z := h; unfold zoneV at h
  by_cases hd : (s.toNat = 43 ∨ s.toNat = 45) ∧ digB a = true ∧ digB b = true ∧ digB c = true ∧ digB d = true
  ·rw [if_pos hd] at h
   obtain ⟨hs, ha, hb, hc, hdd⟩ := hd
   by_cases hn : 59 < digV c * 10 + digV d ∨ 840 < (digV a * 10 + digV b) * 60 + (digV c * 10 + digV d) ∨ (s.toNat = 45 ∧ (digV a * 10 + digV b) * 60 + (digV c * 10 + digV d) = 0)
   ·rw [if_pos hn] at h; cases h
   ·rw [if_neg hn] at h
    obtain ⟨a1, a2⟩ := digB_iff a ha; obtain ⟨b1, b2⟩ := digB_iff b hb; obtain ⟨c1, c2⟩ := digB_iff c hc; obtain ⟨d1, d2⟩ := digB_iff d hdd
    generalize digV a = x at *
    generalize digV b = y at *
    generalize digV c = u at *
    generalize digV d = v at *
    have hm : u * 10 + v ≤ 59 := by omega
    have h840 : (x * 10 + y) * 60 + (u * 10 + v) ≤ 840 := by omega
    have hz : s.toNat = 45 → (x * 10 + y) * 60 + (u * 10 + v) ≠ 0 := fun e e2 => hn (.inr (.inr ⟨e, e2⟩))
    obtain ⟨n, hN⟩ : ∃ n, (x * 10 + y) * 60 + (u * 10 + v) = n := ⟨_, rfl⟩
    have q1 : n / 60 / 10 = x := by omega
    have q2 : n / 60 % 10 = y := by omega
    have q3 : n % 60 / 10 = u := by omega
    have q4 : n % 60 % 10 = v := by omega
    rw [hN] at h h840 hz
    have hsz : (s.toNat = 45 ∧ z = -(n : Int) ∧ 0 < n) ∨ (s.toNat = 43 ∧ z = (n : Int)) := by
     rcases hs with e | e
     ·right; rw [if_neg (by omega)] at h; exact ⟨e, (Option.some.inj h).symm⟩
     ·left; rw [if_pos e] at h; exact ⟨e, (Option.some.inj h).symm, by have := hz e; omega⟩
    have habs : z.natAbs = n := by omega
    refine ⟨?_, by omega, by omega⟩; unfold zoneT twoD; rw [habs, q1, q2, q3, q4, ← a1, ← b1, ← c1, ← d1]
    have hh : (if z < 0 then (45 : UInt8) else 43) = s := by
     rcases hsz with ⟨e, e2, e3⟩ | ⟨e, e2⟩
     ·rw [if_pos (by omega)]; exact UInt8.toNat_inj.1 e.symm
     ·rw [if_neg (by omega)]; exact UInt8.toNat_inj.1 e.symm
    rw [hh]; rfl
  ·rw [if_neg hd] at h; cases h
 | [], h => cases h
 | [_], h => cases h
 | [_, _], h => cases h
 | [_, _, _], h => cases h
 | [_, _, _, _], h => cases h
 | _ :: _ :: _ :: _ :: _ :: _ :: _, h => cases h
def aheadT (name : List UInt8) : List UInt8 := if name = [] then [] else name ++ [32]
def textT (name email num zone : List UInt8) : List UInt8 := aheadT name ++ 60 :: (email ++ 62 :: 32 :: (num ++ 32 :: zone))
theorem ahead_no (c : UInt8) (hc : c ≠ 32) (a : List UInt8) (h : ∀ d ∈ a, d ≠ c) : ∀ d ∈ aheadT a, d ≠ c := by
 unfold aheadT
 split
 ·simp
 ·intro d hd
  rcases List.mem_append.1 hd with hd | hd
  ·exact h d hd
  ·rw [List.mem_singleton.1 hd]; exact fun e => hc e.symm
theorem word_no {l : List UInt8} (h : wordL l = true) : (∀ d ∈ l, d ≠ 60) ∧ (∀ d ∈ l, d ≠ 62) := by
 have hb := ((word_iff l).1 h).1; refine ⟨fun d hd e => ?_, fun d hd e => ?_⟩
 ·have := hb d hd; rw [e] at this; exact absurd this (by decide)
 ·have := hb d hd; rw [e] at this; exact absurd this (by decide)
structure Idt where
 name : List UInt8
 email : List UInt8
 whn : Int
 zone : Int
def rightI (i : Idt) : Bool := wordL i.name && wordL i.email && decide (0 ≤ i.whn) && decide (i.whn ≤ 1099511627775) && decide (-840 ≤ i.zone) && decide (i.zone ≤ 840)
theorem right_iff (i : Idt) : rightI i = true ↔ wordL i.name = true ∧ wordL i.email = true ∧ 0 ≤ i.whn ∧ i.whn ≤ 1099511627775 ∧ -840 ≤ i.zone ∧ i.zone ≤ 840 := by
 unfold rightI; simp only [Bool.and_eq_true, decide_eq_true_eq, and_assoc]
def printI (wr : Int → List UInt8) (i : Idt) : List UInt8 := if rightI i = true then textT i.name i.email (wr i.whn) (zoneT i.zone) else []
structure Num (wr : Int → List UInt8) (rd : List UInt8 → Option Int) : Prop where
 back : ∀ v, 0 ≤ v → v ≤ 1099511627775 → rd (wr v) = some v
 some : ∀ v, 0 ≤ v → v ≤ 1099511627775 → 1 ≤ (wr v).length
instance (i : Idt) (wr : Int → List UInt8) (s : List UInt8) : Decidable (rightI i = true ∧ printI wr i = s) := inferInstance
def openI (s : List UInt8) : Nat := s.findIdx (· == 60)
def endI (s : List UInt8) : Nat := s.findIdx (· == 62)
def restI (s : List UInt8) : List UInt8 := s.drop (endI s + 1)
def badA (s : List UInt8) : Prop := s.length ≤ openI s ∨ s.length ≤ endI s ∨ endI s < openI s ∨ (0 < openI s ∧ s.getD (openI s - 1) 0 ≠ 32) ∨ openI s = 1
def badB (r : List UInt8) : Prop := r.length < 8 ∨ r.getD 0 0 ≠ 32 ∨ r.getD (r.length - 6) 0 ≠ 32
instance (s : List UInt8) : Decidable (badA s) := by unfold badA; exact inferInstance
instance (s : List UInt8) : Decidable (badB s) := by unfold badB; exact inferInstance
def candI (s : List UInt8) (v z : Int) : Idt := ⟨if 1 < openI s then s.take (openI s - 1) else [], (s.take (endI s)).drop (openI s + 1), v, z⟩
def parseR (wr : Int → List UInt8) (rd : List UInt8 → Option Int) (s : List UInt8) : Option Idt :=
 if badA s then none
 else if badB (restI s) then none
 else match rd (((restI s).take ((restI s).length - 6)).drop 1) with
  | none => none
  | some v => match zoneR ((restI s).drop ((restI s).length - 5)) with
   | none => none
   | some z => if rightI (candI s v z) = true ∧ printI wr (candI s v z) = s then some (candI s v z) else none
theorem find_at (c : UInt8) : ∀ (a x : List UInt8), (∀ d ∈ a, d ≠ c) → (a ++ c :: x).findIdx (· == c) = a.length
 | [], x, _ => by simp [List.findIdx_cons]
 | d :: a, x, h => by
  have hd : (d == c) = false := by rw [beq_eq_false_iff_ne]; exact h d (by simp)
  rw [List.cons_append, List.findIdx_cons, hd, find_at c a x (fun q hq => h q (by simp [hq]))]
  rfl
theorem parse_only {wr : Int → List UInt8} {rd : List UInt8 → Option Int} {s : List UInt8} {i : Idt} (h : parseR wr rd s = some i) : rightI i = true ∧ printI wr i = s := by
 unfold parseR at h
 by_cases h1 : badA s
 ·rw [if_pos h1] at h; cases h
 ·rw [if_neg h1] at h
  by_cases h2 : badB (restI s)
  ·rw [if_pos h2] at h; cases h
  ·rw [if_neg h2] at h
   cases e1 : rd (((restI s).take ((restI s).length - 6)).drop 1) with
   | none => rw [e1] at h; cases h
   | some v =>
    cases e2 : zoneR ((restI s).drop ((restI s).length - 5)) with
    | none => rw [e1, e2] at h; cases h
    | some z =>
     rw [e1, e2] at h; simp only at h
     by_cases hc : rightI (candI s v z) = true ∧ printI wr (candI s v z) = s
     ·rw [if_pos hc] at h
      rw [← Option.some.inj h]; exact hc
     ·rw [if_neg hc] at h; cases h
theorem parse_print {wr : Int → List UInt8} {rd : List UInt8 → Option Int} (hn : Num wr rd) {i : Idt} (h : rightI i = true) : parseR wr rd (printI wr i) = some i := by
 obtain ⟨h1, h2, h3, h4, h5, h6⟩ := (right_iff i).1 h
 have hp : printI wr i = textT i.name i.email (wr i.whn) (zoneT i.zone) := by unfold printI; rw [if_pos h]
 obtain ⟨name, email, v, z⟩ := i; simp only at h1 h2 h3 h4 h5 h6 hp; have hrd := hn.back v h3 h4; have hln := hn.some v h3 h4; have hz := zone_read z h5 h6; have hzl := zone_len z; obtain ⟨s, hs⟩ : ∃ s, printI wr ⟨name, email, v, z⟩ = s := ⟨_, rfl⟩; rw [hs] at hp ⊢; generalize wr v = num at hrd hln hp; generalize zoneT z = zt at hz hzl hp; have ha60 := ahead_no 60 (by decide) name (word_no h1).1; have ha62 := ahead_no 62 (by decide) name (word_no h1).2
 have ho : openI s = (aheadT name).length := by unfold openI; rw [hp]; exact find_at 60 _ _ ha60
 have he : endI s = (aheadT name).length + 1 + email.length := by
  unfold endI
  have e : s = (aheadT name ++ 60 :: email) ++ 62 :: 32 :: (num ++ 32 :: zt) := by rw [hp]; unfold textT; simp
  rw [e, find_at 62 _ _ ?_]
  ·simp; omega
  ·intro d hd
   rcases List.mem_append.1 hd with hd | hd
   ·exact ha62 d hd
   ·rcases List.mem_cons.1 hd with rfl | hd
    ·decide
    ·exact (word_no h2).2 d hd
 have hsl : s.length = (aheadT name).length + 1 + email.length + 1 + (1 + num.length + 1 + 5) := by
  rw [hp]; unfold textT; simp [hzl]; omega
 have hdrop : s.drop ((aheadT name).length + 1 + email.length + 1) = 32 :: (num ++ 32 :: zt) := by
  have e : s = (aheadT name ++ 60 :: email ++ [62]) ++ 32 :: (num ++ 32 :: zt) := by rw [hp]; unfold textT; simp
  rw [e]; exact List.drop_left' (by simp; omega)
 have hrl : (32 :: (num ++ 32 :: zt)).length = num.length + 7 := by simp [hzl]
 have hname : (if 1 < (aheadT name).length then s.take ((aheadT name).length - 1) else []) = name ∧ (aheadT name).length ≠ 1 ∧ (0 < (aheadT name).length → s.getD ((aheadT name).length - 1) 0 = 32) := by
  by_cases hnm : name = []
  ·subst hnm
   have : (aheadT []).length = 0 := rfl; rw [this]; exact ⟨rfl, by omega, by omega⟩
  ·have hl : 0 < name.length := by cases name with | nil => exact absurd rfl hnm | cons _ _ => simp
   have e : aheadT name = name ++ [32] := by unfold aheadT; rw [if_neg hnm]
   have e2 : s = name ++ 32 :: (60 :: (email ++ 62 :: 32 :: (num ++ 32 :: zt))) := by rw [hp]; unfold textT; rw [e]; simp
   rw [e, List.length_append, List.length_singleton, Nat.add_sub_cancel]; refine ⟨?_, by omega, fun _ => ?_⟩
   ·rw [if_pos (by omega), e2]; exact List.take_left
   ·rw [e2, List.getD_eq_getElem?_getD, List.getElem?_append_right (Nat.le_refl _), Nat.sub_self]; rfl
 have hemail : (s.take ((aheadT name).length + 1 + email.length)).drop ((aheadT name).length + 1) = email := by
  have e : s = (aheadT name ++ [60]) ++ (email ++ 62 :: 32 :: (num ++ 32 :: zt)) := by rw [hp]; unfold textT; simp
  have e3 : (aheadT name ++ [60]).length = (aheadT name).length + 1 := by simp
  rw [e, ← e3, List.take_length_add_append, List.drop_left, List.take_left]
 have hrest : restI s = 32 :: (num ++ 32 :: zt) := by unfold restI; rw [he]; exact hdrop
 have hcand : candI s v z = ⟨name, email, v, z⟩ := by unfold candI; rw [ho, he, hname.1, hemail]
 have hA : ¬ badA s := by
  unfold badA; rw [ho, he]; rintro (q | q | q | q | q)
  ·omega
  ·omega
  ·omega
  ·exact q.2 (hname.2.2 q.1)
  ·exact hname.2.1 q
 have hB : ¬ badB (32 :: (num ++ 32 :: zt)) := by
  unfold badB; rw [hrl]; rintro (q | q | q)
  ·omega
  ·exact q rfl
  ·apply q
   rw [show num.length + 7 - 6 = num.length + 1 by omega, List.getD_eq_getElem?_getD, List.getElem?_cons_succ, List.getElem?_append_right (Nat.le_refl _), Nat.sub_self]
   rfl
 have hnum : ((32 :: (num ++ 32 :: zt)).take (num.length + 7 - 6)).drop 1 = num := by
  rw [show num.length + 7 - 6 = num.length + 1 by omega, List.take_succ_cons, List.drop_succ_cons, List.drop_zero, List.take_left]
 have hzt : (32 :: (num ++ 32 :: zt)).drop (num.length + 7 - 5) = zt := by
  rw [show num.length + 7 - 5 = (num.length + 1) + 1 by omega, List.drop_succ_cons, show num ++ 32 :: zt = (num ++ [32]) ++ zt by simp]; exact List.drop_left' (by simp)
 unfold parseR; rw [if_neg hA, hrest, if_neg hB, hrl, hnum, hzt, hrd]; simp only [hz, hcand]; rw [if_pos ⟨h, hs⟩]
theorem parse_one {wr : Int → List UInt8} {rd : List UInt8 → Option Int} (hn : Num wr rd) (s : List UInt8) (i : Idt) (h : rightI i = true) (hs : printI wr i = s) : parseR wr rd s = some i := by
 rw [← hs]; exact parse_print hn h
theorem parse_none {wr : Int → List UInt8} {rd : List UInt8 → Option Int} (s : List UInt8) (h : ∀ i, rightI i = true → printI wr i ≠ s) : parseR wr rd s = none := by
 cases e : parseR wr rd s with
 | none => rfl
 | some i => exact absurd (parse_only e).2 (h i (parse_only e).1)
end Go.Proofs.YtnbcbiglkmdepaaGreatDoor
namespace Go.Proofs.YtnbcbiglkmdepaaGreatDoor
structure Rcd where
 tree : List UInt8
 parents : List (List UInt8)
 author : Idt
 committer : Idt
 text : List UInt8
def idZ : List UInt8 := List.replicate 20 0
def treeW : List UInt8 := [116, 114, 101, 101, 32]
def parentW : List UInt8 := [112, 97, 114, 101, 110, 116, 32]
def authorW : List UInt8 := [97, 117, 116, 104, 111, 114, 32]
def committerW : List UInt8 := [99, 111, 109, 109, 105, 116, 116, 101, 114, 32]
structure Rcd.Fit (c : Rcd) : Prop where
 tree : c.tree.length = 20
 parents : ∀ p ∈ c.parents, p.length = 20
def parentsR (ps : List (List UInt8)) : Bool := decide (∀ p ∈ ps, p ≠ idZ) && decide ps.Nodup
def rightR (c : Rcd) : Bool := decide (c.tree ≠ idZ) && decide (c.parents.length ≤ 16) && parentsR c.parents && rightI c.author && rightI c.committer && decide (c.text.length ≤ 32768) && decide (∀ d ∈ c.text, d ≠ 0)
theorem rightR_iff (c : Rcd) : rightR c = true ↔ c.tree ≠ idZ ∧ c.parents.length ≤ 16 ∧ parentsR c.parents = true ∧ rightI c.author = true ∧ rightI c.committer = true ∧ c.text.length ≤ 32768 ∧ ∀ d ∈ c.text, d ≠ 0 := by
 unfold rightR; simp only [Bool.and_eq_true, decide_eq_true_eq, and_assoc]
theorem parentsR_iff (ps : List (List UInt8)) : parentsR ps = true ↔ ∀ j (h : j < ps.length), ps[j] ≠ idZ ∧ ps[j] ∉ ps.take j := by
 unfold parentsR; rw [Bool.and_eq_true, decide_eq_true_eq, decide_eq_true_eq]
 constructor
 ·rintro ⟨h1, h2⟩ j hj
  refine ⟨h1 _ (List.getElem_mem hj), fun hm => ?_⟩; obtain ⟨i, hi, e⟩ := List.mem_iff_getElem.1 hm; rw [List.getElem_take] at e
  have hil : i < j := by rw [List.length_take] at hi; omega
  exact (List.pairwise_iff_getElem.1 h2) i j (by omega) hj hil e
 ·intro h
  refine ⟨fun p hp => ?_, ?_⟩
  ·obtain ⟨i, hi, e⟩ := List.mem_iff_getElem.1 hp
   rw [← e]; exact (h i hi).1
  ·refine List.pairwise_iff_getElem.2 fun i j hi hj hij e => (h j hj).2 ?_
   refine List.mem_iff_getElem.2 ⟨i, by rw [List.length_take]; omega, ?_⟩; rw [List.getElem_take]; exact e
theorem parents_bad {ps : List (List UInt8)} (j : Nat) (hj : j < ps.length) (h : ps[j] = idZ ∨ ps[j] ∈ ps.take j) : parentsR ps = false := by
 cases e : parentsR ps with
 | false => rfl
 | true =>
  have := (parentsR_iff ps).1 e j hj
  rcases h with h | h
  ·exact absurd h this.1
  ·exact absurd h this.2
def lineT (w x r : List UInt8) : List UInt8 := w ++ (x ++ 10 :: r)
def eolL (s : List UInt8) : Nat := s.findIdx (· == 10)
def lineL (s w : List UInt8) : Option (List UInt8 × List UInt8) :=
 if eolL s < s.length ∧ (s.take (eolL s)).take w.length = w then some ((s.take (eolL s)).drop w.length, s.drop (eolL s + 1)) else none
def noEol (x : List UInt8) : Prop := ∀ d ∈ x, d ≠ 10
theorem eol_at {l : List UInt8} (h : noEol l) (r : List UInt8) : eolL (l ++ 10 :: r) = l.length := find_at 10 l r h
theorem line_at {l : List UInt8} (h : noEol l) (r w : List UInt8) : lineL (l ++ 10 :: r) w = if l.take w.length = w then some (l.drop w.length, r) else none := by
 unfold lineL; rw [eol_at h]; have e1 : (l ++ 10 :: r).take l.length = l := List.take_left
 have e2 : (l ++ 10 :: r).drop (l.length + 1) = r := by
  have : l ++ 10 :: r = (l ++ [10]) ++ r := by simp
  rw [this]; exact List.drop_left' (by simp)
 rw [e1, e2]
 have hl : l.length < (l ++ 10 :: r).length := by simp
 by_cases hc : l.take w.length = w
 ·rw [if_pos ⟨hl, hc⟩, if_pos hc]
 ·rw [if_neg (fun q => hc q.2), if_neg hc]
theorem line_print {w x : List UInt8} (hw : noEol w) (hx : noEol x) (r : List UInt8) : lineL (lineT w x r) w = some (x, r) := by
 have e : lineT w x r = (w ++ x) ++ 10 :: r := by unfold lineT; simp
 have hc : noEol (w ++ x) := fun d hd => by
  rcases List.mem_append.1 hd with q | q
  ·exact hw d q
  ·exact hx d q
 rw [e, line_at hc, List.take_left, if_pos rfl, List.drop_left]
theorem line_lone {s : List UInt8} (h : noEol s) (w : List UInt8) : lineL s w = none := by
 unfold lineL; rw [if_neg]; rintro ⟨q, -⟩; have := List.findIdx_getElem (w := q); simp only [beq_iff_eq] at this; exact h _ (List.getElem_mem q) this
theorem line_first {w : List UInt8} (c d : UInt8) (hcd : c ≠ d) (s : List UInt8) : lineL (c :: s) (d :: w) = none := by
 unfold lineL; rw [if_neg]; rintro ⟨-, q⟩
 cases e : eolL (c :: s) with
 | zero => rw [e] at q; simp at q
 | succ n =>
  rw [e] at q; simp only [List.take_succ_cons, List.length_cons, List.cons.injEq] at q; exact hcd q.1
theorem line_only {s w x r : List UInt8} (h : lineL s w = some (x, r)) : s = lineT w x r ∧ noEol x := by
 unfold lineL at h
 by_cases hc : eolL s < s.length ∧ (s.take (eolL s)).take w.length = w
 ·rw [if_pos hc] at h
  obtain ⟨rfl, rfl⟩ := Prod.mk.inj (Option.some.inj h); have h10 : s[eolL s]'hc.1 = 10 := beq_iff_eq.1 (List.findIdx_getElem (p := fun c : UInt8 => c == 10) (w := hc.1))
  have hno : noEol (s.take (eolL s)) := by
   intro d hd e; obtain ⟨i, hi, q⟩ := List.mem_iff_getElem.1 hd; rw [List.getElem_take] at q; rw [List.length_take] at hi; have := List.not_of_lt_findIdx (p := fun c : UInt8 => c == 10) (xs := s) (i := i) (by unfold eolL at hi; omega); simp only [beq_eq_false_iff_ne, ne_eq, Bool.not_eq_true] at this; exact this (q.trans e)
  refine ⟨?_, fun d hd => hno d ((List.drop_subset _ _) hd)⟩; unfold lineT; rw [← List.append_assoc]
  have e1 : w ++ (s.take (eolL s)).drop w.length = s.take (eolL s) := by
   conv => lhs; arg 1; rw [← hc.2]
   exact List.take_append_drop _ _
  rw [e1]
  conv => lhs; rw [← List.take_append_drop (eolL s) s, List.drop_eq_getElem_cons hc.1, h10]
 ·rw [if_neg hc] at h; cases h
theorem noEol_tree : noEol treeW := by unfold noEol; decide
theorem noEol_parent : noEol parentW := by unfold noEol; decide
theorem noEol_author : noEol authorW := by unfold noEol; decide
theorem noEol_committer : noEol committerW := by unfold noEol; decide
def parsT (hx : List UInt8 → List UInt8) : List (List UInt8) → List UInt8 → List UInt8
 | [], r => r
 | p :: ps, r => lineT parentW (hx p) (parsT hx ps r)
def printC (hx : List UInt8 → List UInt8) (pr : Idt → List UInt8) (c : Rcd) : List UInt8 :=
 lineT treeW (hx c.tree) (parsT hx c.parents (lineT authorW (pr c.author) (lineT committerW (pr c.committer) (10 :: c.text))))
structure Wr (hx : List UInt8 → List UInt8) (un : List UInt8 → Option (List UInt8)) (pr : Idt → List UInt8) (pa : List UInt8 → Option Idt) : Prop where
 hb : ∀ l, l.length = 20 → un (hx l) = some l
 ho : ∀ s l, un s = some l → l.length = 20 ∧ hx l = s
 hc : ∀ l, noEol (hx l)
 ib : ∀ i, rightI i = true → pa (pr i) = some i
 io : ∀ s i, pa s = some i → rightI i = true ∧ pr i = s
 ic : ∀ i, rightI i = true → noEol (pr i)
def parsL (un : List UInt8 → Option (List UInt8)) : Nat → List UInt8 → Option (List (List UInt8) × List UInt8)
 | 0, s => match lineL s parentW with
  | none => some ([], s)
  | some _ => none
 | n + 1, s => match lineL s parentW with
  | none => some ([], s)
  | some (x, r) => match un x with
   | none => none
   | some p => (parsL un n r).map fun q => (p :: q.1, q.2)
def whoL (pa : List UInt8 → Option Idt) (s : List UInt8) : Option (Idt × Idt × List UInt8) :=
 match lineL s authorW with
 | none => none
 | some (x, r) => match pa x with
  | none => none
  | some a => match lineL r committerW with
   | none => none
   | some (y, q) => match pa y with
    | none => none
    | some c => match q with
     | [] => none
     | d :: t => if d = 10 then some (a, c, t) else none
def parseC (un : List UInt8 → Option (List UInt8)) (pa : List UInt8 → Option Idt) (s : List UInt8) : Option Rcd :=
 match lineL s treeW with
 | none => none
 | some (x, r) => match un x with
  | none => none
  | some t => match parsL un 16 r with
   | none => none
   | some (ps, q) => match whoL pa q with
    | none => none
    | some (a, c, tx) => if rightR ⟨t, ps, a, c, tx⟩ = true then some ⟨t, ps, a, c, tx⟩ else none
section
variable {hx : List UInt8 → List UInt8} {un : List UInt8 → Option (List UInt8)} {pr : Idt → List UInt8} {pa : List UInt8 → Option Idt}
theorem pars_only (W : Wr hx un pr pa) : ∀ (n : Nat) (s : List UInt8) (ps : List (List UInt8)) (r : List UInt8), parsL un n s = some (ps, r) → s = parsT hx ps r ∧ ps.length ≤ n ∧ (∀ p ∈ ps, p.length = 20) ∧ lineL r parentW = none
 | 0, s, ps, r, h => by
  unfold parsL at h
  cases e : lineL s parentW with
  | some q => rw [e] at h; cases h
  | none =>
   rw [e] at h; obtain ⟨rfl, rfl⟩ := Prod.mk.inj (Option.some.inj h); exact ⟨rfl, Nat.le_refl _, by simp, e⟩
 | n + 1, s, ps, r, h => by
  unfold parsL at h
  cases e : lineL s parentW with
  | none =>
   rw [e] at h; obtain ⟨rfl, rfl⟩ := Prod.mk.inj (Option.some.inj h); exact ⟨rfl, Nat.zero_le _, by simp, e⟩
  | some q =>
   obtain ⟨x, t⟩ := q; rw [e] at h; simp only at h
   cases e2 : un x with
   | none => rw [e2] at h; cases h
   | some p =>
    rw [e2] at h; simp only at h
    cases e3 : parsL un n t with
    | none => rw [e3] at h; cases h
    | some q =>
     obtain ⟨qs, u⟩ := q; rw [e3] at h; obtain ⟨rfl, rfl⟩ := Prod.mk.inj (Option.some.inj h); obtain ⟨g1, g2, g3, g4⟩ := pars_only W n t qs u e3; obtain ⟨l1, l2⟩ := W.ho x p e2; refine ⟨?_, by simpa using g2, ?_, g4⟩
     ·show s = lineT parentW (hx p) (parsT hx qs u)
      rw [l2, ← g1]; exact (line_only e).1
     ·intro q hq
      rcases List.mem_cons.1 hq with rfl | hq
      ·exact l1
      ·exact g3 q hq
theorem who_only (W : Wr hx un pr pa) {s : List UInt8} {a c : Idt} {t : List UInt8} (h : whoL pa s = some (a, c, t)) : s = lineT authorW (pr a) (lineT committerW (pr c) (10 :: t)) ∧ rightI a = true ∧ rightI c = true := by
 unfold whoL at h
 cases e1 : lineL s authorW with
 | none => rw [e1] at h; cases h
 | some q =>
  obtain ⟨x, r⟩ := q; rw [e1] at h; simp only at h
  cases e2 : pa x with
  | none => rw [e2] at h; cases h
  | some a' =>
   rw [e2] at h; simp only at h
   cases e3 : lineL r committerW with
   | none => rw [e3] at h; cases h
   | some q =>
    obtain ⟨y, u⟩ := q; rw [e3] at h; simp only at h
    cases e4 : pa y with
    | none => rw [e4] at h; cases h
    | some c' =>
     rw [e4] at h; simp only at h
     cases u with
     | nil => cases h
     | cons d t' =>
      simp only at h
      by_cases hd : d = 10
      ·rw [if_pos hd] at h
       simp only [Option.some.injEq, Prod.mk.injEq] at h; obtain ⟨rfl, rfl, rfl⟩ := h; subst hd; obtain ⟨i1, i2⟩ := W.io x a' e2; obtain ⟨k1, k2⟩ := W.io y c' e4; refine ⟨?_, i1, k1⟩; rw [i2, k2, ← (line_only e3).1]; exact (line_only e1).1
      ·rw [if_neg hd] at h; cases h
theorem parse_onlyC (W : Wr hx un pr pa) {s : List UInt8} {c : Rcd} (h : parseC un pa s = some c) : c.Fit ∧ rightR c = true ∧ printC hx pr c = s := by
 unfold parseC at h
 cases e1 : lineL s treeW with
 | none => rw [e1] at h; cases h
 | some q =>
  obtain ⟨x, r⟩ := q; rw [e1] at h; simp only at h
  cases e2 : un x with
  | none => rw [e2] at h; cases h
  | some t =>
   rw [e2] at h; simp only at h
   cases e3 : parsL un 16 r with
   | none => rw [e3] at h; cases h
   | some q =>
    obtain ⟨ps, u⟩ := q; rw [e3] at h; simp only at h
    cases e4 : whoL pa u with
    | none => rw [e4] at h; cases h
    | some q =>
     obtain ⟨a, d, tx⟩ := q; rw [e4] at h; simp only at h
     by_cases hr : rightR ⟨t, ps, a, d, tx⟩ = true
     ·rw [if_pos hr] at h
      cases Option.some.inj h
      obtain ⟨l1, l2⟩ := W.ho x t e2; obtain ⟨g1, g2, g3, g4⟩ := pars_only W 16 r ps u e3; refine ⟨⟨l1, g3⟩, hr, ?_⟩; unfold printC; simp only; rw [← (who_only W e4).1, ← g1, l2]; exact (line_only e1).1.symm
     ·rw [if_neg hr] at h; cases h
end
def parsK (un : List UInt8 → Option (List UInt8)) (ps : List (List UInt8)) (n : Nat) (s : List UInt8) : Option (List (List UInt8) × List UInt8) := (parsL un n s).map fun q => (ps ++ q.1, q.2)
section
variable {un : List UInt8 → Option (List UInt8)}
theorem parsK_nil (n : Nat) (s : List UInt8) : parsK un [] n s = parsL un n s := by
 unfold parsK
 cases parsL un n s with
 | none => rfl
 | some q => rfl
theorem parsK_stop {s : List UInt8} (h : lineL s parentW = none) (ps : List (List UInt8)) : ∀ n, parsK un ps n s = some (ps, s)
 | 0 => by unfold parsK parsL; rw [h]; simp
 | n + 1 => by unfold parsK parsL; rw [h]; simp
theorem parsK_full {s x r : List UInt8} (h : lineL s parentW = some (x, r)) (ps : List (List UInt8)) : parsK un ps 0 s = none := by unfold parsK parsL; rw [h]; rfl
theorem parsK_bad {s x r : List UInt8} (h : lineL s parentW = some (x, r)) (hu : un x = none) (ps : List (List UInt8)) : ∀ n, parsK un ps n s = none
 | 0 => parsK_full h ps
 | n + 1 => by unfold parsK parsL; rw [h]; simp only [hu]; rfl
theorem parsK_next {s x r p : List UInt8} (h : lineL s parentW = some (x, r)) (hu : un x = some p) (ps : List (List UInt8)) (n : Nat) : parsK un ps (n + 1) s = parsK un (ps ++ [p]) n r := by
 unfold parsK; rw [show parsL un (n + 1) s = (parsL un n r).map fun q => (p :: q.1, q.2) by rw [parsL, h]; simp only [hu]]
 cases parsL un n r with
 | none => rfl
 | some q => simp
theorem line_len {s w x r : List UInt8} (h : lineL s w = some (x, r)) : s.length = w.length + x.length + 1 + r.length := by
 rw [(line_only h).1]; unfold lineT; simp; omega
end
end Go.Proofs.YtnbcbiglkmdepaaGreatDoor
namespace Go.Proofs.YtnbcbiglkmdepaaGreatDoor
set_option maxRecDepth 20000
open Go.RowKit
def cellsD (i : List UInt8) : List Value := Lib.byteCells i
theorem cellsD_len (i : List UInt8) (h : i.length = 20) : (cellsD i).length = 20 := by simp [cellsD, Lib.byteCells, h]
theorem cellsD_one (i : List UInt8) : (cellsD i).toArray.all (·.oneCell') = true := bc_all i
def arrD (i : List UInt8) : Array Value := (cellsD i).toArray
theorem idv_arrD (i : List UInt8) : idv i = .agg (arrD i) := rfl
theorem arrD_size (i : List UInt8) (h : i.length = 20) : (arrD i).size = 20 := by unfold arrD; rw [List.size_toArray, cellsD_len i h]
theorem arrD_one (i : List UInt8) : (arrD i).all (·.oneCell') = true := cellsD_one i
theorem infoD_n : (Tryz.prog.info? 24).map (·.size) = some 20 := by kernel_rfl
theorem infoD_arr (a : Array Value) (h : a.size = 20) : (Tryz.prog.info? 24).map (·.size) = some a.size := by rw [h]; exact infoD_n
theorem zIdD : (Tryz.prog.info? 24).map (fun i => (i.zero, i.size)) = some (some (.agg (arrD idZ)), 20) := by kernel_rfl
def eqD (i j : List UInt8) : Bool := i == j
theorem eqD_iff (i j : List UInt8) : eqD i j = true ↔ i = j := by unfold eqD; exact beq_iff_eq
theorem eqD_same (i : List UInt8) : eqD i i = true := (eqD_iff i i).2 rfl
theorem eql_arrD (i j : List UInt8) (hi : i.length = 20) (hj : j.length = 20) (w : World) : (binOp .eql 24 (.agg (arrD i)) (.agg (arrD j))).run Tryz.prog w = .ok (.bool (eqD i j)) w := eql_idv w i j hi hj
theorem neq_arrD (i j : List UInt8) (hi : i.length = 20) (hj : j.length = 20) (w : World) : (binOp .neq 24 (.agg (arrD i)) (.agg (arrD j))).run Tryz.prog w = .ok (.bool (!eqD i j)) w := neq_idv w i j hi hj
def IdsAt (w : World) (a : Option Addr) (l : List (List UInt8)) : Prop :=
 0 < l.length → ∃ b o, a = some ⟨b, o, none⟩ ∧ b < w.heap.size ∧ ∀ k (h : k < l.length) j v, (cellsD l[k])[j]? = some v → w.cell? ⟨b, o + k * 20 + j, none⟩ = some v
theorem IdsAt.keep {w w' : World} {a : Option Addr} {l : List (List UInt8)} (h : IdsAt w a l) (b : Below w.heap.size w w') : IdsAt w' a l := fun hp => by
 obtain ⟨g, o, h1, h2, h3⟩ := h hp; exact ⟨g, o, h1, Nat.lt_of_lt_of_le h2 b.size, fun k hk j v hv => (b.cell (p := ⟨g, o + k * 20 + j, none⟩) h2).trans (h3 k hk j v hv)⟩
theorem IdsAt.nil (w : World) (a : Option Addr) : IdsAt w a [] := fun h => absurd h (Nat.lt_irrefl 0)
theorem row_cellsD {w : World} {g : Nat} {i : List UInt8} {t : TypeId} {fr : Nat × Nat} (h : w.heap[g]? = some (.cells (cellsD i).toArray t fr)) : ∀ j v, (cellsD i)[j]? = some v → w.cell? ⟨g, 0 + j, none⟩ = some v := fun j v hv => by
 rw [Nat.zero_add, Lib.cell_of_heap h, ← hv]
 simp
end Go.Proofs.YtnbcbiglkmdepaaGreatDoor
