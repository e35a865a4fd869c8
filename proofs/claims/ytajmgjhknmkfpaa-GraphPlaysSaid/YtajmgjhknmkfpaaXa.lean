/-
  Maps of any program: a map's block told as its entries in the order in which they were laid; a look-up, a store of a new key.
-/
import Derived.Maps.Range
import Derived.Maps.OwnIn
import Derived.MapKept
import Derived.ChangeMaps5
import Derived.WalkKit
namespace Go.Proofs.Ytajmgjhknmkfpaa
open Go.Maps Go.MapKept Go.ChangeMaps
open Go.WideElems (Fit rd rg rd_mk rg_of)
set_option linter.unusedVariables false
set_option linter.unusedSimpArgs false

/-- A map's block: its entries, in the order in which they were laid. -/
def MapAt (w : World) (b : Nat) (M : List (Value × Value)) : Prop :=
  ∃ es clock, w.heap[b]? = some (.map es clock) ∧ Stamped es clock ∧ es.size ≤ maxLen ∧ es.toList.map (fun e => (e.key, e.val)) = M
variable {P : Program} {k e t : TypeId} {w : World} {b : Nat} {M : List (Value × Value)}
theorem MapAt.keep {u : World} (h : MapAt w b M) (hb : u.heap[b]? = w.heap[b]?) : MapAt u b M := by
  obtain ⟨es, clock, h1, h2, h3, h4⟩ := h
  exact ⟨es, clock, hb.trans h1, h2, h3, h4⟩
theorem MapAt.lt (h : MapAt w b M) : b < w.heap.size := by
  obtain ⟨es, clock, h1, h2, h3, h4⟩ := h
  exact (Array.getElem?_eq_some_iff.1 h1).1
theorem MapAt.made (w : World) : MapAt (w.alloc (.map #[] 0)) w.heap.size [] := ⟨#[], 0, (MapKept.heap_alloc w _).1, stamped_empty 0, Nat.zero_le _, rfl⟩
theorem MapAt.len (h : MapAt w b M) : M.length ≤ maxLen := by
  obtain ⟨es, clock, h1, h2, h3, h4⟩ := h
  rw [← h4, List.length_map, Array.length_toList]
  exact h3
theorem MapAt.key_mem {es : Array MapEntry} (h4 : es.toList.map (fun e => (e.key, e.val)) = M) {x : MapEntry} (hx : x ∈ es.toList) : (x.key, x.val) ∈ M := by
  rw [← h4]
  exact List.mem_map.2 ⟨x, hx, rfl⟩
theorem MapAt.apart (h : MapAt w b M) : M.Pairwise (fun x y => x.1 ≠ y.1) := by
  obtain ⟨es, clock, h1, h2, h3, h4⟩ := h
  rw [← h4, List.pairwise_map]
  exact ((stamped_iff es clock).1 h2).2.2
/-- 'v, ok := m[k]' where the key is there. -/
theorem MapAt.look_some (h : MapAt w b M) (K : Keyed P k) (ht : P.underlying t = some (.map k e)) (hk : ∀ m ∈ M, ∃ l, keyOf P k m.1 = some l) {key v : Value} (hm : (key, v) ∈ M) :
    (Instr.lookup t (.map (some b)) key true).run P w = .ok (.tuple #[v, .bool true]) w := by
  obtain ⟨es, clock, h1, h2, h3, h4⟩ := h
  obtain ⟨l, hl⟩ := hk _ hm
  have hks : ∀ x ∈ es.toList, ∃ l, keyOf P k x.key = some l := fun x hx => hk _ (MapAt.key_mem h4 hx)
  rw [← h4] at hm
  obtain ⟨x, hx, hxe⟩ := List.mem_map.1 hm
  obtain ⟨rfl, rfl⟩ := Prod.mk.inj hxe
  rcases K.find w hl es.toList hks with ⟨_, h6⟩ | ⟨j, e0, h5, h6, h7⟩
  · exact absurd rfl (h6 x hx)
  · have he : e0 = x := entry_eq_of_key ((stamped_iff es clock).1 h2).2.2 (List.mem_of_getElem? h6) hx h7
    subst he
    simp [Instr.lookup, run_underlying ht, MapKept.run_getObj_map h1, K.check w _ hl, h5, Result.andThen]
/-- .. and where it is not. -/
theorem MapAt.look_none (h : MapAt w b M) (K : Keyed P k) (ht : P.underlying t = some (.map k e)) {z : Value} (hz : (zeroValue e).run P w = .ok z w) (hk : ∀ m ∈ M, ∃ l, keyOf P k m.1 = some l) {key : Value} {l : Lit} (hl : keyOf P k key = some l) (hm : ∀ m ∈ M, m.1 ≠ key) :
    (Instr.lookup t (.map (some b)) key true).run P w = .ok (.tuple #[z, .bool false]) w := by
  obtain ⟨es, clock, h1, h2, h3, h4⟩ := h
  have hks : ∀ x ∈ es.toList, ∃ l, keyOf P k x.key = some l := fun x hx => hk _ (MapAt.key_mem h4 hx)
  rcases K.find w hl es.toList hks with ⟨h5, _⟩ | ⟨j, e0, h5, h6, h7⟩
  · simp [Instr.lookup, run_underlying ht, MapKept.run_getObj_map h1, K.check w _ hl, h5, hz, Result.andThen]
  · exact absurd h7 (hm _ (MapAt.key_mem h4 (List.mem_of_getElem? h6)))
/-- .. in a nil map. -/
theorem look_nilMap (K : Keyed P k) (ht : P.underlying t = some (.map k e)) {z : Value} (hz : (zeroValue e).run P w = .ok z w) {key : Value} {l : Lit} (hl : keyOf P k key = some l) :
    (Instr.lookup t (.map none) key true).run P w = .ok (.tuple #[z, .bool false]) w := by
  rcases K.find w hl [] (fun x hx => by cases hx) with ⟨h5, _⟩ | ⟨j, e0, h5, h6, h7⟩
  · simp [Instr.lookup, run_underlying ht, K.check w _ hl, h5, hz, Result.andThen]
  · simp at h6
/-- 'm[k] = v' at a new key. -/
theorem MapAt.put (h : MapAt w b M) (K : Keyed P k) (ht : P.underlying t = some (.map k e)) (hk : ∀ m ∈ M, ∃ l, keyOf P k m.1 = some l) {key v : Value} {l : Lit} (hl : keyOf P k key = some l) (hm : ∀ m ∈ M, m.1 ≠ key) (hr : M.length < maxLen) :
    ∃ w', (Instr.mapUpdate t (.map (some b)) key v).run P w = .ok () w' ∧ MapAt w' b (M ++ [(key, v)]) ∧ w.grownBy w' (some b) ∧ w'.heap.size = w.heap.size := by
  obtain ⟨es, clock, h1, h2, h3, h4⟩ := h
  have hks : ∀ x ∈ es.toList, ∃ l, keyOf P k x.key = some l := fun x hx => hk _ (MapAt.key_mem h4 hx)
  have hne : ∀ x ∈ es.toList, x.key ≠ key := fun x hx => hm _ (MapAt.key_mem h4 hx)
  have hsz : es.size = M.length := by rw [← h4, List.length_map, Array.length_toList]
  rcases K.find w hl es.toList hks with ⟨h5, _⟩ | ⟨j, e0, h5, h6, h7⟩
  · refine ⟨setBlock w b (.map (es.push ⟨key, v, clock⟩) (clock + 1)), ?_, ⟨_, _, heap_setBlock_same h1 _, stamped_push h2 hne, by rw [Array.size_push]; omega, by rw [Array.toList_push, List.map_append, h4]; rfl⟩, ⟨rfl, rfl, rfl, by simp [setBlock], fun i _ hi => heap_setBlock_other h1 _ (fun e => hi (by rw [e]))⟩, by simp [setBlock]⟩
    simp [Instr.mapUpdate, run_underlying ht, MapKept.run_getObj_map h1, K.check w false hl, h5, MapKept.run_setObj_map _ h1, Result.andThen, setBlock]
  · exact absurd h7 (hne _ (List.mem_of_getElem? h6))
/-- 'len(m)'. -/
theorem MapAt.length (h : MapAt w b M) (ht : P.underlying t = some (.map k e)) (ty : TypeId) : (Builtin.len_ #[t] ty #[.map (some b)]).run P w = .ok (goInt M.length) w := by
  obtain ⟨es, clock, h1, h2, h3, h4⟩ := h
  have hsz : es.size = M.length := by rw [← h4, List.length_map, Array.length_toList]
  rw [← hsz]
  exact run_len_map w t ty b es clock (by simp [Program.mapKeyOf, Program.mapElemOf, ht]) h1
/-- How an element reads, where nobody asks what it is. -/
def anyElem (v : Value) : Option (DataW Unit × List MemPlace) := some (.lit (.bool true), [])
theorem MapAt.fit (h : MapAt w b M) (hk : ∀ m ∈ M, ∃ l, keyOf P k m.1 = some l) : ∃ es clock, w.heap[b]? = some (.map es clock) ∧ Fit P k anyElem es clock ∧ es.size = M.length ∧ es.toList.map (fun e => (e.key, e.val)) = M := by
  obtain ⟨es, clock, h1, h2, h3, h4⟩ := h
  have hsz : es.size = M.length := by rw [← h4, List.length_map, Array.length_toList]
  refine ⟨es, clock, h1, ⟨h3, h2, fun x hx => ?_⟩, hsz, h4⟩
  obtain ⟨l, hl⟩ := hk _ (MapAt.key_mem h4 hx)
  exact ⟨_, rd_mk hl rfl⟩
/-- The same block, as the library tells it: its keys are those of the entries. -/
theorem MapAt.owns (h : MapAt w b M) (K : Keyed P k) (hk : ∀ m ∈ M, ∃ l, keyOf P k m.1 = some l) :
    ∃ D : DataW Unit, w.ownsMap P k anyElem b M.length D ∧ Maps.size D = M.length ∧ ∀ key l, keyOf P k key = some l → (Maps.has D l = true ↔ ∃ m ∈ M, m.1 = key) := by
  obtain ⟨es, clock, h1, F, hsz, h4⟩ := h.fit hk
  refine ⟨_, ⟨es, clock, h1, F, Nat.le_of_eq hsz, rfl⟩, ?_, fun key l hl => ?_⟩
  · simp [Maps.size, length_sorted, hsz]
  · constructor
    · intro hh
      obtain ⟨p, hp, hpk⟩ := List.any_eq_true.1 hh
      obtain ⟨x, hx, rfl⟩ := List.mem_map.1 (mem_sorted.1 hp)
      obtain ⟨lx, hlx⟩ := hk _ (MapAt.key_mem h4 hx)
      have e1 : (rg P k anyElem x).1 = lx := by rw [rg_of (rd_mk hlx rfl)]
      have e2 := WideAt.sameKey_eq hpk
      rw [e1] at e2
      subst e2
      exact ⟨_, MapAt.key_mem h4 hx, K.inj hlx hl⟩
    · rintro ⟨m, hm, rfl⟩
      rw [← h4] at hm
      obtain ⟨x, hx, rfl⟩ := List.mem_map.1 hm
      refine List.any_eq_true.2 ⟨rg P k anyElem x, mem_sorted.2 (List.mem_map.2 ⟨x, hx, rfl⟩), ?_⟩
      rw [rg_of (rd_mk hl rfl)]
      exact WideAt.sameKey_self (K.key hl)
end Go.Proofs.Ytajmgjhknmkfpaa
