/-
  Texts that belong together, one behind the other.
-/
import Derived.Maps.Range
import Derived.Maps.OwnIn
import Derived.MapKept
import Derived.ChangeMaps5
import Derived.WalkKit
import Derived.Lib.ValidLaws
import Derived.Laws.Entries
import Derived.Laws.BitsAllLaws
import Derived.Laws.RangeAny
import Derived.Lib.MapLaws
/-
  Maps of any program: a map's block told as its entries in the order in which they were laid; a look-up, a store of a new key.
-/
namespace Go.Proofs.YtpelehhmdcjikaaGreatDoor
open Go.Maps Go.MapKept Go.ChangeMaps
open Go.WideElems (Fit rd rg rd_mk rg_of)
set_option linter.unusedVariables false
set_option linter.unusedSimpArgs false
/-- A map's block: its entries, in the order in which they were laid. -/
def MapAt (w : World) (b : Nat) (M : List (Value × Value)) : Prop :=
  ∃ es clock, w.heap[b]? = some (.map es clock) ∧ Stamped es clock ∧ es.size ≤ maxLen ∧ es.toList.map (fun e => (e.key, e.val)) = M
variable {P : Program} {k e t : TypeId} {w : World} {b : Nat} {M : List (Value × Value)}
theorem MapAt.keep {u : World} (h : MapAt w b M) (hb : u.heap[b]? = w.heap[b]?) : MapAt u b M := by
  obtain ⟨es, clock, h1, h2, h3, h4⟩ := h
  exact ⟨es, clock, hb.trans h1, h2, h3, h4⟩
theorem MapAt.lt (h : MapAt w b M) : b < w.heap.size := by
  obtain ⟨es, clock, h1, h2, h3, h4⟩ := h
  exact (Array.getElem?_eq_some_iff.1 h1).1
theorem MapAt.made (w : World) : MapAt (w.alloc (.map #[] 0)) w.heap.size [] := ⟨#[], 0, (MapKept.heap_alloc w _).1, stamped_empty 0, Nat.zero_le _, rfl⟩
theorem MapAt.len (h : MapAt w b M) : M.length ≤ maxLen := by
  obtain ⟨es, clock, h1, h2, h3, h4⟩ := h
  rw [← h4, List.length_map, Array.length_toList]
  exact h3
theorem MapAt.key_mem {es : Array MapEntry} (h4 : es.toList.map (fun e => (e.key, e.val)) = M) {x : MapEntry} (hx : x ∈ es.toList) : (x.key, x.val) ∈ M := by
  rw [← h4]
  exact List.mem_map.2 ⟨x, hx, rfl⟩
theorem MapAt.apart (h : MapAt w b M) : M.Pairwise (fun x y => x.1 ≠ y.1) := by
  obtain ⟨es, clock, h1, h2, h3, h4⟩ := h
  rw [← h4, List.pairwise_map]
  exact ((stamped_iff es clock).1 h2).2.2
/-- 'v, ok := m[k]' where the key is there. -/
theorem MapAt.look_some (h : MapAt w b M) (K : Keyed P k) (ht : P.underlying t = some (.map k e)) (hk : ∀ m ∈ M, ∃ l, keyOf P k m.1 = some l) {key v : Value} (hm : (key, v) ∈ M) :
    (Instr.lookup t (.map (some b)) key true).run P w = .ok (.tuple #[v, .bool true]) w := by
  obtain ⟨es, clock, h1, h2, h3, h4⟩ := h
  obtain ⟨l, hl⟩ := hk _ hm
  have hks : ∀ x ∈ es.toList, ∃ l, keyOf P k x.key = some l := fun x hx => hk _ (MapAt.key_mem h4 hx)
  rw [← h4] at hm
  obtain ⟨x, hx, hxe⟩ := List.mem_map.1 hm
  obtain ⟨rfl, rfl⟩ := Prod.mk.inj hxe
  rcases K.find w hl es.toList hks with ⟨_, h6⟩ | ⟨j, e0, h5, h6, h7⟩
  · exact absurd rfl (h6 x hx)
  · have he : e0 = x := entry_eq_of_key ((stamped_iff es clock).1 h2).2.2 (List.mem_of_getElem? h6) hx h7
    subst he
    simp [Instr.lookup, run_underlying ht, MapKept.run_getObj_map h1, K.check w _ hl, h5, Result.andThen]
/-- .. and where it is not. -/
theorem MapAt.look_none (h : MapAt w b M) (K : Keyed P k) (ht : P.underlying t = some (.map k e)) {z : Value} (hz : (zeroValue e).run P w = .ok z w) (hk : ∀ m ∈ M, ∃ l, keyOf P k m.1 = some l) {key : Value} {l : Lit} (hl : keyOf P k key = some l) (hm : ∀ m ∈ M, m.1 ≠ key) :
    (Instr.lookup t (.map (some b)) key true).run P w = .ok (.tuple #[z, .bool false]) w := by
  obtain ⟨es, clock, h1, h2, h3, h4⟩ := h
  have hks : ∀ x ∈ es.toList, ∃ l, keyOf P k x.key = some l := fun x hx => hk _ (MapAt.key_mem h4 hx)
  rcases K.find w hl es.toList hks with ⟨h5, _⟩ | ⟨j, e0, h5, h6, h7⟩
  · simp [Instr.lookup, run_underlying ht, MapKept.run_getObj_map h1, K.check w _ hl, h5, hz, Result.andThen]
  · exact absurd h7 (hm _ (MapAt.key_mem h4 (List.mem_of_getElem? h6)))
/-- .. in a nil map. -/
theorem look_nilMap (K : Keyed P k) (ht : P.underlying t = some (.map k e)) {z : Value} (hz : (zeroValue e).run P w = .ok z w) {key : Value} {l : Lit} (hl : keyOf P k key = some l) :
    (Instr.lookup t (.map none) key true).run P w = .ok (.tuple #[z, .bool false]) w := by
  rcases K.find w hl [] (fun x hx => by cases hx) with ⟨h5, _⟩ | ⟨j, e0, h5, h6, h7⟩
  · simp [Instr.lookup, run_underlying ht, K.check w _ hl, h5, hz, Result.andThen]
  · simp at h6
/-- 'm[k] = v' at a new key. -/
theorem MapAt.put (h : MapAt w b M) (K : Keyed P k) (ht : P.underlying t = some (.map k e)) (hk : ∀ m ∈ M, ∃ l, keyOf P k m.1 = some l) {key v : Value} {l : Lit} (hl : keyOf P k key = some l) (hm : ∀ m ∈ M, m.1 ≠ key) (hr : M.length < maxLen) :
    ∃ w', (Instr.mapUpdate t (.map (some b)) key v).run P w = .ok () w' ∧ MapAt w' b (M ++ [(key, v)]) ∧ w.grownBy w' (some b) ∧ w'.heap.size = w.heap.size := by
  obtain ⟨es, clock, h1, h2, h3, h4⟩ := h
  have hks : ∀ x ∈ es.toList, ∃ l, keyOf P k x.key = some l := fun x hx => hk _ (MapAt.key_mem h4 hx)
  have hne : ∀ x ∈ es.toList, x.key ≠ key := fun x hx => hm _ (MapAt.key_mem h4 hx)
  have hsz : es.size = M.length := by rw [← h4, List.length_map, Array.length_toList]
  rcases K.find w hl es.toList hks with ⟨h5, _⟩ | ⟨j, e0, h5, h6, h7⟩
  · refine ⟨setBlock w b (.map (es.push ⟨key, v, clock⟩) (clock + 1)), ?_, ⟨_, _, heap_setBlock_same h1 _, stamped_push h2 hne, by rw [Array.size_push]; omega, by rw [Array.toList_push, List.map_append, h4]; rfl⟩, ⟨rfl, rfl, rfl, by simp [setBlock], fun i _ hi => heap_setBlock_other h1 _ (fun e => hi (by rw [e]))⟩, by simp [setBlock]⟩
    simp [Instr.mapUpdate, run_underlying ht, MapKept.run_getObj_map h1, K.check w false hl, h5, MapKept.run_setObj_map _ h1, Result.andThen, setBlock]
  · exact absurd h7 (hne _ (List.mem_of_getElem? h6))
/-- 'len(m)'. -/
theorem MapAt.length (h : MapAt w b M) (ht : P.underlying t = some (.map k e)) (ty : TypeId) : (Builtin.len_ #[t] ty #[.map (some b)]).run P w = .ok (goInt M.length) w := by
  obtain ⟨es, clock, h1, h2, h3, h4⟩ := h
  have hsz : es.size = M.length := by rw [← h4, List.length_map, Array.length_toList]
  rw [← hsz]
  exact run_len_map w t ty b es clock (by simp [Program.mapKeyOf, Program.mapElemOf, ht]) h1
/-- How an element reads, where nobody asks what it is. -/
def anyElem (v : Value) : Option (DataW Unit × List MemPlace) := some (.lit (.bool true), [])
theorem MapAt.fit (h : MapAt w b M) (hk : ∀ m ∈ M, ∃ l, keyOf P k m.1 = some l) : ∃ es clock, w.heap[b]? = some (.map es clock) ∧ Fit P k anyElem es clock ∧ es.size = M.length ∧ es.toList.map (fun e => (e.key, e.val)) = M := by
  obtain ⟨es, clock, h1, h2, h3, h4⟩ := h
  have hsz : es.size = M.length := by rw [← h4, List.length_map, Array.length_toList]
  refine ⟨es, clock, h1, ⟨h3, h2, fun x hx => ?_⟩, hsz, h4⟩
  obtain ⟨l, hl⟩ := hk _ (MapAt.key_mem h4 hx)
  exact ⟨_, rd_mk hl rfl⟩
/-- The same block, as the library tells it: its keys are those of the entries. -/
theorem MapAt.owns (h : MapAt w b M) (K : Keyed P k) (hk : ∀ m ∈ M, ∃ l, keyOf P k m.1 = some l) :
    ∃ D : DataW Unit, w.ownsMap P k anyElem b M.length D ∧ Maps.size D = M.length ∧ ∀ key l, keyOf P k key = some l → (Maps.has D l = true ↔ ∃ m ∈ M, m.1 = key) := by
  obtain ⟨es, clock, h1, F, hsz, h4⟩ := h.fit hk
  refine ⟨_, ⟨es, clock, h1, F, Nat.le_of_eq hsz, rfl⟩, ?_, fun key l hl => ?_⟩
  · simp [Maps.size, length_sorted, hsz]
  · constructor
    · intro hh
      obtain ⟨p, hp, hpk⟩ := List.any_eq_true.1 hh
      obtain ⟨x, hx, rfl⟩ := List.mem_map.1 (mem_sorted.1 hp)
      obtain ⟨lx, hlx⟩ := hk _ (MapAt.key_mem h4 hx)
      have e1 : (rg P k anyElem x).1 = lx := by rw [rg_of (rd_mk hlx rfl)]
      have e2 := WideAt.sameKey_eq hpk
      rw [e1] at e2
      subst e2
      exact ⟨_, MapAt.key_mem h4 hx, K.inj hlx hl⟩
    · rintro ⟨m, hm, rfl⟩
      rw [← h4] at hm
      obtain ⟨x, hx, rfl⟩ := List.mem_map.1 hm
      refine List.any_eq_true.2 ⟨rg P k anyElem x, mem_sorted.2 (List.mem_map.2 ⟨x, hx, rfl⟩), ?_⟩
      rw [rg_of (rd_mk hl rfl)]
      exact WideAt.sameKey_self (K.key hl)
end Go.Proofs.YtpelehhmdcjikaaGreatDoor

/-
  Layer 3, plain: paths, as functions of lists of bytes; nothing of the program.
-/
namespace Go.Proofs.YtpelehhmdcjikaaGreatDoor
set_option linter.unusedVariables false
/-- The names of a text: what stands between slashes. -/
def splitL : List UInt8 → List (List UInt8)
  | [] => [[]]
  | c :: r => if c.toNat = 47 then [] :: splitL r else
      match splitL r with
      | [] => [[c]]
      | n :: m => (c :: n) :: m
def lowB (c : UInt8) : UInt8 := if 65 ≤ c.toNat ∧ c.toNat ≤ 90 then UInt8.ofNat (c.toNat + 32) else c
def nameL (l : List UInt8) : Bool := !(l == []) && !(l == [46]) && !(l == [46, 46]) && !(l.map lowB == [46, 103, 105, 116])
/-- Is it a path? -/
def pathL (l : List UInt8) : Bool :=
  decide (1 ≤ l.length) && decide (l.length ≤ 400) && Lib.validD l && !l.any (fun c => c.toNat == 0) && decide ((splitL l).length ≤ 16) && (splitL l).all nameL
theorem split_slash (c : UInt8) (r : List UInt8) (h : c.toNat = 47) : splitL (c :: r) = [] :: splitL r := by
  rw [splitL.eq_def]; simp only [if_pos h]
theorem split_other (c : UInt8) (r n : List UInt8) (m : List (List UInt8)) (h : c.toNat ≠ 47) (hr : splitL r = n :: m) : splitL (c :: r) = (c :: n) :: m := by
  rw [splitL.eq_def]; simp only [if_neg h, hr]
theorem split_ne (l : List UInt8) : splitL l ≠ [] := by
  cases l with
  | nil => simp [splitL]
  | cons c r =>
    rw [splitL.eq_def]
    simp only
    split
    · simp
    · split <;> simp
theorem split_form (l : List UInt8) : ∃ n m, splitL l = n :: m := by
  cases h : splitL l with
  | nil => exact absurd h (split_ne l)
  | cons n m => exact ⟨n, m, rfl⟩
theorem split_none : ∀ (x : List UInt8), (∀ c ∈ x, c.toNat ≠ 47) → splitL x = [x]
  | [], _ => rfl
  | c :: r, h => split_other c r r [] (h c (by simp)) (split_none r (fun d hd => h d (by simp [hd])))
theorem split_at (y : List UInt8) (z : UInt8) (hz : z.toNat = 47) : ∀ (x : List UInt8), (∀ c ∈ x, c.toNat ≠ 47) → splitL (x ++ z :: y) = x :: splitL y
  | [], _ => split_slash z y hz
  | c :: r, h => split_other c (r ++ z :: y) r (splitL y) (h c (by simp)) (split_at y z hz r (fun d hd => h d (by simp [hd])))
end Go.Proofs.YtpelehhmdcjikaaGreatDoor

/-
  Layer 3, plain: what the walks of the quoting calls want, by places in a text.
-/
namespace Go.Proofs.YtpelehhmdcjikaaGreatDoor
set_option linter.unusedVariables false
theorem drop_at (l : List UInt8) (i : Nat) (h : i < l.length) : l.drop i = l.getD i 0 :: l.drop (i + 1) := by
  rw [List.drop_eq_getElem_cons h, List.getD_eq_getElem?_getD, List.getElem?_eq_getElem h]; rfl
/-- What is known when the names ahead of a place are right, and the next one begins there. -/
structure PathAt (l : List UInt8) (from_ n : Nat) : Prop where
  le : from_ ≤ l.length
  pos : 1 ≤ n
  split : ∃ done, done.length + 1 = n ∧ done.all nameL = true ∧ splitL l = done ++ splitL (l.drop from_)
theorem PathAt.start (l : List UInt8) : PathAt l 0 1 := ⟨Nat.zero_le _, Nat.le_refl _, [], rfl, rfl, rfl⟩
/-- The name between two places. -/
def cutL (l : List UInt8) (a b : Nat) : List UInt8 := (l.drop a).take (b - a)
theorem cut_split (l : List UInt8) (a i : Nat) (ha : a ≤ i) (hi : i < l.length) (h : ∀ j, a ≤ j → j < i → (l.getD j 0).toNat ≠ 47) (hs : (l.getD i 0).toNat = 47) : splitL (l.drop a) = cutL l a i :: splitL (l.drop (i + 1)) := by
  have e : l.drop a = cutL l a i ++ l.getD i 0 :: l.drop (i + 1) := by
    rw [← drop_at l i hi]
    unfold cutL
    have := List.take_append_drop (i - a) (l.drop a)
    rw [List.drop_drop, show a + (i - a) = i by omega] at this
    exact this.symm
  rw [e]
  refine split_at _ _ hs _ (fun c hc => ?_)
  unfold cutL at hc
  obtain ⟨j, hj, rfl⟩ := List.getElem_of_mem hc
  have hj2 : j < i - a := by simp at hj; omega
  have := h (a + j) (by omega) (by omega)
  rw [List.getElem_take, List.getElem_drop]
  rwa [List.getD_eq_getElem?_getD, List.getElem?_eq_getElem (by omega)] at this
theorem cut_last (l : List UInt8) (a : Nat) (ha : a ≤ l.length) (h : ∀ j, a ≤ j → j < l.length → (l.getD j 0).toNat ≠ 47) : splitL (l.drop a) = [cutL l a l.length] := by
  have e : l.drop a = cutL l a l.length := by unfold cutL; rw [List.take_of_length_le (by simp)]
  rw [← e]
  refine split_none _ (fun c hc => ?_)
  obtain ⟨j, hj, rfl⟩ := List.getElem_of_mem hc
  have hj2 : a + j < l.length := by simp at hj; omega
  have := h (a + j) (by omega) hj2
  rw [List.getElem_drop]
  rwa [List.getD_eq_getElem?_getD, List.getElem?_eq_getElem hj2] at this
theorem PathAt.next {l : List UInt8} {a n i : Nat} (p : PathAt l a n) (ha : a ≤ i) (hi : i < l.length) (h : ∀ j, a ≤ j → j < i → (l.getD j 0).toNat ≠ 47) (hs : (l.getD i 0).toNat = 47) (hn : nameL (cutL l a i) = true) : PathAt l (i + 1) (n + 1) where
  le := hi
  pos := by omega
  split := by
    obtain ⟨d, h1, h2, h3⟩ := p.split
    refine ⟨d ++ [cutL l a i], by simp; omega, by simp [h2, hn], ?_⟩
    rw [h3, cut_split l a i ha hi h hs]; simp
theorem PathAt.bad {l : List UInt8} {a n i : Nat} (p : PathAt l a n) (ha : a ≤ i) (hi : i ≤ l.length) (h : ∀ j, a ≤ j → j < i → (l.getD j 0).toNat ≠ 47) (hs : i < l.length → (l.getD i 0).toNat = 47) (hn : nameL (cutL l a i) = false) : pathL l = false := by
  obtain ⟨d, h1, h2, h3⟩ := p.split
  unfold pathL
  rw [h3]
  by_cases he : i < l.length
  · rw [cut_split l a i ha he h (hs he)]; simp [hn]
  · obtain rfl : i = l.length := by omega
    rw [cut_last l a p.le h]; simp [hn]
end Go.Proofs.YtpelehhmdcjikaaGreatDoor

/-
  Runes and bytes (plain): where a rune of a text begins, and that its bytes are high ones; a decoder that knows Quote's forms alone.
-/
namespace Go.Proofs.YtpelehhmdcjikaaGreatDoor
set_option linter.unusedVariables false
set_option linter.unusedSimpArgs false
theorem decodeN_wide (n b0 b1 b2 b3 : Nat) (h0 : 128 ≤ b0) (hn : 1 ≤ n) :
    128 ≤ (Lib.decodeN n b0 b1 b2 b3).1 ∧ 1 ≤ (Lib.decodeN n b0 b1 b2 b3).2 ∧ (Lib.decodeN n b0 b1 b2 b3).2 ≤ n ∧ (Lib.decodeN n b0 b1 b2 b3).2 ≤ 4 ∧
    (1 < (Lib.decodeN n b0 b1 b2 b3).2 → 128 ≤ b1) ∧ (2 < (Lib.decodeN n b0 b1 b2 b3).2 → 128 ≤ b2) ∧ (3 < (Lib.decodeN n b0 b1 b2 b3).2 → 128 ≤ b3) := by
  unfold Lib.decodeN
  rw [if_neg (by omega)]
  split
  · split
    · refine ⟨?_, ?_, ?_, ?_, ?_, ?_, ?_⟩ <;> simp only <;> omega
    · refine ⟨?_, ?_, ?_, ?_, ?_, ?_, ?_⟩ <;> simp only <;> omega
  · split
    · split
      · refine ⟨?_, ?_, ?_, ?_, ?_, ?_, ?_⟩ <;> simp only <;> omega
      · refine ⟨?_, ?_, ?_, ?_, ?_, ?_, ?_⟩ <;> simp only <;> omega
    · split
      · split
        · refine ⟨?_, ?_, ?_, ?_, ?_, ?_, ?_⟩ <;> simp only <;> omega
        · refine ⟨?_, ?_, ?_, ?_, ?_, ?_, ?_⟩ <;> simp only <;> omega
      · refine ⟨?_, ?_, ?_, ?_, ?_, ?_, ?_⟩ <;> simp only <;> omega
/-- What a range over a text hands over at a place: a low byte by itself, or a high rune whose bytes are all high. -/
theorem rune_at (l : List UInt8) (i : Nat) (hi : i < l.length) :
    ((l.getD i 0).toNat < 128 ∧ Utf8.decode ⟨l.toArray⟩ i = ((l.getD i 0).toNat, 1)) ∨
    (128 ≤ (l.getD i 0).toNat ∧ 128 ≤ (Utf8.decode ⟨l.toArray⟩ i).1 ∧ (Utf8.decode ⟨l.toArray⟩ i).1 ≤ 2147483647 ∧ 1 ≤ (Utf8.decode ⟨l.toArray⟩ i).2 ∧ (Utf8.decode ⟨l.toArray⟩ i).2 ≤ 4 ∧ i + (Utf8.decode ⟨l.toArray⟩ i).2 ≤ l.length ∧
      ∀ j, i ≤ j → j < i + (Utf8.decode ⟨l.toArray⟩ i).2 → 128 ≤ (l.getD j 0).toNat) := by
  have e : Utf8.decode ⟨l.toArray⟩ i = Lib.decodeN (l.length - i) (l.getD i 0).toNat (l.getD (i + 1) 0).toNat (l.getD (i + 2) 0).toNat (l.getD (i + 3) 0).toNat := Lib.decode_N ⟨l.toArray⟩ i
  by_cases h : (l.getD i 0).toNat < 128
  · left
    refine ⟨h, ?_⟩
    rw [e]
    unfold Lib.decodeN
    rw [if_pos h]
  · right
    have w := decodeN_wide (l.length - i) (l.getD i 0).toNat (l.getD (i + 1) 0).toNat (l.getD (i + 2) 0).toNat (l.getD (i + 3) 0).toNat (by omega) (by omega)
    have le := decode_le ⟨l.toArray⟩ i
    rw [e] at le ⊢
    obtain ⟨w1, w2, w3, w4, w5, w6, w7⟩ := w
    refine ⟨by omega, w1, le, w2, w4, by omega, fun j h1 h2 => ?_⟩
    obtain h3 | h3 | h3 | h3 : j = i ∨ j = i + 1 ∨ j = i + 2 ∨ j = i + 3 := by omega
    · subst h3; omega
    · subst h3; exact w5 (by omega)
    · subst h3; exact w6 (by omega)
    · subst h3; exact w7 (by omega)
end Go.Proofs.YtpelehhmdcjikaaGreatDoor

/-
  Layer 6, plain: runes of a text as pieces, what is clean; nothing of the program.
-/
namespace Go.Proofs.YtpelehhmdcjikaaGreatDoor
set_option linter.unusedVariables false
set_option linter.unusedSimpArgs false
theorem decodeN_same (L M b0 b1 b2 b3 c1 c2 c3 : Nat) (h : ¬ ((Lib.decodeN L b0 b1 b2 b3).1 = 65533 ∧ (Lib.decodeN L b0 b1 b2 b3).2 = 1)) (hM : (Lib.decodeN L b0 b1 b2 b3).2 ≤ M)
    (h1 : 1 < (Lib.decodeN L b0 b1 b2 b3).2 → c1 = b1) (h2 : 2 < (Lib.decodeN L b0 b1 b2 b3).2 → c2 = b2) (h3 : 3 < (Lib.decodeN L b0 b1 b2 b3).2 → c3 = b3) :
    Lib.decodeN M b0 c1 c2 c3 = Lib.decodeN L b0 b1 b2 b3 := by
  unfold Lib.decodeN at h hM h1 h2 h3 ⊢
  by_cases a : b0 < 128
  · simp only [if_pos a]
  · simp only [if_neg a] at h hM h1 h2 h3 ⊢
    by_cases b : b0 / 32 = 6 ∧ (1 < L ∧ b1 / 64 = 2)
    · simp only [if_pos b] at h hM h1 h2 h3 ⊢
      by_cases c : b0 % 32 * 64 + b1 % 64 ≥ 128
      · simp only [if_pos c] at h hM h1 h2 h3 ⊢
        have e1 := h1 (by omega)
        subst e1
        rw [if_pos ⟨b.1, by omega, b.2.2⟩, if_pos c]
      · simp only [if_neg c] at h
        exact absurd (And.intro trivial trivial) h
    · simp only [if_neg b] at h hM h1 h2 h3 ⊢
      by_cases d : b0 / 16 = 14 ∧ (1 < L ∧ b1 / 64 = 2) ∧ (2 < L ∧ b2 / 64 = 2)
      · simp only [if_pos d] at h hM h1 h2 h3 ⊢
        by_cases c : b0 % 16 * 4096 + b1 % 64 * 64 + b2 % 64 ≥ 2048 ∧ (b0 % 16 * 4096 + b1 % 64 * 64 + b2 % 64 < 55296 ∨ (57344 ≤ b0 % 16 * 4096 + b1 % 64 * 64 + b2 % 64 ∧ b0 % 16 * 4096 + b1 % 64 * 64 + b2 % 64 ≤ 1114111))
        · simp only [if_pos c] at h hM h1 h2 h3 ⊢
          have e1 := h1 (by omega); have e2 := h2 (by omega)
          subst e1; subst e2
          rw [if_neg (by omega), if_pos ⟨d.1, ⟨by omega, d.2.1.2⟩, by omega, d.2.2.2⟩, if_pos c]
        · simp only [if_neg c] at h
          exact absurd (And.intro trivial trivial) h
      · simp only [if_neg d] at h hM h1 h2 h3 ⊢
        by_cases f : b0 / 8 = 30 ∧ (1 < L ∧ b1 / 64 = 2) ∧ (2 < L ∧ b2 / 64 = 2) ∧ (3 < L ∧ b3 / 64 = 2)
        · simp only [if_pos f] at h hM h1 h2 h3 ⊢
          by_cases c : b0 % 8 * 262144 + b1 % 64 * 4096 + b2 % 64 * 64 + b3 % 64 ≥ 65536 ∧ (b0 % 8 * 262144 + b1 % 64 * 4096 + b2 % 64 * 64 + b3 % 64 < 55296 ∨ (57344 ≤ b0 % 8 * 262144 + b1 % 64 * 4096 + b2 % 64 * 64 + b3 % 64 ∧ b0 % 8 * 262144 + b1 % 64 * 4096 + b2 % 64 * 64 + b3 % 64 ≤ 1114111))
          · simp only [if_pos c] at h hM h1 h2 h3 ⊢
            have e1 := h1 (by omega); have e2 := h2 (by omega); have e3 := h3 (by omega)
            subst e1; subst e2; subst e3
            rw [if_neg (by omega), if_neg (by omega), if_pos ⟨f.1, ⟨by omega, f.2.1.2⟩, ⟨by omega, f.2.2.1.2⟩, by omega, f.2.2.2.2⟩, if_pos c]
          · simp only [if_neg c] at h
            exact absurd (And.intro trivial trivial) h
        · simp only [if_neg f] at h
          exact absurd (And.intro trivial trivial) h
theorem decodeL_N (l : List UInt8) : Lib.decodeL l = Lib.decodeN l.length (l.getD 0 0).toNat (l.getD 1 0).toNat (l.getD 2 0).toNat (l.getD 3 0).toNat := by
  have := Lib.decode_N ⟨l.toArray⟩ 0
  simpa [Lib.decodeL] using this
/-- Is there a right rune at the head? -/
def goodL (l : List UInt8) : Prop := ¬ ((Lib.decodeL l).1 = 65533 ∧ (Lib.decodeL l).2 = 1)
instance (l : List UInt8) : Decidable (goodL l) := by unfold goodL; exact inferInstance
def widL (l : List UInt8) : Nat := (Lib.decodeL l).2
theorem wid_pos (l : List UInt8) : 1 ≤ widL l := Lib.decodeL_width l
theorem wid_le (l : List UInt8) (h : l ≠ []) : widL l ≤ l.length := Lib.decodeL_le l h
/-- A right rune is the same whatever follows. -/
theorem good_take (l t : List UInt8) (h : l ≠ []) (hg : goodL l) : Lib.decodeL (l.take (widL l) ++ t) = Lib.decodeL l := by
  have hp := wid_pos l
  have hle := wid_le l h
  have e : ∀ i, i < widL l → (l.take (widL l) ++ t).getD i 0 = l.getD i 0 := fun i hi => by
    rw [List.getD_eq_getElem?_getD, List.getD_eq_getElem?_getD, List.getElem?_append_left (by rw [List.length_take]; omega), List.getElem?_take, if_pos hi]
  unfold goodL at hg
  unfold widL at *
  rw [decodeL_N l] at hg hp hle e ⊢
  rw [decodeL_N (_ ++ t), e 0 (by omega)]
  refine decodeN_same _ _ _ _ _ _ _ _ _ hg (by rw [List.length_append, List.length_take]; omega) (fun h1 => by rw [e 1 h1]) (fun h2 => by rw [e 2 h2]) (fun h3 => by rw [e 3 h3])
def barB (c : UInt8) : Bool := c.toNat == 0 || c.toNat == 10 || c.toNat == 60 || c.toNat == 62
/-- A piece: one right rune that may stand in a name. -/
structure Rune (g : List UInt8) : Prop where
  ne : g ≠ []
  wid : ∀ t, widL (g ++ t) = g.length
  good : ∀ t, goodL (g ++ t)
  bar : ∀ c ∈ g, barB c = false
  low : (∃ c : UInt8, g = [c] ∧ c.toNat < 128) ∨ ∀ c ∈ g, 128 ≤ c.toNat
def keepL (l : List UInt8) : Prop := goodL l ∧ ¬ (widL l = 1 ∧ barB (l.getD 0 0) = true)
instance (l : List UInt8) : Decidable (keepL l) := by unfold keepL; exact inferInstance
theorem wid_high (l : List UInt8) (h : l ≠ []) (h0 : 128 ≤ (l.getD 0 0).toNat) (hg : goodL l) : ∀ c ∈ l.take (widL l), 128 ≤ c.toNat := by
  have hr := rune_at l 0 (by cases l with | nil => exact absurd rfl h | cons _ _ => simp)
  rcases hr with ⟨h1, _⟩ | ⟨_, _, _, _, _, h5, h6⟩
  · omega
  · intro c hc
    obtain ⟨i, hi, rfl⟩ := List.getElem_of_mem hc
    rw [List.length_take] at hi
    have := h6 i (Nat.zero_le _) (by show i < 0 + (Lib.decodeL l).2; rw [Nat.zero_add]; exact Nat.lt_of_lt_of_le hi (Nat.min_le_left _ _))
    rw [List.getElem_take]
    rw [List.getD_eq_getElem?_getD, List.getElem?_eq_getElem (by omega)] at this
    simpa using this
theorem wid_low (l : List UInt8) (h : l ≠ []) (h0 : (l.getD 0 0).toNat < 128) : widL l = 1 := by
  unfold widL
  rw [decodeL_N]
  unfold Lib.decodeN
  rw [if_pos h0]
theorem good_high (l : List UInt8) (h : l ≠ []) (h0 : 128 ≤ (l.getD 0 0).toNat) (hg : goodL l) : 1 < widL l := by
  unfold goodL at hg
  unfold widL
  rw [decodeL_N] at hg ⊢
  unfold Lib.decodeN at hg ⊢
  rw [if_neg (by omega)] at hg ⊢
  split
  · split
    · simp
    · rename_i a b; simp only [if_pos a, if_neg b] at hg; exact absurd (And.intro trivial trivial) hg
  · split
    · split
      · simp
      · rename_i x a b; simp only [if_neg x, if_pos a, if_neg b] at hg; exact absurd (And.intro trivial trivial) hg
    · split
      · split
        · simp
        · rename_i x y a b; simp only [if_neg x, if_neg y, if_pos a, if_neg b] at hg; exact absurd (And.intro trivial trivial) hg
      · rename_i x y a; simp only [if_neg x, if_neg y, if_neg a] at hg; exact absurd (And.intro trivial trivial) hg
theorem rune_of (l : List UInt8) (h : l ≠ []) (hk : keepL l) : Rune (l.take (widL l)) := by
  have hp := wid_pos l
  have hle := wid_le l h
  have hlen : (l.take (widL l)).length = widL l := by rw [List.length_take]; omega
  have hd := fun t => good_take l t h hk.1
  refine ⟨fun e => by rw [e] at hlen; simp at hlen; omega, fun t => by rw [hlen]; unfold widL; rw [show (Lib.decodeL l).2 = widL l from rfl, hd t]; rfl, fun t => by unfold goodL; rw [hd t]; exact hk.1, ?_, ?_⟩
  · by_cases h0 : (l.getD 0 0).toNat < 128
    · have h1 := wid_low l h h0
      have hb : barB (l.getD 0 0) = false := by
        cases hb : barB (l.getD 0 0) with
        | false => rfl
        | true => exact absurd ⟨h1, hb⟩ hk.2
      intro c hc
      rw [h1] at hc
      cases l with
      | nil => exact absurd rfl h
      | cons x r => simp at hc; subst hc; simpa using hb
    · intro c hc
      have := wid_high l h (by omega) hk.1 c hc
      unfold barB
      simp
      omega
  · by_cases h0 : (l.getD 0 0).toNat < 128
    · left
      have h1 := wid_low l h h0
      cases l with
      | nil => exact absurd rfl h
      | cons x r => exact ⟨x, by rw [h1]; rfl, by simpa using h0⟩
    · right; exact wid_high l h (by omega) hk.1
/-- The pieces of a text: its right runes that are not barred. -/
def piecesN : Nat → List UInt8 → List (List UInt8)
  | 0, _ => []
  | n + 1, l => if l = [] then [] else if keepL l then l.take (widL l) :: piecesN n (l.drop (widL l)) else piecesN n (l.drop (widL l))
def pieces (l : List UInt8) : List (List UInt8) := piecesN l.length l
theorem pieces_fuel : ∀ (n m : Nat) (l : List UInt8), l.length ≤ n → l.length ≤ m → piecesN n l = piecesN m l
  | 0, 0, _, _, _ => rfl
  | 0, m + 1, l, h, _ => by
    have e : l = [] := List.eq_nil_of_length_eq_zero (by omega)
    simp [piecesN, e]
  | n + 1, 0, l, _, h => by
    have e : l = [] := List.eq_nil_of_length_eq_zero (by omega)
    simp [piecesN, e]
  | n + 1, m + 1, l, h1, h2 => by
    by_cases e : l = []
    · simp [piecesN, e]
    · have hp := wid_pos l
      have ih := pieces_fuel n m (l.drop (widL l)) (by rw [List.length_drop]; omega) (by rw [List.length_drop]; omega)
      unfold piecesN
      rw [if_neg e, if_neg e, ih]
theorem pieces_nil : pieces [] = [] := rfl
theorem pieces_step (l : List UInt8) (h : l ≠ []) : pieces l = if keepL l then l.take (widL l) :: pieces (l.drop (widL l)) else pieces (l.drop (widL l)) := by
  have hp := wid_pos l
  have hl : 1 ≤ l.length := by cases l with | nil => exact absurd rfl h | cons _ _ => simp
  obtain ⟨n, hn⟩ : ∃ n, l.length = n + 1 := ⟨l.length - 1, by omega⟩
  have e : piecesN n (l.drop (widL l)) = pieces (l.drop (widL l)) := pieces_fuel _ _ _ (by rw [List.length_drop]; omega) (Nat.le_refl _)
  rw [← e]
  unfold pieces
  rw [hn]
  conv => lhs; unfold piecesN
  rw [if_neg h]
theorem pieces_rune : ∀ (n : Nat) (l : List UInt8), l.length ≤ n → ∀ g ∈ pieces l, Rune g
  | 0, l, h => by
    have e : l = [] := List.eq_nil_of_length_eq_zero (by omega)
    rw [e, pieces_nil]; intro g hg; cases hg
  | n + 1, l, h => by
    by_cases e : l = []
    · rw [e, pieces_nil]; intro g hg; cases hg
    · have hp := wid_pos l
      have ih := pieces_rune n (l.drop (widL l)) (by rw [List.length_drop]; omega)
      rw [pieces_step l e]
      split
      · rename_i hk
        intro g hg
        rcases List.mem_cons.1 hg with rfl | hg
        · exact rune_of l e hk
        · exact ih g hg
      · exact ih
theorem Rune.keep {g : List UInt8} (h : Rune g) (t : List UInt8) : keepL (g ++ t) ∧ widL (g ++ t) = g.length := by
  refine ⟨⟨h.good t, ?_⟩, h.wid t⟩
  rintro ⟨h1, h2⟩
  have hb := h.bar
  cases hg : g with
  | nil => exact h.ne hg
  | cons x r =>
    rw [hg] at h2 hb
    have := hb x (by simp)
    simp at h2
    rw [this] at h2
    cases h2
theorem valid_flatten : ∀ (gs : List (List UInt8)), (∀ g ∈ gs, Rune g) → Lib.validD gs.flatten = true
  | [], _ => rfl
  | g :: r, h => by
    have hg := h g (by simp)
    have hne : g ++ r.flatten ≠ [] := fun e => hg.ne (List.append_eq_nil_iff.1 e).1
    rw [List.flatten_cons, Lib.validD_step _ hne, if_neg (hg.good _)]
    have := hg.wid r.flatten
    unfold widL at this
    rw [this, List.drop_left]
    exact valid_flatten r (fun x hx => h x (by simp [hx]))
/-- A right text without barred bytes is its pieces. -/
theorem pieces_whole : ∀ (n : Nat) (l : List UInt8), l.length ≤ n → Lib.validD l = true → (∀ c ∈ l, barB c = false) → (pieces l).flatten = l
  | 0, l, h, _, _ => by
    have e : l = [] := List.eq_nil_of_length_eq_zero (by omega)
    rw [e]; rfl
  | n + 1, l, h, hv, hb => by
    by_cases e : l = []
    · rw [e]; rfl
    · have hp := wid_pos l
      rw [Lib.validD_step l e] at hv
      split at hv
      · cases hv
      · rename_i hg
        have hk : keepL l := ⟨hg, fun hh => by
          cases l with
          | nil => exact e rfl
          | cons x r => have := hb x (by simp); simp at hh; rw [this] at hh; exact absurd hh.2 (by decide)⟩
        rw [pieces_step l e, if_pos hk, List.flatten_cons, pieces_whole n (l.drop (widL l)) (by rw [List.length_drop]; omega) hv (fun c hc => hb c (List.mem_of_mem_drop hc)), List.take_append_drop]
end Go.Proofs.YtpelehhmdcjikaaGreatDoor

/-
  Layer 6, plain: what may be a name, and a text made clean; nothing of the program.
-/
namespace Go.Proofs.YtpelehhmdcjikaaGreatDoor
set_option linter.unusedVariables false
set_option linter.unusedSimpArgs false
/-- May it be a name, or an email? -/
def wordL (l : List UInt8) : Bool :=
  l.all (fun c => !barB c) && decide (l.length ≤ 200) && Lib.validD l && (decide (l = []) || (decide ((l.getD 0 0).toNat ≠ 32) && decide ((l.getD (l.length - 1) 0).toNat ≠ 32)))
theorem word_iff (l : List UInt8) : wordL l = true ↔ (∀ c ∈ l, barB c = false) ∧ l.length ≤ 200 ∧ Lib.validD l = true ∧ (l ≠ [] → (l.getD 0 0).toNat ≠ 32 ∧ (l.getD (l.length - 1) 0).toNat ≠ 32) := by
  unfold wordL
  simp only [Bool.and_eq_true, Bool.or_eq_true, decide_eq_true_eq, List.all_eq_true, Bool.not_eq_true', and_assoc]
  constructor
  · rintro ⟨h1, h2, h3, h4⟩
    refine ⟨h1, h2, h3, fun hne => ?_⟩
    rcases h4 with h4 | h4
    · exact absurd h4 hne
    · exact h4
  · rintro ⟨h1, h2, h3, h4⟩
    refine ⟨h1, h2, h3, ?_⟩
    by_cases e : l = []
    · exact .inl e
    · exact .inr (h4 e)
/-- As many pieces as have room. -/
def fitL : Nat → List (List UInt8) → List (List UInt8)
  | _, [] => []
  | n, g :: r => if g.length ≤ n then g :: fitL (n - g.length) r else []
def blank (g : List UInt8) : Bool := decide (g = [32])
def lstrip (gs : List (List UInt8)) : List (List UInt8) := gs.dropWhile blank
def rstrip : List (List UInt8) → List (List UInt8)
  | [] => []
  | g :: r => match rstrip r with
    | [] => if blank g then [] else [g]
    | x :: y => g :: x :: y
def cleanT (l : List UInt8) : List UInt8 := (rstrip (fitL 200 (lstrip (pieces l)))).flatten
theorem fit_sub : ∀ (gs : List (List UInt8)) (n : Nat), ∀ g ∈ fitL n gs, g ∈ gs
  | [], n => by simp [fitL]
  | x :: r, n => by
    intro g hg
    unfold fitL at hg
    split at hg
    · rcases List.mem_cons.1 hg with rfl | hg
      · simp
      · exact List.mem_cons_of_mem _ (fit_sub r _ g hg)
    · cases hg
theorem fit_len : ∀ (gs : List (List UInt8)) (n : Nat), (fitL n gs).flatten.length ≤ n
  | [], n => by simp [fitL]
  | x :: r, n => by
    unfold fitL
    split
    · rw [List.flatten_cons, List.length_append]; have := fit_len r (n - x.length); omega
    · simp
theorem fit_all : ∀ (gs : List (List UInt8)) (n : Nat), gs.flatten.length ≤ n → fitL n gs = gs
  | [], n, _ => rfl
  | x :: r, n, h => by
    rw [List.flatten_cons, List.length_append] at h
    unfold fitL
    rw [if_pos (by omega), fit_all r _ (by omega)]
theorem fit_head (g : List UInt8) (r : List (List UInt8)) (n : Nat) : fitL n (g :: r) = [] ∨ ∃ s, fitL n (g :: r) = g :: s := by
  unfold fitL
  split
  · exact .inr ⟨_, rfl⟩
  · exact .inl rfl
theorem lstrip_sub (gs : List (List UInt8)) : ∀ g ∈ lstrip gs, g ∈ gs := fun g hg => (List.dropWhile_suffix blank).subset hg
theorem lstrip_head : ∀ gs : List (List UInt8), lstrip gs = [] ∨ ∃ g r, lstrip gs = g :: r ∧ blank g = false
  | [] => .inl rfl
  | g :: r => by
    unfold lstrip
    cases h : blank g with
    | true => rw [List.dropWhile_cons_of_pos h]; exact lstrip_head r
    | false => rw [List.dropWhile_cons_of_neg (by rw [h]; decide)]; exact .inr ⟨g, r, rfl, h⟩
theorem lstrip_none (g : List UInt8) (r : List (List UInt8)) (h : blank g = false) : lstrip (g :: r) = g :: r := List.dropWhile_cons_of_neg (by rw [h]; decide)
theorem rstrip_sub : ∀ gs : List (List UInt8), ∀ g ∈ rstrip gs, g ∈ gs
  | [] => by simp [rstrip]
  | x :: r => by
    intro g hg
    have ih := rstrip_sub r
    unfold rstrip at hg
    split at hg
    · split at hg
      · cases hg
      · rw [List.mem_singleton.1 hg]; simp
    · rename_i a b e
      rcases List.mem_cons.1 hg with rfl | hg
      · simp
      · exact List.mem_cons_of_mem _ (ih g (by rw [e]; exact hg))
theorem rstrip_len : ∀ gs : List (List UInt8), (rstrip gs).flatten.length ≤ gs.flatten.length
  | [] => by simp [rstrip]
  | x :: r => by
    have ih := rstrip_len r
    unfold rstrip
    split
    · split
      · simp
      · simp
    · rename_i a b e
      rw [e] at ih
      simp only [List.flatten_cons, List.length_append] at ih ⊢
      omega
theorem rstrip_head (g : List UInt8) (r : List (List UInt8)) (h : blank g = false) : ∃ s, rstrip (g :: r) = g :: s := by
  unfold rstrip
  split
  · rw [h]; exact ⟨[], rfl⟩
  · exact ⟨_, rfl⟩
theorem rstrip_last : ∀ gs : List (List UInt8), rstrip gs = [] ∨ ∃ r g, rstrip gs = r ++ [g] ∧ blank g = false
  | [] => .inl rfl
  | x :: r => by
    have ih := rstrip_last r
    unfold rstrip
    split
    · cases h : blank x with
      | true => exact .inl (by simp)
      | false => exact .inr ⟨[], x, by simp, h⟩
    · rename_i a b e
      right
      rcases ih with ih | ⟨s, g, ih, hg⟩
      · rw [e] at ih; cases ih
      · rw [e] at ih; exact ⟨x :: s, g, by rw [ih]; rfl, hg⟩
theorem rstrip_none : ∀ (r : List (List UInt8)) (g : List UInt8), blank g = false → rstrip (r ++ [g]) = r ++ [g]
  | [], g, h => by simp [rstrip, h]
  | x :: r, g, h => by
    have ih := rstrip_none r g h
    rw [List.cons_append]
    unfold rstrip
    rw [ih]
    split
    · rename_i e; simp at e
    · rename_i a b e; rw [e]
theorem Rune.first {g : List UInt8} (h : Rune g) (hb : blank g = false) : (g.getD 0 0).toNat ≠ 32 := by
  intro e
  rcases h.low with ⟨c, rfl, hc⟩ | hh
  · have : c = 32 := UInt8.toNat_inj.1 (by simpa using e)
    subst this
    exact absurd hb (by decide)
  · cases hg : g with
    | nil => exact h.ne hg
    | cons x r =>
      rw [hg] at e hh
      have := hh x (by simp)
      simp at e
      omega
theorem Rune.final {g : List UInt8} (h : Rune g) (hb : blank g = false) : (g.getD (g.length - 1) 0).toNat ≠ 32 := by
  intro e
  rcases h.low with ⟨c, rfl, hc⟩ | hh
  · have : c = 32 := UInt8.toNat_inj.1 (by simpa using e)
    subst this
    exact absurd hb (by decide)
  · have hl : 0 < g.length := by cases hg : g with | nil => exact absurd hg h.ne | cons _ _ => simp
    rw [List.getD_eq_getElem?_getD, List.getElem?_eq_getElem (by omega)] at e
    have := hh _ (List.getElem_mem (show g.length - 1 < g.length by omega))
    simp at e
    omega
/-- What is clean may be a name. -/
theorem clean_isword (l : List UInt8) : wordL (cleanT l) = true := by
  have hr : ∀ g ∈ rstrip (fitL 200 (lstrip (pieces l))), Rune g := fun g hg => pieces_rune l.length l (Nat.le_refl _) g (lstrip_sub _ g (fit_sub _ _ g (rstrip_sub _ g hg)))
  have hlast := rstrip_last (fitL 200 (lstrip (pieces l)))
  have hlen := Nat.le_trans (rstrip_len (fitL 200 (lstrip (pieces l)))) (fit_len (lstrip (pieces l)) 200)
  have hhead : rstrip (fitL 200 (lstrip (pieces l))) = [] ∨ ∃ g r, rstrip (fitL 200 (lstrip (pieces l))) = g :: r ∧ blank g = false := by
    rcases lstrip_head (pieces l) with e | ⟨g, r, e, hb⟩
    · left; rw [e]; rfl
    · rw [e]
      rcases fit_head g r 200 with e2 | ⟨s, e2⟩
      · left; rw [e2]; rfl
      · rw [e2]
        obtain ⟨t, e3⟩ := rstrip_head g s hb
        exact .inr ⟨g, t, e3, hb⟩
  unfold cleanT
  generalize rstrip (fitL 200 (lstrip (pieces l))) = gs at hr hlast hlen hhead
  rw [word_iff]
  refine ⟨fun c hc => ?_, hlen, valid_flatten gs hr, fun hne => ⟨?_, ?_⟩⟩
  · obtain ⟨g, hg, hcg⟩ := List.mem_flatten.1 hc
    exact (hr g hg).bar c hcg
  · rcases hhead with rfl | ⟨g, r, rfl, hb⟩
    · exact absurd rfl hne
    · have hg := hr g (by simp)
      have := hg.first hb
      cases h : g with
      | nil => exact absurd h hg.ne
      | cons x y => rw [h] at this; simpa using this
  · rcases hlast with rfl | ⟨r, g, rfl, hb⟩
    · exact absurd rfl hne
    · have hg := hr g (by simp)
      have := hg.final hb
      have hl : 0 < g.length := by cases h : g with | nil => exact absurd h hg.ne | cons _ _ => simp
      rw [List.flatten_append, List.flatten_singleton, List.length_append, List.getD_eq_getElem?_getD, List.getElem?_append_right (by omega), show r.flatten.length + g.length - 1 - r.flatten.length = g.length - 1 by omega, ← List.getD_eq_getElem?_getD]
      exact this
/-- What may be a name stays. -/
theorem word_stays (l : List UInt8) (h : wordL l = true) : cleanT l = l := by
  obtain ⟨h1, h2, h3, h4⟩ := (word_iff l).1 h
  have hw := pieces_whole l.length l (Nat.le_refl _) h3 h1
  have hr := pieces_rune l.length l (Nat.le_refl _)
  unfold cleanT
  generalize pieces l = gs at hw hr
  by_cases e : gs = []
  · subst e
    rw [← hw]; rfl
  · have hne : l ≠ [] := fun e2 => by
      rw [e2] at hw
      cases gs with
      | nil => exact e rfl
      | cons g r =>
        rw [List.flatten_cons] at hw
        exact (hr g (by simp)).ne (List.append_eq_nil_iff.1 hw).1
    obtain ⟨h5, h6⟩ := h4 hne
    have hl : lstrip gs = gs := by
      cases gs with
      | nil => rfl
      | cons g r =>
        refine lstrip_none g r ?_
        cases hb : blank g with
        | false => rfl
        | true =>
          have : g = [32] := of_decide_eq_true hb
          rw [← hw, this] at h5
          exact absurd rfl h5
    have hf : fitL 200 gs = gs := fit_all gs 200 (by rw [hw]; exact h2)
    rw [hl, hf]
    have hs : rstrip gs = gs := by
      obtain ⟨r, g, rfl⟩ : ∃ r g, gs = r ++ [g] := ⟨gs.dropLast, gs.getLast e, (List.dropLast_concat_getLast e).symm⟩
      refine rstrip_none r g ?_
      cases hb : blank g with
      | false => rfl
      | true =>
        have hg : g = [32] := of_decide_eq_true hb
        subst hg
        rw [← hw] at h6
        apply absurd _ h6
        rw [List.flatten_append, List.flatten_singleton, List.length_append, List.getD_eq_getElem?_getD, List.getElem?_append_right (by simp)]
        simp
    rw [hs, hw]
end Go.Proofs.YtpelehhmdcjikaaGreatDoor
