/-
  Texts that belong together, one behind the other.
-/
import Derived.Maps.Range
import Derived.Maps.OwnIn
import Derived.MapKept
import Derived.ChangeMaps5
import Derived.WalkKit
import Derived.Test.YtgbmbemmkadagaaFu19
import Derived.DeepKeys4
import Derived.Sort.MapsRangeIn
/-
  Maps of any program: a map's block told as its entries in the order in which they were laid; a look-up, a store of a new key.
-/
namespace Go.Proofs.Ytgbmbemmkadagaa
open Go.Maps Go.MapKept Go.ChangeMaps
open Go.WideElems (Fit rd rg rd_mk rg_of)
set_option linter.unusedVariables false
set_option linter.unusedSimpArgs false

/-- A map's block: its entries, in the order in which they were laid. -/
def MapAt (w : World) (b : Nat) (M : List (Value × Value)) : Prop :=
  ∃ es clock, w.heap[b]? = some (.map es clock) ∧ Stamped es clock ∧ es.size ≤ maxLen ∧ es.toList.map (fun e => (e.key, e.val)) = M
variable {P : Program} {k e t : TypeId} {w : World} {b : Nat} {M : List (Value × Value)}
theorem MapAt.keep {u : World} (h : MapAt w b M) (hb : u.heap[b]? = w.heap[b]?) : MapAt u b M := by
  obtain ⟨es, clock, h1, h2, h3, h4⟩ := h
  exact ⟨es, clock, hb.trans h1, h2, h3, h4⟩
theorem MapAt.lt (h : MapAt w b M) : b < w.heap.size := by
  obtain ⟨es, clock, h1, h2, h3, h4⟩ := h
  exact (Array.getElem?_eq_some_iff.1 h1).1
theorem MapAt.made (w : World) : MapAt (w.alloc (.map #[] 0)) w.heap.size [] := ⟨#[], 0, (MapKept.heap_alloc w _).1, stamped_empty 0, Nat.zero_le _, rfl⟩
theorem MapAt.len (h : MapAt w b M) : M.length ≤ maxLen := by
  obtain ⟨es, clock, h1, h2, h3, h4⟩ := h
  rw [← h4, List.length_map, Array.length_toList]
  exact h3
theorem MapAt.key_mem {es : Array MapEntry} (h4 : es.toList.map (fun e => (e.key, e.val)) = M) {x : MapEntry} (hx : x ∈ es.toList) : (x.key, x.val) ∈ M := by
  rw [← h4]
  exact List.mem_map.2 ⟨x, hx, rfl⟩
theorem MapAt.apart (h : MapAt w b M) : M.Pairwise (fun x y => x.1 ≠ y.1) := by
  obtain ⟨es, clock, h1, h2, h3, h4⟩ := h
  rw [← h4, List.pairwise_map]
  exact ((stamped_iff es clock).1 h2).2.2
/-- 'v, ok := m[k]' where the key is there. -/
theorem MapAt.look_some (h : MapAt w b M) (K : Keyed P k) (ht : P.underlying t = some (.map k e)) (hk : ∀ m ∈ M, ∃ l, keyOf P k m.1 = some l) {key v : Value} (hm : (key, v) ∈ M) :
    (Instr.lookup t (.map (some b)) key true).run P w = .ok (.tuple #[v, .bool true]) w := by
  obtain ⟨es, clock, h1, h2, h3, h4⟩ := h
  obtain ⟨l, hl⟩ := hk _ hm
  have hks : ∀ x ∈ es.toList, ∃ l, keyOf P k x.key = some l := fun x hx => hk _ (MapAt.key_mem h4 hx)
  rw [← h4] at hm
  obtain ⟨x, hx, hxe⟩ := List.mem_map.1 hm
  obtain ⟨rfl, rfl⟩ := Prod.mk.inj hxe
  rcases K.find w hl es.toList hks with ⟨_, h6⟩ | ⟨j, e0, h5, h6, h7⟩
  · exact absurd rfl (h6 x hx)
  · have he : e0 = x := entry_eq_of_key ((stamped_iff es clock).1 h2).2.2 (List.mem_of_getElem? h6) hx h7
    subst he
    simp [Instr.lookup, run_underlying ht, MapKept.run_getObj_map h1, K.check w _ hl, h5, Result.andThen]
/-- .. and where it is not. -/
theorem MapAt.look_none (h : MapAt w b M) (K : Keyed P k) (ht : P.underlying t = some (.map k e)) {z : Value} (hz : (zeroValue e).run P w = .ok z w) (hk : ∀ m ∈ M, ∃ l, keyOf P k m.1 = some l) {key : Value} {l : Lit} (hl : keyOf P k key = some l) (hm : ∀ m ∈ M, m.1 ≠ key) :
    (Instr.lookup t (.map (some b)) key true).run P w = .ok (.tuple #[z, .bool false]) w := by
  obtain ⟨es, clock, h1, h2, h3, h4⟩ := h
  have hks : ∀ x ∈ es.toList, ∃ l, keyOf P k x.key = some l := fun x hx => hk _ (MapAt.key_mem h4 hx)
  rcases K.find w hl es.toList hks with ⟨h5, _⟩ | ⟨j, e0, h5, h6, h7⟩
  · simp [Instr.lookup, run_underlying ht, MapKept.run_getObj_map h1, K.check w _ hl, h5, hz, Result.andThen]
  · exact absurd h7 (hm _ (MapAt.key_mem h4 (List.mem_of_getElem? h6)))
/-- .. in a nil map. -/
theorem look_nilMap (K : Keyed P k) (ht : P.underlying t = some (.map k e)) {z : Value} (hz : (zeroValue e).run P w = .ok z w) {key : Value} {l : Lit} (hl : keyOf P k key = some l) :
    (Instr.lookup t (.map none) key true).run P w = .ok (.tuple #[z, .bool false]) w := by
  rcases K.find w hl [] (fun x hx => by cases hx) with ⟨h5, _⟩ | ⟨j, e0, h5, h6, h7⟩
  · simp [Instr.lookup, run_underlying ht, K.check w _ hl, h5, hz, Result.andThen]
  · simp at h6
/-- 'm[k] = v' at a new key. -/
theorem MapAt.put (h : MapAt w b M) (K : Keyed P k) (ht : P.underlying t = some (.map k e)) (hk : ∀ m ∈ M, ∃ l, keyOf P k m.1 = some l) {key v : Value} {l : Lit} (hl : keyOf P k key = some l) (hm : ∀ m ∈ M, m.1 ≠ key) (hr : M.length < maxLen) :
    ∃ w', (Instr.mapUpdate t (.map (some b)) key v).run P w = .ok () w' ∧ MapAt w' b (M ++ [(key, v)]) ∧ w.grownBy w' (some b) ∧ w'.heap.size = w.heap.size := by
  obtain ⟨es, clock, h1, h2, h3, h4⟩ := h
  have hks : ∀ x ∈ es.toList, ∃ l, keyOf P k x.key = some l := fun x hx => hk _ (MapAt.key_mem h4 hx)
  have hne : ∀ x ∈ es.toList, x.key ≠ key := fun x hx => hm _ (MapAt.key_mem h4 hx)
  have hsz : es.size = M.length := by rw [← h4, List.length_map, Array.length_toList]
  rcases K.find w hl es.toList hks with ⟨h5, _⟩ | ⟨j, e0, h5, h6, h7⟩
  · refine ⟨setBlock w b (.map (es.push ⟨key, v, clock⟩) (clock + 1)), ?_, ⟨_, _, heap_setBlock_same h1 _, stamped_push h2 hne, by rw [Array.size_push]; omega, by rw [Array.toList_push, List.map_append, h4]; rfl⟩, ⟨rfl, rfl, rfl, by simp [setBlock], fun i _ hi => heap_setBlock_other h1 _ (fun e => hi (by rw [e]))⟩, by simp [setBlock]⟩
    simp [Instr.mapUpdate, run_underlying ht, MapKept.run_getObj_map h1, K.check w false hl, h5, MapKept.run_setObj_map _ h1, Result.andThen, setBlock]
  · exact absurd h7 (hne _ (List.mem_of_getElem? h6))
/-- 'len(m)'. -/
theorem MapAt.length (h : MapAt w b M) (ht : P.underlying t = some (.map k e)) (ty : TypeId) : (Builtin.len_ #[t] ty #[.map (some b)]).run P w = .ok (goInt M.length) w := by
  obtain ⟨es, clock, h1, h2, h3, h4⟩ := h
  have hsz : es.size = M.length := by rw [← h4, List.length_map, Array.length_toList]
  rw [← hsz]
  exact run_len_map w t ty b es clock (by simp [Program.mapKeyOf, Program.mapElemOf, ht]) h1
/-- How an element reads, where nobody asks what it is. -/
def anyElem (v : Value) : Option (DataW Unit × List MemPlace) := some (.lit (.bool true), [])
theorem MapAt.fit (h : MapAt w b M) (hk : ∀ m ∈ M, ∃ l, keyOf P k m.1 = some l) : ∃ es clock, w.heap[b]? = some (.map es clock) ∧ Fit P k anyElem es clock ∧ es.size = M.length ∧ es.toList.map (fun e => (e.key, e.val)) = M := by
  obtain ⟨es, clock, h1, h2, h3, h4⟩ := h
  have hsz : es.size = M.length := by rw [← h4, List.length_map, Array.length_toList]
  refine ⟨es, clock, h1, ⟨h3, h2, fun x hx => ?_⟩, hsz, h4⟩
  obtain ⟨l, hl⟩ := hk _ (MapAt.key_mem h4 hx)
  exact ⟨_, rd_mk hl rfl⟩
/-- The same block, as the library tells it: its keys are those of the entries. -/
theorem MapAt.owns (h : MapAt w b M) (K : Keyed P k) (hk : ∀ m ∈ M, ∃ l, keyOf P k m.1 = some l) :
    ∃ D : DataW Unit, w.ownsMap P k anyElem b M.length D ∧ Maps.size D = M.length ∧ ∀ key l, keyOf P k key = some l → (Maps.has D l = true ↔ ∃ m ∈ M, m.1 = key) := by
  obtain ⟨es, clock, h1, F, hsz, h4⟩ := h.fit hk
  refine ⟨_, ⟨es, clock, h1, F, Nat.le_of_eq hsz, rfl⟩, ?_, fun key l hl => ?_⟩
  · simp [Maps.size, length_sorted, hsz]
  · constructor
    · intro hh
      obtain ⟨p, hp, hpk⟩ := List.any_eq_true.1 hh
      obtain ⟨x, hx, rfl⟩ := List.mem_map.1 (mem_sorted.1 hp)
      obtain ⟨lx, hlx⟩ := hk _ (MapAt.key_mem h4 hx)
      have e1 : (rg P k anyElem x).1 = lx := by rw [rg_of (rd_mk hlx rfl)]
      have e2 := WideAt.sameKey_eq hpk
      rw [e1] at e2
      subst e2
      exact ⟨_, MapAt.key_mem h4 hx, K.inj hlx hl⟩
    · rintro ⟨m, hm, rfl⟩
      rw [← h4] at hm
      obtain ⟨x, hx, rfl⟩ := List.mem_map.1 hm
      refine List.any_eq_true.2 ⟨rg P k anyElem x, mem_sorted.2 (List.mem_map.2 ⟨x, hx, rfl⟩), ?_⟩
      rw [rg_of (rd_mk hl rfl)]
      exact WideAt.sameKey_self (K.key hl)
end Go.Proofs.Ytgbmbemmkadagaa

/-
  Keys that are ids: what they read as; which keys have come while a map is gone over.
-/
namespace Go.Proofs.Ytgbmbemmkadagaa
set_option maxRecDepth 100000
open Go.Maps Go.MapKept
set_option linter.unusedVariables false
set_option linter.unusedSimpArgs false

theorem laidX : laidOutB Try.prog = true := by kernel_rfl
theorem rowX : (24 : TypeId) < Try.prog.types.size := of_decide_eq_true (by kernel_rfl)
theorem wideX : (match Try.prog.underlying 24 with | some (.array _ _) | some (.struct _) => true | _ => false) = true := by kernel_rfl
theorem idKeyed : Keyed Try.prog 24 := Keyed.of_law (deep_law_laid laidX (m := 2) (by omega) rowX (by kernel_rfl) wideX)

/-- Twenty bytes. -/
abbrev B20 := { i : List UInt8 // i.length = 20 }
instance : Inhabited B20 := ⟨⟨List.replicate 20 0, by simp⟩⟩
def encX (x : B20) : Value := .agg (arrD x.1)
theorem arrD_inj {a b : List UInt8} (h : arrD a = arrD b) : a = b := by
  unfold arrD cellsD at h
  have h := congrArg Array.toList h
  simp only [List.toList_toArray, Lib.byteCells] at h
  refine List.map_inj_right (fun x y e => ?_) |>.1 h
  have := (Value.int.inj e).2
  exact UInt8.toNat_inj.1 (by omega)
theorem encX_inj {x y : B20} (h : encX x = encX y) : x = y := Subtype.ext (arrD_inj (Value.agg.inj h))

theorem mapM_all {α β : Type} {f : α → Option β} {g : α → β} : ∀ {l : List α}, (∀ x ∈ l, f x = some (g x)) → l.mapM f = some (l.map g)
  | [], _ => by simp
  | a :: l, h => by
    rw [List.mapM_cons, h a (by simp), mapM_all (fun x hx => h x (by simp [hx]))]
    rfl
/-- What an id reads as, as a key. -/
def codeL (i : List UInt8) : Lit := .string (keyBytes ((List.range 20).map (fun k => [Lit.int .u8 ((i[k]?.getD 0).toNat : Int)])).flatten)
theorem key_idL (i : List UInt8) (hi : i.length = 20) : keyOf Try.prog 24 (.agg (arrD i)) = some (codeL i) := by
  have hu : Try.prog.underlying 24 = some (.array 20 5) := Try.underlying24
  have c1 : Try.prog.cellsOf 24 = 20 := by kernel_rfl
  have c2 : Try.prog.cellsOf 5 = 1 := by kernel_rfl
  have kt : Try.prog.keyType 24 = true := by kernel_rfl
  have hs : (arrD i).size = 20 := arrD_size i hi
  have hl : (arrD i).toList.length = 20 := by simpa using hs
  have hf : (Value.agg (arrD i)).formed Try.prog 24 = true := by
    simp [Value.formed, hu, c1, hs]
  unfold keyOf
  rw [hu]
  simp only
  rw [kt, hf]
  simp only [Bool.and_self, if_true]
  have hc : (Value.agg (arrD i)).cells.toList = (arrD i).toList := rfl
  rw [hc]
  obtain ⟨m, hm⟩ : ∃ m, Try.prog.types.size = m + 1 := Nat.exists_eq_succ_of_ne_zero (Nat.ne_of_gt (Nat.lt_of_le_of_lt (Nat.zero_le _) rowX))
  rw [hm]
  have step : ∀ k ∈ List.range 20, Try.prog.keyLits (m + 1) 5 (((arrD i).toList.drop (k * 1)).take 1) = some [.int .u8 ((i[k]?.getD 0).toNat : Int)] := by
    intro k hk
    have hk : k < i.length := by rw [hi]; exact List.mem_range.1 hk
    have e1 : ((arrD i).toList.drop (k * 1)).take 1 = [.int .u8 ((i[k]?.getD 0).toNat : Int)] := by
      unfold arrD cellsD
      rw [List.toList_toArray, Nat.mul_one, Lib.byteCells, ← List.map_drop, ← List.map_take, List.drop_eq_getElem_cons hk, List.take_succ_cons, List.take_zero, List.getElem?_eq_getElem hk]
      rfl
    rw [e1]
    have hw : (Lit.int .u8 ((i[k]?.getD 0).toNat : Int)).wf = true := by
      have hlt := (i[k]?.getD 0).toNat_lt
      have e1 : IntKind.u8.min = 0 := rfl
      have e2 : IntKind.u8.max = 255 := rfl
      simp only [Lit.wf, e1, e2, Bool.and_eq_true, decide_eq_true_eq]
      omega
    have hu8 : Try.prog.underlying 5 = some (.int .u8) := Try.underlying5
    unfold Program.keyLits
    simp only [hu8]
    rw [if_pos ⟨trivial, hw⟩]
  have top : Try.prog.keyLits (m + 1 + 1) 24 (arrD i).toList = some ((List.range 20).map (fun k => [Lit.int .u8 ((i[k]?.getD 0).toNat : Int)])).flatten := by
    rw [Program.keyLits.eq_def]
    simp only [hu, c1, c2]
    rw [if_pos hl, mapM_all step]
    rfl
  rw [top]
  rfl
theorem key_id (i : List UInt8) (hi : i.length = 20) : ∃ l, keyOf Try.prog 24 (.agg (arrD i)) = some l := ⟨_, key_idL i hi⟩
def codeX (x : B20) : Lit := codeL x.1
theorem code_is (x : B20) : keyOf Try.prog 24 (encX x) = some (codeX x) := key_idL x.1 x.2
theorem code_same {x y : B20} : (codeX x).sameKey (codeX y) = true ↔ x = y := by
  constructor
  · intro h
    have e := WideAt.sameKey_eq h
    exact encX_inj (idKeyed.inj (code_is x) (e ▸ code_is y))
  · rintro rfl
    exact WideAt.sameKey_self (idKeyed.key (code_is x))
/-- Which keys have come: no one twice; those that are there and are no longer to9 come. -/
def CameX (D : DataW Unit) (left : Lit → Bool) (xs : List B20) : Prop := xs.Nodup ∧ ∀ x, x ∈ xs ↔ (Maps.has D (codeX x) = true ∧ left (codeX x) = false)
theorem CameX.start (D : DataW Unit) : CameX D (Maps.has D) [] := ⟨List.nodup_nil, fun x => by cases Maps.has D (codeX x) <;> simp⟩
theorem CameX.step {D : DataW Unit} {left : Lit → Bool} {xs : List B20} (h : CameX D left xs) {x : B20} {y : DataW Unit} (hlk : left (codeX x) = true) (hat : ∀ zd, D.atKey (codeX x) zd = y) :
    CameX D (fun z => left z && !z.sameKey (codeX x)) (xs ++ [x]) := by
  have hhas : Maps.has D (codeX x) = true := has_true_of_atKey hat
  have hnew : x ∉ xs := fun hx => by have := ((h.2 x).1 hx).2; rw [hlk] at this; cases this
  refine ⟨List.nodup_append.2 ⟨h.1, by simp, fun a ha b hb => by simp at hb; subst hb; exact fun e => hnew (e ▸ ha)⟩, fun y => ?_⟩
  by_cases hy : y = x
  · subst hy; simp [hhas, code_same.2 rfl]
  · have hne : (codeX y).sameKey (codeX x) = false := by
      cases e : (codeX y).sameKey (codeX x)
      · rfl
      · exact absurd (code_same.1 e) hy
    simp [h.2 y, hy, hne]
theorem CameX.all {D : DataW Unit} {left : Lit → Bool} {xs : List B20} (h : CameX D left xs) (hl : ∀ kl, left kl = false) {M : List B20} (hM : M.Nodup) (hD : ∀ x, Maps.has D (codeX x) = true ↔ x ∈ M) : xs.Perm M := by
  refine (List.perm_ext_iff_of_nodup h.1 hM).2 fun x => ?_
  rw [h.2 x, hl, hD x]
  simp
end Go.Proofs.Ytgbmbemmkadagaa
