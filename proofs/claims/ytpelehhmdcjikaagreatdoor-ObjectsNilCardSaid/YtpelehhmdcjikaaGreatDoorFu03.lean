/-
  Texts that belong together, one behind the other.
-/
import Derived.Test.YtpelehhmdcjikaaGreatDoorFu02
import Derived.Lib.Hide
import Derived.Deep.RegionHeld3
import Derived.Lib.Bytes
import Derived.IntWalk
import Derived.WalkSmall
import Derived.BigFrame
import Derived.Test.YtpelehhmdcjikaaGreatDoorFu01
import Derived.DeepKeys4
import Derived.Sort.MapsRangeIn
import Derived.Laws.AppendOwn
import Derived.Laws.OwnMore
import Derived.Laws.CopyRow
import Derived.Laws.Tables
import Derived.Deep.Upon
import Derived.Deep.AppendSrc
import Derived.Deep.MidRow
import Derived.Great.BuildSlice
import Derived.Great.FillDense
import Derived.Below
import Derived.Lib.ItoaNum
/-
  Layer 9: rows of ids: their cells, what a block holds.
-/
namespace Go.Proofs.YtpelehhmdcjikaaGreatDoor
set_option maxRecDepth 20000
open Go.RowKit
set_option linter.unusedVariables false
set_option linter.unusedSimpArgs false
/-- An id's cells. -/
def cellsD (i : List UInt8) : List Value := Lib.byteCells i
theorem cellsD_len (i : List UInt8) (h : i.length = 20) : (cellsD i).length = 20 := by simp [cellsD, Lib.byteCells, h]
theorem cellsD_one (i : List UInt8) : (cellsD i).toArray.all (·.oneCell') = true := bc_all i
/-- An id's cells, as one array. -/
def arrD (i : List UInt8) : Array Value := (cellsD i).toArray
theorem idv_arrD (i : List UInt8) : idv i = .agg (arrD i) := rfl
theorem arrD_size (i : List UInt8) (h : i.length = 20) : (arrD i).size = 20 := by unfold arrD; rw [List.size_toArray, cellsD_len i h]
theorem arrD_one (i : List UInt8) : (arrD i).all (·.oneCell') = true := cellsD_one i
theorem infoD_n : (Tryz.prog.info? 24).map (·.size) = some 20 := by kernel_rfl
theorem infoD_arr (a : Array Value) (h : a.size = 20) : (Tryz.prog.info? 24).map (·.size) = some a.size := by rw [h]; exact infoD_n
theorem zIdD : (Tryz.prog.info? 24).map (fun i => (i.zero, i.size)) = some (some (.agg (arrD idZ)), 20) := by kernel_rfl
/-- Two ids alike. -/
def eqD (i j : List UInt8) : Bool := i == j
theorem eqD_iff (i j : List UInt8) : eqD i j = true ↔ i = j := by unfold eqD; exact beq_iff_eq
theorem eqD_same (i : List UInt8) : eqD i i = true := (eqD_iff i i).2 rfl
theorem eql_arrD (i j : List UInt8) (hi : i.length = 20) (hj : j.length = 20) (w : World) : (binOp .eql 24 (.agg (arrD i)) (.agg (arrD j))).run Tryz.prog w = .ok (.bool (eqD i j)) w := eql_idv w i j hi hj
theorem neq_arrD (i j : List UInt8) (hi : i.length = 20) (hj : j.length = 20) (w : World) : (binOp .neq 24 (.agg (arrD i)) (.agg (arrD j))).run Tryz.prog w = .ok (.bool (!eqD i j)) w := neq_idv w i j hi hj
/-- Ids, one behind the other. -/
def IdsAt (w : World) (a : Option Addr) (l : List (List UInt8)) : Prop :=
  0 < l.length → ∃ b o, a = some ⟨b, o, none⟩ ∧ b < w.heap.size ∧ ∀ k (h : k < l.length) j v, (cellsD l[k])[j]? = some v → w.cell? ⟨b, o + k * 20 + j, none⟩ = some v
theorem IdsAt.keep {w w' : World} {a : Option Addr} {l : List (List UInt8)} (h : IdsAt w a l) (b : Below w.heap.size w w') : IdsAt w' a l := fun hp => by
  obtain ⟨g, o, h1, h2, h3⟩ := h hp
  exact ⟨g, o, h1, Nat.lt_of_lt_of_le h2 b.size, fun k hk j v hv => (b.cell (p := ⟨g, o + k * 20 + j, none⟩) h2).trans (h3 k hk j v hv)⟩
theorem IdsAt.nil (w : World) (a : Option Addr) : IdsAt w a [] := fun h => absurd h (Nat.lt_irrefl 0)
theorem IdsAt.take {w : World} {a : Option Addr} {l : List (List UInt8)} (h : IdsAt w a l) (n : Nat) : IdsAt w a (l.take n) := fun hp => by
  have hp2 : 0 < l.length := by rw [List.length_take] at hp; omega
  obtain ⟨g, o, h1, h2, h3⟩ := h hp2
  refine ⟨g, o, h1, h2, fun k hk j v hv => ?_⟩
  rw [List.length_take] at hk
  rw [List.getElem_take] at hv
  exact h3 k (by omega) j v hv
/-- An item's cells in a block of its own. -/
theorem row_cellsD {w : World} {g : Nat} {i : List UInt8} {t : TypeId} {fr : Nat × Nat} (h : w.heap[g]? = some (.cells (cellsD i).toArray t fr)) : ∀ j v, (cellsD i)[j]? = some v → w.cell? ⟨g, 0 + j, none⟩ = some v := fun j v hv => by
  rw [Nat.zero_add, Lib.cell_of_heap h, ← hv]
  simp
end Go.Proofs.YtpelehhmdcjikaaGreatDoor

/-
  Keys that are ids: what they read as; which keys have come while a map is gone over.
-/
namespace Go.Proofs.YtpelehhmdcjikaaGreatDoor
set_option maxRecDepth 100000
open Go.Maps Go.MapKept
set_option linter.unusedVariables false
set_option linter.unusedSimpArgs false
theorem laidX : laidOutB Tryz.prog = true := by kernel_rfl
theorem rowX : (24 : TypeId) < Tryz.prog.types.size := of_decide_eq_true (by kernel_rfl)
theorem wideX : (match Tryz.prog.underlying 24 with | some (.array _ _) | some (.struct _) => true | _ => false) = true := by kernel_rfl
theorem idKeyed : Keyed Tryz.prog 24 := Keyed.of_law (deep_law_laid laidX (m := 2) (by omega) rowX (by kernel_rfl) wideX)
/-- Twenty bytes. -/
abbrev B20 := { i : List UInt8 // i.length = 20 }
instance : Inhabited B20 := ⟨⟨List.replicate 20 0, by simp⟩⟩
def encX (x : B20) : Value := .agg (arrD x.1)
theorem arrD_inj {a b : List UInt8} (h : arrD a = arrD b) : a = b := by
  unfold arrD cellsD at h
  have h := congrArg Array.toList h
  simp only [List.toList_toArray, Lib.byteCells] at h
  refine List.map_inj_right (fun x y e => ?_) |>.1 h
  have := (Value.int.inj e).2
  exact UInt8.toNat_inj.1 (by omega)
theorem encX_inj {x y : B20} (h : encX x = encX y) : x = y := Subtype.ext (arrD_inj (Value.agg.inj h))
theorem mapM_all {α β : Type} {f : α → Option β} {g : α → β} : ∀ {l : List α}, (∀ x ∈ l, f x = some (g x)) → l.mapM f = some (l.map g)
  | [], _ => by simp
  | a :: l, h => by
    rw [List.mapM_cons, h a (by simp), mapM_all (fun x hx => h x (by simp [hx]))]
    rfl
/-- What an id reads as, as a key. -/
def codeL (i : List UInt8) : Lit := .string (keyBytes ((List.range 20).map (fun k => [Lit.int .u8 ((i[k]?.getD 0).toNat : Int)])).flatten)
theorem key_idL (i : List UInt8) (hi : i.length = 20) : keyOf Tryz.prog 24 (.agg (arrD i)) = some (codeL i) := by
  have hu : Tryz.prog.underlying 24 = some (.array 20 5) := Tryz.underlying24
  have c1 : Tryz.prog.cellsOf 24 = 20 := by kernel_rfl
  have c2 : Tryz.prog.cellsOf 5 = 1 := by kernel_rfl
  have kt : Tryz.prog.keyType 24 = true := by kernel_rfl
  have hs : (arrD i).size = 20 := arrD_size i hi
  have hl : (arrD i).toList.length = 20 := by simpa using hs
  have hf : (Value.agg (arrD i)).formed Tryz.prog 24 = true := by
    simp [Value.formed, hu, c1, hs]
  unfold keyOf
  rw [hu]
  simp only
  rw [kt, hf]
  simp only [Bool.and_self, if_true]
  have hc : (Value.agg (arrD i)).cells.toList = (arrD i).toList := rfl
  rw [hc]
  obtain ⟨m, hm⟩ : ∃ m, Tryz.prog.types.size = m + 1 := Nat.exists_eq_succ_of_ne_zero (Nat.ne_of_gt (Nat.lt_of_le_of_lt (Nat.zero_le _) rowX))
  rw [hm]
  have step : ∀ k ∈ List.range 20, Tryz.prog.keyLits (m + 1) 5 (((arrD i).toList.drop (k * 1)).take 1) = some [.int .u8 ((i[k]?.getD 0).toNat : Int)] := by
    intro k hk
    have hk : k < i.length := by rw [hi]; exact List.mem_range.1 hk
    have e1 : ((arrD i).toList.drop (k * 1)).take 1 = [.int .u8 ((i[k]?.getD 0).toNat : Int)] := by
      unfold arrD cellsD
      rw [List.toList_toArray, Nat.mul_one, Lib.byteCells, ← List.map_drop, ← List.map_take, List.drop_eq_getElem_cons hk, List.take_succ_cons, List.take_zero, List.getElem?_eq_getElem hk]
      rfl
    rw [e1]
    have hw : (Lit.int .u8 ((i[k]?.getD 0).toNat : Int)).wf = true := by
      have hlt := (i[k]?.getD 0).toNat_lt
      have e1 : IntKind.u8.min = 0 := rfl
      have e2 : IntKind.u8.max = 255 := rfl
      simp only [Lit.wf, e1, e2, Bool.and_eq_true, decide_eq_true_eq]
      omega
    have hu8 : Tryz.prog.underlying 5 = some (.int .u8) := Tryz.underlying5
    unfold Program.keyLits
    simp only [hu8]
    rw [if_pos ⟨trivial, hw⟩]
  have top : Tryz.prog.keyLits (m + 1 + 1) 24 (arrD i).toList = some ((List.range 20).map (fun k => [Lit.int .u8 ((i[k]?.getD 0).toNat : Int)])).flatten := by
    rw [Program.keyLits.eq_def]
    simp only [hu, c1, c2]
    rw [if_pos hl, mapM_all step]
    rfl
  rw [top]
  rfl
theorem key_id (i : List UInt8) (hi : i.length = 20) : ∃ l, keyOf Tryz.prog 24 (.agg (arrD i)) = some l := ⟨_, key_idL i hi⟩
def codeX (x : B20) : Lit := codeL x.1
theorem code_is (x : B20) : keyOf Tryz.prog 24 (encX x) = some (codeX x) := key_idL x.1 x.2
theorem code_same {x y : B20} : (codeX x).sameKey (codeX y) = true ↔ x = y := by
  constructor
  · intro h
    have e := WideAt.sameKey_eq h
    exact encX_inj (idKeyed.inj (code_is x) (e ▸ code_is y))
  · rintro rfl
    exact WideAt.sameKey_self (idKeyed.key (code_is x))
/-- Which keys have come: no one twice; those that are there and are no longer to9 come. -/
def CameX (D : DataW Unit) (left : Lit → Bool) (xs : List B20) : Prop := xs.Nodup ∧ ∀ x, x ∈ xs ↔ (Maps.has D (codeX x) = true ∧ left (codeX x) = false)
theorem CameX.start (D : DataW Unit) : CameX D (Maps.has D) [] := ⟨List.nodup_nil, fun x => by cases Maps.has D (codeX x) <;> simp⟩
theorem CameX.step {D : DataW Unit} {left : Lit → Bool} {xs : List B20} (h : CameX D left xs) {x : B20} {y : DataW Unit} (hlk : left (codeX x) = true) (hat : ∀ zd, D.atKey (codeX x) zd = y) :
    CameX D (fun z => left z && !z.sameKey (codeX x)) (xs ++ [x]) := by
  have hhas : Maps.has D (codeX x) = true := has_true_of_atKey hat
  have hnew : x ∉ xs := fun hx => by have := ((h.2 x).1 hx).2; rw [hlk] at this; cases this
  refine ⟨List.nodup_append.2 ⟨h.1, by simp, fun a ha b hb => by simp at hb; subst hb; exact fun e => hnew (e ▸ ha)⟩, fun y => ?_⟩
  by_cases hy : y = x
  · subst hy; simp [hhas, code_same.2 rfl]
  · have hne : (codeX y).sameKey (codeX x) = false := by
      cases e : (codeX y).sameKey (codeX x)
      · rfl
      · exact absurd (code_same.1 e) hy
    simp [h.2 y, hy, hne]
theorem CameX.all {D : DataW Unit} {left : Lit → Bool} {xs : List B20} (h : CameX D left xs) (hl : ∀ kl, left kl = false) {M : List B20} (hM : M.Nodup) (hD : ∀ x, Maps.has D (codeX x) = true ↔ x ∈ M) : xs.Perm M := by
  refine (List.perm_ext_iff_of_nodup h.1 hM).2 fun x => ?_
  rw [h.2 x, hl, hD x]
  simp
end Go.Proofs.YtpelehhmdcjikaaGreatDoor

/-
  Rows of structs of whatever type, over any program: what a call owns, what lies somewhere, what is appended, what is stored.
-/
namespace Go.Proofs.YtpelehhmdcjikaaGreatDoor
open Go.RowKit
set_option linter.unusedVariables false
set_option linter.unusedSimpArgs false
/-- Elements of a row: their cells, their type. -/
structure RowT (α : Type) where
  cl : α → List Value
  size : Nat
  bytes : Nat
  ty : TypeId
  sl : TypeId
  ok : α → Prop
/-- What the program says of that type. -/
structure RowT.Good {α : Type} (R : RowT α) (P : Program) : Prop where
  pos : 0 < R.size
  len : ∀ x, R.ok x → (R.cl x).length = R.size
  one : ∀ x, R.ok x → ∀ v ∈ R.cl x, v.oneCell' = true
  under : P.underlying R.sl = some (.slice R.ty)
  info : ∃ ie z, P.info? R.ty = some ie ∧ ie.zero = some z ∧ ie.size = R.size ∧ ie.bytes = R.bytes ∧ z.cells.size = R.size
  small : R.size ≤ 1000 ∧ R.bytes ≤ 1000
section
variable {α : Type} {R : RowT α} {P : Program}
def RowT.flat (R : RowT α) (l : List α) : List Value := l.flatMap R.cl
theorem rflat_cons (x : α) (l : List α) : R.flat (x :: l) = R.cl x ++ R.flat l := by unfold RowT.flat; rw [List.flatMap_cons]
theorem rflat_back (G : R.Good P) : ∀ (l : List α) (h : ∀ x ∈ l, R.ok x) (j : Nat) (v : Value), (R.flat l)[j]? = some v → ∃ (k : Nat) (hk : k < l.length) (q : Nat), j = k * R.size + q ∧ (R.cl l[k])[q]? = some v
  | [], _, j, v, hv => by simp [RowT.flat] at hv
  | x :: l, h, j, v, hv => by
    have hl := G.len x (h x (by simp))
    rw [rflat_cons] at hv
    by_cases hj : j < R.size
    · rw [List.getElem?_append_left (by omega)] at hv
      exact ⟨0, by simp, j, by simp, hv⟩
    · rw [List.getElem?_append_right (by omega), hl] at hv
      obtain ⟨k, hk, q, e, hq⟩ := rflat_back G l (fun y hy => h y (by simp [hy])) (j - R.size) v hv
      exact ⟨k + 1, by simpa using hk, q, by rw [Nat.add_mul]; omega, by simpa using hq⟩
/-- Elements, one behind the other, somewhere. -/
def RowAt (R : RowT α) (w : World) (a : Option Addr) (l : List α) : Prop :=
  0 < l.length → ∃ b o, a = some ⟨b, o, none⟩ ∧ b < w.heap.size ∧ ∀ k (h : k < l.length) j v, (R.cl l[k])[j]? = some v → w.cell? ⟨b, o + k * R.size + j, none⟩ = some v
theorem RowAt.nil (w : World) (a : Option Addr) : RowAt R w a [] := fun h => absurd h (Nat.lt_irrefl 0)
theorem RowAt.keep {w u : World} {a : Option Addr} {l : List α} (h : RowAt R w a l) (b : Below w.heap.size w u) : RowAt R u a l := fun hp => by
  obtain ⟨g, o, h1, h2, h3⟩ := h hp
  exact ⟨g, o, h1, Nat.lt_of_lt_of_le h2 b.size, fun k hk j v hv => (b.cell (p := ⟨g, o + k * R.size + j, none⟩) h2).trans (h3 k hk j v hv)⟩
/-- The block it lies in is as it was. -/
theorem RowAt.same {w u : World} {a : Option Addr} {l : List α} (h : RowAt R w a l) (hs : w.heap.size ≤ u.heap.size) (hb : ∀ ad, a = Option.some ad → u.heap[ad.block]? = w.heap[ad.block]?) : RowAt R u a l := fun hp => by
  obtain ⟨g, o, h1, h2, h3⟩ := h hp
  refine ⟨g, o, h1, Nat.lt_of_lt_of_le h2 hs, fun k hk j v hv => ?_⟩
  rw [← h3 k hk j v hv]
  exact World.cell?_of_block (w := w) (hb ⟨g, o, none⟩ h1)
theorem RowAt.take {w : World} {a : Option Addr} {l : List α} (h : RowAt R w a l) (n : Nat) : RowAt R w a (l.take n) := fun hp => by
  have hp2 : 0 < l.length := by rw [List.length_take] at hp; omega
  obtain ⟨g, o, h1, h2, h3⟩ := h hp2
  refine ⟨g, o, h1, h2, fun k hk j v hv => ?_⟩
  rw [List.length_take] at hk
  exact h3 k (by omega) j v (by rw [List.getElem_take] at hv; exact hv)
theorem RowAt.drop {w : World} {b o : Nat} {l : List α} (h : RowAt R w (some ⟨b, o, none⟩) l) (n : Nat) : RowAt R w (some ⟨b, o + n * R.size, none⟩) (l.drop n) := fun hp => by
  have hp2 : 0 < l.length := by rw [List.length_drop] at hp; omega
  obtain ⟨g, o', h1, h2, h3⟩ := h hp2
  cases h1
  refine ⟨b, o + n * R.size, rfl, h2, fun k hk j v hv => ?_⟩
  rw [List.length_drop] at hk
  have := h3 (n + k) (by omega) j v (by rw [List.getElem_drop] at hv; exact hv)
  rw [Nat.add_mul] at this
  rw [show o + n * R.size + k * R.size + j = o + (n * R.size + k * R.size) + j by omega]
  exact this
/-- One of them. -/
theorem RowAt.elem {w : World} {b o : Nat} {l : List α} (h : RowAt R w (some ⟨b, o, none⟩) l) (k : Nat) (hk : k < l.length) : w.rangeAt b (o + k * R.size) (R.cl l[k]) := by
  obtain ⟨g, o', h1, h2, h3⟩ := h (by omega)
  cases h1
  exact fun j v hv => h3 k hk j v hv
theorem RowAt.lt {w : World} {b o : Nat} {l : List α} (h : RowAt R w (some ⟨b, o, none⟩) l) (hp : 0 < l.length) : b < w.heap.size := by
  obtain ⟨g, o', h1, h2, h3⟩ := h hp
  cases h1
  exact h2
theorem RowAt.some {w : World} {a : Option Addr} {l : List α} (h : RowAt R w a l) (hp : 0 < l.length) : ∃ b o, a = Option.some ⟨b, o, none⟩ ∧ b < w.heap.size := by
  obtain ⟨g, o', h1, h2, h3⟩ := h hp
  exact ⟨g, o', h1, h2⟩
theorem RowAt.cells (G : R.Good P) {w : World} {b o : Nat} {l : List α} (h : RowAt R w (Option.some ⟨b, o, none⟩) l) (hid : ∀ x ∈ l, R.ok x) (j : Nat) (u : Value) (hj : (R.flat l)[j]? = Option.some u) : w.cell? ((⟨b, o, none⟩ : Addr).add j) = Option.some u := by
  obtain ⟨k, hk, q, rfl, hq⟩ := rflat_back G l hid j u hj
  obtain ⟨g, o', h1, h2, h3⟩ := h (by omega)
  cases h1
  rw [show (⟨b, o, none⟩ : Addr).add (k * R.size + q) = ⟨b, o + (k * R.size + q), none⟩ by unfold Addr.add; split <;> simp_all, ← Nat.add_assoc]
  exact h3 k hk q u hq
end
end Go.Proofs.YtpelehhmdcjikaaGreatDoor

/-
  Layer 7, plain: the bytes of an object, which object bytes are, heads that are none; nothing of the program.
-/
namespace Go.Proofs.YtpelehhmdcjikaaGreatDoor
set_option linter.unusedVariables false
set_option linter.unusedSimpArgs false
/-- A number's digits. -/
def numO (n : Nat) : List UInt8 := Lib.itoa (n : Int)
theorem numO_dec (n : Nat) : numO n = Lib.decDigits n := by
  unfold numO Lib.itoa
  rw [if_neg (by omega), Int.toNat_natCast]
theorem numO_le (n : Nat) (j : Nat) (h : n < 10 ^ (j + 1)) : (numO n).length ≤ j + 1 := by
  rw [numO_dec]
  induction j generalizing n with
  | zero => rw [Lib.decDigits_one (by omega)]; simp
  | succ j ih =>
    by_cases h1 : n < 10
    · rw [Lib.decDigits_one h1]; simp
    · rw [Lib.decDigits.eq_1 n, dif_neg h1, List.length_append]
      have := ih (n / 10) (by rw [Nat.pow_succ] at h; omega)
      simp only [List.length_singleton]; omega
/-- The word of a kind. -/
def wordO (k : Int) : List UInt8 := if k = 1 then [98, 108, 111, 98] else if k = 2 then [116, 114, 101, 101] else if k = 3 then [99, 111, 109, 109, 105, 116] else []
/-- The head of an object of that kind, of so many bytes. -/
def headO (k : Int) (n : Nat) : List UInt8 := wordO k ++ 32 :: numO n
/-- The bytes of an object. -/
def objO (k : Int) (l : List UInt8) : List UInt8 := headO k l.length ++ 0 :: l
def kindO (k : Int) : Prop := k = 1 ∨ k = 2 ∨ k = 3
theorem wordO_nil (k : Int) : wordO k = [] ↔ ¬ kindO k := by
  unfold wordO kindO
  by_cases h1 : k = 1
  · simp [h1]
  · by_cases h2 : k = 2
    · simp [h2]
    · by_cases h3 : k = 3
      · simp [h3]
      · simp [h1, h2, h3]
theorem wordO_len (k : Int) : (wordO k).length ≤ 6 := by
  unfold wordO
  split
  · simp
  · split
    · simp
    · split <;> simp
theorem objO_length (k : Int) (l : List UInt8) : (objO k l).length = (wordO k).length + (numO l.length).length + l.length + 2 := by
  unfold objO headO; simp only [List.length_append, List.length_cons]; omega
/-- What is printed, with its error. -/
def printO (k : Int) (l : List UInt8) : List UInt8 × Int :=
  if wordO k = [] then ([], 10) else if 65536 < l.length then ([], 5) else (objO k l, 0)
theorem printO_ok (k : Int) (l : List UInt8) (hk : kindO k) (hl : l.length ≤ 65536) : printO k l = (objO k l, 0) := by
  unfold printO; rw [if_neg (by rw [wordO_nil]; exact fun h => h hk), if_neg (by omega)]
theorem printO_kind (k : Int) (l : List UInt8) (hk : ¬ kindO k) : printO k l = ([], 10) := by
  unfold printO; rw [if_pos ((wordO_nil k).2 hk)]
theorem printO_limit (k : Int) (l : List UInt8) (hk : kindO k) (hl : 65536 < l.length) : printO k l = ([], 5) := by
  unfold printO; rw [if_neg (by rw [wordO_nil]; exact fun h => h hk), if_pos hl]
end Go.Proofs.YtpelehhmdcjikaaGreatDoor

/-
  Layer 10, plain: objects by rising ids; where an id stands; what a put leaves. Nothing of the program.
-/
namespace Go.Proofs.YtpelehhmdcjikaaGreatDoor
set_option linter.unusedVariables false
set_option linter.unusedSimpArgs false
/-- An object with its id. -/
structure Cel where
  id : List UInt8
  kind : Int
  body : List UInt8
abbrev SrtS (l : List Cel) : Prop := l.Pairwise (fun a b => a.id < b.id)
theorem printO_zero {k : Int} {b : List UInt8} (h : (printO k b).2 = 0) : kindO k ∧ b.length ≤ 65536 := by
  by_cases hk : kindO k
  · by_cases hl : b.length ≤ 65536
    · exact ⟨hk, hl⟩
    · rw [printO_limit k b hk (by omega)] at h
      exact absurd h (by decide)
  · rw [printO_kind k b hk] at h
    exact absurd h (by decide)
end Go.Proofs.YtpelehhmdcjikaaGreatDoor

/-
  Bytes that are read alone.
-/
namespace Go.Proofs.YtpelehhmdcjikaaGreatDoor
open Go.RowKit
set_option linter.unusedVariables false
/-- Bytes that are read alone. -/
def Red (w : World) (v : Value) (l : List UInt8) : Prop := ∃ a c, v = .slice a l.length c ∧ BAt w a l ∧ (a = none → l.length = 0 ∧ c = 0) ∧ l.length ≤ c ∧ c ≤ maxLen
theorem Red.below {w w' : World} {v : Value} {l : List UInt8} (h : Red w v l) {B : Nat} (hb : Below B w w') (hB : w.heap.size ≤ B) : Red w' v l := by
  obtain ⟨a, c, e, hba, r⟩ := h
  exact ⟨a, c, e, hba.below hb hB, r⟩
theorem Red.none (w : World) : Red w (.slice none 0 0) [] := ⟨.none, 0, rfl, BAt.nil w _, fun _ => ⟨rfl, rfl⟩, Nat.le_refl _, Nat.zero_le _⟩
end Go.Proofs.YtpelehhmdcjikaaGreatDoor
