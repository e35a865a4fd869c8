/-
  Texts that belong together, one behind the other.
-/
import Derived.Test.YtnbcbiglkmdepaaGreatDoorFu02
import Derived.DeepKeys4
import Derived.Sort.MapsRangeIn
import Derived.Laws.AppendOwn
import Derived.Laws.OwnMore
import Derived.Laws.CopyRow
import Derived.Laws.Tables
import Derived.Deep.Upon
import Derived.Deep.AppendSrc
import Derived.Deep.MidRow
import Derived.Great.BuildSlice
import Derived.Great.FillDense
import Derived.Below
import Derived.Lib.ItoaNum
import Derived.Test.YtnbcbiglkmdepaaGreatDoorFu01
import Derived.OwnWalk
import Derived.IntWalk
import Derived.WalkSmall
import Derived.Laws.CopyOwn
set_option maxHeartbeats 64000000
set_option linter.unusedVariables false
set_option linter.unusedSimpArgs false
namespace Go.Proofs.YtnbcbiglkmdepaaGreatDoor
set_option maxRecDepth 100000
open Go.Maps Go.MapKept
theorem laidX : laidOutB Tryz.prog = true := by kernel_rfl
theorem rowX : (24 : TypeId) < Tryz.prog.types.size := of_decide_eq_true (by kernel_rfl)
theorem wideX : (match Tryz.prog.underlying 24 with | some (.array _ _) | some (.struct _) => true | _ => false) = true := by kernel_rfl
theorem idKeyed : Keyed Tryz.prog 24 := Keyed.of_law (deep_law_laid laidX (m := 2) (by omega) rowX (by kernel_rfl) wideX)
abbrev B20 := { i : List UInt8 // i.length = 20 }
instance : Inhabited B20 := ⟨⟨List.replicate 20 0, by simp⟩⟩
def encX (x : B20) : Value := .agg (arrD x.1)
theorem arrD_inj {a b : List UInt8} (h : arrD a = arrD b) : a = b := by
 unfold arrD cellsD at h; have h := congrArg Array.toList h; simp only [List.toList_toArray, Lib.byteCells] at h
 refine List.map_inj_right (fun x y e => ?_) |>.1 h
 have := (Value.int.inj e).2; exact UInt8.toNat_inj.1 (by omega)
theorem encX_inj {x y : B20} (h : encX x = encX y) : x = y := Subtype.ext (arrD_inj (Value.agg.inj h))
theorem mapM_all {α β : Type} {f : α → Option β} {g : α → β} : ∀ {l : List α}, (∀ x ∈ l, f x = some (g x)) → l.mapM f = some (l.map g)
 | [], _ => by simp
 | a :: l, h => by
  rw [List.mapM_cons, h a (by simp), mapM_all (fun x hx => h x (by simp [hx]))]
  rfl
def codeL (i : List UInt8) : Lit := .string (keyBytes ((List.range 20).map (fun k => [Lit.int .u8 ((i[k]?.getD 0).toNat : Int)])).flatten)
theorem key_idL (i : List UInt8) (hi : i.length = 20) : keyOf Tryz.prog 24 (.agg (arrD i)) = some (codeL i) := by
 have hu : Tryz.prog.underlying 24 = some (.array 20 5) := Tryz.underlying24
 have c1 : Tryz.prog.cellsOf 24 = 20 := by kernel_rfl
 have c2 : Tryz.prog.cellsOf 5 = 1 := by kernel_rfl
 have kt : Tryz.prog.keyType 24 = true := by kernel_rfl
 have hs : (arrD i).size = 20 := arrD_size i hi
 have hl : (arrD i).toList.length = 20 := by simpa using hs
 have hf : (Value.agg (arrD i)).formed Tryz.prog 24 = true := by
  simp [Value.formed, hu, c1, hs]
 unfold keyOf; rw [hu]; simp only; rw [kt, hf]; simp only [Bool.and_self, if_true]; have hc : (Value.agg (arrD i)).cells.toList = (arrD i).toList := rfl; rw [hc]; obtain ⟨m, hm⟩ : ∃ m, Tryz.prog.types.size = m + 1 := Nat.exists_eq_succ_of_ne_zero (Nat.ne_of_gt (Nat.lt_of_le_of_lt (Nat.zero_le _) rowX)); rw [hm]
 have step : ∀ k ∈ List.range 20, Tryz.prog.keyLits (m + 1) 5 (((arrD i).toList.drop (k * 1)).take 1) = some [.int .u8 ((i[k]?.getD 0).toNat : Int)] := by
  intro k hk
  have hk : k < i.length := by rw [hi]; exact List.mem_range.1 hk
  have e1 : ((arrD i).toList.drop (k * 1)).take 1 = [.int .u8 ((i[k]?.getD 0).toNat : Int)] := by
   unfold arrD cellsD; rw [List.toList_toArray, Nat.mul_one, Lib.byteCells, ← List.map_drop, ← List.map_take, List.drop_eq_getElem_cons hk, List.take_succ_cons, List.take_zero, List.getElem?_eq_getElem hk]
   rfl
  rw [e1]
  have hw : (Lit.int .u8 ((i[k]?.getD 0).toNat : Int)).wf = true := by
   have hlt := (i[k]?.getD 0).toNat_lt; have e1 : IntKind.u8.min = 0 := rfl; have e2 : IntKind.u8.max = 255 := rfl; simp only [Lit.wf, e1, e2, Bool.and_eq_true, decide_eq_true_eq]
   omega
  have hu8 : Tryz.prog.underlying 5 = some (.int .u8) := Tryz.underlying5; unfold Program.keyLits; simp only [hu8]; rw [if_pos ⟨trivial, hw⟩]
 have top : Tryz.prog.keyLits (m + 1 + 1) 24 (arrD i).toList = some ((List.range 20).map (fun k => [Lit.int .u8 ((i[k]?.getD 0).toNat : Int)])).flatten := by
  rw [Program.keyLits.eq_def]; simp only [hu, c1, c2]; rw [if_pos hl, mapM_all step]
  rfl
 rw [top]
 rfl
theorem key_id (i : List UInt8) (hi : i.length = 20) : ∃ l, keyOf Tryz.prog 24 (.agg (arrD i)) = some l := ⟨_, key_idL i hi⟩
def codeX (x : B20) : Lit := codeL x.1
theorem code_is (x : B20) : keyOf Tryz.prog 24 (encX x) = some (codeX x) := key_idL x.1 x.2
theorem code_same {x y : B20} : (codeX x).sameKey (codeX y) = true ↔ x = y := by
 constructor
 ·intro h
  have e := WideAt.sameKey_eq h; exact encX_inj (idKeyed.inj (code_is x) (e ▸ code_is y))
 ·rintro rfl
  exact WideAt.sameKey_self (idKeyed.key (code_is x))
def CameX (D : DataW Unit) (left : Lit → Bool) (xs : List B20) : Prop := xs.Nodup ∧ ∀ x, x ∈ xs ↔ (Maps.has D (codeX x) = true ∧ left (codeX x) = false)
theorem CameX.start (D : DataW Unit) : CameX D (Maps.has D) [] := ⟨List.nodup_nil, fun x => by cases Maps.has D (codeX x) <;> simp⟩
theorem CameX.step {D : DataW Unit} {left : Lit → Bool} {xs : List B20} (h : CameX D left xs) {x : B20} {y : DataW Unit} (hlk : left (codeX x) = true) (hat : ∀ zd, D.atKey (codeX x) zd = y) :
  CameX D (fun z => left z && !z.sameKey (codeX x)) (xs ++ [x]) := by
 have hhas : Maps.has D (codeX x) = true := has_true_of_atKey hat
 have hnew : x ∉ xs := fun hx => by have := ((h.2 x).1 hx).2; rw [hlk] at this; cases this
 refine ⟨List.nodup_append.2 ⟨h.1, by simp, fun a ha b hb => by simp at hb; subst hb; exact fun e => hnew (e ▸ ha)⟩, fun y => ?_⟩
 by_cases hy : y = x
 ·subst hy; simp [hhas, code_same.2 rfl]
 ·have hne : (codeX y).sameKey (codeX x) = false := by
   cases e : (codeX y).sameKey (codeX x)
   ·rfl
   ·exact absurd (code_same.1 e) hy
  simp [h.2 y, hy, hne]
theorem CameX.all {D : DataW Unit} {left : Lit → Bool} {xs : List B20} (h : CameX D left xs) (hl : ∀ kl, left kl = false) {M : List B20} (hM : M.Nodup) (hD : ∀ x, Maps.has D (codeX x) = true ↔ x ∈ M) : xs.Perm M := by
 refine (List.perm_ext_iff_of_nodup h.1 hM).2 fun x => ?_
 rw [h.2 x, hl, hD x]
 simp
end Go.Proofs.YtnbcbiglkmdepaaGreatDoor
namespace Go.Proofs.YtnbcbiglkmdepaaGreatDoor
open Go.RowKit
structure RowT (α : Type) where
 cl : α → List Value
 size : Nat
 bytes : Nat
 ty : TypeId
 sl : TypeId
 ok : α → Prop
structure RowT.Good {α : Type} (R : RowT α) (P : Program) : Prop where
 pos : 0 < R.size
 len : ∀ x, R.ok x → (R.cl x).length = R.size
 one : ∀ x, R.ok x → ∀ v ∈ R.cl x, v.oneCell' = true
 under : P.underlying R.sl = some (.slice R.ty)
 info : ∃ ie z, P.info? R.ty = some ie ∧ ie.zero = some z ∧ ie.size = R.size ∧ ie.bytes = R.bytes ∧ z.cells.size = R.size
 small : R.size ≤ 1000 ∧ R.bytes ≤ 1000
section
variable {α : Type} {R : RowT α} {P : Program}
def RowT.flat (R : RowT α) (l : List α) : List Value := l.flatMap R.cl
theorem rflat_cons (x : α) (l : List α) : R.flat (x :: l) = R.cl x ++ R.flat l := by unfold RowT.flat; rw [List.flatMap_cons]
theorem rflat_append (l m : List α) : R.flat (l ++ m) = R.flat l ++ R.flat m := by unfold RowT.flat; rw [List.flatMap_append]
theorem rflat_len (G : R.Good P) : ∀ (l : List α), (∀ x ∈ l, R.ok x) → (R.flat l).length = l.length * R.size
 | [], _ => by simp [RowT.flat]
 | x :: l, h => by
  rw [rflat_cons, List.length_append, G.len x (h x (by simp)), rflat_len G l (fun y hy => h y (by simp [hy])), List.length_cons, Nat.add_mul, Nat.one_mul, Nat.add_comm]
theorem rflat_at (G : R.Good P) : ∀ (l : List α) (h : ∀ x ∈ l, R.ok x) (k : Nat) (hk : k < l.length) (j : Nat) (v : Value), (R.cl l[k])[j]? = some v → (R.flat l)[k * R.size + j]? = some v
 | [], _, k, hk, _, _, _ => absurd hk (Nat.not_lt_zero _)
 | x :: l, h, 0, hk, j, v, hv => by
  have hj : j < (R.cl x).length := (List.getElem?_eq_some_iff.1 hv).1; rw [rflat_cons, Nat.zero_mul, Nat.zero_add, List.getElem?_append_left hj]; exact hv
 | x :: l, h, k + 1, hk, j, v, hv => by
  have hl := G.len x (h x (by simp)); rw [rflat_cons, Nat.add_mul, Nat.one_mul, List.getElem?_append_right (by omega), hl, show k * R.size + R.size + j - R.size = k * R.size + j by omega]; exact rflat_at G l (fun y hy => h y (by simp [hy])) k (by simpa using hk) j v hv
theorem rflat_one (G : R.Good P) (l : List α) (h : ∀ x ∈ l, R.ok x) : ∀ v ∈ R.flat l, v.oneCell' = true := by
 intro v hv; unfold RowT.flat at hv; obtain ⟨x, hm, hx⟩ := List.mem_flatMap.1 hv; exact G.one x (h x hm) v hx
theorem rflat_back (G : R.Good P) : ∀ (l : List α) (h : ∀ x ∈ l, R.ok x) (j : Nat) (v : Value), (R.flat l)[j]? = some v → ∃ (k : Nat) (hk : k < l.length) (q : Nat), j = k * R.size + q ∧ (R.cl l[k])[q]? = some v
 | [], _, j, v, hv => by simp [RowT.flat] at hv
 | x :: l, h, j, v, hv => by
  have hl := G.len x (h x (by simp)); rw [rflat_cons] at hv
  by_cases hj : j < R.size
  ·rw [List.getElem?_append_left (by omega)] at hv
   exact ⟨0, by simp, j, by simp, hv⟩
  ·rw [List.getElem?_append_right (by omega), hl] at hv
   obtain ⟨k, hk, q, e, hq⟩ := rflat_back G l (fun y hy => h y (by simp [hy])) (j - R.size) v hv; exact ⟨k + 1, by simpa using hk, q, by rw [Nat.add_mul]; omega, by simpa using hq⟩
def RowAt (R : RowT α) (w : World) (a : Option Addr) (l : List α) : Prop :=
 0 < l.length → ∃ b o, a = some ⟨b, o, none⟩ ∧ b < w.heap.size ∧ ∀ k (h : k < l.length) j v, (R.cl l[k])[j]? = some v → w.cell? ⟨b, o + k * R.size + j, none⟩ = some v
theorem RowAt.nil (w : World) (a : Option Addr) : RowAt R w a [] := fun h => absurd h (Nat.lt_irrefl 0)
theorem RowAt.take {w : World} {a : Option Addr} {l : List α} (h : RowAt R w a l) (n : Nat) : RowAt R w a (l.take n) := fun hp => by
 have hp2 : 0 < l.length := by rw [List.length_take] at hp; omega
 obtain ⟨g, o, h1, h2, h3⟩ := h hp2; refine ⟨g, o, h1, h2, fun k hk j v hv => ?_⟩; rw [List.length_take] at hk; exact h3 k (by omega) j v (by rw [List.getElem_take] at hv; exact hv)
theorem RowAt.drop {w : World} {b o : Nat} {l : List α} (h : RowAt R w (some ⟨b, o, none⟩) l) (n : Nat) : RowAt R w (some ⟨b, o + n * R.size, none⟩) (l.drop n) := fun hp => by
 have hp2 : 0 < l.length := by rw [List.length_drop] at hp; omega
 obtain ⟨g, o', h1, h2, h3⟩ := h hp2
 cases h1
 refine ⟨b, o + n * R.size, rfl, h2, fun k hk j v hv => ?_⟩; rw [List.length_drop] at hk; have := h3 (n + k) (by omega) j v (by rw [List.getElem_drop] at hv; exact hv); rw [Nat.add_mul] at this; rw [show o + n * R.size + k * R.size + j = o + (n * R.size + k * R.size) + j by omega]; exact this
theorem RowAt.elem {w : World} {b o : Nat} {l : List α} (h : RowAt R w (some ⟨b, o, none⟩) l) (k : Nat) (hk : k < l.length) : w.rangeAt b (o + k * R.size) (R.cl l[k]) := by
 obtain ⟨g, o', h1, h2, h3⟩ := h (by omega)
 cases h1
 exact fun j v hv => h3 k hk j v hv
theorem RowAt.some {w : World} {a : Option Addr} {l : List α} (h : RowAt R w a l) (hp : 0 < l.length) : ∃ b o, a = Option.some ⟨b, o, none⟩ ∧ b < w.heap.size := by
 obtain ⟨g, o', h1, h2, h3⟩ := h hp; exact ⟨g, o', h1, h2⟩
theorem RowAt.cells (G : R.Good P) {w : World} {b o : Nat} {l : List α} (h : RowAt R w (Option.some ⟨b, o, none⟩) l) (hid : ∀ x ∈ l, R.ok x) (j : Nat) (u : Value) (hj : (R.flat l)[j]? = Option.some u) : w.cell? ((⟨b, o, none⟩ : Addr).add j) = Option.some u := by
 obtain ⟨k, hk, q, rfl, hq⟩ := rflat_back G l hid j u hj; obtain ⟨g, o', h1, h2, h3⟩ := h (by omega)
 cases h1
 rw [show (⟨b, o, none⟩ : Addr).add (k * R.size + q) = ⟨b, o + (k * R.size + q), none⟩ by unfold Addr.add; split <;> simp_all, ← Nat.add_assoc]; exact h3 k hk q u hq
def OwnR (R : RowT α) (B : Nat) (v : Value) (l : List α) (w : World) : Prop := w.ownsRow B R.ty R.size v l.length (R.flat l)
theorem ownR_nil (w : World) (B : Nat) : OwnR R B (.slice none 0 0) [] w := World.ownsRow_nil w B _ _
theorem ownR_below {B : Nat} {v : Value} {l : List α} {w u : World} (h : OwnR R B v l w) (hb : Below w.heap.size w u) : OwnR R B v l u :=
 World.ownsRow.kept (row := none) h ⟨hb.os, hb.tape, hb.output, hb.size, fun k hk _ => hb.block k hk⟩ (by cases v.ownBlock <;> simp)
theorem ownR_same {B : Nat} {v : Value} {l : List α} {w u : World} (h : OwnR R B v l w) (hb : ∀ g, v.ownBlock = Option.some g → u.heap[g]? = w.heap[g]?) : OwnR R B v l u :=
 ⟨h.1, h.2.imp id (fun ⟨g', cap', cur, h', hb', hh, r⟩ => ⟨g', cap', cur, h', hb', (hb g' (by rw [h']; rfl)).trans hh, r⟩)⟩
theorem ownR_shape (G : R.Good P) {B : Nat} {v : Value} {l : List α} {w : World} (h : OwnR R B v l w) (hid : ∀ x ∈ l, R.ok x) :
  ∃ a c, v = .slice a l.length c ∧ l.length ≤ c ∧ c ≤ maxLen ∧ RowAt R w a l ∧ (a = none → l.length = 0 ∧ c = 0) ∧ ∀ ad, a = Option.some ad → B ≤ ad.block ∧ ad.off = 0 ∧ ad.block < w.heap.size := by
 rcases h.2 with ⟨hv, h0⟩ | ⟨g, cap, cur, hv, hB, hg, hc, hm, _, _⟩
 ·obtain rfl : l = [] := List.eq_nil_of_length_eq_zero h0
  exact ⟨none, 0, hv, Nat.le_refl _, Nat.zero_le _, RowAt.nil w _, fun _ => ⟨rfl, rfl⟩, fun ad e => (by cases e)⟩
 ·have hcs := World.ownsRow.cells h (g := g) (by rw [hv]; rfl)
  have hlt : g < w.heap.size := (Array.getElem?_eq_some_iff.1 hg).1; refine ⟨_, cap, hv, hc, hm, fun _ => ⟨g, 0, rfl, hlt, fun k hk j u hu => ?_⟩, fun e => (by cases e), fun ad e => (by cases e; exact ⟨hB, rfl, hlt⟩)⟩; have := hcs (k * R.size + j) u (rflat_at G l hid k hk j u hu); rw [show (⟨g, 0, none⟩ : Addr).add (k * R.size + j) = ⟨g, 0 + k * R.size + j, none⟩ by unfold Addr.add; split <;> simp_all] at this; exact this
theorem wp_append_anyR (G : R.Good P) {o : Oper} {a : Act} {w : World} {K : Act → World → Prop} {Q : Exit → Act → World → Prop} (sl x : Operand)
  (ho : o.op = .call { callee := .builtin .append, args := #[sl, x], argTypes := #[R.sl, R.sl] }) (B : Nat) (v : Value) (l m : List α) (ao : Option Addr) (n c : Nat) (hs : a.eval sl = v) (hx : a.eval x = .slice ao n c)
  (hn : n = m.length) (hrow : RowAt R w ao m) (hok : ∀ x ∈ m, R.ok x) (hokl : ∀ x ∈ l, R.ok x) (hown : OwnR R B v l w) (hb : l.length + m.length ≤ 1000000000) (hB : B ≤ w.heap.size)
  (h : ∀ v' w', OwnR R B v' (l ++ m) w' → w.grownBy w' v.ownBlock → K (a.put o.dst v') w') : o.wp P a w K Q := by
 by_cases h0 : m = []
 ·subst h0
  obtain ⟨av, cv, rfl, hle, -⟩ := ownR_shape G hown hokl; obtain ⟨ie, z, hie, hz, hsz, hby, hzs⟩ := G.info; subst hn; have hrun := run_append_nothing (P := P) w R.sl R.sl o.type R.ty ie G.under hie av l.length cv hle (.slice ao 0 c) (by cases ao with | none => exact Src.ofNil w G.under c | some y => exact Src.ofSlice w G.under y 0 c [] (by simp) (fun j u hu => by simp at hu) (fun _ h => by cases h)); unfold Oper.wp execOp; simp only [ho, resolve, invoke, builtin, Sem.run_bind, Sem.run_pure, Result.andThen_ok, List.map_toArray, List.map_cons, List.map_nil, hs, hx, hrun, List.length_nil]; exact h _ w (by rw [List.append_nil]; exact hown) ⟨rfl, rfl, rfl, Nat.le_refl _, fun _ _ _ => rfl⟩
 ·have hp : 0 < m.length := List.length_pos_iff.2 h0
  obtain ⟨b, o', rfl, -⟩ := hrow.some hp; obtain ⟨ie, z, hie, hz, hsz, hby, hzs⟩ := G.info; obtain ⟨s1, s2⟩ := G.small; subst hn; refine wp_append_own w sl x R.sl ho B R.ty ie z R.size R.bytes G.under hie hz hsz hby hzs G.pos v l.length (R.flat l) hs hown ⟨b, o', none⟩ m.length c (R.flat m) hx (rflat_len G m hok) (fun j u hj => hrow.cells G hok j u hj) (rflat_one G m hok) (by unfold maxLen; omega) ?_ hB ?_
  ·have h1 : (l.length + m.length) * R.bytes ≤ 1000000000 * 1000 := Nat.mul_le_mul hb s2
   omega
  ·intro v' w' ho' hgr _
   refine h v' w' ?_ hgr; unfold OwnR; rw [List.length_append, rflat_append]; exact ho'
end
end Go.Proofs.YtnbcbiglkmdepaaGreatDoor
namespace Go.Proofs.YtnbcbiglkmdepaaGreatDoor
def numO (n : Nat) : List UInt8 := Lib.itoa (n : Int)
theorem numO_dec (n : Nat) : numO n = Lib.decDigits n := by
 unfold numO Lib.itoa; rw [if_neg (by omega), Int.toNat_natCast]
theorem numO_le (n : Nat) (j : Nat) (h : n < 10 ^ (j + 1)) : (numO n).length ≤ j + 1 := by
 rw [numO_dec]
 induction j generalizing n with
 | zero => rw [Lib.decDigits_one (by omega)]; simp
 | succ j ih =>
  by_cases h1 : n < 10
  ·rw [Lib.decDigits_one h1]; simp
  ·rw [Lib.decDigits.eq_1 n, dif_neg h1, List.length_append]
   have := ih (n / 10) (by rw [Nat.pow_succ] at h; omega); simp only [List.length_singleton]; omega
def wordO (k : Int) : List UInt8 := if k = 1 then [98, 108, 111, 98] else if k = 2 then [116, 114, 101, 101] else if k = 3 then [99, 111, 109, 109, 105, 116] else []
def headO (k : Int) (n : Nat) : List UInt8 := wordO k ++ 32 :: numO n
def objO (k : Int) (l : List UInt8) : List UInt8 := headO k l.length ++ 0 :: l
def kindO (k : Int) : Prop := k = 1 ∨ k = 2 ∨ k = 3
theorem wordO_nil (k : Int) : wordO k = [] ↔ ¬ kindO k := by
 unfold wordO kindO
 by_cases h1 : k = 1
 ·simp [h1]
 ·by_cases h2 : k = 2
  ·simp [h2]
  ·by_cases h3 : k = 3
   ·simp [h3]
   ·simp [h1, h2, h3]
theorem wordO_len (k : Int) : (wordO k).length ≤ 6 := by
 unfold wordO
 split
 ·simp
 ·split
  ·simp
  ·split <;> simp
theorem objO_length (k : Int) (l : List UInt8) : (objO k l).length = (wordO k).length + (numO l.length).length + l.length + 2 := by
 unfold objO headO; simp only [List.length_append, List.length_cons]; omega
def printO (k : Int) (l : List UInt8) : List UInt8 × Int :=
 if wordO k = [] then ([], 10) else if 65536 < l.length then ([], 5) else (objO k l, 0)
theorem printO_ok (k : Int) (l : List UInt8) (hk : kindO k) (hl : l.length ≤ 65536) : printO k l = (objO k l, 0) := by
 unfold printO; rw [if_neg (by rw [wordO_nil]; exact fun h => h hk), if_neg (by omega)]
theorem printO_kind (k : Int) (l : List UInt8) (hk : ¬ kindO k) : printO k l = ([], 10) := by
 unfold printO; rw [if_pos ((wordO_nil k).2 hk)]
theorem printO_limit (k : Int) (l : List UInt8) (hk : kindO k) (hl : 65536 < l.length) : printO k l = ([], 5) := by
 unfold printO; rw [if_neg (by rw [wordO_nil]; exact fun h => h hk), if_pos hl]
structure Cel where
 id : List UInt8
 kind : Int
 body : List UInt8
def atS : List Cel → List UInt8 → Nat
 | [], _ => 0
 | c :: l, i => if c.id < i then atS l i + 1 else 0
def getS (l : List Cel) (i : List UInt8) : Option Cel :=
 match l[atS l i]? with
 | some c => if c.id = i then some c else none
 | none => none
def putAt (l : List Cel) (k : Nat) (c : Cel) : List Cel := l.take k ++ c :: l.drop k
abbrev SrtS (l : List Cel) : Prop := l.Pairwise (fun a b => a.id < b.id)
theorem atS_le : ∀ (l : List Cel) (i : List UInt8), atS l i ≤ l.length
 | [], _ => Nat.le_refl _
 | c :: l, i => by
  unfold atS; have := atS_le l i
  by_cases h : c.id < i
  ·rw [if_pos h, List.length_cons]; omega
  ·rw [if_neg h]; omega
theorem atS_lt : ∀ (l : List Cel) (i : List UInt8) (k : Nat) (h : k < l.length), k < atS l i → l[k].id < i
 | [], _, k, h, _ => absurd h (Nat.not_lt_zero _)
 | c :: l, i, k, h, hk => by
  unfold atS at hk
  by_cases hc : c.id < i
  ·rw [if_pos hc] at hk
   match k, h with
   | 0, h => exact hc
   | k + 1, h => exact atS_lt l i k (by simpa using h) (by omega)
  ·rw [if_neg hc] at hk
   omega
theorem atS_at : ∀ (l : List Cel) (i : List UInt8) (h : atS l i < l.length), ¬ l[atS l i].id < i
 | [], _, h => absurd h (Nat.not_lt_zero _)
 | c :: l, i, h => by
  by_cases hc : c.id < i
  ·have e : atS (c :: l) i = atS l i + 1 := by rw [atS.eq_2, if_pos hc]
   have h2 : atS l i < l.length := by rw [e, List.length_cons] at h; omega
   have := atS_at l i h2
   simpa only [e, List.getElem_cons_succ] using this
  ·have e : atS (c :: l) i = 0 := by rw [atS.eq_2, if_neg hc]
   simpa only [e, List.getElem_cons_zero] using hc
theorem atS_is {l : List Cel} {i : List UInt8} {k : Nat} (hk : k ≤ l.length) (hb : ∀ j (h : j < l.length), j < k → l[j].id < i) (hn : ∀ h : k < l.length, ¬ l[k].id < i) : atS l i = k := by
 have h1 := atS_le l i
 rcases Nat.lt_trichotomy (atS l i) k with h | h | h
 ·exact absurd (hb (atS l i) (by omega) h) (atS_at l i (by omega))
 ·exact h
 ·exact absurd (atS_lt l i k (by omega) h) (hn (by omega))
theorem getS_some {l : List Cel} {i : List UInt8} (h : atS l i < l.length) (e : l[atS l i].id = i) : getS l i = some l[atS l i] := by
 unfold getS; rw [List.getElem?_eq_getElem h]; exact if_pos e
theorem getS_none {l : List Cel} {i : List UInt8} (h : ∀ h : atS l i < l.length, l[atS l i].id ≠ i) : getS l i = none := by
 unfold getS
 cases e : l[atS l i]? with
 | none => rfl
 | some c =>
  obtain ⟨h1, h2⟩ := List.getElem?_eq_some_iff.1 e; exact if_neg (by rw [← h2]; exact h h1)
theorem getS_id {l : List Cel} {i : List UInt8} {c : Cel} (h : getS l i = some c) : c.id = i ∧ ∃ h : atS l i < l.length, l[atS l i] = c := by
 unfold getS at h
 cases e : l[atS l i]? with
 | none => rw [e] at h; cases h
 | some d =>
  rw [e] at h
  by_cases hd : d.id = i
  ·have h : (if d.id = i then some d else none) = some c := h
   rw [if_pos hd] at h
   cases h
   exact ⟨hd, List.getElem?_eq_some_iff.1 e⟩
  ·have h : (if d.id = i then some d else none) = some c := h
   rw [if_neg hd] at h
   cases h
theorem getS_mem {l : List Cel} {i : List UInt8} {c : Cel} (h : getS l i = some c) : c ∈ l := by
 obtain ⟨_, h1, rfl⟩ := getS_id h; exact List.getElem_mem h1
theorem lt_of_not {a b : List UInt8} (h : ¬ a < b) (hne : a ≠ b) : b < a := by
 by_cases h2 : b < a
 ·exact h2
 ·exact absurd (List.le_antisymm (show a ≤ b from h2) (show b ≤ a from h)) hne
theorem srt_put {l : List Cel} {c : Cel} (hs : SrtS l) (hn : getS l c.id = none) : SrtS (putAt l (atS l c.id) c) := by
 have hle := atS_le l c.id; unfold putAt SrtS; rw [List.pairwise_append]; refine ⟨hs.sublist (List.take_sublist _ _), ?_, ?_⟩
 ·rw [List.pairwise_cons]
  refine ⟨fun d hd => ?_, hs.sublist (List.drop_sublist _ _)⟩; obtain ⟨j, hj, rfl⟩ := List.getElem_of_mem hd; rw [List.length_drop] at hj; rw [List.getElem_drop]
  have hlt : atS l c.id < l.length := by omega
  have h1 := atS_at l c.id hlt
  have hne : l[atS l c.id].id ≠ c.id := fun e => by rw [getS_some hlt e] at hn; cases hn
  have h2 := lt_of_not h1 hne
  by_cases h0 : j = 0
  ·subst h0; exact h2
  ·exact List.lt_trans h2 (List.pairwise_iff_getElem.1 hs (atS l c.id) (atS l c.id + j) hlt (by omega) (by omega))
 ·intro a ha b hb
  obtain ⟨j, hj, rfl⟩ := List.getElem_of_mem ha; rw [List.length_take] at hj; rw [List.getElem_take]; have h1 := atS_lt l c.id j (by omega) (by omega)
  rcases List.mem_cons.1 hb with rfl | hb
  ·exact h1
  ·obtain ⟨q, hq, rfl⟩ := List.getElem_of_mem hb
   rw [List.length_drop] at hq; rw [List.getElem_drop]; exact List.pairwise_iff_getElem.1 hs j (atS l c.id + q) (by omega) (by omega) (by omega)
theorem getS_of_mem {l : List Cel} (hs : SrtS l) {c : Cel} (h : c ∈ l) : getS l c.id = some c := by
 obtain ⟨k, hk, rfl⟩ := List.getElem_of_mem h; have e : atS l l[k].id = k := atS_is (Nat.le_of_lt hk) (fun j hj hjk => List.pairwise_iff_getElem.1 hs j k hj hk hjk) (fun _ h2 => List.lt_irrefl _ h2)
 have hlt : atS l l[k].id < l.length := by rw [e]; exact hk
 have e2 : l[atS l l[k].id] = l[k] := by simp only [e]
 rw [getS_some hlt (by rw [e2]), e2]
theorem mem_put {l : List Cel} {k : Nat} {c d : Cel} : d ∈ putAt l k c ↔ d = c ∨ d ∈ l := by
 unfold putAt; rw [List.mem_append, List.mem_cons]
 constructor
 ·rintro (h | rfl | h)
  ·exact .inr (List.mem_of_mem_take h)
  ·exact .inl rfl
  ·exact .inr (List.mem_of_mem_drop h)
 ·rintro (rfl | h)
  ·exact .inr (.inl rfl)
  ·rw [← List.take_append_drop k l, List.mem_append] at h
   rcases h with h | h
   ·exact .inl h
   ·exact .inr (.inr h)
theorem put_len (l : List Cel) (k : Nat) (c : Cel) (hk : k ≤ l.length) : (putAt l k c).length = l.length + 1 := by
 unfold putAt; rw [List.length_append, List.length_cons, List.length_take, List.length_drop]
 omega
def putS (sum : Int → List UInt8 → List UInt8) (most : Nat) (l : List Cel) (k : Int) (b : List UInt8) : List Cel × List UInt8 × Int :=
 if (printO k b).2 = 0 then
  match getS l (sum k b) with
  | some c => if c.kind = k ∧ c.body = b then (l, sum k b, 0) else (l, List.replicate 20 0, 7)
  | none => if most ≤ l.length then (l, List.replicate 20 0, 5) else (putAt l (atS l (sum k b)) ⟨sum k b, k, b⟩, sum k b, 0)
 else (l, List.replicate 20 0, (printO k b).2)
structure GoodS (sum : Int → List UInt8 → List UInt8) (l : List Cel) : Prop where
 srt : SrtS l
 one : ∀ c ∈ l, c.id = sum c.kind c.body ∧ kindO c.kind ∧ c.body.length ≤ 65536
theorem goodS_nil (sum : Int → List UInt8 → List UInt8) : GoodS sum [] := ⟨List.Pairwise.nil, fun _ h => by cases h⟩
theorem printO_zero {k : Int} {b : List UInt8} (h : (printO k b).2 = 0) : kindO k ∧ b.length ≤ 65536 := by
 by_cases hk : kindO k
 ·by_cases hl : b.length ≤ 65536
  ·exact ⟨hk, hl⟩
  ·rw [printO_limit k b hk (by omega)] at h
   exact absurd h (by decide)
 ·rw [printO_kind k b hk] at h
  exact absurd h (by decide)
theorem goodS_put {sum : Int → List UInt8 → List UInt8} {most : Nat} {l : List Cel} (h : GoodS sum l) (k : Int) (b : List UInt8) : GoodS sum (putS sum most l k b).1 := by
 unfold putS
 by_cases he : (printO k b).2 = 0
 ·rw [if_pos he]
  cases eg : getS l (sum k b) with
  | some c =>
   by_cases hc : c.kind = k ∧ c.body = b
   ·simp only [if_pos hc]; exact h
   ·simp only [if_neg hc]; exact h
  | none =>
   by_cases hm : most ≤ l.length
   ·simp only [if_pos hm]; exact h
   ·simp only [if_neg hm]
    refine ⟨srt_put (c := ⟨sum k b, k, b⟩) h.srt eg, fun d hd => ?_⟩
    rcases mem_put.1 hd with rfl | hd
    ·exact ⟨rfl, printO_zero he⟩
    ·exact h.one d hd
 ·rw [if_neg he]; exact h
theorem putS_len {sum : Int → List UInt8 → List UInt8} {most : Nat} {l : List Cel} (k : Int) (b : List UInt8) : l.length ≤ (putS sum most l k b).1.length ∧ (putS sum most l k b).1.length ≤ l.length + 1 := by
 unfold putS
 by_cases he : (printO k b).2 = 0
 ·rw [if_pos he]
  cases eg : getS l (sum k b) with
  | some c =>
   by_cases hc : c.kind = k ∧ c.body = b
   ·simp only [if_pos hc]; exact ⟨Nat.le_refl _, Nat.le_succ _⟩
   ·simp only [if_neg hc]; exact ⟨Nat.le_refl _, Nat.le_succ _⟩
  | none =>
   by_cases hm : most ≤ l.length
   ·simp only [if_pos hm]; exact ⟨Nat.le_refl _, Nat.le_succ _⟩
   ·simp only [if_neg hm]
    rw [put_len _ _ _ (atS_le _ _)]; exact ⟨by omega, Nat.le_refl _⟩
 ·rw [if_neg he]; exact ⟨Nat.le_refl _, Nat.le_succ _⟩
open Go.RowKit
def Red (w : World) (v : Value) (l : List UInt8) : Prop := ∃ a c, v = .slice a l.length c ∧ BAt w a l ∧ (a = none → l.length = 0 ∧ c = 0) ∧ l.length ≤ c ∧ c ≤ maxLen
theorem Red.below {w w' : World} {v : Value} {l : List UInt8} (h : Red w v l) {B : Nat} (hb : Below B w w') (hB : w.heap.size ≤ B) : Red w' v l := by
 obtain ⟨a, c, e, hba, r⟩ := h; exact ⟨a, c, e, hba.below hb hB, r⟩
theorem Red.none (w : World) : Red w (.slice none 0 0) [] := ⟨.none, 0, rfl, BAt.nil w _, fun _ => ⟨rfl, rfl⟩, Nat.le_refl _, Nat.zero_le _⟩
def Stays (S : Nat → Prop) (w u : World) : Prop := w.heap.size ≤ u.heap.size ∧ ∀ k, S k → k < w.heap.size → u.heap[k]? = w.heap[k]?
theorem Stays.of {S : Nat → Prop} {w u : World} (h : Below w.heap.size w u) : Stays S w u := ⟨h.size, fun k _ hk => h.block k hk⟩
theorem Stays.mono {S S' : Nat → Prop} {w u : World} (h : Stays S w u) (hs : ∀ k, S' k → S k) : Stays S' w u := ⟨h.1, fun k hk hl => h.2 k (hs k hk) hl⟩
def RedS (S : Nat → Prop) (w : World) (v : Value) (l : List UInt8) : Prop :=
 ∃ a c, v = .slice a l.length c ∧ BAt w a l ∧ (a = none → l.length = 0 ∧ c = 0) ∧ l.length ≤ c ∧ c ≤ maxLen ∧ ∀ ad, 0 < l.length → a = some ad → S ad.block
theorem RedS.red {S : Nat → Prop} {w : World} {v : Value} {l : List UInt8} (h : RedS S w v l) : Red w v l := by
 obtain ⟨a, c, e, hb, hn, hc, hm, _⟩ := h; exact ⟨a, c, e, hb, hn, hc, hm⟩
theorem RedS.mono {S S' : Nat → Prop} {w : World} {v : Value} {l : List UInt8} (h : RedS S w v l) (hs : ∀ k, k < w.heap.size → S k → S' k) : RedS S' w v l := by
 obtain ⟨a, c, e, hb, hn, hc, hm, hr⟩ := h; refine ⟨a, c, e, hb, hn, hc, hm, fun ad hp ha => ?_⟩; obtain ⟨g, o, h1, h2, _⟩ := hb hp; refine hs _ ?_ (hr ad hp ha); rw [h1] at ha
 cases ha
 exact h2
theorem BAt.same {w u : World} {a : Option Addr} {l : List UInt8} (h : BAt w a l) (hs : w.heap.size ≤ u.heap.size) (hb : ∀ ad, 0 < l.length → a = some ad → u.heap[ad.block]? = w.heap[ad.block]?) : BAt u a l := fun hp => by
 obtain ⟨g, o, h1, h2, h3⟩ := h hp; refine ⟨g, o, h1, Nat.lt_of_lt_of_le h2 hs, fun i hi => ?_⟩; rw [← h3 i hi]; exact World.cell?_of_block (w := w) (hb ⟨g, o, none⟩ hp h1)
theorem RedS.keep {S : Nat → Prop} {w u : World} {v : Value} {l : List UInt8} (h : RedS S w v l) (hk : Stays S w u) : RedS S u v l := by
 obtain ⟨a, c, e, hb, hn, hc, hm, hr⟩ := h; refine ⟨a, c, e, hb.same hk.1 (fun ad hp ha => hk.2 _ (hr ad hp ha) ?_), hn, hc, hm, hr⟩; obtain ⟨g, o, h1, h2, _⟩ := hb hp; rw [h1] at ha
 cases ha
 exact h2
set_option maxRecDepth 20000
abbrev OwnD (B : Nat) (v : Value) (l : List (List UInt8)) (w : World) : Prop := w.ownsRow B 24 20 v l.length (l.flatMap cellsD)
theorem ownD_nil (w : World) (B : Nat) : OwnD B (.slice none 0 0) [] w := World.ownsRow_nil w B _ _
theorem ownD_below {B : Nat} {v : Value} {l : List (List UInt8)} {w w' : World} (h : OwnD B v l w) (hb : Below w.heap.size w w') : OwnD B v l w' :=
 World.ownsRow.kept (row := none) h ⟨hb.os, hb.tape, hb.output, hb.size, fun k hk _ => hb.block k hk⟩ (by cases v.ownBlock <;> simp)
theorem flatD_at : ∀ (l : List (List UInt8)) (hid : ∀ i ∈ l, i.length = 20) (k : Nat) (h : k < l.length) (j : Nat) (v : Value), (cellsD l[k])[j]? = some v → (l.flatMap cellsD)[k * 20 + j]? = some v
 | [], _, k, h, _, _, _ => absurd h (Nat.not_lt_zero _)
 | i :: l, hid, 0, h, j, v, hv => by
  have hj : j < (cellsD i).length := (List.getElem?_eq_some_iff.1 hv).1; rw [List.flatMap_cons, Nat.zero_mul, Nat.zero_add, List.getElem?_append_left hj]; exact hv
 | i :: l, hid, k + 1, h, j, v, hv => by
  have hl := cellsD_len i (hid i (by simp)); rw [List.flatMap_cons, List.getElem?_append_right (by omega), hl, show (k + 1) * 20 + j - 20 = k * 20 + j by omega]; exact flatD_at l (fun x hx => hid x (by simp [hx])) k (by simpa using h) j v hv
theorem flatD_len (l : List (List UInt8)) (hid : ∀ i ∈ l, i.length = 20) : (l.flatMap cellsD).length = l.length * 20 := by
 induction l with
 | nil => rfl
 | cons i l ih =>
  rw [List.flatMap_cons, List.length_append, cellsD_len i (hid i (by simp)), ih (fun x hx => hid x (by simp [hx])), List.length_cons]
  omega
theorem ownD_ids {B : Nat} {v : Value} {l : List (List UInt8)} {w : World} (h : OwnD B v l w) (hid : ∀ i ∈ l, i.length = 20) : ∃ a c, v = .slice a l.length c ∧ l.length ≤ c ∧ c ≤ maxLen ∧ IdsAt w a l ∧ (a = none → l.length = 0 ∧ c = 0) := by
 rcases h.2 with ⟨hv, h0⟩ | ⟨g, cap, cur, hv, hB, hg, hc, hm, _, _⟩
 ·obtain rfl : l = [] := List.eq_nil_of_length_eq_zero h0
  exact ⟨none, 0, hv, Nat.le_refl _, Nat.zero_le _, IdsAt.nil w _, fun _ => ⟨rfl, rfl⟩⟩
 ·have hcs := World.ownsRow.cells h (g := g) (by rw [hv]; rfl)
  refine ⟨_, cap, hv, hc, hm, fun _ => ⟨g, 0, rfl, (Array.getElem?_eq_some_iff.1 hg).1, fun k hk j u hu => ?_⟩, fun e => by cases e⟩; have := hcs (k * 20 + j) u (flatD_at l hid k hk j u hu); rw [show (⟨g, 0, none⟩ : Addr).add (k * 20 + j) = ⟨g, 0 + k * 20 + j, none⟩ by unfold Addr.add; split <;> simp_all] at this; exact this
theorem infoD : (Tryz.prog.info? 24).map (fun i => (i.zero, i.size)) = some (some (.agg (arrD idZ)), 20) := zIdD
theorem infoD_b : (Tryz.prog.info? 24).map (fun i => i.bytes) = some 20 := by kernel_rfl
theorem infoD_all : ∃ ie, Tryz.prog.info? 24 = some ie ∧ ie.zero = some (.agg (arrD idZ)) ∧ ie.size = 20 ∧ ie.bytes = 20 := by
 have h1 := infoD; have h2 := infoD_b
 cases hq : Tryz.prog.info? 24 with
 | none => rw [hq] at h1; cases h1
 | some ie =>
  rw [hq] at h1 h2; simp only [Option.map_some, Option.some.injEq, Prod.mk.injEq] at h1 h2; exact ⟨ie, rfl, h1.1, h1.2, h2⟩
theorem fillD_one (A z : Array Value) (hA : A.size = 20) (hz : z.size = 20) : Instr.fill (fun i => some (i * 20, 20)) z [(0, .agg A)] = some A := by
 have h := Great.fill_whole (s := 20) (by decide) [.agg A] z (fun v hv => by simp at hv; subst hv; exact hA) (by simp [hz])
 simpa [Value.cells] using h
theorem wpList_build_idD {ops : Array Oper} {rest : List Oper} {o : Oper} {a : Act} {w : World} {Q : Exit → Act → World → Prop} (hgd : o.guard = none) (x : Operand) (ho : o.op = .buildSlice 43 1 #[(0, x)])
  (A : Array Value) (hA : A.size = 20) (hx : a.eval x = .agg A)
  (h : wpList Tryz.prog ops Q rest (a.put o.dst (.slice (some ⟨w.heap.size, 0, none⟩) 1 1)) (w.alloc (.cells A 24))) : wpList Tryz.prog ops Q (o :: rest) a w := by
 obtain ⟨ie, hie, hz, hs, _⟩ := infoD_all; have hzs : (arrD idZ).size = 20 := arrD_size _ (by simp [idZ]); refine wpList_buildSlice hgd 43 24 1 _ ho A ie (.agg (arrD idZ)) Tryz.underlying43 hie hz (by rw [hs]; decide) (by rw [hs]; decide) ?_ h; rw [hs]
 have e : (Array.map (fun (p : Nat × Operand) => (p.1, a.eval p.2)) #[(0, x)]).toList = [(0, .agg A)] := by simp [hx]
 rw [show (fun (p : Nat × Operand) => match p with | (i, x) => (i, a.eval x)) = (fun (p : Nat × Operand) => (p.1, a.eval p.2)) from rfl, e]; exact fillD_one A _ hA (by simp)
theorem wpList_append_idD {ops : Array Oper} {rest : List Oper} {o : Oper} {a : Act} {w : World} {Q : Exit → Act → World → Prop} (hgd : o.guard = none) (sl x : Operand)
  (ho : o.op = .call { callee := .builtin .append, args := #[sl, x], argTypes := #[43, 43] }) (B : Nat) (v : Value) (l : List (List UInt8)) (i : List UInt8) (g : Nat) (A : Array Value) (hA : A = arrD i) (hs : a.eval sl = v) (hx : a.eval x = .slice (some ⟨g, 0, none⟩) 1 1)
  (hg : w.heap[g]? = some (.cells A 24 (0, 0))) (hid : i.length = 20) (hown : OwnD B v l w) (hb : l.length ≤ 1000000000) (hB : B ≤ w.heap.size)
  (h : ∀ v' w', OwnD B v' (l ++ [i]) w' → w.grownBy w' v.ownBlock → wpList Tryz.prog ops Q rest (a.put o.dst v') w') : wpList Tryz.prog ops Q (o :: rest) a w := by
 obtain ⟨ie, hie, hz, hsz, hby⟩ := infoD_all; refine wpList_append_own w hgd sl x 43 ho B 24 ie (.agg (arrD idZ)) 20 20 Tryz.underlying43 hie hz hsz hby (arrD_size _ (by simp [idZ])) (by decide) v l.length (l.flatMap cellsD) hs hown ⟨g, 0, none⟩ 1 1 (cellsD i) hx (by rw [cellsD_len i hid]) (fun j u hu => ?_) (fun u hu => (Array.all_eq_true_iff_forall_mem.1 (cellsD_one i)) u (by simpa using hu)) (by unfold maxLen; omega) (by omega) hB ?_
 ·have := row_cellsD (i := i) (by rw [hA] at hg; exact hg) j u hu
  rw [show (⟨g, 0, none⟩ : Addr).add j = ⟨g, 0 + j, none⟩ by unfold Addr.add; split <;> simp_all]; exact this
 ·intro v' w' ho hgr _
  refine h v' w' ?_ hgr; unfold OwnD; rw [List.length_append, List.flatMap_append]
  simpa using ho
theorem info5 : (Tryz.prog.info? 5).map (fun i => (i.zero, i.size, i.bytes)) = some (some (.int .u8 0), 1, 1) := by kernel_rfl
theorem own_full {w : World} {base : Nat} {e : TypeId} {g n cap : Nat} {xs : List Value} (h : w.ownsRow base e 1 (.slice (some ⟨g, 0, none⟩) n cap) n xs) :
  ∃ ys, w.ownsRow base e 1 (.slice (some ⟨g, 0, none⟩) cap cap) cap ys ∧ ys.take n = xs := by
 rcases h.2 with ⟨h', _⟩ | ⟨g', cap', cur, h', hb, hg, hnc, hcm, hcs, htake⟩
 ·simp at h'
 ·simp only [Value.slice.injEq, Option.some.injEq, Addr.mk.injEq, and_true, true_and] at h'
  obtain ⟨rfl, rfl⟩ := h'; refine ⟨cur.toList, ⟨by simpa using hcs, .inr ⟨g, cap, cur, rfl, hb, hg, Nat.le_refl _, hcm, hcs, List.take_of_length_le (by rw [Array.length_toList, hcs]; exact Nat.le_refl _)⟩⟩, by simpa using htake⟩
theorem own_len {w : World} {base : Nat} {e : TypeId} {g n cap : Nat} {xs : List Value} (h : w.ownsRow base e 1 (.slice (some ⟨g, 0, none⟩) n cap) n xs) : xs.length = n := by simpa using h.1
theorem own_cell {w : World} {base : Nat} {e : TypeId} {g n cap : Nat} {xs : List Value} (h : w.ownsRow base e 1 (.slice (some ⟨g, 0, none⟩) n cap) n xs) (j : Nat) (hj : j < n) : ∃ y, w.cell? ⟨g, j, none⟩ = some y := by
 have hl := own_len h; exact ⟨xs[j], by rw [h.cellAt j (by omega), List.getElem?_eq_getElem]⟩
theorem own_lt {w : World} {base : Nat} {e : TypeId} {g n cap : Nat} {xs : List Value} (h : w.ownsRow base e 1 (.slice (some ⟨g, 0, none⟩) n cap) n xs) : g < w.heap.size := by
 rcases h.2 with ⟨h', _⟩ | ⟨g', cap', cur, h', hb, hg, hnc, hcm, hcs, htake⟩
 ·simp at h'
 ·simp only [Value.slice.injEq, Option.some.injEq, Addr.mk.injEq, and_true, true_and] at h'
  obtain ⟨rfl, rfl⟩ := h'
  rcases Nat.lt_or_ge g w.heap.size with h' | h'
  ·exact h'
  ·simp [Array.getElem?_eq_none h'] at hg
theorem own_keep {w w' : World} {base : Nat} {e : TypeId} {g n cap : Nat} {xs : List Value} (h : w.ownsRow base e 1 (.slice (some ⟨g, 0, none⟩) n cap) n xs) (hb : Below w.heap.size w w') :
  w'.ownsRow base e 1 (.slice (some ⟨g, 0, none⟩) n cap) n xs := by
 have hlt := own_lt h; refine ⟨h.1, ?_⟩
 rcases h.2 with ⟨h', _⟩ | ⟨g', cap', cur, h', hb', hg, r⟩
 ·simp at h'
 ·refine .inr ⟨g', cap', cur, h', hb', ?_, r⟩
  simp only [Value.slice.injEq, Option.some.injEq, Addr.mk.injEq, and_true, true_and] at h'; obtain ⟨rfl, rfl⟩ := h'; exact (hb.block g hlt).trans hg
theorem own_block {w : World} {base : Nat} {e : TypeId} {v : Value} {n : Nat} {xs : List Value} (h : w.ownsRow base e 1 v n xs) (k : Nat) (hk : v.ownBlock = some k) : base ≤ k := by
 rcases h.2 with ⟨rfl, _⟩ | ⟨g, cap, cur, rfl, hb, _⟩
 ·cases hk
 ·cases hk; exact hb
theorem byteCells_at (l : List UInt8) (i : Nat) : (Lib.byteCells l)[i]? = (l[i]?).map fun c => Value.int .u8 c.toNat := by simp [Lib.byteCells]
theorem own_bat {w : World} {base : Nat} {e : TypeId} {g cap : Nat} {l : List UInt8} (h : w.ownsRow base e 1 (.slice (some ⟨g, 0, none⟩) l.length cap) l.length (Lib.byteCells l)) : BAt w (some ⟨g, 0, none⟩) l := fun hp =>
 ⟨g, 0, rfl, own_lt h, fun i hi => by
  rw [Nat.zero_add, h.cellAt i (by omega), byteCells_at]
  simp [hi]⟩
theorem row_arrD {w : World} {g : Nat} {A : Array Value} {t : TypeId} {fr : Nat × Nat} (h : w.heap[g]? = some (.cells A t fr)) : w.rangeAt g 0 A.toList := fun j v hv => by
 rw [Nat.zero_add, Lib.cell_of_heap h, ← hv]
 simp
theorem row_keepD {w u : World} {g : Nat} {cs : List Value} (h : w.rangeAt g 0 cs) (hg : g < w.heap.size) (hb : Below w.heap.size w u) : u.rangeAt g 0 cs := fun j v hv => (hb.cell (p := ⟨g, 0 + j, none⟩) hg).trans (h j v hv)
def amongD (l : List (List UInt8)) (x : List UInt8) : Bool := l.any (fun y => eqD y x)
theorem among_iff (l : List (List UInt8)) (x : List UInt8) : amongD l x = true ↔ x ∈ l := by
 unfold amongD; rw [List.any_eq_true]
 constructor
 ·rintro ⟨y, hy, e⟩
  rw [← (eqD_iff y x).1 e]; exact hy
 ·exact fun h => ⟨x, h, eqD_same x⟩
theorem among_here {l : List (List UInt8)} {x : List UInt8} {k : Nat} (hk : k < l.length) (h : eqD l[k] x = true) : amongD l x = true := List.any_eq_true.2 ⟨l[k], List.getElem_mem hk, h⟩
theorem among_none {l : List (List UInt8)} {x : List UInt8} (h : ∀ j (hj : j < l.length), eqD l[j] x = false) : amongD l x = false := by
 unfold amongD; rw [List.any_eq_false]; intro y hy; obtain ⟨i, hi, rfl⟩ := List.mem_iff_getElem.1 hy; rw [h i hi]; decide
theorem wpList_load_midD {ops : Array Oper} {rest : List Oper} {op : Oper} {a : Act} {w : World} {Q : Exit → Act → World → Prop} (ty : TypeId) (x : Operand) (ho : op.op = .load ty x) (hw : Region.wanted op (yielded ops a.tmps) = true)
  (b o : Nat) (hx : a.eval x = .pointer (some ⟨b, o, none⟩)) (cs : List Value) (d : TypeDesc) (hc : w.rangeAt b o cs)
  (hu : Tryz.prog.underlying ty = some d) (hd : d.isRow = true) (hi : (Tryz.prog.info? ty).map (·.size) = some cs.length)
  (h : wpList Tryz.prog ops Q rest (a.put op.dst (.agg cs.toArray)) w) : wpList Tryz.prog ops Q (op :: rest) a w :=
 Go.BigFrame.wpList_want hw fun _ hK => wp_load_mid ty x ho b o hx cs d hc hu hd hi (hK _ _ h)
structure Ent where
 c : Cel
 v : Value
def cellsE (e : Ent) : List Value := cellsD e.c.id ++ [.int .i64 e.c.kind, e.v]
def okE (e : Ent) : Prop := e.c.id.length = 20 ∧ ∃ a n c, e.v = .slice a n c
theorem cellsE_len (e : Ent) (h : okE e) : (cellsE e).length = 22 := by
 unfold cellsE; rw [List.length_append, cellsD_len _ h.1]; rfl
theorem cellsE_one (e : Ent) (h : okE e) : ∀ v ∈ cellsE e, v.oneCell' = true := by
 intro v hv; obtain ⟨_, a, n, c, hs⟩ := h; unfold cellsE at hv
 rcases List.mem_append.1 hv with hv | hv
 ·exact Array.all_eq_true_iff_forall_mem.1 (cellsD_one e.c.id) v (by simpa using hv)
 ·rw [hs] at hv
  simp only [List.mem_cons, List.not_mem_nil, or_false] at hv
  rcases hv with rfl | rfl <;> rfl
def rowE : RowT Ent := ⟨cellsE, 22, 56, 58, 28, okE⟩
theorem infoE : (Tryz.prog.info? 58).map (fun i => (i.size, i.bytes, i.zero.map (fun z => z.cells.size))) = some (22, 56, some 22) := by kernel_rfl
theorem infoE_n : (Tryz.prog.info? 58).map (·.size) = some 22 := by kernel_rfl
theorem goodE : RowT.Good rowE Tryz.prog where
 pos := by decide
 len := fun x h => cellsE_len x h
 one := fun x h => cellsE_one x h
 under := Tryz.underlying28
 info := by
  have h := infoE
  cases hq : Tryz.prog.info? 58 with
  | none => rw [hq] at h; cases h
  | some ie =>
   rw [hq] at h; simp only [Option.map_some, Option.some.injEq, Prod.mk.injEq] at h; obtain ⟨h1, h2, h3⟩ := h
   cases hz : ie.zero with
   | none => rw [hz] at h3; cases h3
   | some z =>
    rw [hz] at h3; simp only [Option.map_some, Option.some.injEq] at h3; exact ⟨ie, z, hq, hz, h1, h2, h3⟩
 small := by decide
structure CelsAt (S : Nat → Prop) (w : World) (g : Nat) (a : Option Addr) (E : List Ent) : Prop where
 row : RowAt rowE w a E
 ok : ∀ e ∈ E, okE e
 inS : ∀ ad, 0 < E.length → a = some ad → S ad.block ∧ ad.block ≠ g
 body : ∀ e ∈ E, RedS (fun k => S k ∧ k ≠ g) w e.v e.c.body
def StoreAt (S : Nat → Prop) (w : World) (g : Nat) (L : List Cel) : Prop :=
 S g ∧ ∃ (E : List Ent) (a : Option Addr) (c : Nat), E.map Ent.c = L ∧ w.heap[g]? = some (.cells #[.slice a L.length c] 30 (0, 0)) ∧ CelsAt S w g a E ∧ (a = none → L.length = 0 ∧ c = 0) ∧ L.length ≤ c ∧ c ≤ maxLen
theorem CelsAt.keep {S : Nat → Prop} {w u : World} {g : Nat} {a : Option Addr} {E : List Ent} (h : CelsAt S w g a E) (hk : Stays (fun k => S k ∧ k ≠ g) w u) : CelsAt S u g a E where
 row := fun hp => by
  obtain ⟨b, o, h1, h2, h3⟩ := h.row hp; have hb := h.inS _ hp h1; refine ⟨b, o, h1, Nat.lt_of_lt_of_le h2 hk.1, fun k hk2 j v hv => ?_⟩; rw [← h3 k hk2 j v hv]; exact World.cell?_of_block (w := w) (a := ⟨b, o + k * rowE.size + j, none⟩) (hk.2 b hb h2)
 ok := h.ok
 inS := h.inS
 body := fun e he => (h.body e he).keep hk
theorem CelsAt.mono {S S' : Nat → Prop} {w : World} {g : Nat} {a : Option Addr} {E : List Ent} (h : CelsAt S w g a E) (hs : ∀ k, k < w.heap.size → S k → S' k) : CelsAt S' w g a E where
 row := h.row
 ok := h.ok
 inS := fun ad hp ha => by
  obtain ⟨b, o, h1, h2, h3⟩ := h.row hp; obtain ⟨k1, k2⟩ := h.inS ad hp ha; refine ⟨hs _ ?_ k1, k2⟩; rw [h1] at ha
  cases ha
  exact h2
 body := fun e he => (h.body e he).mono (fun k hk h2 => ⟨hs k hk h2.1, h2.2⟩)
theorem StoreAt.keep {S : Nat → Prop} {w u : World} {g : Nat} {L : List Cel} (h : StoreAt S w g L) (hk : Stays S w u) : StoreAt S u g L := by
 obtain ⟨hg, E, a, c, h1, h2, h3, h4⟩ := h; exact ⟨hg, E, a, c, h1, (hk.2 g hg (lt_of_heap h2)).trans h2, h3.keep (hk.mono fun k h => h.1), h4⟩
theorem StoreAt.mono {S S' : Nat → Prop} {w : World} {g : Nat} {L : List Cel} (h : StoreAt S w g L) (hs : ∀ k, k < w.heap.size → S k → S' k) : StoreAt S' w g L := by
 obtain ⟨hg, E, a, c, h1, h2, h3, h4⟩ := h; exact ⟨hs g (lt_of_heap h2) hg, E, a, c, h1, h2, h3.mono hs, h4⟩
theorem StoreAt.below {S : Nat → Prop} {w u : World} {g : Nat} {L : List Cel} (h : StoreAt S w g L) (hb : Below w.heap.size w u) : StoreAt S u g L := h.keep (Stays.of hb)
theorem StoreAt.lt {S : Nat → Prop} {w : World} {g : Nat} {L : List Cel} (h : StoreAt S w g L) : g < w.heap.size := by
 obtain ⟨hg, E, a, c, h1, h2, h3, h4⟩ := h; exact lt_of_heap h2
end Go.Proofs.YtnbcbiglkmdepaaGreatDoor
