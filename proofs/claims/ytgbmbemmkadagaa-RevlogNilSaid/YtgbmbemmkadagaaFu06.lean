/-
  Texts that belong together, one behind the other.
-/
import Derived.Test.YtgbmbemmkadagaaFu01
import Derived.Test.YtgbmbemmkadagaaFu04
import Derived.Test.YtgbmbemmkadagaaFu05
import Derived.Deep.QuietTactic
import Derived.BigQuiet
import Derived.Laws.AppendOwn
import Derived.Laws.OwnMore
import Derived.Laws.CopyRow
import Derived.Laws.Tables
import Derived.Deep.Upon
import Derived.Deep.AppendSrc
import Derived.Deep.MidRow
import Derived.Great.BuildSlice
import Derived.Great.FillDense
import Derived.Below
/-
  Layer 14, the program: what two texts begin and end with alike.
-/
namespace Go.Proofs.Ytgbmbemmkadagaa
set_option maxRecDepth 20000
open Go.RowKit
set_option linter.unusedVariables false
set_option linter.unusedSimpArgs false

theorem getD_lt {l : List UInt8} {k : Nat} (h : k < l.length) : l.getD k 0 = l[k] := by simp [h]
theorem BAt.at {w : World} {a : Option Addr} {l : List UInt8} (h : BAt w a l) (hp : 0 < l.length) : ∃ b o, a = some ⟨b, o, none⟩ ∧ b < w.heap.size ∧ ∀ k, k < l.length → w.cell? ⟨b, o + k, none⟩ = some (.int .u8 (l.getD k 0).toNat) := by
  obtain ⟨b, o, h1, h2, h3⟩ := h hp
  exact ⟨b, o, h1, h2, fun k hk => by rw [getD_lt hk]; exact h3 k hk⟩
theorem u8_beq (x y : UInt8) : ((x.toNat : Int) == (y.toNat : Int)) = (x == y) := by
  by_cases h : x = y
  · subst h; simp
  · have : x.toNat ≠ y.toNat := fun e => h (UInt8.toNat_inj.1 e)
    rw [beq_eq_false_iff_ne.2 (by omega), beq_eq_false_iff_ne.2 h]
set_option maxHeartbeats 4000000 in
theorem cStart_is (a1 a2 : Option Addr) (n1 n2 c1 c2 : Nat) (l1 l2 : List UInt8) (w : World) (h1 : BAt w a1 l1) (h2 : BAt w a2 l2) (e1 : n1 = l1.length) (e2 : n2 = l2.length) (m1 : n1 ≤ 1000000) (m2 : n2 ≤ 1000000) :
    Calls Try.prog 54 #[.slice a1 n1 c1, .slice a2 n2 c2] w fun e w' => e = .returned (.int .i64 (comL l1 l2)) ∧ Below w.heap.size w w' := by
  have H1 := Lib.hid h1; have H2 := Lib.hid h2; have E1 := Lib.hid e1; have E2 := Lib.hid e2
  clear h1 h2 e1 e2
  by_cases hmin : n2 < n1
  all_goals
    go_enter Try.func54, Try.ntmps54
    go_wp2_with fail
    go_loopw [5] (fun i wr => ∃ k : Nat, k ≤ n1 ∧ k ≤ n2 ∧ i = .int .i64 k ∧ (∀ j, j < k → l1.getD j 0 = l2.getD j 0) ∧ Below w.heap.size w wr) (fun i _ => n1 - (intOf i).toNat)
    case atStart => exact ⟨0, Nat.zero_le _, Nat.zero_le _, rfl, fun j h => absurd h (Nat.not_lt_zero _), Below.refl _ _⟩
    case round =>
      obtain ⟨k, hk1, hk2, rfl, hal, hbr⟩ := hrel
      have HAL := Lib.hid hal; have HBR := Lib.hid hbr
      clear hal hbr
      by_cases hlt : k < n1 ∧ k < n2
      · obtain ⟨p1, p2⟩ := hlt
        obtain ⟨b1, o1, rfl, g1, q1⟩ := H1.out.at (by rw [← E1.out]; omega)
        obtain ⟨b2, o2, rfl, g2, q2⟩ := H2.out.at (by rw [← E2.out]; omega)
        have c1' : wr.cell? ⟨b1, o1 + k, none⟩ = _ := (HBR.out.cell (p := ⟨b1, o1 + k, none⟩) g1).trans (q1 k (by rw [← E1.out]; exact p1))
        have c2' : wr.cell? ⟨b2, o2 + k, none⟩ = _ := (HBR.out.cell (p := ⟨b2, o2 + k, none⟩) g2).trans (q2 k (by rw [← E2.out]; exact p2))
        have UB := u8_beq (l1.getD k 0) (l2.getD k 0)
        have XE := Lib.hid (fun j => (Iff.rfl : l1.getD j 0 = l2.getD j 0 ↔ _))
        obtain ⟨r, hr⟩ : ∃ r, (l1.getD k 0 == l2.getD k 0) = r := ⟨_, rfl⟩
        rw [hr] at UB
        have HR := Lib.hid hr
        generalize (((l1.getD k 0).toNat : Nat) : Int) = x at *
        generalize (((l2.getD k 0).toNat : Nat) : Int) = y at *
        clear q1 q2 hr
        go_wp2_with fail
        go_quiet (fail)
        have HB2 := Lib.hid (_root_.Go.below_drewN HBR.out nq)
        clear c1' c2'
        cases r with
        | true =>
          go_wp2
          go_roundw
          case rel => exact ⟨k + 1, p1, p2, by go_num, fun j hj => by
            by_cases e : j = k
            · subst e; simpa using HR.out
            · exact HAL.out j (by omega), HB2.out⟩
          case measure => simp [intOf]; omega
        | false =>
          go_wp2
          go_ret
          refine ⟨?_, HB2.out⟩
          rw [comL_is l1 l2 k (by rw [← E1.out]; exact hk1) (by rw [← E2.out]; exact hk2) HAL.out (fun _ _ e => by have h := HR.out; rw [e] at h; simp at h)]
          rfl
      · have HLT := Lib.hid hlt
        first
          | have q0 : ¬ k < n2 := by omega
          | have q0 : ¬ k < n1 := by omega
        clear hlt
        go_wp2_with fail
        go_quiet (fail)
        go_wp2
        go_ret
        refine ⟨?_, _root_.Go.below_drewN HBR.out _⟩
        rw [comL_is l1 l2 k (by rw [← E1.out]; exact hk1) (by rw [← E2.out]; exact hk2) HAL.out (fun p q => absurd (by rw [← E1.out] at p; rw [← E2.out] at q; exact ⟨p, q⟩) HLT.out)]
        rfl
set_option maxHeartbeats 4000000 in
theorem cEnd_is (a1 a2 : Option Addr) (n1 n2 c1 c2 : Nat) (l1 l2 : List UInt8) (w : World) (h1 : BAt w a1 l1) (h2 : BAt w a2 l2) (e1 : n1 = l1.length) (e2 : n2 = l2.length) (m1 : n1 ≤ 1000000) (m2 : n2 ≤ 1000000) :
    Calls Try.prog 55 #[.slice a1 n1 c1, .slice a2 n2 c2] w fun e w' => e = .returned (.int .i64 (endL l1 l2)) ∧ Below w.heap.size w w' := by
  have H1 := Lib.hid h1; have H2 := Lib.hid h2; have E1 := Lib.hid e1; have E2 := Lib.hid e2
  clear h1 h2 e1 e2
  by_cases hmin : n2 < n1
  all_goals
    go_enter Try.func55, Try.ntmps55
    go_wp2_with fail
    go_loopw [5] (fun i wr => ∃ k : Nat, k ≤ n1 ∧ k ≤ n2 ∧ i = .int .i64 k ∧ (∀ j, j < k → l1.getD (n1 - 1 - j) 0 = l2.getD (n2 - 1 - j) 0) ∧ Below w.heap.size w wr) (fun i _ => n1 - (intOf i).toNat)
    case atStart => exact ⟨0, Nat.zero_le _, Nat.zero_le _, rfl, fun j h => absurd h (Nat.not_lt_zero _), Below.refl _ _⟩
    case round =>
      obtain ⟨k, hk1, hk2, rfl, hal, hbr⟩ := hrel
      have HAL := Lib.hid hal; have HBR := Lib.hid hbr
      clear hal hbr
      by_cases hlt : k < n1 ∧ k < n2
      · obtain ⟨p1, p2⟩ := hlt
        obtain ⟨b1, o1, rfl, g1, q1⟩ := H1.out.at (by rw [← E1.out]; omega)
        obtain ⟨b2, o2, rfl, g2, q2⟩ := H2.out.at (by rw [← E2.out]; omega)
        obtain ⟨k1, hk1e⟩ : ∃ k1 : Nat, n1 - 1 - k = k1 := ⟨_, rfl⟩
        obtain ⟨k2, hk2e⟩ : ∃ k2 : Nat, n2 - 1 - k = k2 := ⟨_, rfl⟩
        have i1 : (n1 : Int) - 1 - k = k1 := by omega
        have i2 : (n2 : Int) - 1 - k = k2 := by omega
        have i1b : k1 < n1 := by omega
        have i2b : k2 < n2 := by omega
        have c1' : wr.cell? ⟨b1, o1 + k1, none⟩ = _ := (HBR.out.cell (p := ⟨b1, o1 + k1, none⟩) g1).trans (q1 k1 (by rw [← E1.out]; omega))
        have c2' : wr.cell? ⟨b2, o2 + k2, none⟩ = _ := (HBR.out.cell (p := ⟨b2, o2 + k2, none⟩) g2).trans (q2 k2 (by rw [← E2.out]; omega))
        have K1 := Lib.hid hk1e; have K2 := Lib.hid hk2e
        clear hk1e hk2e
        have UB := u8_beq (l1.getD k1 0) (l2.getD k2 0)
        
        obtain ⟨r, hr⟩ : ∃ r, (l1.getD k1 0 == l2.getD k2 0) = r := ⟨_, rfl⟩
        rw [hr] at UB
        have HR := Lib.hid hr
        generalize (((l1.getD k1 0).toNat : Nat) : Int) = x at *
        generalize (((l2.getD k2 0).toNat : Nat) : Int) = y at *
        clear q1 q2 hr
        go_wp2_with fail
        go_quiet (fail)
        have HB2 := Lib.hid (_root_.Go.below_drewN HBR.out nq)
        clear c1' c2'
        cases r with
        | true =>
          go_wp2
          go_roundw
          case rel => exact ⟨k + 1, p1, p2, by go_num, fun j hj => by
            by_cases e : j = k
            · subst e; rw [K1.out, K2.out]; simpa using HR.out
            · exact HAL.out j (by omega), HB2.out⟩
          case measure => simp [intOf]; omega
        | false =>
          go_wp2
          go_ret
          refine ⟨?_, HB2.out⟩
          rw [show endL l1 l2 = k from by
            have q := endL_is l1 l2 0 k (Nat.zero_le _) (Nat.zero_le _) (by rw [← E1.out]; exact hk1) (by rw [← E2.out]; exact hk2) (by rw [← E1.out, ← E2.out]; exact HAL.out) (fun _ _ e => by
              rw [← E1.out, ← E2.out, K1.out, K2.out] at e
              have h := HR.out; rw [e] at h; simp at h)
            simpa using q]
          rfl
      · have HLT := Lib.hid hlt
        first
          | have q0 : ¬ k < n2 := by omega
          | have q0 : ¬ k < n1 := by omega
        clear hlt
        go_wp2_with fail
        go_quiet (fail)
        go_wp2
        go_ret
        refine ⟨?_, _root_.Go.below_drewN HBR.out _⟩
        rw [show endL l1 l2 = k from by
            have q := endL_is l1 l2 0 k (Nat.zero_le _) (Nat.zero_le _) (by rw [← E1.out]; exact hk1) (by rw [← E2.out]; exact hk2) (by rw [← E1.out, ← E2.out]; exact HAL.out) (fun p q => absurd (by rw [← E1.out] at p; rw [← E2.out] at q; exact ⟨p, q⟩) HLT.out)
            simpa using q]
        rfl
end Go.Proofs.Ytgbmbemmkadagaa

/-
  Rows of structs of whatever type, over any program: what a call owns, what lies somewhere, what is appended, what is stored.
-/
namespace Go.Proofs.Ytgbmbemmkadagaa
open Go.RowKit
set_option linter.unusedVariables false
set_option linter.unusedSimpArgs false

/-- Elements of a row: their cells, their type. -/
structure RowT (α : Type) where
  cl : α → List Value
  size : Nat
  bytes : Nat
  ty : TypeId
  sl : TypeId
  ok : α → Prop
/-- What the program says of that type. -/
structure RowT.Good {α : Type} (R : RowT α) (P : Program) : Prop where
  pos : 0 < R.size
  len : ∀ x, R.ok x → (R.cl x).length = R.size
  one : ∀ x, R.ok x → ∀ v ∈ R.cl x, v.oneCell' = true
  under : P.underlying R.sl = some (.slice R.ty)
  info : ∃ ie z, P.info? R.ty = some ie ∧ ie.zero = some z ∧ ie.size = R.size ∧ ie.bytes = R.bytes ∧ z.cells.size = R.size
  small : R.size ≤ 1000 ∧ R.bytes ≤ 1000
section
variable {α : Type} {R : RowT α} {P : Program}
def RowT.flat (R : RowT α) (l : List α) : List Value := l.flatMap R.cl
theorem rflat_nil : R.flat [] = [] := rfl
theorem rflat_cons (x : α) (l : List α) : R.flat (x :: l) = R.cl x ++ R.flat l := by unfold RowT.flat; rw [List.flatMap_cons]
theorem rflat_append (l m : List α) : R.flat (l ++ m) = R.flat l ++ R.flat m := by unfold RowT.flat; rw [List.flatMap_append]
theorem rflat_len (G : R.Good P) : ∀ (l : List α), (∀ x ∈ l, R.ok x) → (R.flat l).length = l.length * R.size
  | [], _ => by simp [RowT.flat]
  | x :: l, h => by
    rw [rflat_cons, List.length_append, G.len x (h x (by simp)), rflat_len G l (fun y hy => h y (by simp [hy])), List.length_cons, Nat.add_mul, Nat.one_mul, Nat.add_comm]
theorem rflat_at (G : R.Good P) : ∀ (l : List α) (h : ∀ x ∈ l, R.ok x) (k : Nat) (hk : k < l.length) (j : Nat) (v : Value), (R.cl l[k])[j]? = some v → (R.flat l)[k * R.size + j]? = some v
  | [], _, k, hk, _, _, _ => absurd hk (Nat.not_lt_zero _)
  | x :: l, h, 0, hk, j, v, hv => by
    have hj : j < (R.cl x).length := (List.getElem?_eq_some_iff.1 hv).1
    rw [rflat_cons, Nat.zero_mul, Nat.zero_add, List.getElem?_append_left hj]
    exact hv
  | x :: l, h, k + 1, hk, j, v, hv => by
    have hl := G.len x (h x (by simp))
    rw [rflat_cons, Nat.add_mul, Nat.one_mul, List.getElem?_append_right (by omega), hl, show k * R.size + R.size + j - R.size = k * R.size + j by omega]
    exact rflat_at G l (fun y hy => h y (by simp [hy])) k (by simpa using hk) j v hv
theorem rflat_one (G : R.Good P) (l : List α) (h : ∀ x ∈ l, R.ok x) : ∀ v ∈ R.flat l, v.oneCell' = true := by
  intro v hv
  unfold RowT.flat at hv
  obtain ⟨x, hm, hx⟩ := List.mem_flatMap.1 hv
  exact G.one x (h x hm) v hx
theorem rflat_back (G : R.Good P) : ∀ (l : List α) (h : ∀ x ∈ l, R.ok x) (j : Nat) (v : Value), (R.flat l)[j]? = some v → ∃ (k : Nat) (hk : k < l.length) (q : Nat), j = k * R.size + q ∧ (R.cl l[k])[q]? = some v
  | [], _, j, v, hv => by simp [RowT.flat] at hv
  | x :: l, h, j, v, hv => by
    have hl := G.len x (h x (by simp))
    rw [rflat_cons] at hv
    by_cases hj : j < R.size
    · rw [List.getElem?_append_left (by omega)] at hv
      exact ⟨0, by simp, j, by simp, hv⟩
    · rw [List.getElem?_append_right (by omega), hl] at hv
      obtain ⟨k, hk, q, e, hq⟩ := rflat_back G l (fun y hy => h y (by simp [hy])) (j - R.size) v hv
      exact ⟨k + 1, by simpa using hk, q, by rw [Nat.add_mul]; omega, by simpa using hq⟩
/-- Elements, one behind the other, somewhere. -/
def RowAt (R : RowT α) (w : World) (a : Option Addr) (l : List α) : Prop :=
  0 < l.length → ∃ b o, a = some ⟨b, o, none⟩ ∧ b < w.heap.size ∧ ∀ k (h : k < l.length) j v, (R.cl l[k])[j]? = some v → w.cell? ⟨b, o + k * R.size + j, none⟩ = some v
theorem RowAt.nil (w : World) (a : Option Addr) : RowAt R w a [] := fun h => absurd h (Nat.lt_irrefl 0)
theorem RowAt.keep {w u : World} {a : Option Addr} {l : List α} (h : RowAt R w a l) (b : Below w.heap.size w u) : RowAt R u a l := fun hp => by
  obtain ⟨g, o, h1, h2, h3⟩ := h hp
  exact ⟨g, o, h1, Nat.lt_of_lt_of_le h2 b.size, fun k hk j v hv => (b.cell (p := ⟨g, o + k * R.size + j, none⟩) h2).trans (h3 k hk j v hv)⟩
/-- The block it lies in is as it was. -/
theorem RowAt.same {w u : World} {a : Option Addr} {l : List α} (h : RowAt R w a l) (hs : w.heap.size ≤ u.heap.size) (hb : ∀ ad, a = Option.some ad → u.heap[ad.block]? = w.heap[ad.block]?) : RowAt R u a l := fun hp => by
  obtain ⟨g, o, h1, h2, h3⟩ := h hp
  refine ⟨g, o, h1, Nat.lt_of_lt_of_le h2 hs, fun k hk j v hv => ?_⟩
  rw [← h3 k hk j v hv]
  exact World.cell?_of_block (w := w) (hb ⟨g, o, none⟩ h1)
theorem RowAt.take {w : World} {a : Option Addr} {l : List α} (h : RowAt R w a l) (n : Nat) : RowAt R w a (l.take n) := fun hp => by
  have hp2 : 0 < l.length := by rw [List.length_take] at hp; omega
  obtain ⟨g, o, h1, h2, h3⟩ := h hp2
  refine ⟨g, o, h1, h2, fun k hk j v hv => ?_⟩
  rw [List.length_take] at hk
  exact h3 k (by omega) j v (by rw [List.getElem_take] at hv; exact hv)
theorem RowAt.drop {w : World} {b o : Nat} {l : List α} (h : RowAt R w (some ⟨b, o, none⟩) l) (n : Nat) : RowAt R w (some ⟨b, o + n * R.size, none⟩) (l.drop n) := fun hp => by
  have hp2 : 0 < l.length := by rw [List.length_drop] at hp; omega
  obtain ⟨g, o', h1, h2, h3⟩ := h hp2
  cases h1
  refine ⟨b, o + n * R.size, rfl, h2, fun k hk j v hv => ?_⟩
  rw [List.length_drop] at hk
  have := h3 (n + k) (by omega) j v (by rw [List.getElem_drop] at hv; exact hv)
  rw [Nat.add_mul] at this
  rw [show o + n * R.size + k * R.size + j = o + (n * R.size + k * R.size) + j by omega]
  exact this
/-- One of them. -/
theorem RowAt.elem {w : World} {b o : Nat} {l : List α} (h : RowAt R w (some ⟨b, o, none⟩) l) (k : Nat) (hk : k < l.length) : w.rangeAt b (o + k * R.size) (R.cl l[k]) := by
  obtain ⟨g, o', h1, h2, h3⟩ := h (by omega)
  cases h1
  exact fun j v hv => h3 k hk j v hv
theorem RowAt.lt {w : World} {b o : Nat} {l : List α} (h : RowAt R w (some ⟨b, o, none⟩) l) (hp : 0 < l.length) : b < w.heap.size := by
  obtain ⟨g, o', h1, h2, h3⟩ := h hp
  cases h1
  exact h2
theorem RowAt.some {w : World} {a : Option Addr} {l : List α} (h : RowAt R w a l) (hp : 0 < l.length) : ∃ b o, a = Option.some ⟨b, o, none⟩ ∧ b < w.heap.size := by
  obtain ⟨g, o', h1, h2, h3⟩ := h hp
  exact ⟨g, o', h1, h2⟩
theorem RowAt.cells (G : R.Good P) {w : World} {b o : Nat} {l : List α} (h : RowAt R w (Option.some ⟨b, o, none⟩) l) (hid : ∀ x ∈ l, R.ok x) (j : Nat) (u : Value) (hj : (R.flat l)[j]? = Option.some u) : w.cell? ((⟨b, o, none⟩ : Addr).add j) = Option.some u := by
  obtain ⟨k, hk, q, rfl, hq⟩ := rflat_back G l hid j u hj
  obtain ⟨g, o', h1, h2, h3⟩ := h (by omega)
  cases h1
  rw [show (⟨b, o, none⟩ : Addr).add (k * R.size + q) = ⟨b, o + (k * R.size + q), none⟩ by unfold Addr.add; split <;> simp_all, ← Nat.add_assoc]
  exact h3 k hk q u hq
/-- A row that a call owns. -/
def OwnR (R : RowT α) (B : Nat) (v : Value) (l : List α) (w : World) : Prop := w.ownsRow B R.ty R.size v l.length (R.flat l)
theorem ownR_nil (w : World) (B : Nat) : OwnR R B (.slice none 0 0) [] w := World.ownsRow_nil w B _ _
theorem ownR_below {B : Nat} {v : Value} {l : List α} {w u : World} (h : OwnR R B v l w) (hb : Below w.heap.size w u) : OwnR R B v l u :=
  World.ownsRow.kept (row := none) h ⟨hb.os, hb.tape, hb.output, hb.size, fun k hk _ => hb.block k hk⟩ (by cases v.ownBlock <;> simp)
theorem ownR_mono {B B' : Nat} {v : Value} {l : List α} {w : World} (h : OwnR R B v l w) (hB : B' ≤ B) : OwnR R B' v l w :=
  ⟨h.1, h.2.imp id (fun ⟨g', cap', cur, h', hb', r⟩ => ⟨g', cap', cur, h', Nat.le_trans hB hb', r⟩)⟩
/-- Its block is as it was. -/
theorem ownR_same {B : Nat} {v : Value} {l : List α} {w u : World} (h : OwnR R B v l w) (hb : ∀ g, v.ownBlock = Option.some g → u.heap[g]? = w.heap[g]?) : OwnR R B v l u :=
  ⟨h.1, h.2.imp id (fun ⟨g', cap', cur, h', hb', hh, r⟩ => ⟨g', cap', cur, h', hb', (hb g' (by rw [h']; rfl)).trans hh, r⟩)⟩
theorem ownR_shape (G : R.Good P) {B : Nat} {v : Value} {l : List α} {w : World} (h : OwnR R B v l w) (hid : ∀ x ∈ l, R.ok x) :
    ∃ a c, v = .slice a l.length c ∧ l.length ≤ c ∧ c ≤ maxLen ∧ RowAt R w a l ∧ (a = none → l.length = 0 ∧ c = 0) ∧ ∀ ad, a = Option.some ad → B ≤ ad.block ∧ ad.off = 0 ∧ ad.block < w.heap.size := by
  rcases h.2 with ⟨hv, h0⟩ | ⟨g, cap, cur, hv, hB, hg, hc, hm, _, _⟩
  · obtain rfl : l = [] := List.eq_nil_of_length_eq_zero h0
    exact ⟨none, 0, hv, Nat.le_refl _, Nat.zero_le _, RowAt.nil w _, fun _ => ⟨rfl, rfl⟩, fun ad e => (by cases e)⟩
  · have hcs := World.ownsRow.cells h (g := g) (by rw [hv]; rfl)
    have hlt : g < w.heap.size := (Array.getElem?_eq_some_iff.1 hg).1
    refine ⟨_, cap, hv, hc, hm, fun _ => ⟨g, 0, rfl, hlt, fun k hk j u hu => ?_⟩, fun e => (by cases e), fun ad e => (by cases e; exact ⟨hB, rfl, hlt⟩)⟩
    have := hcs (k * R.size + j) u (rflat_at G l hid k hk j u hu)
    rw [show (⟨g, 0, none⟩ : Addr).add (k * R.size + j) = ⟨g, 0 + k * R.size + j, none⟩ by unfold Addr.add; split <;> simp_all] at this
    exact this
/-- 'append(l, m...)', what is appended lying somewhere. -/
theorem wpList_append_rowR (G : R.Good P) {ops : Array Oper} {rest : List Oper} {o : Oper} {a : Act} {w : World} {Q : Exit → Act → World → Prop} (hgd : o.guard = none) (sl x : Operand)
    (ho : o.op = .call { callee := .builtin .append, args := #[sl, x], argTypes := #[R.sl, R.sl] }) (B : Nat) (v : Value) (l m : List α) (ad : Addr) (n c : Nat) (hs : a.eval sl = v) (hx : a.eval x = .slice (Option.some ad) n c)
    (hn : n = m.length) (hcell : ∀ j u, (R.flat m)[j]? = Option.some u → w.cell? (ad.add j) = Option.some u) (hok : ∀ x ∈ m, R.ok x) (hown : OwnR R B v l w) (hb : l.length + m.length ≤ 1000000000) (hB : B ≤ w.heap.size)
    (h : ∀ v' w', OwnR R B v' (l ++ m) w' → w.grownBy w' v.ownBlock → wpList P ops Q rest (a.put o.dst v') w') : wpList P ops Q (o :: rest) a w := by
  obtain ⟨ie, z, hie, hz, hsz, hby, hzs⟩ := G.info
  obtain ⟨s1, s2⟩ := G.small
  subst hn
  refine wpList_append_own w hgd sl x R.sl ho B R.ty ie z R.size R.bytes G.under hie hz hsz hby hzs G.pos v l.length (R.flat l) hs hown ad m.length c (R.flat m) hx (rflat_len G m hok) hcell (rflat_one G m hok) (by unfold maxLen; omega) ?_ hB ?_
  · have h1 : (l.length + m.length) * R.bytes ≤ 1000000000 * 1000 := Nat.mul_le_mul hb s2
    omega
  · intro v' w' ho' hgr _
    refine h v' w' ?_ hgr
    unfold OwnR
    rw [List.length_append, rflat_append]
    exact ho'
/-- 'append(l, m...)' where m is empty: the value stays. -/
theorem wpList_append_noneR (G : R.Good P) {ops : Array Oper} {rest : List Oper} {o : Oper} {a : Act} {w : World} {Q : Exit → Act → World → Prop} (hgd : o.guard = none) (sl x : Operand)
    (ho : o.op = .call { callee := .builtin .append, args := #[sl, x], argTypes := #[R.sl, R.sl] }) (ao : Option Addr) (n cp : Nat) (xo : Option Addr) (c : Nat) (hs : a.eval sl = .slice ao n cp) (hle : n ≤ cp) (hx : a.eval x = .slice xo 0 c)
    (h : wpList P ops Q rest (a.put o.dst (.slice ao n cp)) w) : wpList P ops Q (o :: rest) a w := by
  obtain ⟨ie, z, hie, hz, hsz, hby, hzs⟩ := G.info
  have hrun := run_append_nothing (P := P) w R.sl R.sl o.type R.ty ie G.under hie ao n cp hle (.slice xo 0 c) (by cases xo with | none => exact Src.ofNil w G.under c | some y => exact Src.ofSlice w G.under y 0 c [] (by simp) (fun j u hu => by simp at hu) (fun _ h => by cases h))
  refine wpList_plain hgd fun K hK => ?_
  unfold Oper.wp execOp
  simp only [ho, resolve, invoke, builtin, Sem.run_bind, Sem.run_pure, Result.andThen_ok, List.map_toArray, List.map_cons, List.map_nil, hs, hx, hrun]
  exact hK _ _ h
/-- 'append(l, m...)', whatever m is. -/
theorem wpList_append_anyR (G : R.Good P) {ops : Array Oper} {rest : List Oper} {o : Oper} {a : Act} {w : World} {Q : Exit → Act → World → Prop} (hgd : o.guard = none) (sl x : Operand)
    (ho : o.op = .call { callee := .builtin .append, args := #[sl, x], argTypes := #[R.sl, R.sl] }) (B : Nat) (v : Value) (l m : List α) (ao : Option Addr) (n c : Nat) (hs : a.eval sl = v) (hx : a.eval x = .slice ao n c)
    (hn : n = m.length) (hrow : RowAt R w ao m) (hok : ∀ x ∈ m, R.ok x) (hokl : ∀ x ∈ l, R.ok x) (hown : OwnR R B v l w) (hb : l.length + m.length ≤ 1000000000) (hB : B ≤ w.heap.size)
    (h : ∀ v' w', OwnR R B v' (l ++ m) w' → w.grownBy w' v.ownBlock → wpList P ops Q rest (a.put o.dst v') w') : wpList P ops Q (o :: rest) a w := by
  by_cases h0 : m = []
  · subst h0
    obtain ⟨av, cv, rfl, hle, -⟩ := ownR_shape G hown hokl
    refine wpList_append_noneR G hgd sl x ho av l.length cv ao c hs hle (by rw [hx, hn]; rfl) (h _ w (by rw [List.append_nil]; exact hown) ⟨rfl, rfl, rfl, Nat.le_refl _, fun _ _ _ => rfl⟩)
  · have hp : 0 < m.length := List.length_pos_iff.2 h0
    obtain ⟨b, o', rfl, -⟩ := hrow.some hp
    exact wpList_append_rowR G hgd sl x ho B v l m _ n c hs hx hn (fun j u hj => hrow.cells G hok j u hj) hok hown hb hB h
/-- The same, as one step. -/
theorem wp_append_anyR (G : R.Good P) {o : Oper} {a : Act} {w : World} {K : Act → World → Prop} {Q : Exit → Act → World → Prop} (sl x : Operand)
    (ho : o.op = .call { callee := .builtin .append, args := #[sl, x], argTypes := #[R.sl, R.sl] }) (B : Nat) (v : Value) (l m : List α) (ao : Option Addr) (n c : Nat) (hs : a.eval sl = v) (hx : a.eval x = .slice ao n c)
    (hn : n = m.length) (hrow : RowAt R w ao m) (hok : ∀ x ∈ m, R.ok x) (hokl : ∀ x ∈ l, R.ok x) (hown : OwnR R B v l w) (hb : l.length + m.length ≤ 1000000000) (hB : B ≤ w.heap.size)
    (h : ∀ v' w', OwnR R B v' (l ++ m) w' → w.grownBy w' v.ownBlock → K (a.put o.dst v') w') : o.wp P a w K Q := by
  by_cases h0 : m = []
  · subst h0
    obtain ⟨av, cv, rfl, hle, -⟩ := ownR_shape G hown hokl
    obtain ⟨ie, z, hie, hz, hsz, hby, hzs⟩ := G.info
    subst hn
    have hrun := run_append_nothing (P := P) w R.sl R.sl o.type R.ty ie G.under hie av l.length cv hle (.slice ao 0 c) (by cases ao with | none => exact Src.ofNil w G.under c | some y => exact Src.ofSlice w G.under y 0 c [] (by simp) (fun j u hu => by simp at hu) (fun _ h => by cases h))
    unfold Oper.wp execOp
    simp only [ho, resolve, invoke, builtin, Sem.run_bind, Sem.run_pure, Result.andThen_ok, List.map_toArray, List.map_cons, List.map_nil, hs, hx, hrun, List.length_nil]
    exact h _ w (by rw [List.append_nil]; exact hown) ⟨rfl, rfl, rfl, Nat.le_refl _, fun _ _ _ => rfl⟩
  · have hp : 0 < m.length := List.length_pos_iff.2 h0
    obtain ⟨b, o', rfl, -⟩ := hrow.some hp
    obtain ⟨ie, z, hie, hz, hsz, hby, hzs⟩ := G.info
    obtain ⟨s1, s2⟩ := G.small
    subst hn
    refine wp_append_own w sl x R.sl ho B R.ty ie z R.size R.bytes G.under hie hz hsz hby hzs G.pos v l.length (R.flat l) hs hown ⟨b, o', none⟩ m.length c (R.flat m) hx (rflat_len G m hok) (fun j u hj => hrow.cells G hok j u hj) (rflat_one G m hok) (by unfold maxLen; omega) ?_ hB ?_
    · have h1 : (l.length + m.length) * R.bytes ≤ 1000000000 * 1000 := Nat.mul_le_mul hb s2
      omega
    · intro v' w' ho' hgr _
      refine h v' w' ?_ hgr
      unfold OwnR
      rw [List.length_append, rflat_append]
      exact ho'
end
end Go.Proofs.Ytgbmbemmkadagaa
