/-
  Texts that belong together, one behind the other.
-/
import Derived.Test.YtnohonjjfjppoaaGreatDoorFu19
import Derived.Test.YtnohonjjfjppoaaGreatDoorFu06
import Derived.Laws.AppendOwnNone
import Derived.Deep.CutRange
import Derived.Deep.QuietTactic
import Derived.BigQuiet
import Derived.Test.YtnohonjjfjppoaaGreatDoorFu17
/-
  Layer 2: Sum of the program.
-/
namespace Go.Proofs.YtnohonjjfjppoaaGreatDoor
set_option maxRecDepth 20000
open Go.RowKit
set_option linter.unusedVariables false
set_option linter.unusedSimpArgs false
def w5 : Array Value := #[.int .u32 1732584193, .int .u32 4023233417, .int .u32 2562383102, .int .u32 271733878, .int .u32 3285377520]
def st0 : Array Value := (w5.toList ++ (List.replicate 64 (Value.int .u8 0) ++ [Value.int .i64 0, Value.int .u64 0])).toArray
theorem built40 : Tryz.prog.built 177 [(0, .agg w5)] = some st0 := by kernel_rfl
theorem st0_size : st0.size = 71 := by kernel_rfl
theorem zer40_size : zer40.size = 71 := by kernel_rfl
theorem st0_all : st0.all (·.oneCell') = true := by kernel_rfl
theorem st0_StC (T : Nat → UInt8) : StC st0 T 0 0 where
  words := ⟨st0_size, fun i hi => by
    match i, hi with
    | 0, _ => rfl
    | 1, _ => rfl
    | 2, _ => rfl
    | 3, _ => rfl
    | 4, _ => rfl⟩
  bytes := fun i hi => absurd hi (Nat.not_lt_zero _)
  fill := by kernel_rfl
  len := by kernel_rfl
/-- The parts, one behind the other, are a text. -/
structure Parts (w : World) (A : Option Addr) (n : Nat) (l : List UInt8) where
  b : Nat
  o : Nat
  addr : 0 < n → A = some ⟨b, o, none⟩ ∧ b < w.heap.size
  pb : Nat → Nat
  po : Nat → Nat
  pn : Nat → Nat
  pc : Nat → Nat
  ofs : Nat → Nat
  row : ∀ i, i < n → w.cell? ⟨b, o + i, none⟩ = some (.slice (some ⟨pb i, po i, none⟩) (pn i) (pc i))
  old : ∀ i, i < n → pb i < w.heap.size ∧ pn i ≤ pc i
  zero : ofs 0 = 0
  next : ∀ i, i < n → ofs (i + 1) = ofs i + pn i
  full : ofs n = l.length
  bytes : ∀ i, i < n → ∀ k, k < pn i → w.cell? ⟨pb i, po i + k, none⟩ = some (.int .u8 (l.getD (ofs i + k) 0).toNat)
theorem Parts.mono {w : World} {A : Option Addr} {n : Nat} {l : List UInt8} (p : Parts w A n l) (i : Nat) (hi : i ≤ n) : p.ofs i ≤ l.length := by
  rw [← p.full]
  have : ∀ d, i + d ≤ n → p.ofs i ≤ p.ofs (i + d) := by
    intro d
    induction d with
    | zero => intro _; exact Nat.le_refl _
    | succ d ih => intro h; rw [← Nat.add_assoc, p.next (i + d) (by omega)]; have := ih (by omega); omega
  have h := this (n - i) (by omega)
  rwa [show i + (n - i) = n by omega] at h
end Go.Proofs.YtnohonjjfjppoaaGreatDoor

/-
  Layer 2: small words for the walk of the reference's Sum.
-/
namespace Go.Proofs.YtnohonjjfjppoaaGreatDoor
set_option maxRecDepth 20000
open Go.RowKit
set_option linter.unusedVariables false
set_option linter.unusedSimpArgs false
/-- The bytes of a row, told by a function. -/
def RowIs (xs : List Value) (k : Nat) (T : Nat → UInt8) : Prop := ∀ i, i < k → xs[i]? = some (.int .u8 (T i).toNat)
theorem RowIs.more {xs : List Value} {k : Nat} {T : Nat → UInt8} (h : RowIs xs k T) (hl : xs.length = k) (x : UInt8) (hx : T k = x) : RowIs (xs ++ [Value.int .u8 x.toNat]) (k + 1) T := fun i hi => by
  by_cases h1 : i < k
  · rw [List.getElem?_append_left (by omega)]; exact h i h1
  · obtain rfl : i = k := by omega
    rw [List.getElem?_append_right (by omega), hl, Nat.sub_self, hx]; rfl
/-- Five words in a block. -/
structure W5 (arr : Array Value) (h : H5) : Prop where
  size : arr.size = 5
  word : ∀ i, i < 5 → arr[i]? = some (.int .u32 (h.get i).toNat)
/-- What the reference's Sum keeps through its loops: the result's block, the five words. -/
structure Rv (w wr : World) (z : Array Value) (h : H5) : Prop where
  res : wr.heap[w.heap.size]? = some (.cells z 27 (0, 0))
  words : ∃ ha, wr.heap[w.heap.size + 1]? = some (.cells ha 173 (0, 0)) ∧ W5 ha h
  size : w.heap.size + 2 ≤ wr.heap.size
  below : Below w.heap.size w wr
theorem Rv.grown {w wr w' : World} {z : Array Value} {h : H5} {row : Option Nat} (r : Rv w wr z h) (hg : wr.grownBy w' row) (hr : ∀ k, row = some k → w.heap.size + 2 ≤ k) : Rv w w' z h where
  res := (hg.block _ (by have := r.size; omega) (fun e => by have := hr _ e.symm; omega)).trans r.res
  words := by
    obtain ⟨ha, h1, h2⟩ := r.words
    exact ⟨ha, (hg.block _ (by have := r.size; omega) (fun e => by have := hr _ e.symm; omega)).trans h1, h2⟩
  size := by have := r.size; have := hg.size; omega
  below := r.below.grown hg r.below.size (fun k hk => by have := hr k hk; omega)
theorem Rv.alloc {w wr : World} {z : Array Value} {h : H5} (r : Rv w wr z h) (o : Obj) : Rv w (wr.alloc o) z h := r.grown (World.grownBy_alloc wr o none) (fun k hk => by cases hk)
theorem RowIs.len {w : World} {base : Nat} {e : TypeId} {v : Value} {n : Nat} {xs : List Value} (h : w.ownsRow base e 1 v n xs) : xs.length = n := by simpa using h.1
theorem W5.all {arr : Array Value} {h : H5} (w5 : W5 arr h) : arr.all (·.oneCell') = true := by
  rw [Array.all_eq_true]
  intro i hi
  have h1 := w5.word i (by rw [← w5.size]; exact hi)
  rw [Array.getElem?_eq_getElem hi] at h1
  cases h1' : arr[i] <;> rw [h1'] at h1 <;> simp_all [Value.oneCell']
end Go.Proofs.YtnohonjjfjppoaaGreatDoor

/-
  Ids as values: a whole id out of its block, its first bytes.
-/
namespace Go.Proofs.YtnohonjjfjppoaaGreatDoor
set_option maxRecDepth 20000
open Go.RowKit
set_option linter.unusedVariables false
set_option linter.unusedSimpArgs false
theorem idv_cells (l : List UInt8) : ∃ arr, idv l = .agg arr ∧ arr = (Lib.byteCells l).toArray := ⟨_, rfl, rfl⟩
end Go.Proofs.YtnohonjjfjppoaaGreatDoor

/-
  Layer 7: Id of the document's answers.
-/
namespace Go.Proofs.YtnohonjjfjppoaaGreatDoor
open Go.RowKit
set_option linter.unusedVariables false
set_option linter.unusedSimpArgs false
/-- The id of an object. -/
def sumO (k : Int) (l : List UInt8) : List UInt8 := if (printO k l).2 = 0 then sumL (printO k l).1 else List.replicate 20 0
theorem printO_len (k : Int) (l : List UInt8) (h : (printO k l).2 = 0) : (printO k l).1.length ≤ 1000000 := by
  by_cases hk : kindO k
  · by_cases hl : l.length ≤ 65536
    · rw [printO_ok k l hk hl, objO_length]
      have h1 := wordO_len k
      have h2 := numO_le l.length 4 (by omega)
      omega
    · rw [printO_limit k l hk (by omega)] at h
      exact absurd h (by decide)
  · rw [printO_kind k l hk] at h
    exact absurd h (by decide)
end Go.Proofs.YtnohonjjfjppoaaGreatDoor
