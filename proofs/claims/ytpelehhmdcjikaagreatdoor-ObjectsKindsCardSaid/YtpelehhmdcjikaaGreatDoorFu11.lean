/-
  Texts that belong together, one behind the other.
-/
import Derived.Test.YtpelehhmdcjikaaGreatDoorFu10
import Derived.Test.YtpelehhmdcjikaaGreatDoorFu02
import Derived.Great.BuildSlice
import Derived.OrdersHeld
import Derived.Laws.Tables
import Derived.Laws.StructEq
import Derived.Laws.AppendOwnNone
import Derived.Deep.CutRange
import Derived.Deep.QuietTactic
import Derived.BigQuiet
import Derived.Test.YtpelehhmdcjikaaGreatDoorFu08
/-
  Layer 2: id: the words as twenty bytes.
-/
namespace Go.Proofs.YtpelehhmdcjikaaGreatDoor
set_option maxRecDepth 20000
open Go.RowKit
set_option linter.unusedVariables false
set_option linter.unusedSimpArgs false
theorem digest_at (h : H5) (k : Nat) (hk : k < 20) : (digest h).getD k 0 = outB h k := by
  unfold digest
  rw [List.getD_eq_getElem?_getD, List.getElem?_map, List.getElem?_range hk]; rfl
theorem outB_int (h : H5) (k a b : Nat) (ha : a = k / 4) (hb : b = k % 4) : (((h.get a).toNat : Int) / 2 ^ (8 * (3 - b)) % 256) = ((outB h k).toNat : Int) := by
  subst ha; subst hb
  unfold outB
  rw [UInt8.toNat_ofNat', Int.natCast_emod, Int.natCast_ediv, Int.natCast_pow]
  rfl
set_option maxHeartbeats 4000000 in
theorem id_any (w : World) (g : Nat) (cs : Array Value) (h : H5) (hg : w.heap[g]? = some (.cells cs 145 (0, 0))) (hs : StB cs h) :
    Calls Tryz.prog 81 #[.pointer (some ⟨g, 0, none⟩)] w fun e w' => e = .returned (idv (digest h)) ∧ Below w.heap.size w w' := by
  obtain ⟨z, hz, hze⟩ := z29
  have hzv := zero_arr hz
  have HZ := Lib.hid hz; clear hz
  have HZE := Lib.hid hze; clear hze
  have HG := Lib.hid hg; clear hg
  have HS := Lib.hid hs; clear hs
  go_enter Tryz.func81, Tryz.ntmps81
  go_wp2_with fail
  go_loopw [5] (fun i wr => ∃ (k : Nat) (arr : Array Value), k ≤ 20 ∧ i = .int .i64 k ∧ wr.heap[w.heap.size + 1]? = some (.cells arr 24 (0, 0)) ∧ wr.heap[w.heap.size]? = some (.cells z 24 (0, 0)) ∧ arr.size = 20 ∧
      (∀ j, j < k → arr[j]? = some (.int .u8 ((digest h).getD j 0).toNat)) ∧ Below w.heap.size w wr) (fun i _ => 20 - (intOf i).toNat)
  case atStart => exact ⟨0, z, Nat.zero_le _, rfl, by rw [show w.heap.size + 1 = (w.alloc (.cells z 24)).heap.size by simp]; exact heap_alloc_new _ _, two_new w _ _, by rw [HZE.out]; simp, fun j hj => absurd hj (Nat.not_lt_zero _), ((Below.refl _ w).alloc (Nat.le_refl _) _).alloc (by simp) _⟩
  case round =>
    obtain ⟨k, arr, hk, rfl, ha, h2, hsz, har, hbr⟩ := hrel
    have HA := Lib.hid ha; clear ha
    have H2 := Lib.hid h2; clear h2
    have HAR := Lib.hid har; clear har
    by_cases hlt : k < 20
    · have hgw : wr.heap[g]? = some (.cells cs 145 (0, 0)) := (hbr.block g (lt_of_heap HG.out)).trans HG.out
      obtain ⟨a, ha⟩ : ∃ a, a = k / 4 := ⟨_, rfl⟩
      obtain ⟨b, hb⟩ : ∃ b, b = k % 4 := ⟨_, rfl⟩
      have hd : (k : Int) / 4 = (a : Int) := by omega
      have hm : (k : Int) % 4 = (b : Int) := by omega
      have hb4 : b < 4 := by omega
      have q : wr.cell? ⟨g, a, none⟩ = some (.int .u32 (h.get a).toNat) := (cell_of_row wr g a cs _ _ hgw).trans (HS.out.word a (by omega))
      obtain ⟨x, hx⟩ : ∃ x : Int, x = (h.get a).toNat := ⟨_, rfl⟩
      rw [← hx] at q
      have i5 := fun u => index_arr5 u g a (by omega) a rfl
      have i20 := fun u => index_arr20 u (w.heap.size + 1) k hlt k rfl
      have HA2 := Lib.hid ha; have HB2 := Lib.hid hb; have HX := Lib.hid hx
      clear ha hb hx hgw
      obtain ⟨old, ho⟩ : ∃ v, wr.cell? ⟨w.heap.size + 1, k, none⟩ = some v := ⟨arr[k]'(by omega), by rw [cell_of_row wr _ k arr _ _ HA.out]; simp⟩
      have hf : wr.frozen? ⟨w.heap.size + 1, k, none⟩ = false := not_frozen HA.out k
      go_wp2
      go_roundw
      case rel =>
        refine ⟨k + 1, arr.setIfInBounds k _, by omega, by go_num, heap_set HA.out k _, ?_, by simpa using hsz, ?_, hbr.setCell (by simp) _⟩
        · exact (Below.heap_setCell wr ⟨w.heap.size + 1, k, none⟩ _ w.heap.size (by simp)).trans H2.out
        · intro j hj
          rw [set_get _ _ _ _ (by omega)]
          split
          · rename_i e; subst e
            rw [HX.out, outB_int h j a b HA2.out HB2.out, digest_at h j hlt]
          · exact HAR.out j (by omega)
      case measure => simp [intOf]; omega
    · obtain rfl : k = 20 := by omega
      have harr : arr = (Lib.byteCells (digest h)).toArray := arr_bc (by rw [hsz, digest_len]) (fun j hj => HAR.out j (by rwa [digest_len] at hj))
      have hall := bc_all (digest h)
      rw [← harr] at hall
      have HARR := Lib.hid harr; clear harr
      have HALL := Lib.hid hall; clear hall
      go_wp2_with (first
        | (with_reducible refine wpList_load_row rfl 24 (.tmp 3) rfl (w.heap.size + 1) rfl 24 arr (0, 0) _ ?lg Tryz.underlying24 rfl ?li ?_)
        | (with_reducible refine wpList_store_row rfl 24 _ _ rfl w.heap.size arr rfl rfl 24 z ?sg ?si ?so ?s1 ?_))
      case lg => exact HA.out
      case li => rw [info29, hsz]
      case sg => exact H2.out
      case si => rw [info29, hsz]
      case so => rw [HZE.out, hsz]; simp
      case s1 => exact HALL.out
      refine bodyPost_ret (results_cell_row Tryz.results81 _ _ w.heap.size 24 arr (0, 0) _ rfl (setRow_heap wr w.heap.size z arr _ (0, 0) H2.out) Tryz.underlying24 rfl (by rw [info29, hsz])) rfl ⟨by rw [HARR.out]; rfl, below_setRow hbr (Nat.le_refl _) arr⟩
end Go.Proofs.YtpelehhmdcjikaaGreatDoor

/-
  A literal of a struct or an array.
-/
namespace Go.Proofs.YtpelehhmdcjikaaGreatDoor
open Go.RowKit
set_option linter.unusedVariables false
/-- A literal of a struct or an array, its cells carried by a name. -/
theorem wpList_build_as {P : Program} {ops : Array Oper} {rest : List Oper} {o : Oper} {a : Act} {w : World} {Q : Exit → Act → World → Prop} (hgd : o.guard = none) (t : TypeId) (parts : Array (Nat × Operand)) (ho : o.op = .build t parts)
    (cells : Array Value) (hb : P.built t (parts.map fun (i, x) => (i, a.eval x)).toList = some cells)
    (h : wpList P ops Q rest (a.put o.dst (.agg cells)) w) : wpList P ops Q (o :: rest) a w :=
  wpList_plain hgd fun K hK => wp_build t parts ho (by rw [hb]; rfl) (by rw [hb]; exact hK _ _ h)
/-- The same, with one part. -/
theorem wpList_build_one {P : Program} {ops : Array Oper} {rest : List Oper} {o : Oper} {a : Act} {w : World} {Q : Exit → Act → World → Prop} (hgd : o.guard = none) (t : TypeId) (k : Nat) (x : Operand) (ho : o.op = .build t #[(k, x)])
    (v : Value) (hx : a.eval x = v) (cells : Array Value) (hb : P.built t [(k, v)] = some cells)
    (h : wpList P ops Q rest (a.put o.dst (.agg cells)) w) : wpList P ops Q (o :: rest) a w :=
  wpList_build_as hgd t #[(k, x)] ho cells (by simp [hx, hb]) h
end Go.Proofs.YtpelehhmdcjikaaGreatDoor

/-
  Layer 2: Sum of the program.
-/
namespace Go.Proofs.YtpelehhmdcjikaaGreatDoor
set_option maxRecDepth 20000
open Go.RowKit
set_option linter.unusedVariables false
set_option linter.unusedSimpArgs false
def w5 : Array Value := #[.int .u32 1732584193, .int .u32 4023233417, .int .u32 2562383102, .int .u32 271733878, .int .u32 3285377520]
def st0 : Array Value := (w5.toList ++ (List.replicate 64 (Value.int .u8 0) ++ [Value.int .i64 0, Value.int .u64 0])).toArray
theorem built40 : Tryz.prog.built 145 [(0, .agg w5)] = some st0 := by kernel_rfl
theorem st0_size : st0.size = 71 := by kernel_rfl
theorem zer40_size : zer40.size = 71 := by kernel_rfl
theorem st0_all : st0.all (·.oneCell') = true := by kernel_rfl
theorem st0_StC (T : Nat → UInt8) : StC st0 T 0 0 where
  words := ⟨st0_size, fun i hi => by
    match i, hi with
    | 0, _ => rfl
    | 1, _ => rfl
    | 2, _ => rfl
    | 3, _ => rfl
    | 4, _ => rfl⟩
  bytes := fun i hi => absurd hi (Nat.not_lt_zero _)
  fill := by kernel_rfl
  len := by kernel_rfl
/-- The parts, one behind the other, are a text. -/
structure Parts (w : World) (A : Option Addr) (n : Nat) (l : List UInt8) where
  b : Nat
  o : Nat
  addr : 0 < n → A = some ⟨b, o, none⟩ ∧ b < w.heap.size
  pb : Nat → Nat
  po : Nat → Nat
  pn : Nat → Nat
  pc : Nat → Nat
  ofs : Nat → Nat
  row : ∀ i, i < n → w.cell? ⟨b, o + i, none⟩ = some (.slice (some ⟨pb i, po i, none⟩) (pn i) (pc i))
  old : ∀ i, i < n → pb i < w.heap.size ∧ pn i ≤ pc i
  zero : ofs 0 = 0
  next : ∀ i, i < n → ofs (i + 1) = ofs i + pn i
  full : ofs n = l.length
  bytes : ∀ i, i < n → ∀ k, k < pn i → w.cell? ⟨pb i, po i + k, none⟩ = some (.int .u8 (l.getD (ofs i + k) 0).toNat)
theorem Parts.mono {w : World} {A : Option Addr} {n : Nat} {l : List UInt8} (p : Parts w A n l) (i : Nat) (hi : i ≤ n) : p.ofs i ≤ l.length := by
  rw [← p.full]
  have : ∀ d, i + d ≤ n → p.ofs i ≤ p.ofs (i + d) := by
    intro d
    induction d with
    | zero => intro _; exact Nat.le_refl _
    | succ d ih => intro h; rw [← Nat.add_assoc, p.next (i + d) (by omega)]; have := ih (by omega); omega
  have h := this (n - i) (by omega)
  rwa [show i + (n - i) = n by omega] at h
end Go.Proofs.YtpelehhmdcjikaaGreatDoor

/-
  Layer 2: small words for the walk of the reference's Sum.
-/
namespace Go.Proofs.YtpelehhmdcjikaaGreatDoor
set_option maxRecDepth 20000
open Go.RowKit
set_option linter.unusedVariables false
set_option linter.unusedSimpArgs false
/-- The bytes of a row, told by a function. -/
def RowIs (xs : List Value) (k : Nat) (T : Nat → UInt8) : Prop := ∀ i, i < k → xs[i]? = some (.int .u8 (T i).toNat)
theorem RowIs.more {xs : List Value} {k : Nat} {T : Nat → UInt8} (h : RowIs xs k T) (hl : xs.length = k) (x : UInt8) (hx : T k = x) : RowIs (xs ++ [Value.int .u8 x.toNat]) (k + 1) T := fun i hi => by
  by_cases h1 : i < k
  · rw [List.getElem?_append_left (by omega)]; exact h i h1
  · obtain rfl : i = k := by omega
    rw [List.getElem?_append_right (by omega), hl, Nat.sub_self, hx]; rfl
/-- Five words in a block. -/
structure W5 (arr : Array Value) (h : H5) : Prop where
  size : arr.size = 5
  word : ∀ i, i < 5 → arr[i]? = some (.int .u32 (h.get i).toNat)
/-- What the reference's Sum keeps through its loops: the result's block, the five words. -/
structure Rv (w wr : World) (z : Array Value) (h : H5) : Prop where
  res : wr.heap[w.heap.size]? = some (.cells z 24 (0, 0))
  words : ∃ ha, wr.heap[w.heap.size + 1]? = some (.cells ha 141 (0, 0)) ∧ W5 ha h
  size : w.heap.size + 2 ≤ wr.heap.size
  below : Below w.heap.size w wr
theorem Rv.grown {w wr w' : World} {z : Array Value} {h : H5} {row : Option Nat} (r : Rv w wr z h) (hg : wr.grownBy w' row) (hr : ∀ k, row = some k → w.heap.size + 2 ≤ k) : Rv w w' z h where
  res := (hg.block _ (by have := r.size; omega) (fun e => by have := hr _ e.symm; omega)).trans r.res
  words := by
    obtain ⟨ha, h1, h2⟩ := r.words
    exact ⟨ha, (hg.block _ (by have := r.size; omega) (fun e => by have := hr _ e.symm; omega)).trans h1, h2⟩
  size := by have := r.size; have := hg.size; omega
  below := r.below.grown hg r.below.size (fun k hk => by have := hr k hk; omega)
theorem Rv.alloc {w wr : World} {z : Array Value} {h : H5} (r : Rv w wr z h) (o : Obj) : Rv w (wr.alloc o) z h := r.grown (World.grownBy_alloc wr o none) (fun k hk => by cases hk)
theorem RowIs.len {w : World} {base : Nat} {e : TypeId} {v : Value} {n : Nat} {xs : List Value} (h : w.ownsRow base e 1 v n xs) : xs.length = n := by simpa using h.1
theorem W5.all {arr : Array Value} {h : H5} (w5 : W5 arr h) : arr.all (·.oneCell') = true := by
  rw [Array.all_eq_true]
  intro i hi
  have h1 := w5.word i (by rw [← w5.size]; exact hi)
  rw [Array.getElem?_eq_getElem hi] at h1
  cases h1' : arr[i] <;> rw [h1'] at h1 <;> simp_all [Value.oneCell']
end Go.Proofs.YtpelehhmdcjikaaGreatDoor

/-
  Ids as values: a whole id out of its block, its first bytes.
-/
namespace Go.Proofs.YtpelehhmdcjikaaGreatDoor
set_option maxRecDepth 20000
open Go.RowKit
set_option linter.unusedVariables false
set_option linter.unusedSimpArgs false
theorem idv_cells (l : List UInt8) : ∃ arr, idv l = .agg arr ∧ arr = (Lib.byteCells l).toArray := ⟨_, rfl, rfl⟩
end Go.Proofs.YtpelehhmdcjikaaGreatDoor

/-
  Layer 7: Id of the document's answers.
-/
namespace Go.Proofs.YtpelehhmdcjikaaGreatDoor
open Go.RowKit
set_option linter.unusedVariables false
set_option linter.unusedSimpArgs false
/-- The id of an object. -/
def sumO (k : Int) (l : List UInt8) : List UInt8 := if (printO k l).2 = 0 then sumL (printO k l).1 else List.replicate 20 0
theorem printO_len (k : Int) (l : List UInt8) (h : (printO k l).2 = 0) : (printO k l).1.length ≤ 1000000 := by
  by_cases hk : kindO k
  · by_cases hl : l.length ≤ 65536
    · rw [printO_ok k l hk hl, objO_length]
      have h1 := wordO_len k
      have h2 := numO_le l.length 4 (by omega)
      omega
    · rw [printO_limit k l hk (by omega)] at h
      exact absurd h (by decide)
  · rw [printO_kind k l hk] at h
    exact absurd h (by decide)
end Go.Proofs.YtpelehhmdcjikaaGreatDoor
