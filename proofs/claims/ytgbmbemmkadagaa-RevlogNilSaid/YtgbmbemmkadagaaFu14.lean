/-
  Texts that belong together, one behind the other.
-/
import Derived.Test.YtgbmbemmkadagaaFu13
/-
  Layer 14: numbers of four bytes, printed.
-/
namespace Go.Proofs.Ytgbmbemmkadagaa
set_option maxRecDepth 20000
open Go.RowKit
set_option linter.unusedVariables false
set_option linter.unusedSimpArgs false

/-- The nearest number that an encoding has. -/
def clampN (x : Int) : Nat := if x < 0 then 0 else if x ≤ 2147483647 then x.toNat else 2147483647
def numX (n : Nat) : List UInt8 := [UInt8.ofNat (n / 16777216), UInt8.ofNat (n / 65536), UInt8.ofNat (n / 256), UInt8.ofNat n]
def prE (e : Edx) : List UInt8 := numX (clampN e.1) ++ (numX (clampN e.2.1) ++ (numX (clampN e.2.2.length) ++ e.2.2))
def printE (l : List Edx) : List UInt8 := (l.map prE).flatten
theorem clampN_le (x : Int) : clampN x ≤ 2147483647 := by unfold clampN; split <;> (try split) <;> omega
theorem numX_len (n : Nat) : (numX n).length = 4 := rfl
/-- A number's cells. -/
def numV (n : Int) : Array Value := #[.int .u8 (n / 16777216), .int .u8 (n / 65536 % 256), .int .u8 (n / 256 % 256), .int .u8 (n % 256)]
theorem num_bat {w : World} {g : Nat} {n : Nat} {t : TypeId} {fr : Nat × Nat} (hn : n ≤ 2147483647) (h : w.heap[g]? = some (.cells (numV n) t fr)) : BAt w (some ⟨g, 0, none⟩) (numX n) := fun _ =>
  ⟨g, 0, rfl, lt_of_heap h, fun i hi => by
    have hi2 : i < 4 := hi
    rw [Nat.zero_add, cell_of_row w g i _ _ _ h]
    match i, hi2 with
    | 0, _ => show some (Value.int .u8 ((n : Int) / 16777216)) = some (.int .u8 ((UInt8.ofNat (n / 16777216)).toNat : Int)); rw [UInt8.toNat_ofNat', Nat.mod_eq_of_lt (by omega)]; rfl
    | 1, _ => show some (Value.int .u8 ((n : Int) / 65536 % 256)) = some (.int .u8 ((UInt8.ofNat (n / 65536)).toNat : Int)); rw [UInt8.toNat_ofNat']; rfl
    | 2, _ => show some (Value.int .u8 ((n : Int) / 256 % 256)) = some (.int .u8 ((UInt8.ofNat (n / 256)).toNat : Int)); rw [UInt8.toNat_ofNat']; rfl
    | 3, _ => show some (Value.int .u8 ((n : Int) % 256)) = some (.int .u8 ((UInt8.ofNat n).toNat : Int)); rw [UInt8.toNat_ofNat']; rfl⟩
set_option maxHeartbeats 8000000 in
theorem appendNumber_is (v : Value) (l : List UInt8) (x : Int) (w : World) (hr : Row w v l) (hl : l.length ≤ 1000000) :
    Calls Try.prog 50 #[v, .int .i64 x] w fun e w' => ∃ v', e = .returned v' ∧ Row w' v' (l ++ numX (clampN x)) ∧ (∀ g, foot v' = some g → foot v = some g ∨ w.heap.size ≤ g) ∧ Chg (fun k => foot v = some k) w w' := by
  obtain ⟨N, hN⟩ : ∃ N, clampN x = N := ⟨_, rfl⟩
  have hNle := clampN_le x
  rw [hN] at hNle ⊢
  have hc : (x < 0 ∧ N = 0) ∨ (¬ x < 0 ∧ x ≤ 2147483647 ∧ x = (N : Int)) ∨ (¬ x < 0 ∧ ¬ x ≤ 2147483647 ∧ N = 2147483647) := by
    unfold clampN at hN
    split at hN
    · left; omega
    · split at hN
      · right; left; omega
      · right; right; omega
  have HR := Lib.hid hr
  clear hr hN
  have AP := Lib.hid (fun (C : Array Value) (hC : numV N = C) => And.intro (HR.out.chg (S := fun _ => False) (Chg.of_below ((Below.refl w.heap.size w).alloc (Nat.le_refl _) (.cells C 5))) (fun _ _ h => h)) (num_bat (w := w.alloc (.cells C 5)) (g := w.heap.size) (n := N) (t := 5) (fr := (0, 0)) hNle (by rw [hC]; exact heap_alloc_new w _)))
  have HF := Lib.hid (fun g (hg : foot v = some g) => HR.out.lt g hg)
  rcases hc with ⟨h1, rfl⟩ | ⟨h1, h2, rfl⟩ | ⟨h1, h2, rfl⟩
  all_goals
    go_enter Try.func50, Try.ntmps50
    go_wp2_with (first
      | (at_builtin; refine wpList_append_row rfl (.tmp 8) (.tmp 20) rfl v rfl l _ (AP.out _ rfl).1 (some ⟨w.heap.size, 0, none⟩) 4 4 rfl (AP.out _ rfl).2 rfl (fun h => by cases h) (by rw [numX_len]; omega) ?_; intro v' w' hap)
      | fail)
    have H1 := Lib.hid hap.1
    have HF2 := Lib.hid (show ∀ g, foot v' = some g → foot v = some g ∨ w.heap.size ≤ g from fun g hg => by
      rcases hap.2.2 with h | h | h
      · left; rw [← h]; exact hg
      · rw [h] at hg; cases hg
      · right; rw [h] at hg; cases hg; simp)
    have CH := Lib.hid ((Chg.of_below (S := fun k => foot v = some k) ((Below.refl w.heap.size w).alloc (Nat.le_refl _) _)).grown hap.2.1 (fun k h _ => h))
    clear hap
    go_wp2
    go_ret
    exact ⟨_, rfl, H1.out, HF2.out, CH.out⟩
end Go.Proofs.Ytgbmbemmkadagaa
