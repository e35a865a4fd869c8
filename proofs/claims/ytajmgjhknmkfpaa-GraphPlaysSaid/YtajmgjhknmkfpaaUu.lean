/-
  Layer 12, the program: what is asked of have, one that panics or not; the first of some for which it is so.
-/
import Derived.Test.YtajmgjhknmkfpaaUs
import Derived.Defers
import Derived.Recover
namespace Go.Proofs.Ytajmgjhknmkfpaa
set_option maxRecDepth 20000
open Go.RowKit Go.Maps
set_option linter.unusedVariables false
set_option linter.unusedSimpArgs false

theorem idle_fn (w : World) : CallsD Try.prog 49 #[] .returning w fun e u' w' => e = .returned (.tuple #[]) ∧ u' = .returning ∧ w' = w := by
  refine callsD_of_wpS Try.func49 rfl fun c₀ cs hu => ?_
  apply wpS_region
  simp [wpOpsS, go_sem, recoverD, hu, Try.ntmps49, bodyPostS, results, Try.results49]
  cases c₀
  simp_all
/-- have answers, and what it answers is turned round. -/
theorem denied_is (i : List UInt8) (hi : i.length = 20) (f : FuncId) (lb : Array Value) (r : Bool) (w : World) (eg : ∀ args w, (callFunc f args).run Try.prog w = .ok (.enter f args) w)
    (hf : ∀ u, Below w.heap.size w u → Calls Try.prog f (#[.agg (arrD i)] ++ lb) u fun e u' => e = .returned (.bool r) ∧ Below u.heap.size u u') :
    Calls Try.prog 46 #[.func (.func f) #[] lb, .agg (arrD i)] w fun e w' => e = .returned (.bool (!r)) ∧ Below w.heap.size w w' := by
  have IA := Lib.hid (infoD_arr (arrD i) (arrD_size i hi))
  have b1 := (Below.refl w.heap.size w).alloc (Nat.le_refl _) (.cells (arrD i) 32)
  have H0 := Lib.hid (heap_alloc_new w (.cells (arrD i) 32))
  have CP := Lib.hid (hf _ b1)
  have B1 := Lib.hid b1
  generalize arrD i = A at *
  clear hf b1
  go_enter_defers Try.func46, Try.ntmps46
  go_wp2_with (first
    | (with_reducible refine wpList_load_all 32 (.tmp 3) rfl (by kernel_rfl) w.heap.size A 32 (0, 0) rfl H0.out _ Try.underlying32 rfl IA.out ?_)
    | fail)
  refine CP.out.mono ?_
  rintro e w2 ⟨rfl, hb⟩
  have HB := Lib.hid (B1.out.trans (hb.mono B1.out.size))
  clear hb
  go_wp2
  refine leaves_cons (f := 49) (args := #[]) (by simp) (by simp [go_sem]) ?_
  refine (idle_fn w2).mono ?_
  rintro e u' w'' ⟨rfl, rfl, rfl⟩
  simp [Leaves, settle, results, Try.results46, go_sem]
  exact HB.out
/-- The closure that Missing hands on: what have answers. -/
theorem missing_fn (i : List UInt8) (hi : i.length = 20) (f : FuncId) (lb : Array Value) (r : Bool) (w : World) (bh : Nat) (hbh : w.heap[bh]? = some (.cells #[.func (.func f) #[] lb] 40 (0, 0))) (eg : ∀ args w, (callFunc f args).run Try.prog w = .ok (.enter f args) w)
    (hf : ∀ u, Below w.heap.size w u → Calls Try.prog f (#[.agg (arrD i)] ++ lb) u fun e u' => e = .returned (.bool r) ∧ Below u.heap.size u u') :
    Calls Try.prog 45 #[.agg (arrD i), .pointer (some ⟨bh, 0, none⟩)] w fun e w' => e = .returned (.bool r) ∧ Below w.heap.size w w' := by
  have IA := Lib.hid (infoD_arr (arrD i) (arrD_size i hi))
  have b1 := (Below.refl w.heap.size w).alloc (Nat.le_refl _) (.cells (arrD i) 32)
  have H0 := Lib.hid (heap_alloc_new w (.cells (arrD i) 32))
  have CD := Lib.hid (denied_is i hi f lb r (w.alloc (.cells (arrD i) 32)) eg (fun u hu => hf u (b1.trans (hu.mono b1.size))))
  have B1 := Lib.hid b1
  have c0 : (w.alloc (.cells (arrD i) 32)).cell? ⟨bh, 0, none⟩ = some (.func (.func f) #[] lb) := by
    rw [Lib.cell_of_heap ((b1.block bh (lt_of_heap hbh)).trans hbh)]
    rfl
  generalize arrD i = A at *
  obtain ⟨w1, hw1⟩ : ∃ w1, w.alloc (.cells A 32) = w1 := ⟨_, rfl⟩
  rw [hw1] at c0 H0 CD B1
  clear hf b1
  go_enter Try.func45, Try.ntmps45
  go_wp2_with (first
    | (with_reducible refine wpList_load_all 32 (.tmp 2) rfl (by kernel_rfl) w.heap.size A 32 (0, 0) rfl H0.out _ Try.underlying32 rfl IA.out ?_)
    | fail)
  refine CD.out.mono ?_
  rintro e w2 ⟨rfl, hb⟩
  have HB := Lib.hid (B1.out.trans (hb.mono B1.out.size))
  clear hb c0
  go_wp2
  go_ret
  exact ⟨by simp, HB.out⟩
end Go.Proofs.Ytajmgjhknmkfpaa
