/-
  Layer 12, the program: New, place, Has, all.
-/
import Derived.Test.YtajmgjhknmkfpaaUc
import Derived.Test.YtajmgjhknmkfpaaSq
import Derived.OwnWalk
import Derived.Deep.RegionHeld3
import Derived.WalkSmall
import Derived.IntWalk
namespace Go.Proofs.Ytajmgjhknmkfpaa
set_option maxRecDepth 20000
open Go.RowKit
set_option linter.unusedVariables false
set_option linter.unusedSimpArgs false

theorem newP_is (w : World) : Calls Try.prog 7 #[] w fun e w' => e = .returned (.pointer (some ⟨w.heap.size, 0, none⟩)) ∧ w' = w.alloc (.cells #[.slice none 0 0, .map none] 57) := by
  go_enter Try.func7, Try.ntmps7
  go_wp2
  go_ret
  exact ⟨rfl, rfl⟩
theorem GraphP.new (S : Nat → Prop) (w : World) (hS : S w.heap.size) : GraphP S (w.alloc (.cells #[.slice none 0 0, .map none] 57)) w.heap.size [] := by
  refine ⟨hS, [], .slice none 0 0, none, ⟨goodG_nil, rfl, heap_alloc_new w _, ownR_nil _ _, ?_, ?_, fun _ => rfl, ?_⟩⟩
  · intro b hb
    cases hb
  · intro e he
    cases he
  · intro b hb
    cases hb
theorem placeP_nil (i : List UInt8) (w : World) :
    Calls Try.prog 31 #[.pointer none, .agg (arrD i)] w fun e w' => e = .returned (.tuple #[.int .i64 0, .bool false]) ∧ Below w.heap.size w w' := by
  have b1 := Lib.hid ((Below.refl w.heap.size w).alloc (Nat.le_refl _) (.cells (arrD i) 32))
  generalize arrD i = A at b1 ⊢
  go_enter Try.func31, Try.ntmps31
  go_wp2
  go_ret2
  exact ⟨rfl, b1.out⟩
set_option maxHeartbeats 4000000 in
theorem placeP_is {S : Nat → Prop} {w : World} {g : Nat} {L : List Gn} (h : GraphP S w g L) (i : List UInt8) (hi : i.length = 20) :
    Calls Try.prog 31 #[.pointer (some ⟨g, 0, none⟩), .agg (arrD i)] w fun e w' => e = .returned (placeV L i) ∧ Below w.heap.size w w' := by
  obtain ⟨hg, E, v, mb, h2⟩ := h
  have hl := h2.look hi
  obtain ⟨A1, hA1⟩ : ∃ A, arrD i = A := ⟨_, rfl⟩
  have sA : A1.size = 20 := by rw [← hA1]; exact arrD_size i hi
  have b1 : Below w.heap.size w (w.alloc (.cells A1 32)) := (Below.refl w.heap.size w).alloc (Nat.le_refl _) (.cells A1 32)
  have h0 := heap_alloc_new w (.cells A1 32)
  have B1 := Lib.hid b1
  obtain ⟨w1, hw1⟩ : ∃ w1, w.alloc (.cells A1 32) = w1 := ⟨_, rfl⟩
  rw [hw1] at B1 h0
  have HL := Lib.hid (fun u (hu : Below w1.heap.size w1 u) => hl u (B1.out.trans (hu.mono B1.out.size)))
  have RA := Lib.hid (fun u (hu : Below w1.heap.size w1 u) => (row_arrD ((hu.block w.heap.size (lt_of_heap h0)).trans h0)))
  have LA := Lib.hid (show (Try.prog.info? 32).map (·.size) = some A1.toList.length from by rw [Array.length_toList, sA]; exact infoD_n)
  clear hl b1 sA h2
  unfold placeV at HL ⊢
  obtain ⟨k, hk⟩ : ∃ k : Int, (((atG L i).getD 0 : Nat) : Int) = k := ⟨_, rfl⟩
  obtain ⟨b, hb⟩ : ∃ b : Bool, (atG L i).isSome = b := ⟨_, rfl⟩
  rw [hk, hb] at HL ⊢
  rw [hA1] at HL ⊢
  clear hA1 hk hb
  go_enter Try.func31, Try.ntmps31
  go_wp2_with fail
  refine rgB _ (fun hHeld => ?_)
  refine tkW 0 rfl hHeld ?_
  refine tkW 1 rfl hHeld ?_
  refine tkW 2 rfl hHeld ?_
  refine tkV 3 rfl (.map mb) (fun u hu => by have q := (HL.out u hu).1; go_simp) hHeld ?_
  refine tkH 4 rfl (yieldsIf_load_mid (by kernel_rfl) 32 (.tmp 3) (by kernel_rfl) w.heap.size 0 (by kernel_rfl) A1.toList _ (fun u hu => RA.out u hu) Try.underlying32 rfl LA.out) hHeld ?_
  refine tkV 5 rfl (.tuple #[.int .i64 k, .bool b]) (fun u hu => by have q := (HL.out u hu).2; go_simp) hHeld ?_
  refine tkW 6 rfl hHeld ?_
  refine tkW 7 rfl hHeld ?_
  refine tkW 8 rfl hHeld ?_
  refine tkW 9 rfl hHeld ?_
  refine tkW 10 rfl hHeld ?_
  try simp only [Act.put, List.getElem_toArray, List.getElem_cons_succ, List.getElem_cons_zero, lsA, lsZ, lsS]
  refine wpAnyH_done (by kernel_rfl) ?_ _
  have HB := Lib.hid (B1.out.trans (hHeld.mono B1.out.size))
  clear hHeld
  go_wp2
  go_ret2
  exact ⟨rfl, HB.out⟩
set_option maxHeartbeats 1000000 in
/-- Has, whatever place answers. -/
theorem hasP_any (p : Option Addr) (i : List UInt8) (hi : i.length = 20) (k : Int) (b : Bool) (w : World) (hp : ∀ u, Below w.heap.size w u → Calls Try.prog 31 #[.pointer p, .agg (arrD i)] u fun e w' => e = .returned (.tuple #[.int .i64 k, .bool b]) ∧ Below u.heap.size u w') :
    Calls Try.prog 13 #[.pointer p, .agg (arrD i)] w fun e w' => e = .returned (.bool b) ∧ Below w.heap.size w w' := by
  have IA := Lib.hid (infoD_arr (arrD i) (arrD_size i hi))
  have b1 := (Below.refl w.heap.size w).alloc (Nat.le_refl _) (.cells (arrD i) 32)
  have H0 := Lib.hid (heap_alloc_new w (.cells (arrD i) 32))
  have CP := Lib.hid (hp _ b1)
  have B1 := Lib.hid b1
  generalize arrD i = A at *
  clear hp b1
  go_enter Try.func13, Try.ntmps13
  go_wp2_with (first
    | (with_reducible refine wpList_load_all 32 (.tmp 3) rfl (by kernel_rfl) w.heap.size A 32 (0, 0) rfl H0.out _ Try.underlying32 rfl IA.out ?_)
    | fail)
  refine CP.out.mono ?_
  rintro e w2 ⟨rfl, hb⟩
  have HB := Lib.hid (B1.out.trans (hb.mono B1.out.size))
  clear hb
  go_wp2
  go_ret
  exact ⟨rfl, HB.out⟩
theorem hasP_is {S : Nat → Prop} {w : World} {g : Nat} {L : List Gn} (h : GraphP S w g L) (i : List UInt8) (hi : i.length = 20) :
    Calls Try.prog 13 #[.pointer (some ⟨g, 0, none⟩), .agg (arrD i)] w fun e w' => e = .returned (.bool (atG L i).isSome) ∧ Below w.heap.size w w' :=
  hasP_any _ i hi _ _ w (fun u hu => placeP_is (h.below hu) i hi)
theorem hasP_nil (i : List UInt8) (hi : i.length = 20) (w : World) :
    Calls Try.prog 13 #[.pointer none, .agg (arrD i)] w fun e w' => e = .returned (.bool false) ∧ Below w.heap.size w w' :=
  hasP_any _ i hi 0 _ w (fun u hu => placeP_nil i u)
theorem allP_nil (w : World) : Calls Try.prog 39 #[.pointer none] w fun e w' => e = .returned (.slice none 0 0) ∧ w' = w := by
  go_enter Try.func39, Try.ntmps39
  go_wp2
  go_ret
  exact ⟨rfl, rfl⟩
theorem allP_is (g : Nat) (v : Value) (w : World) (hv : w.cell? ⟨g, 0, none⟩ = some v) : Calls Try.prog 39 #[.pointer (some ⟨g, 0, none⟩)] w fun e w' => e = .returned v ∧ w' = w := by
  go_enter Try.func39, Try.ntmps39
  go_wp2
  go_ret
  exact ⟨rfl, rfl⟩
end Go.Proofs.Ytajmgjhknmkfpaa
