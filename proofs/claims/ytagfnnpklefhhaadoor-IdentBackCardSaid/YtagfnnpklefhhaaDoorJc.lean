/-
  Layer 6: barred, rightZone and prefix of the program; barred of the reference.
-/
import Derived.Test.YtagfnnpklefhhaaDoorMm
import Derived.Test.YtagfnnpklefhhaaDoorJa
import Derived.Test.YtagfnnpklefhhaaDoorRi
import Derived.IntWalk
import Derived.WalkSmall
namespace Go.Proofs.YtagfnnpklefhhaaDoor
open Go.RowKit
set_option linter.unusedVariables false
set_option linter.unusedSimpArgs false

theorem ext_upto (l : List UInt8) (k : Nat) : (⟨l.toArray⟩ : ByteArray).extract 0 k = ⟨(l.take k).toArray⟩ := Lib.extract_upto _ k
theorem ext_from (l : List UInt8) (k n : Nat) (hn : n = l.length) : (⟨l.toArray⟩ : ByteArray).extract k n = ⟨(l.drop k).toArray⟩ := by
  have := Lib.extract_from ⟨l.toArray⟩ k
  rw [size_toArray] at this
  rw [hn, this]

set_option maxHeartbeats 1000000 in
theorem barred_is (r : Nat) (hr : r ≤ 2147483647) (w : World) :
    Calls Tryd.prog 48 #[.int .i32 r] w fun e w' => e = .returned (.bool (barR r)) ∧ w = w' := by
  by_cases h0 : r = 0
  · subst h0
    go_enter Tryd.func48, Tryd.ntmps48
    go_wp2
    go_ret
    exact ⟨rfl, rfl⟩
  have f0 : ((r : Int) == 0) = false := by simp; omega
  by_cases h1 : r = 10
  · subst h1
    go_enter Tryd.func48, Tryd.ntmps48
    go_wp2
    go_ret
    exact ⟨rfl, rfl⟩
  have f1 : ((r : Int) == 10) = false := by simp; omega
  by_cases h2 : r = 60
  · subst h2
    go_enter Tryd.func48, Tryd.ntmps48
    go_wp2
    go_ret
    exact ⟨rfl, rfl⟩
  have f2 : ((r : Int) == 60) = false := by simp; omega
  by_cases h3 : r = 62
  · subst h3
    go_enter Tryd.func48, Tryd.ntmps48
    go_wp2
    go_ret
    exact ⟨rfl, rfl⟩
  have f3 : ((r : Int) == 62) = false := by simp; omega
  have e : barR r = false := by unfold barR; simp; omega
  rw [e]
  clear h0 h1 h2 h3 e
  go_enter Tryd.func48, Tryd.ntmps48
  go_wp2
  go_ret
  exact ⟨rfl, rfl⟩

set_option maxHeartbeats 1000000 in
theorem rbarred_is (c : UInt8) (w : World) :
    Calls Tryd.prog 34 #[.int .u8 c.toNat] w fun e w' => e = .returned (.bool (barB c)) ∧ w = w' := by
  unfold barB
  obtain ⟨r, hr⟩ : ∃ r, c.toNat = r := ⟨_, rfl⟩
  have hr2 := c.toNat_lt
  rw [hr] at hr2 ⊢
  clear hr
  by_cases h0 : r = 0
  · subst h0
    go_enter Tryd.func34, Tryd.ntmps34
    go_wp2
    go_ret
    exact ⟨rfl, rfl⟩
  have f0 : ((r : Int) == 0) = false := by simp; omega
  by_cases h1 : r = 10
  · subst h1
    go_enter Tryd.func34, Tryd.ntmps34
    go_wp2
    go_ret
    exact ⟨rfl, rfl⟩
  have f1 : ((r : Int) == 10) = false := by simp; omega
  by_cases h2 : r = 60
  · subst h2
    go_enter Tryd.func34, Tryd.ntmps34
    go_wp2
    go_ret
    exact ⟨rfl, rfl⟩
  have f2 : ((r : Int) == 60) = false := by simp; omega
  by_cases h3 : r = 62
  · subst h3
    go_enter Tryd.func34, Tryd.ntmps34
    go_wp2
    go_ret
    exact ⟨rfl, rfl⟩
  have f3 : ((r : Int) == 62) = false := by simp; omega
  have e : (r == 0 || r == 10 || r == 60 || r == 62) = false := by simp; omega
  rw [e]
  clear h0 h1 h2 h3 e
  go_enter Tryd.func34, Tryd.ntmps34
  go_wp2
  go_ret
  exact ⟨rfl, rfl⟩

set_option maxHeartbeats 400000 in
theorem rightZone_is (z : Int) (w : World) :
    Calls Tryd.prog 22 #[.int .i64 z] w fun e w' => e = .returned (.bool (decide (-840 ≤ z) && decide (z ≤ 840))) ∧ w = w' := by
  by_cases h0 : -840 ≤ z
  · by_cases h1 : z ≤ 840
    · go_enter Tryd.func22, Tryd.ntmps22
      go_wp2
      go_ret
      exact ⟨ret_bool (by simp [h0, h1]), rfl⟩
    · go_enter Tryd.func22, Tryd.ntmps22
      go_wp2
      go_ret
      exact ⟨ret_bool (by simp [h0, h1]), rfl⟩
  · go_enter Tryd.func22, Tryd.ntmps22
    go_wp2
    go_ret
    exact ⟨ret_bool (by rw [decide_eq_false (show ¬ -840 ≤ z by omega)]; rfl), rfl⟩

set_option maxHeartbeats 4000000 in
set_option maxRecDepth 100000 in
theorem prefix_long (l : List UInt8) (gs : List (List UInt8)) (hl : l = gs.flatten) (hr : ∀ g ∈ gs, Rune g) (hn : l.length ≤ 1000000) (h200 : 200 < l.length) (w : World) :
    Calls Tryd.prog 32 #[.string ⟨l.toArray⟩, .int .i64 200] w fun e w' => e = .returned (.string ⟨(fitL 200 gs).flatten.toArray⟩) ∧ Below w.heap.size w w' := by
  have RI := Lib.hid (rune_int l)
  have hsz := size_toArray l
  have DD := Lib.hid (dec_drop l)
  have EX := Lib.hid (ext_upto l)
  obtain ⟨s, hs⟩ : ∃ s : ByteArray, s = ⟨l.toArray⟩ := ⟨_, rfl⟩
  rw [← hs] at RI hsz DD EX ⊢
  clear hs
  have FIT := Lib.hid (fun i e h => @Edge.fit gs i e 200 h)
  have NX := Lib.hid (fun i e h => @Edge.next gs hr i e h)
  have LE := Lib.hid (fun i e h => @Edge.le gs i e h)
  rw [← hl] at FIT NX LE
  have hlong : ((s.size : Int) ≤ 200) = False := by simp; omega
  have it0 := World.iter_heap w s 0
  have b0 := (Below.refl w.heap.size w).alloc (Nat.le_refl _) (.stringIter s 0)
  have E0 := Lib.hid (Edge.start gs)
  clear hl hr
  go_enter Tryd.func32, Tryd.ntmps32
  go_wp2_with fail
  go_loopw [5] (fun ve wr => ∃ i e : Nat, Edge gs i e ∧ e ≤ 200 ∧ ve = .int .i64 e ∧ wr.heap[w.heap.size]? = some (.stringIter s i) ∧ Below w.heap.size w wr) (fun _ wr => l.length - wr.iterPos w.heap.size)
  case atStart => exact ⟨0, 0, E0.out, by omega, rfl, it0, b0⟩
  case round =>
    clear it0 b0 E0
    obtain ⟨i, e, hed, he, rfl, hit, hbr⟩ := hrel
    obtain ⟨hle1, hle2⟩ := LE.out i e hed
    have ED := Lib.hid hed
    clear hed
    have hes : (e : Int) ≤ (s.size : Int) := by omega
    have hes2 : (e : Int) ≤ (l.length : Int) := by omega
    by_cases hlt : i < l.length
    · have hnx := fun ty => Lib.run_next_any_at (P := Tryd.prog) wr w.heap.size s i ty hit (by omega)
      obtain ⟨r, k, hr, hk, hr0, hr1, hk1, hkl, hw⟩ := RI.out i hlt
      have HK := Lib.hid (show k = widL (l.drop i) by rw [hk, DD.out]; rfl)
      rw [← hr, ← hk] at hnx
      clear hr hk hw
      have HP := Lib.hid (show wr.iterPos w.heap.size = i by simp [World.iterPos, hit])
      have hit2 := Lib.iterAt_heap wr w.heap.size s i (i + k) hit
      have hbr2 := Lib.below_iterAt hbr (k := w.heap.size) (Nat.le_refl _) s (i + k)
      generalize wr.iterAt w.heap.size s (i + k) = w3 at hnx hit2 hbr2
      clear hit hbr
      by_cases c1 : 200 < i
      · have hc1 : ((i : Int) > 200) = True := by simp; omega
        go_wp2
        go_ret
        exact ⟨by rw [EX.out, FIT.out i e ED.out he c1]; rfl, hbr2⟩
      · have hc1 : ((i : Int) > 200) = False := by simp; omega
        go_wp2
        go_roundw
        case rel => exact ⟨i + k, i, by rw [HK.out]; exact NX.out i e ED.out hlt, by omega, rfl, hit2, hbr2⟩
        case measure =>
          rw [HP.out, show World.iterPos _ w.heap.size = i + k by simp [World.iterPos, hit2]]
          omega
    · obtain rfl : i = l.length := by omega
      have hnx := fun ty => Lib.run_next_end_at (P := Tryd.prog) wr w.heap.size s l.length ty hit (by omega)
      go_wp2
      go_ret
      exact ⟨by rw [EX.out, FIT.out l.length e ED.out he h200]; rfl, hbr⟩
theorem prefix_is (l : List UInt8) (gs : List (List UInt8)) (hl : l = gs.flatten) (hr : ∀ g ∈ gs, Rune g) (hn : l.length ≤ 1000000) (w : World) :
    Calls Tryd.prog 32 #[.string ⟨l.toArray⟩, .int .i64 200] w fun e w' => e = .returned (.string ⟨(fitL 200 gs).flatten.toArray⟩) ∧ Below w.heap.size w w' := by
  by_cases h200 : 200 < l.length
  · exact prefix_long l gs hl hr hn h200 w
  · have hsz := size_toArray l
    have key : (fitL 200 gs).flatten = l := by rw [fit_all gs 200 (by rw [← hl]; omega), ← hl]
    rw [key]
    clear hl hr key
    obtain ⟨s, hs⟩ : ∃ s : ByteArray, s = ⟨l.toArray⟩ := ⟨_, rfl⟩
    rw [← hs] at hsz ⊢
    clear hs
    have hshort : (s.size : Int) ≤ 200 := by omega
    have hshort2 : (l.length : Int) ≤ 200 := by omega
    go_enter Tryd.func32, Tryd.ntmps32
    go_wp2
    go_ret
    exact ⟨rfl, Below.refl _ _⟩
end Go.Proofs.YtagfnnpklefhhaaDoor
