/-
  Layer 2: awake.
-/
import Derived.Test.YtclfjkocjigkcaaSu
import Derived.Test.YtclfjkocjigkcaaAb
import Derived.Deep.Cut
import Derived.Lib.SlBytesConst
namespace Go.Proofs.Ytclfjkocjigkcaa
open Go.RowKit
set_option linter.unusedVariables false
set_option linter.unusedSimpArgs false

/-- Two worlds with the same blocks below. -/
theorem Below.alloc' {B : Nat} {a w : World} (h : Below B a w) (hB : B ≤ w.heap.size) (o : Obj) : Below B a (w.alloc o) := h.alloc hB o
/-- No part at all. -/
def noParts (w : World) : Parts w none 0 [] where
  b := 0
  o := 0
  addr := fun h => absurd h (Nat.lt_irrefl 0)
  pb := fun _ => 0
  po := fun _ => 0
  pn := fun _ => 0
  pc := fun _ => 0
  ofs := fun _ => 0
  row := fun i h => absurd h (Nat.not_lt_zero _)
  old := fun i h => absurd h (Nat.not_lt_zero _)
  zero := rfl
  next := fun i h => absurd h (Nat.not_lt_zero _)
  full := rfl
  bytes := fun i h => absurd h (Nat.not_lt_zero _)
/-- One part. -/
def onePart (w : World) (b o pb po pc : Nat) (l : List UInt8) (hb : b < w.heap.size) (hrow : w.cell? ⟨b, o, none⟩ = some (.slice (some ⟨pb, po, none⟩) l.length pc)) (hp : pb < w.heap.size) (hc : l.length ≤ pc)
    (hby : ∀ k, k < l.length → w.cell? ⟨pb, po + k, none⟩ = some (.int .u8 (l.getD k 0).toNat)) : Parts w (some ⟨b, o, none⟩) 1 l where
  b := b
  o := o
  addr := fun _ => ⟨rfl, hb⟩
  pb := fun _ => pb
  po := fun _ => po
  pn := fun _ => l.length
  pc := fun _ => pc
  ofs := fun i => i * l.length
  row := fun i h => by obtain rfl : i = 0 := by omega
                       exact hrow
  old := fun i h => ⟨hp, hc⟩
  zero := Nat.zero_mul _
  next := fun i h => by rw [Nat.add_mul, Nat.one_mul]
  full := Nat.one_mul _
  bytes := fun i h k hk => by
    obtain rfl : i = 0 := by omega
    rw [Nat.zero_mul, Nat.zero_add]
    exact hby k hk
theorem idv_cells (l : List UInt8) : ∃ arr, idv l = .agg arr ∧ arr = (Lib.byteCells l).toArray := ⟨_, rfl, rfl⟩
theorem bytes_get (l : List UInt8) (i : Nat) (h : i < l.length) : (Lib.byteCells l).toArray[i]? = some (.int .u8 (l.getD i 0).toNat) := by
  have e : (Lib.byteCells l).toArray[i]? = (Lib.byteCells l)[i]? := by simp
  rw [e, bc_at l i h]
set_option maxHeartbeats 4000000 in
theorem awake_any (w : World) : Calls Try.prog 5 #[] w fun e w' => e = .returned (.bool true) ∧ Below w.heap.size w w' := by
  obtain ⟨z, hz, hze⟩ := z29
  have hzv := zero_arr hz
  have hzs : z.size = 20 := by rw [hze]; simp
  have HZS := Lib.hid hzs; clear hz hze hzs
  obtain ⟨a1, hi1, ha1⟩ := idv_cells (sumL [97, 98, 99])
  obtain ⟨a2, hi2, ha2⟩ := idv_cells (sumL [])
  have hs1 : a1.size = 20 := by rw [ha1]; simp [bc_len, abc]
  have hs2 : a2.size = 20 := by rw [ha2]; simp [bc_len, empty]
  have g10 : a1[0]? = some (.int .u8 169) := by rw [ha1, bytes_get _ _ (by rw [abc]; decide), abc]; rfl
  have g19 : a1[19]? = some (.int .u8 157) := by rw [ha1, bytes_get _ _ (by rw [abc]; decide), abc]; rfl
  have g20 : a2[0]? = some (.int .u8 218) := by rw [ha2, bytes_get _ _ (by rw [empty]; decide), empty]; rfl
  have g29 : a2[19]? = some (.int .u8 9) := by rw [ha2, bytes_get _ _ (by rw [empty]; decide), empty]; rfl
  have all1 : a1.all (·.oneCell') = true := by rw [ha1]; exact bc_all _
  have all2 : a2.all (·.oneCell') = true := by rw [ha2]; exact bc_all _
  have C1 := Lib.hid (fun u A n c (ps : Parts u A n [97, 98, 99]) (hn : n ≤ 1000000) => hi1 ▸ Sum_any u A n c [97, 98, 99] (by decide) hn ps)
  have C2 := Lib.hid (fun u => hi2 ▸ Sum_any u none 0 0 [] (by decide) (by decide) (noParts u))
  have G10 := Lib.hid g10; have G19 := Lib.hid g19; have G20 := Lib.hid g20; have G29 := Lib.hid g29; have HS1 := Lib.hid hs1; have HS2 := Lib.hid hs2; have AL1 := Lib.hid all1; have AL2 := Lib.hid all2
  clear hi1 hi2 ha1 ha2 hs1 hs2 g10 g19 g20 g29 all1 all2
  go_enter Try.func5, Try.ntmps5
  have kc := Lib.run_convert_bytes_const (P := Try.prog) w 22 5 #[Value.int .u8 97, Value.int .u8 98, Value.int .u8 99] 3 3 Try.underlying22 Try.underlying5
  go_wp2_with fail
  clear kc
  generalize hwq : (w.alloc (.cells #[Value.int .u8 97, Value.int .u8 98, Value.int .u8 99] 5 (3, 4))).alloc (.cells #[Value.slice (some ⟨w.heap.size, 0, none⟩) 3 3] 22) = wq
  have hq0 : wq.heap[w.heap.size]? = some (.cells #[Value.int .u8 97, Value.int .u8 98, Value.int .u8 99] 5 (3, 4)) := by subst hwq; exact two_new w _ _
  have hq1 : wq.heap[w.heap.size + 1]? = some (.cells #[Value.slice (some ⟨w.heap.size, 0, none⟩) 3 3] 22 (0, 0)) := by
    subst hwq
    rw [show w.heap.size + 1 = (w.alloc (.cells #[Value.int .u8 97, Value.int .u8 98, Value.int .u8 99] 5 (3, 4))).heap.size by simp]; exact heap_alloc_new _ _
  have hbq : Below w.heap.size w wq := by subst hwq; exact ((Below.refl _ w).alloc (Nat.le_refl _) _).alloc (by simp) _
  clear hwq
  have ps : Parts wq (some ⟨w.heap.size + 1, 0, none⟩) 1 [97, 98, 99] := onePart wq (w.heap.size + 1) 0 w.heap.size 0 3 [97, 98, 99] (lt_of_heap hq1) ((cell_of_row wq _ 0 _ _ _ hq1).trans rfl) (lt_of_heap hq0) (Nat.le_refl _) (fun k hk => by
    rw [cell_of_row wq _ _ _ _ _ hq0]
    match k, hk with
    | 0, _ => rfl
    | 1, _ => rfl
    | 2, _ => rfl)
  clear hq0 hq1
  refine (C1.out wq _ 1 1 ps (by decide)).mono ?_
  rintro e w1 ⟨rfl, hb1⟩
  have hb01 := hbq.trans (hb1.mono hbq.size)
  clear hb1 hbq ps
  go_wp2_with fail
  refine (C2.out _).mono ?_
  rintro e w2 ⟨rfl, hb2⟩
  have hb02 := hb01.trans (hb2.mono hb01.size)
  clear hb2 hb01
  have hn2 : ((w2.alloc (.cells z 29)).alloc (.cells z 29)).heap[w2.heap.size + 1]? = some (.cells z 29 (0, 0)) := by
    rw [show w2.heap.size + 1 = (w2.alloc (.cells z 29)).heap.size by simp]; exact heap_alloc_new _ _
  go_upto_region 2 with (first
    | (with_reducible refine wpList_store_row rfl 29 (.tmp 1) (.tmp 6) rfl w2.heap.size a1 rfl rfl 29 z ?sg ?si ?so ?s1 ?_)
    | (with_reducible refine wpList_store_row rfl 29 (.tmp 2) (.tmp 7) rfl (w2.heap.size + 1) a2 rfl rfl 29 z ?ug ?ui ?uo ?u1 ?_)
    | fail)
  case sg => exact two_new w2 _ _
  case si => rw [info29, HS1.out]
  case so => rw [HZS.out, HS1.out]
  case s1 => exact AL1.out
  case ug => rw [setRow_other _ _ _ _ (by omega)]; exact hn2
  case ui => rw [info29, HS2.out]
  case uo => rw [HZS.out, HS2.out]
  case u1 => exact AL2.out
  generalize hw3 : ((((w2.alloc (.cells z 29)).alloc (.cells z 29)).setRow w2.heap.size a1).setRow (w2.heap.size + 1) a2) = w3
  have h31 : w3.heap[w2.heap.size]? = some (.cells a1 29 (0, 0)) := by
    subst hw3
    rw [setRow_other _ _ _ _ (by omega)]
    exact setRow_heap _ _ z a1 _ _ (two_new w2 _ _)
  have h32 : w3.heap[w2.heap.size + 1]? = some (.cells a2 29 (0, 0)) := by
    subst hw3
    exact setRow_heap _ _ z a2 _ _ (by rw [setRow_other _ _ _ _ (by omega)]; exact hn2)
  have hb03 : Below w.heap.size w w3 := by
    subst hw3
    have := hb02.size
    exact below_setRow (below_setRow ((hb02.alloc hb02.size _).alloc (by simp; omega) _) (by omega) a1) (by omega) a2
  clear hw3 hn2
  have c1 : w3.cell? ⟨w2.heap.size, 0, none⟩ = some (.int .u8 169) := (cell_of_row w3 _ 0 _ _ _ h31).trans G10.out
  have c2 : w3.cell? ⟨w2.heap.size, 19, none⟩ = some (.int .u8 157) := (cell_of_row w3 _ 19 _ _ _ h31).trans G19.out
  have c3 : w3.cell? ⟨w2.heap.size + 1, 0, none⟩ = some (.int .u8 218) := (cell_of_row w3 _ 0 _ _ _ h32).trans G20.out
  have c4 : w3.cell? ⟨w2.heap.size + 1, 19, none⟩ = some (.int .u8 9) := (cell_of_row w3 _ 19 _ _ _ h32).trans G29.out
  have i1 := fun u => index_arr20 u w2.heap.size 0 (by omega) 0 rfl
  have i2 := fun u => index_arr20 u w2.heap.size 19 (by omega) 19 rfl
  have i3 := fun u => index_arr20 u (w2.heap.size + 1) 0 (by omega) 0 rfl
  have i4 := fun u => index_arr20 u (w2.heap.size + 1) 19 (by omega) 19 rfl
  clear h31 h32
  go_wp2_with fail
  go_ret
  exact ⟨rfl, hb03⟩
end Go.Proofs.Ytclfjkocjigkcaa
