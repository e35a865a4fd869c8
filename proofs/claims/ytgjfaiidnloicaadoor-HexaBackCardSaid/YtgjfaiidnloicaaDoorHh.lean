/-
  Layer 1: Id of the program and of its reference.
-/
import Derived.Test.YtgjfaiidnloicaaDoorHg
import Derived.Laws.CopyRow
import Derived.Laws.CopyOwn
import Derived.Laws.Rows
import Derived.Laws.Tables
import Derived.Deep.WholeRow
namespace Go.Proofs.YtgjfaiidnloicaaDoor
open Go.RowKit
set_option linter.unusedVariables false

/-- An id as a value. -/
def idv (l : List UInt8) : Value := .agg (Lib.byteCells l).toArray
theorem info29 : (Tryd.prog.info? 29).map (·.size) = some 20 := by kernel_rfl
theorem results_id {fn : Func} (h : fn.results = #[.cell 2 29, .tmp 3]) (tmps : Array Value) (w : World) (g : Nat) (cs : Array Value) (fr : Nat × Nat) (x : Value)
    (hp : tmps.getD 2 undef = .pointer (some ⟨g, 0, none⟩)) (hx : tmps.getD 3 undef = x) (hg : w.heap[g]? = some (.cells cs 29 fr)) (hn : cs.size = 20) :
    (results fn tmps).run Tryd.prog w = .ok (.tuple #[.agg cs, x]) w := by
  rw [results_cell_tmp h, hp, hx]
  have e : (asAddr (.pointer (some ⟨g, 0, none⟩))).run Tryd.prog w = .ok ⟨g, 0, none⟩ w := rfl
  rw [e]
  simp only [Result.andThen_ok]
  rw [run_loadVar_row w g 29 29 cs fr _ hg Tryd.underlying29 rfl (by rw [info29, hn])]
  rfl
abbrev zero20 : Array Value := #[Value.int .u8 0, Value.int .u8 0, Value.int .u8 0, Value.int .u8 0, Value.int .u8 0, Value.int .u8 0, Value.int .u8 0, Value.int .u8 0, Value.int .u8 0, Value.int .u8 0, Value.int .u8 0, Value.int .u8 0, Value.int .u8 0, Value.int .u8 0, Value.int .u8 0, Value.int .u8 0, Value.int .u8 0, Value.int .u8 0, Value.int .u8 0, Value.int .u8 0]
theorem zero20_idv : idv (List.replicate 20 0) = .agg zero20 := rfl
theorem two_new (w : World) (A B : Obj) : ((w.alloc A).alloc B).heap[w.heap.size]? = some A :=
  (Below.heap_alloc (w.alloc A) B w.heap.size (by simp)).trans (heap_alloc_new w A)
set_option maxHeartbeats 400000 in
theorem Id_len (s : ByteArray) (w : World) (hs : s.size ≤ 1099511627776) (he : s.size ≠ 40) :
    Calls Tryd.prog 12 #[.string s] w fun e w' => e = .returned (.tuple #[idv (List.replicate 20 0), .int .i64 4]) ∧ Below w.heap.size w w' := by
  have hev : ((s.size : Int) != 40) = true := by simp; omega
  rw [zero20_idv]
  go_enter Tryd.func12, Tryd.ntmps12
  go_wp2_with (with_reducible refine wpList_store_row rfl 29 _ _ rfl w.heap.size zero20 rfl rfl 29 zero20 ?hg ?hi ?ho ?h1 ?_)
  case hg => exact two_new w _ _
  case hi => exact info29
  case ho => rfl
  case h1 => kernel_rfl
  rw [setRow_self _ w.heap.size zero20 29 (0, 0) (two_new w _ _)]
  go_wp2_with fail
  refine bodyPost_ret (results_id Tryd.results12 _ _ w.heap.size zero20 (0, 0) (.int .i64 4) rfl rfl (two_new w _ _) rfl) rfl ⟨rfl, ?_⟩
  exact ((Below.refl _ w).alloc (Nat.le_refl _) _).alloc (by simp) _
set_option maxHeartbeats 400000 in
theorem Id_bad (s : ByteArray) (w : World) (he : s.size = 40) (hu : unhexL s.data.toList = none) :
    Calls Tryd.prog 12 #[.string s] w fun e w' => e = .returned (.tuple #[idv (List.replicate 20 0), .int .i64 4]) ∧ Below w.heap.size w w' := by
  have hev : ((s.size : Int) != 40) = false := by simp; omega
  have C := Lib.hid (fun w => Unhex_none s w (by omega) hu)
  clear hu he
  rw [zero20_idv]
  go_enter Tryd.func12, Tryd.ntmps12
  go_wp2_with fail
  refine (C.out _).mono ?_
  rintro e w1 ⟨rfl, hb⟩
  have hg1 : w1.heap[w.heap.size]? = some (.cells zero20 29 (0, 0)) := (hb.block _ (by simp; omega)).trans (two_new w _ _)
  have hbw : Below w.heap.size w w1 := (((Below.refl _ w).alloc (Nat.le_refl _) _).alloc (by simp) _).trans (hb.mono (by simp; omega))
  clear hb C
  have HG := Lib.hid hg1; clear hg1
  go_wp2_with (with_reducible refine wpList_store_row rfl 29 _ _ rfl w.heap.size zero20 rfl rfl 29 zero20 ?hg ?hi ?ho ?h1 ?_)
  case hg => exact HG.out
  case hi => exact info29
  case ho => rfl
  case h1 => kernel_rfl
  rw [setRow_self _ w.heap.size zero20 29 (0, 0) HG.out]
  go_wp2_with fail
  exact bodyPost_ret (results_id Tryd.results12 _ _ w.heap.size zero20 (0, 0) (.int .i64 4) rfl rfl HG.out rfl) rfl ⟨rfl, hbw⟩

theorem oneCell_bytes (t : List UInt8) : ∀ v ∈ Lib.byteCells t, v.oneCell' = true := by
  intro v hv; simp [Lib.byteCells] at hv; obtain ⟨x, _, rfl⟩ := hv; rfl
theorem oneCell_all (t : List UInt8) : (Lib.byteCells t).toArray.all (·.oneCell') = true := by
  rw [Array.all_eq_true_iff_forall_mem]; intro v hv; exact oneCell_bytes t v (by simpa using hv)
theorem size_bytes (t : List UInt8) : (Lib.byteCells t).toArray.size = t.length := by simp [Lib.byteCells]
theorem copy_id (w : World) (g : Nat) (b o c : Nat) (t : List UInt8) (ht : t.length = 20) (hg : w.heap[g]? = some (.cells zero20 29 (0, 0))) (hc : BAt w (some ⟨b, o, none⟩) t) :
    (Builtin.copy_ #[22, 22] 3 #[.slice (some ⟨g, 0, none⟩) 20 20, .slice (some ⟨b, o, none⟩) 20 c]).run Tryd.prog w = .ok (goInt 20) (w.setRow g (Lib.byteCells t).toArray) := by
  have hl : (Lib.byteCells t).length = 20 := by simp [Lib.byteCells, ht]
  have h := run_copy_row (P := Tryd.prog) w 22 22 3 5 g 0 20 20 ⟨b, o, none⟩ 20 c zero20 29 (Lib.byteCells t) Tryd.underlying22 (by kernel_rfl) hg (by rw [hl]; rfl) (fun j v hj => hc.cells _ rfl j v hj) (by rw [hl]; exact Nat.le_refl _) (oneCell_bytes t)
  rw [h, hl]
  congr 2
  simp

set_option maxHeartbeats 400000 in
theorem Id_good (s : ByteArray) (t : List UInt8) (w : World) (he : s.size = 40) (hu : unhexL s.data.toList = some t) :
    Calls Tryd.prog 12 #[.string s] w fun e w' => e = .returned (.tuple #[idv t, .int .i64 0]) ∧ Below w.heap.size w w' := by
  have hev : ((s.size : Int) != 40) = false := by simp; omega
  have ht : t.length = 20 := by have := (unhex_spec _ _ _ (Nat.le_refl _) hu).1; rw [size_list] at this; omega
  have C := Lib.hid (fun w => Unhex_some s t w (by omega) hu)
  clear hu he
  have HT := Lib.hid ht; clear ht
  go_enter Tryd.func12, Tryd.ntmps12
  go_wp2_with fail
  refine (C.out _).mono ?_
  rintro e w1 ⟨g, c, rfl, hbat, hlc, _, hb⟩
  obtain ⟨b, o, rfl, _, _⟩ := hbat (by rw [HT.out]; omega)
  have hg0 : w1.heap[w.heap.size]? = some (.cells zero20 29 (0, 0)) := (hb.block _ (by simp; omega)).trans (two_new w _ _)
  have hg1 : w1.heap[w.heap.size + 1]? = some (.cells zero20 29 (0, 0)) := (hb.block _ (by simp)).trans (heap_alloc2_new w _ _)
  have hbw : Below w.heap.size w w1 := (((Below.refl _ w).alloc (Nat.le_refl _) _).alloc (by simp) _).trans (hb.mono (by simp; omega))
  have hcopy := copy_id w1 (w.heap.size + 1) b o c t HT.out hg1 hbat
  clear hb C
  have HG0 := Lib.hid hg0; clear hg0
  have HG1 := Lib.hid hg1; clear hg1
  have HB := Lib.hid hbat; clear hbat
  rw [HT.out]
  have hbw2 : Below w.heap.size w (w1.setRow (w.heap.size + 1) (Lib.byteCells t).toArray) := below_setRow hbw (by omega) _
  have hn0 : (w1.setRow (w.heap.size + 1) (Lib.byteCells t).toArray).heap[w.heap.size]? = some (.cells zero20 29 (0, 0)) := by
    rw [setRow_other w1 _ _ _ (by omega)]; exact HG0.out
  have hn1 : (w1.setRow (w.heap.size + 1) (Lib.byteCells t).toArray).heap[w.heap.size + 1]? = some (.cells (Lib.byteCells t).toArray 29 (0, 0)) := setRow_heap _ _ _ _ _ _ HG1.out
  have HN0 := Lib.hid hn0; clear hn0
  have HN1 := Lib.hid hn1; clear hn1
  generalize w1.setRow (w.heap.size + 1) (Lib.byteCells t).toArray = w2 at hcopy hbw2 HN0 HN1
  have hst : (storeCells ⟨w.heap.size, 0, none⟩ (Lib.byteCells t)).run Tryd.prog w2 = .ok () (w2.setRow w.heap.size (Lib.byteCells t).toArray) := by
    have h := run_storeCells_from (P := Tryd.prog) w.heap.size 29 (Lib.byteCells t) 0 zero20 w2 HN0.out (by simp [Lib.byteCells, HT.out]) (oneCell_bytes t)
    simpa using h
  have hbl : (Lib.byteCells t).length = 20 := by simp [Lib.byteCells, HT.out]
  go_wp2_with (with_reducible refine wpList_load_row rfl 29 _ rfl (w.heap.size + 1) rfl 29 (Lib.byteCells t).toArray (0, 0) _ ?hg Tryd.underlying29 rfl ?hi ?_)
  case hg => exact HN1.out
  case hi => rw [info29, size_bytes, HT.out]
  exact bodyPost_ret (results_id Tryd.results12 _ _ w.heap.size (Lib.byteCells t).toArray (0, 0) (.int .i64 0) rfl rfl (setRow_heap _ _ _ _ _ _ HN0.out) (by rw [size_bytes, HT.out])) rfl ⟨rfl, below_setRow hbw2 (Nat.le_refl _) _⟩
end Go.Proofs.YtgjfaiidnloicaaDoor
