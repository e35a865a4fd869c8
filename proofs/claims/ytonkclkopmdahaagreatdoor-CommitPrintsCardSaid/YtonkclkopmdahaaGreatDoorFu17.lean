/-
  Texts that belong together, one behind the other.
-/
import Derived.Test.YtonkclkopmdahaaGreatDoorFu16
import Derived.Test.YtonkclkopmdahaaGreatDoorFu02
import Derived.Great.BuildSlice
import Derived.OrdersHeld
import Derived.Laws.Tables
import Derived.Laws.StructEq
/-
  Layer 9, the program: its reader: an id, an ident.
-/
namespace Go.Proofs.YtonkclkopmdahaaGreatDoor
set_option maxRecDepth 20000
open Go.RowKit
set_option linter.unusedVariables false
set_option linter.unusedSimpArgs false

theorem arrT_one (i : Idt) : (cellsT i).toArray.all (·.oneCell') = true := cellsT_one i
theorem Off.off2 {g G : Nat} {a b c : World} (h : Off g a b) (k : Off G b c) (hG : a.heap.size ≤ G := by exact Nat.le_refl _) : Off g a c :=
  ⟨k.os.trans h.os, k.tape.trans h.tape, k.output.trans h.output, Nat.le_trans h.size k.size, fun i hi hn => (k.block i (Nat.lt_of_lt_of_le hi h.size) (by omega)).trans (h.block i hi hn)⟩
def arrI9 (i : Idt) : Array Value := (cellsT i).toArray
theorem arrI9_size (i : Idt) : (arrI9 i).size = 4 := rfl
theorem arrI9_one (i : Idt) : (arrI9 i).all (·.oneCell') = true := cellsT_one i
theorem un_len {x t : List UInt8} (h : unD x = some t) : t.length = 20 := (wr9.ho x t h).1
set_option maxHeartbeats 8000000 in
theorem rdid_is (g : Nat) (s v : List UInt8) (w0 w : World) (tab : T7 w0) (h0 : w0.heap.size ≤ g) (hb0 : Below w0.heap.size w0 w) (hg : RdAt w g s) (hs : s.length ≤ 1000000) (hv : v.length ≤ 100) (hn : noEol (v ++ [32])) :
    Calls Tryz.prog 45 #[.pointer (some ⟨g, 0, none⟩), .string ⟨v.toArray⟩] w fun e w' => e = .returned (.tuple #[.agg (arrD (idP s (v ++ [32])).1), .bool (idP s (v ++ [32])).2.1]) ∧ RdAt w' g (idP s (v ++ [32])).2.2 ∧ Off g w w' := by
  obtain ⟨z, hz0, hzs, hzv, hzb, hz1⟩ := zId_any
  have HZ0 := Lib.hid hz0; have HZS := Lib.hid hzs; have HZ1 := Lib.hid hz1; have HZB := Lib.hid hzb
  have HGL := Lib.hid (lt_of_heap hg)
  have hb1 := (Below.refl w.heap.size w).alloc (Nat.le_refl _) (.cells z 23)
  have HN1 := Lib.hid (heap_alloc_new w (.cells z 23))
  have HS1 := Lib.hid (show (w.alloc (.cells z 23)).heap.size = w.heap.size + 1 by simp)
  have c1 := rdline_is g s v _ ((tab.keep hb0).keep hb1) (rd_keep hg hb1) hs hv hn
  have HB1 := Lib.hid hb1
  have IZ := Lib.hid (show (Tryz.prog.info? 23).map (·.size) = some z.size by rw [hzs]; exact infoD_n)
  have TK := Lib.hid (fun (u : World) (hu : Off g w u) => tab.keep (hb0.trans (hu.below h0 hb0.size)))
  cases hl : lineL s (v ++ [32]) with
  | none =>
    have el : lineG s (v ++ [32]) = ([], s, false) := by unfold lineG; rw [hl]
    have ep : idP s (v ++ [32]) = (idZ, false, s) := by unfold idP; rw [hl]
    rw [el] at c1
    rw [ep]
    simp only at c1 ⊢
    have HZA := Lib.hid (show z = arrD idZ from HZ0.out)
    rw [← HZA.out]
    clear el ep hl hv hn hz0 hzs hz1 hzb hs hg hb1 tab hb0 h0
    generalize (⟨v.toArray⟩ : ByteArray) = sv at *
    go_enter Tryz.func45, Tryz.ntmps45
    go_wp2_with fail
    refine c1.mono ?_
    rintro e w2 ⟨rfl, hg2, ho2⟩
    have HN2 := Lib.hid ((ho2.block w.heap.size (by rw [HS1.out]; omega) (by have := HGL.out; omega)).trans HN1.out)
    have HO2 := Lib.hid ((off_of HB1.out).trans ho2)
    have HG2 := Lib.hid hg2
    clear hg2 ho2 c1
    go_wp2_with (first
      | (refine wpList_build_none rfl 23 rfl _ HZB.out ?_)
      | (with_reducible refine wpList_store_all rfl 23 (.tmp 4) (.tmp 18) rfl w.heap.size z rfl rfl 23 z HN2.out IZ.out rfl HZ1.out ?_)
      | fail)
    intro w3 hg3 ho3 hs3
    have HB3 := Lib.hid (HO2.out.off2 ho3)
    have HG3 := Lib.hid ((ho3.block g (lt_of_heap HG2.out) (by have := HGL.out; omega)).trans HG2.out)
    have HN3 := Lib.hid hg3
    clear hg3 ho3 hs3
    go_wp2
    exact bodyPost_ret (results_id9 Tryz.results45 _ _ w.heap.size z (0, 0) _ rfl rfl HN3.out HZS.out) rfl ⟨rfl, HG3.out, HB3.out⟩
  | some y =>
    obtain ⟨x, r⟩ := y
    have el : lineG s (v ++ [32]) = (x, r, true) := by unfold lineG; rw [hl]
    have hxl : x.length ≤ 1000000 := by have := line_len hl; omega
    rw [el] at c1
    simp only at c1
    cases hu : unD x with
    | none =>
      have ep : idP s (v ++ [32]) = (idZ, false, r) := by unfold idP; rw [hl]; simp only [hu]
      have C2 := Lib.hid (fun u (ht : T7 u) => (show Calls Tryz.prog 67 #[.string ⟨x.toArray⟩] u fun e u' => e = .returned (.tuple #[.agg (arrD idZ), .int .i64 4]) ∧ Below u.heap.size u u' from (Id_all x hxl u).mono (fun e u' h => ⟨h.1.trans (by rw [idR_none hu]; rfl), h.2⟩)))
      obtain ⟨Y, hY⟩ : ∃ Y, arrD idZ = Y := ⟨_, rfl⟩
      have HYS := Lib.hid (show Y.size = 20 by rw [← hY]; exact arrD_size _ rfl)
      have HY1 := Lib.hid (show Y.all (·.oneCell') = true by rw [← hY]; exact arrD_one _)
      rw [ep]
      simp only
      rw [hY] at C2 ⊢
      have IY := Lib.hid (show (Tryz.prog.info? 23).map (·.size) = some Y.size by rw [HYS.out]; exact infoD_n)
      clear el ep hl hu hv hn hz0 hzs hz1 hzb hs hg hb1 tab hb0 h0 hY hxl
      generalize (⟨v.toArray⟩ : ByteArray) = sv at *
      generalize (⟨x.toArray⟩ : ByteArray) = sx at *
      go_enter Tryz.func45, Tryz.ntmps45
      go_wp2_with fail
      refine c1.mono ?_
      rintro e w2 ⟨rfl, hg2, ho2⟩
      have HN2 := Lib.hid ((ho2.block w.heap.size (by rw [HS1.out]; omega) (by have := HGL.out; omega)).trans HN1.out)
      have HO2 := Lib.hid ((off_of HB1.out).trans ho2)
      have HG2 := Lib.hid hg2
      clear hg2 ho2 c1
      go_wp2_with fail
      refine (C2.out _ (TK.out _ HO2.out)).mono ?_
      rintro e w3 ⟨rfl, hb3⟩
      have HO3 := Lib.hid (HO2.out.cat (hb3.mono HO2.out.size))
      have HN3 := Lib.hid ((hb3.block w.heap.size (lt_of_heap HN2.out)).trans HN2.out)
      have HG3 := Lib.hid (rd_keep HG2.out hb3)
      clear hb3
      go_wp2_with (first
        | (with_reducible refine wpList_store_all rfl 23 (.tmp 8) (.tmp 22) rfl w3.heap.size Y rfl rfl 23 z (heap_alloc_new w3 _) IY.out (HYS.out.trans HZS.out.symm) HY1.out ?_)
        | fail)
      intro w4 hg4 ho4 hs4
      have hb4 := ((Below.refl w3.heap.size w3).alloc (Nat.le_refl _) (.cells z 23)).trans (ho4.below (Nat.le_refl _) (by simp))
      have HO4 := Lib.hid (HO3.out.cat (hb4.mono HO3.out.size))
      have HN4 := Lib.hid ((hb4.block w.heap.size (lt_of_heap HN3.out)).trans HN3.out)
      have HG4 := Lib.hid (rd_keep HG3.out hb4)
      have HY4 := Lib.hid hg4
      clear hg4 ho4 hs4 hb4
      go_wp2_with (first
        | (with_reducible refine wpList_load_all 23 (.tmp 8) rfl (by kernel_rfl) w3.heap.size Y 23 (0, 0) rfl HY4.out _ Tryz.underlying23 rfl IY.out ?_)
        | (with_reducible refine wpList_store_all rfl 23 (.tmp 4) (.tmp 24) rfl w.heap.size Y rfl rfl 23 z HN4.out IY.out (HYS.out.trans HZS.out.symm) HY1.out ?_)
        | fail)
      intro w5 hg5 ho5 hs5
      have HB5 := Lib.hid (HO4.out.off2 ho5)
      have HG5 := Lib.hid ((ho5.block g (lt_of_heap HG4.out) (by have := HGL.out; omega)).trans HG4.out)
      have HN5 := Lib.hid hg5
      clear hg5 ho5 hs5
      go_wp2
      exact bodyPost_ret (results_id9 Tryz.results45 _ _ w.heap.size Y (0, 0) _ rfl rfl HN5.out HYS.out) rfl ⟨rfl, HG5.out, HB5.out⟩
    | some i =>
      have ep : idP s (v ++ [32]) = (i, true, r) := by unfold idP; rw [hl]; simp only [hu]
      have C2 := Lib.hid (fun u (ht : T7 u) => (show Calls Tryz.prog 67 #[.string ⟨x.toArray⟩] u fun e u' => e = .returned (.tuple #[.agg (arrD i), .int .i64 0]) ∧ Below u.heap.size u u' from (Id_all x hxl u).mono (fun e u' h => ⟨h.1.trans (by rw [idR_some hu]; rfl), h.2⟩)))
      obtain ⟨Y, hY⟩ : ∃ Y, arrD i = Y := ⟨_, rfl⟩
      have HYS := Lib.hid (show Y.size = 20 by rw [← hY]; exact arrD_size _ (un_len hu))
      have HY1 := Lib.hid (show Y.all (·.oneCell') = true by rw [← hY]; exact arrD_one _)
      rw [ep]
      simp only
      rw [hY] at C2 ⊢
      have IY := Lib.hid (show (Tryz.prog.info? 23).map (·.size) = some Y.size by rw [HYS.out]; exact infoD_n)
      clear el ep hl hu hv hn hz0 hzs hz1 hzb hs hg hb1 tab hb0 h0 hY hxl
      generalize (⟨v.toArray⟩ : ByteArray) = sv at *
      generalize (⟨x.toArray⟩ : ByteArray) = sx at *
      go_enter Tryz.func45, Tryz.ntmps45
      go_wp2_with fail
      refine c1.mono ?_
      rintro e w2 ⟨rfl, hg2, ho2⟩
      have HN2 := Lib.hid ((ho2.block w.heap.size (by rw [HS1.out]; omega) (by have := HGL.out; omega)).trans HN1.out)
      have HO2 := Lib.hid ((off_of HB1.out).trans ho2)
      have HG2 := Lib.hid hg2
      clear hg2 ho2 c1
      go_wp2_with fail
      refine (C2.out _ (TK.out _ HO2.out)).mono ?_
      rintro e w3 ⟨rfl, hb3⟩
      have HO3 := Lib.hid (HO2.out.cat (hb3.mono HO2.out.size))
      have HN3 := Lib.hid ((hb3.block w.heap.size (lt_of_heap HN2.out)).trans HN2.out)
      have HG3 := Lib.hid (rd_keep HG2.out hb3)
      clear hb3
      go_wp2_with (first
        | (with_reducible refine wpList_store_all rfl 23 (.tmp 8) (.tmp 22) rfl w3.heap.size Y rfl rfl 23 z (heap_alloc_new w3 _) IY.out (HYS.out.trans HZS.out.symm) HY1.out ?_)
        | fail)
      intro w4 hg4 ho4 hs4
      have hb4 := ((Below.refl w3.heap.size w3).alloc (Nat.le_refl _) (.cells z 23)).trans (ho4.below (Nat.le_refl _) (by simp))
      have HO4 := Lib.hid (HO3.out.cat (hb4.mono HO3.out.size))
      have HN4 := Lib.hid ((hb4.block w.heap.size (lt_of_heap HN3.out)).trans HN3.out)
      have HG4 := Lib.hid (rd_keep HG3.out hb4)
      have HY4 := Lib.hid hg4
      clear hg4 ho4 hs4 hb4
      go_wp2_with (first
        | (with_reducible refine wpList_load_all 23 (.tmp 8) rfl (by kernel_rfl) w3.heap.size Y 23 (0, 0) rfl HY4.out _ Tryz.underlying23 rfl IY.out ?_)
        | (with_reducible refine wpList_store_all rfl 23 (.tmp 4) (.tmp 24) rfl w.heap.size Y rfl rfl 23 z HN4.out IY.out (HYS.out.trans HZS.out.symm) HY1.out ?_)
        | fail)
      intro w5 hg5 ho5 hs5
      have HB5 := Lib.hid (HO4.out.off2 ho5)
      have HG5 := Lib.hid ((ho5.block g (lt_of_heap HG4.out) (by have := HGL.out; omega)).trans HG4.out)
      have HN5 := Lib.hid hg5
      clear hg5 ho5 hs5
      go_wp2
      exact bodyPost_ret (results_id9 Tryz.results45 _ _ w.heap.size Y (0, 0) _ rfl rfl HN5.out HYS.out) rfl ⟨rfl, HG5.out, HB5.out⟩
set_option maxHeartbeats 8000000 in
theorem rdident_is (g : Nat) (s v : List UInt8) (w0 w : World) (tab : T7 w0) (h0 : w0.heap.size ≤ g) (hb0 : Below w0.heap.size w0 w) (hg : RdAt w g s) (hs : s.length ≤ 1000000) (hv : v.length ≤ 100) (hn : noEol (v ++ [32])) :
    Calls Tryz.prog 47 #[.pointer (some ⟨g, 0, none⟩), .string ⟨v.toArray⟩] w fun e w' => e = .returned (.tuple #[.agg (arrI9 (identP s (v ++ [32])).1), .bool (identP s (v ++ [32])).2.1]) ∧ RdAt w' g (identP s (v ++ [32])).2.2 ∧ Off g w w' := by
  obtain ⟨z, hz0, hzs, hzv, hzb, hz1⟩ := zIdt_any
  have HZ0 := Lib.hid hz0; have HZS := Lib.hid hzs; have HZ1 := Lib.hid hz1; have HZB := Lib.hid hzb
  have HGL := Lib.hid (lt_of_heap hg)
  have hb1 := (Below.refl w.heap.size w).alloc (Nat.le_refl _) (.cells z 26)
  have HN1 := Lib.hid (heap_alloc_new w (.cells z 26))
  have HS1 := Lib.hid (show (w.alloc (.cells z 26)).heap.size = w.heap.size + 1 by simp)
  have c1 := rdline_is g s v _ ((tab.keep hb0).keep hb1) (rd_keep hg hb1) hs hv hn
  have HB1 := Lib.hid hb1
  have IZ := Lib.hid (show (Tryz.prog.info? 26).map (·.size) = some z.size by rw [hzs]; exact infoT)
  have TK := Lib.hid (fun (u : World) (hu : Off g w u) => tab.keep (hb0.trans (hu.below h0 hb0.size)))
  cases hl : lineL s (v ++ [32]) with
  | none =>
    have el : lineG s (v ++ [32]) = ([], s, false) := by unfold lineG; rw [hl]
    have ep : identP s (v ++ [32]) = (zT, false, s) := by unfold identP; rw [hl]
    rw [el] at c1
    rw [ep]
    simp only at c1 ⊢
    have HZA := Lib.hid (show z = arrI9 zT from HZ0.out)
    rw [← HZA.out]
    clear el ep hl hv hn hz0 hzs hz1 hzb hs hg hb1 tab hb0 h0
    generalize (⟨v.toArray⟩ : ByteArray) = sv at *
    go_enter Tryz.func47, Tryz.ntmps47
    go_wp2_with fail
    refine c1.mono ?_
    rintro e w2 ⟨rfl, hg2, ho2⟩
    have HN2 := Lib.hid ((ho2.block w.heap.size (by rw [HS1.out]; omega) (by have := HGL.out; omega)).trans HN1.out)
    have HO2 := Lib.hid ((off_of HB1.out).trans ho2)
    have HG2 := Lib.hid hg2
    clear hg2 ho2 c1
    go_wp2_with (first
      | (refine wpList_build_none rfl 26 rfl _ HZB.out ?_)
      | (with_reducible refine wpList_store_all rfl 26 (.tmp 4) (.tmp 18) rfl w.heap.size z rfl rfl 26 z HN2.out IZ.out rfl HZ1.out ?_)
      | fail)
    intro w3 hg3 ho3 hs3
    have HB3 := Lib.hid (HO2.out.off2 ho3)
    have HG3 := Lib.hid ((ho3.block g (lt_of_heap HG2.out) (by have := HGL.out; omega)).trans HG2.out)
    have HN3 := Lib.hid hg3
    clear hg3 ho3 hs3
    go_wp2
    exact bodyPost_ret (results_idt9 Tryz.results47 _ _ w.heap.size z (0, 0) _ rfl rfl HN3.out HZS.out) rfl ⟨rfl, HG3.out, HB3.out⟩
  | some y =>
    obtain ⟨x, r⟩ := y
    have el : lineG s (v ++ [32]) = (x, r, true) := by unfold lineG; rw [hl]
    have hxl : x.length ≤ 1000000 := by have := line_len hl; omega
    rw [el] at c1
    simp only at c1
    cases hu : parseP Lib.itoa takeN x with
    | none =>
      have ep : identP s (v ++ [32]) = (zT, false, r) := by unfold identP; rw [hl]; simp only [hu]
      have C2 := Lib.hid (fun u (ht : T7 u) => (show Calls Tryz.prog 68 #[.string ⟨x.toArray⟩] u fun e u' => e = .returned (.tuple #[.agg (arrI9 zT), .int .i64 4]) ∧ Below u.heap.size u u' from (Parse_is x hxl u ht).mono (fun e u' h => ⟨h.1.trans (by rw [hu]; rfl), h.2⟩)))
      obtain ⟨Y, hY⟩ : ∃ Y, arrI9 zT = Y := ⟨_, rfl⟩
      have HYS := Lib.hid (show Y.size = 4 by rw [← hY]; exact arrI9_size _)
      have HY1 := Lib.hid (show Y.all (·.oneCell') = true by rw [← hY]; exact arrI9_one _)
      rw [ep]
      simp only
      rw [hY] at C2 ⊢
      have IY := Lib.hid (show (Tryz.prog.info? 26).map (·.size) = some Y.size by rw [HYS.out]; exact infoT)
      clear el ep hl hu hv hn hz0 hzs hz1 hzb hs hg hb1 tab hb0 h0 hY hxl
      generalize (⟨v.toArray⟩ : ByteArray) = sv at *
      generalize (⟨x.toArray⟩ : ByteArray) = sx at *
      go_enter Tryz.func47, Tryz.ntmps47
      go_wp2_with fail
      refine c1.mono ?_
      rintro e w2 ⟨rfl, hg2, ho2⟩
      have HN2 := Lib.hid ((ho2.block w.heap.size (by rw [HS1.out]; omega) (by have := HGL.out; omega)).trans HN1.out)
      have HO2 := Lib.hid ((off_of HB1.out).trans ho2)
      have HG2 := Lib.hid hg2
      clear hg2 ho2 c1
      go_wp2_with fail
      refine (C2.out _ (TK.out _ HO2.out)).mono ?_
      rintro e w3 ⟨rfl, hb3⟩
      have HO3 := Lib.hid (HO2.out.cat (hb3.mono HO2.out.size))
      have HN3 := Lib.hid ((hb3.block w.heap.size (lt_of_heap HN2.out)).trans HN2.out)
      have HG3 := Lib.hid (rd_keep HG2.out hb3)
      clear hb3
      go_wp2_with (first
        | (with_reducible refine wpList_store_all rfl 26 (.tmp 8) (.tmp 22) rfl w3.heap.size Y rfl rfl 26 z (heap_alloc_new w3 _) IY.out (HYS.out.trans HZS.out.symm) HY1.out ?_)
        | fail)
      intro w4 hg4 ho4 hs4
      have hb4 := ((Below.refl w3.heap.size w3).alloc (Nat.le_refl _) (.cells z 26)).trans (ho4.below (Nat.le_refl _) (by simp))
      have HO4 := Lib.hid (HO3.out.cat (hb4.mono HO3.out.size))
      have HN4 := Lib.hid ((hb4.block w.heap.size (lt_of_heap HN3.out)).trans HN3.out)
      have HG4 := Lib.hid (rd_keep HG3.out hb4)
      have HY4 := Lib.hid hg4
      clear hg4 ho4 hs4 hb4
      go_wp2_with (first
        | (with_reducible refine wpList_load_all 26 (.tmp 8) rfl (by kernel_rfl) w3.heap.size Y 26 (0, 0) rfl HY4.out _ Tryz.underlying26 rfl IY.out ?_)
        | (with_reducible refine wpList_store_all rfl 26 (.tmp 4) (.tmp 24) rfl w.heap.size Y rfl rfl 26 z HN4.out IY.out (HYS.out.trans HZS.out.symm) HY1.out ?_)
        | fail)
      intro w5 hg5 ho5 hs5
      have HB5 := Lib.hid (HO4.out.off2 ho5)
      have HG5 := Lib.hid ((ho5.block g (lt_of_heap HG4.out) (by have := HGL.out; omega)).trans HG4.out)
      have HN5 := Lib.hid hg5
      clear hg5 ho5 hs5
      go_wp2
      exact bodyPost_ret (results_idt9 Tryz.results47 _ _ w.heap.size Y (0, 0) _ rfl rfl HN5.out HYS.out) rfl ⟨rfl, HG5.out, HB5.out⟩
    | some i =>
      have ep : identP s (v ++ [32]) = (i, true, r) := by unfold identP; rw [hl]; simp only [hu]
      have C2 := Lib.hid (fun u (ht : T7 u) => (show Calls Tryz.prog 68 #[.string ⟨x.toArray⟩] u fun e u' => e = .returned (.tuple #[.agg (arrI9 i), .int .i64 0]) ∧ Below u.heap.size u u' from (Parse_is x hxl u ht).mono (fun e u' h => ⟨h.1.trans (by rw [hu]; rfl), h.2⟩)))
      obtain ⟨Y, hY⟩ : ∃ Y, arrI9 i = Y := ⟨_, rfl⟩
      have HYS := Lib.hid (show Y.size = 4 by rw [← hY]; exact arrI9_size _)
      have HY1 := Lib.hid (show Y.all (·.oneCell') = true by rw [← hY]; exact arrI9_one _)
      rw [ep]
      simp only
      rw [hY] at C2 ⊢
      have IY := Lib.hid (show (Tryz.prog.info? 26).map (·.size) = some Y.size by rw [HYS.out]; exact infoT)
      clear el ep hl hu hv hn hz0 hzs hz1 hzb hs hg hb1 tab hb0 h0 hY hxl
      generalize (⟨v.toArray⟩ : ByteArray) = sv at *
      generalize (⟨x.toArray⟩ : ByteArray) = sx at *
      go_enter Tryz.func47, Tryz.ntmps47
      go_wp2_with fail
      refine c1.mono ?_
      rintro e w2 ⟨rfl, hg2, ho2⟩
      have HN2 := Lib.hid ((ho2.block w.heap.size (by rw [HS1.out]; omega) (by have := HGL.out; omega)).trans HN1.out)
      have HO2 := Lib.hid ((off_of HB1.out).trans ho2)
      have HG2 := Lib.hid hg2
      clear hg2 ho2 c1
      go_wp2_with fail
      refine (C2.out _ (TK.out _ HO2.out)).mono ?_
      rintro e w3 ⟨rfl, hb3⟩
      have HO3 := Lib.hid (HO2.out.cat (hb3.mono HO2.out.size))
      have HN3 := Lib.hid ((hb3.block w.heap.size (lt_of_heap HN2.out)).trans HN2.out)
      have HG3 := Lib.hid (rd_keep HG2.out hb3)
      clear hb3
      go_wp2_with (first
        | (with_reducible refine wpList_store_all rfl 26 (.tmp 8) (.tmp 22) rfl w3.heap.size Y rfl rfl 26 z (heap_alloc_new w3 _) IY.out (HYS.out.trans HZS.out.symm) HY1.out ?_)
        | fail)
      intro w4 hg4 ho4 hs4
      have hb4 := ((Below.refl w3.heap.size w3).alloc (Nat.le_refl _) (.cells z 26)).trans (ho4.below (Nat.le_refl _) (by simp))
      have HO4 := Lib.hid (HO3.out.cat (hb4.mono HO3.out.size))
      have HN4 := Lib.hid ((hb4.block w.heap.size (lt_of_heap HN3.out)).trans HN3.out)
      have HG4 := Lib.hid (rd_keep HG3.out hb4)
      have HY4 := Lib.hid hg4
      clear hg4 ho4 hs4 hb4
      go_wp2_with (first
        | (with_reducible refine wpList_load_all 26 (.tmp 8) rfl (by kernel_rfl) w3.heap.size Y 26 (0, 0) rfl HY4.out _ Tryz.underlying26 rfl IY.out ?_)
        | (with_reducible refine wpList_store_all rfl 26 (.tmp 4) (.tmp 24) rfl w.heap.size Y rfl rfl 26 z HN4.out IY.out (HYS.out.trans HZS.out.symm) HY1.out ?_)
        | fail)
      intro w5 hg5 ho5 hs5
      have HB5 := Lib.hid (HO4.out.off2 ho5)
      have HG5 := Lib.hid ((ho5.block g (lt_of_heap HG4.out) (by have := HGL.out; omega)).trans HG4.out)
      have HN5 := Lib.hid hg5
      clear hg5 ho5 hs5
      go_wp2
      exact bodyPost_ret (results_idt9 Tryz.results47 _ _ w.heap.size Y (0, 0) _ rfl rfl HN5.out HYS.out) rfl ⟨rfl, HG5.out, HB5.out⟩
end Go.Proofs.YtonkclkopmdahaaGreatDoor

/-
  Layer 9, the program: its reader of parents.
-/
namespace Go.Proofs.YtonkclkopmdahaaGreatDoor
set_option maxRecDepth 20000
open Go.RowKit
set_option linter.unusedVariables false
set_option linter.unusedSimpArgs false

theorem ownD_off {B g : Nat} {v : Value} {l : List (List UInt8)} {w w' : World} (h : OwnD B v l w) (ho : Off g w w') (hg : g < B) : OwnD B v l w' :=
  ⟨h.1, h.2.imp id (fun ⟨g', cap', cur, h', hb', hh, r⟩ => ⟨g', cap', cur, h', hb', (ho.block g' (lt_of_heap hh) (by omega)).trans hh, r⟩)⟩
theorem lineG_none {s w : List UInt8} (h : lineL s w = none) : lineG s w = ([], s, false) := by unfold lineG; rw [h]
theorem lineG_some {s w x r : List UInt8} (h : lineL s w = some (x, r)) : lineG s w = (x, r, true) := by unfold lineG; rw [h]
theorem parentV_W : parentV ++ [32] = parentW := rfl
set_option maxHeartbeats 16000000 in
theorem rdparents_is (g : Nat) (s : List UInt8) (w0 w : World) (tab : T7 w0) (h0 : w0.heap.size ≤ g) (hb0 : Below w0.heap.size w0 w) (hg : RdAt w g s) (hs : s.length ≤ 1000000) :
    Calls Tryz.prog 46 #[.pointer (some ⟨g, 0, none⟩)] w fun e w' => ∃ v b r ps, e = .returned (.tuple #[v, .bool b]) ∧ RdAt w' g r ∧ r.length ≤ s.length ∧ Off g w w' ∧
      ((b = true ∧ parsQ unD 16 s = some (ps, r) ∧ OwnD w.heap.size v ps w' ∧ ps.length ≤ 16 ∧ ∀ p ∈ ps, p.length = 20) ∨ (b = false ∧ parsQ unD 16 s = none ∧ v = .slice none 0 0)) := by
  obtain ⟨z, hz0, hzs, hzv, hzb, hz1⟩ := zId_any
  have HZS := Lib.hid hzs
  have HGL := Lib.hid (lt_of_heap hg)
  have TK := Lib.hid (fun (u : World) (hu : Off g w u) => tab.keep (hb0.trans (hu.below h0 hb0.size)))
  have HG := Lib.hid hg
  obtain ⟨PQ, hPQ⟩ : ∃ PQ, parsQ unD 16 s = PQ := ⟨_, rfl⟩
  have HP0 := Lib.hid (show parsP unD [] 16 s = PQ by rw [parsP_nil, hPQ])
  rw [hPQ]
  have HSL := Lib.hid hs
  clear hz0 hzs hzb hz1 hg tab hb0 h0 hPQ hs
  go_enter Tryz.func46, Tryz.ntmps46
  go_wp2_with fail
  go_loopw [4, 9] (fun v4 v9 wr => ∃ (k : Nat) (ps : List (List UInt8)) (r : List UInt8), k ≤ 16 ∧ v9 = .int .i64 k ∧ OwnD w.heap.size v4 ps wr ∧ ps.length = k ∧ RdAt wr g r ∧ r.length ≤ s.length ∧ (∀ p ∈ ps, p.length = 20) ∧ parsP unD ps (16 - k) r = PQ ∧ Off g w wr) (fun _ v9 _ => 16 - (intOf v9).toNat)
  case atStart => exact ⟨0, [], s, by omega, rfl, ownD_nil _ _, rfl, HG.out, Nat.le_refl _, (fun p hp => by cases hp), HP0.out, Off.refl _ _⟩
  case round =>
    obtain ⟨k, ps, r, hk, rfl, hown, hpl, hgr, hrl, hpi, hpp, hor⟩ := hrel
    have HOWN := Lib.hid hown; have HPL := Lib.hid hpl; have HGR := Lib.hid hgr; have HRL := Lib.hid hrl; have HPI := Lib.hid hpi; have HPP := Lib.hid hpp; have HOR := Lib.hid hor
    clear hown hpl hgr hrl hpi hpp hor
    by_cases hlt : k < 16
    · have g1 : (k : Int) < 16 := by omega
      have c1 := rdline_is g r parentV wr (TK.out _ HOR.out) HGR.out (by have := HRL.out; have := HSL.out; omega) (by decide) (by rw [parentV_W]; exact noEol_parent)
      rw [parentV_W, show parentV = [112, 97, 114, 101, 110, 116] from rfl] at c1
      cases hl : lineL r parentW with
      | none =>
        rw [lineG_none hl] at c1
        simp only at c1
        have HPQ := Lib.hid (show PQ = some (ps, r) by rw [← HPP.out]; exact parsP_stop hl ps _)
        clear hl
        go_wp2_with fail
        refine c1.mono ?_
        rintro e w2 ⟨rfl, hg2, ho2⟩
        have HG2 := Lib.hid hg2
        have HO2 := Lib.hid (HOR.out.trans ho2)
        have HW2 := Lib.hid (ownD_off HOWN.out ho2 HGL.out)
        clear hg2 ho2 c1
        go_wp2
        go_ret2
        exact ⟨_, _, r, ps, rfl, HG2.out, HRL.out, HO2.out, .inl ⟨rfl, HPQ.out, HW2.out, by rw [HPL.out]; omega, HPI.out⟩⟩
      | some y =>
        obtain ⟨x, r'⟩ := y
        rw [lineG_some hl] at c1
        simp only at c1
        have hll := line_len hl
        have HRL2 := Lib.hid (show r'.length ≤ s.length by have := HRL.out; omega)
        have hxl : x.length ≤ 1000000 := by have := HRL.out; have := HSL.out; omega
        have C2 := Lib.hid (fun u => Id_all x hxl u)
        cases hu : unD x with
        | none =>
          rw [idR_none hu] at C2
          simp only at C2
          have HPQ := Lib.hid (show PQ = none by rw [← HPP.out, show 16 - k = (15 - k) + 1 by omega]; exact parsP_bad hl hu ps _)
          obtain ⟨Y, hY⟩ : ∃ Y, arrD (List.replicate 20 0) = Y := ⟨_, rfl⟩
          have HYS := Lib.hid (show Y.size = 20 by rw [← hY]; exact arrD_size _ (by simp))
          have HY1 := Lib.hid (show Y.all (·.oneCell') = true by rw [← hY]; exact arrD_one _)
          have IY := Lib.hid (show (Tryz.prog.info? 23).map (·.size) = some Y.size by rw [HYS.out]; exact infoD_n)
          rw [idv_arrD, hY] at C2
          clear hl hu hY hxl hll
          generalize (⟨x.toArray⟩ : ByteArray) = sx at *
          go_wp2_with fail
          refine c1.mono ?_
          rintro e w2 ⟨rfl, hg2, ho2⟩
          have HG2 := Lib.hid hg2
          have HO2 := Lib.hid (HOR.out.trans ho2)
          clear hg2 ho2 c1
          go_wp2_with fail
          refine (C2.out _).mono ?_
          rintro e w3 ⟨rfl, hb3⟩
          have HO3 := Lib.hid (HO2.out.cat (hb3.mono HO2.out.size))
          have HG3 := Lib.hid (rd_keep HG2.out hb3)
          clear hb3
          go_wp2_with (first
            | (with_reducible refine wpList_store_all rfl 23 (.tmp 7) (.tmp 21) rfl w3.heap.size Y rfl rfl 23 z (heap_alloc_new w3 _) IY.out (HYS.out.trans HZS.out.symm) HY1.out ?_)
            | fail)
          intro w4 hg4 ho4 hs4
          have hb4 := ((Below.refl w3.heap.size w3).alloc (Nat.le_refl _) (.cells z 23)).trans (ho4.below (Nat.le_refl _) (by simp))
          have HO4 := Lib.hid (HO3.out.cat (hb4.mono HO3.out.size))
          have HG4 := Lib.hid (rd_keep HG3.out hb4)
          clear hg4 ho4 hs4 hb4
          go_wp2
          go_ret2
          exact ⟨_, _, r', [], rfl, HG4.out, HRL2.out, HO4.out, .inr ⟨rfl, HPQ.out, rfl⟩⟩
        | some p =>
          rw [idR_some hu] at C2
          simp only at C2
          have hp20 := un_len hu
          have HP20 := Lib.hid hp20
          have HNX := Lib.hid (show parsP unD (ps ++ [p]) (16 - (k + 1)) r' = PQ by rw [← HPP.out, show 16 - k = (16 - (k + 1)) + 1 by omega]; exact (parsP_next hl hu ps _).symm)
          have HPI2 := Lib.hid (show ∀ q ∈ ps ++ [p], q.length = 20 from fun q hq => by
            rcases List.mem_append.1 hq with hq | hq
            · exact HPI.out q hq
            · rw [List.mem_singleton.1 hq]; exact hp20)
          have HPL2 := Lib.hid (show (ps ++ [p]).length = k + 1 by rw [List.length_append, HPL.out]; rfl)
          obtain ⟨Y, hY⟩ : ∃ Y, arrD p = Y := ⟨_, rfl⟩
          have HYS := Lib.hid (show Y.size = 20 by rw [← hY]; exact arrD_size _ hp20)
          have HY1 := Lib.hid (show Y.all (·.oneCell') = true by rw [← hY]; exact arrD_one _)
          have IY := Lib.hid (show (Tryz.prog.info? 23).map (·.size) = some Y.size by rw [HYS.out]; exact infoD_n)
          rw [idv_arrD, hY] at C2
          have HY := Lib.hid hY
          clear hl hu hY hxl hll hp20
          generalize (⟨x.toArray⟩ : ByteArray) = sx at *
          go_wp2_with fail
          refine c1.mono ?_
          rintro e w2 ⟨rfl, hg2, ho2⟩
          have HG2 := Lib.hid hg2
          have HO2 := Lib.hid (HOR.out.trans ho2)
          have HW2 := Lib.hid (ownD_off HOWN.out ho2 HGL.out)
          clear hg2 ho2 c1
          go_wp2_with fail
          refine (C2.out _).mono ?_
          rintro e w3 ⟨rfl, hb3⟩
          have HO3 := Lib.hid (HO2.out.cat (hb3.mono HO2.out.size))
          have HG3 := Lib.hid (rd_keep HG2.out hb3)
          have HW3 := Lib.hid (ownD_below HW2.out hb3)
          clear hb3
          go_wp2_with (first
            | (with_reducible refine wpList_store_all rfl 23 (.tmp 7) (.tmp 21) rfl w3.heap.size Y rfl rfl 23 z (heap_alloc_new w3 _) IY.out (HYS.out.trans HZS.out.symm) HY1.out ?_)
            | fail)
          intro w4 hg4 ho4 hs4
          have hb4 := ((Below.refl w3.heap.size w3).alloc (Nat.le_refl _) (.cells z 23)).trans (ho4.below (Nat.le_refl _) (by simp))
          have HO4 := Lib.hid (HO3.out.cat (hb4.mono HO3.out.size))
          have HG4 := Lib.hid (rd_keep HG3.out hb4)
          have HW4 := Lib.hid (ownD_below HW3.out hb4)
          have HY4 := Lib.hid hg4
          have hb5 := (Below.refl w4.heap.size w4).alloc (Nat.le_refl _) (.cells Y 23)
          have HO5 := Lib.hid (HO4.out.cat (hb5.mono HO4.out.size))
          have HG5 := Lib.hid (rd_keep HG4.out hb5)
          have HW5 := Lib.hid (ownD_below HW4.out hb5)
          clear hg4 ho4 hs4 hb4 hb5
          go_wp2_with (first
            | (with_reducible refine wpList_load_all 23 (.tmp 7) rfl (by kernel_rfl) w3.heap.size Y 23 (0, 0) rfl HY4.out _ Tryz.underlying23 rfl IY.out ?_)
            | (with_reducible refine wpList_build_idD rfl (.tmp 26) rfl Y HYS.out rfl ?_)
            | (at_builtin; refine wpList_append_idD rfl _ _ rfl w.heap.size _ ps p w4.heap.size Y HY.out.symm rfl rfl (heap_alloc_new w4 _) HP20.out HW5.out (by rw [HPL.out]; omega) HO5.out.size ?_)
            | fail)
          intro v6 w6 o6 g6
          have hb6 := (Below.refl w.heap.size (w4.alloc (.cells Y 23))).grown g6 HO5.out.size (fun j hj => (HW5.out.lt j hj).1)
          have HO6 := Lib.hid (HO5.out.cat hb6)
          have HG6 := Lib.hid ((hb6.block g HGL.out).trans HG5.out)
          have HW6 := Lib.hid o6
          clear o6 g6 hb6
          go_wp2
          go_roundw
          case rel => exact ⟨k + 1, ps ++ [p], r', by omega, by go_num, HW6.out, HPL2.out, HG6.out, HRL2.out, HPI2.out, HNX.out, HO6.out⟩
          case measure => simp [intOf]; omega
    · obtain rfl : k = 16 := by omega
      have HPQ := Lib.hid (show PQ = some (ps, r) by rw [← HPP.out]; exact parsP_zero ps r)
      go_wp2
      go_ret2
      exact ⟨_, _, r, ps, rfl, HGR.out, HRL.out, HOR.out, .inl ⟨rfl, HPQ.out, HOWN.out, by rw [HPL.out]; exact Nat.le_refl _, HPI.out⟩⟩
end Go.Proofs.YtonkclkopmdahaaGreatDoor

/-
  A literal of a struct or an array.
-/
namespace Go.Proofs.YtonkclkopmdahaaGreatDoor
open Go.RowKit
set_option linter.unusedVariables false

/-- A literal of a struct or an array, its cells carried by a name. -/
theorem wpList_build_as {P : Program} {ops : Array Oper} {rest : List Oper} {o : Oper} {a : Act} {w : World} {Q : Exit → Act → World → Prop} (hgd : o.guard = none) (t : TypeId) (parts : Array (Nat × Operand)) (ho : o.op = .build t parts)
    (cells : Array Value) (hb : P.built t (parts.map fun (i, x) => (i, a.eval x)).toList = some cells)
    (h : wpList P ops Q rest (a.put o.dst (.agg cells)) w) : wpList P ops Q (o :: rest) a w :=
  wpList_plain hgd fun K hK => wp_build t parts ho (by rw [hb]; rfl) (by rw [hb]; exact hK _ _ h)
/-- The same, with one part. -/
theorem wpList_build_one {P : Program} {ops : Array Oper} {rest : List Oper} {o : Oper} {a : Act} {w : World} {Q : Exit → Act → World → Prop} (hgd : o.guard = none) (t : TypeId) (k : Nat) (x : Operand) (ho : o.op = .build t #[(k, x)])
    (v : Value) (hx : a.eval x = v) (cells : Array Value) (hb : P.built t [(k, v)] = some cells)
    (h : wpList P ops Q rest (a.put o.dst (.agg cells)) w) : wpList P ops Q (o :: rest) a w :=
  wpList_build_as hgd t #[(k, x)] ho cells (by simp [hx, hb]) h
/-- A literal of three parts, in a region that draws its order. -/
theorem yields_build3 {P : Program} {ops : Array Oper} {S : World → Prop} {o : Oper} {a : Act} (hw : Region.wanted o (yielded ops a.tmps) = true) (t : TypeId) (k0 k1 k2 : Nat) (x0 x1 x2 : Operand) (ho : o.op = .build t #[(k0, x0), (k1, x1), (k2, x2)])
    (v0 v1 v2 : Value) (h0 : a.eval x0 = v0) (h1 : a.eval x1 = v1) (h2 : a.eval x2 = v2) (cells : Array Value) (hb : P.built t [(k0, v0), (k1, v1), (k2, v2)] = some cells) : YieldsIf P ops S o (.agg cells) a :=
  .inl ⟨hw, fun u _ => by
    have hp : P.built t (#[(k0, x0), (k1, x1), (k2, x2)].map fun (i, x) => (i, a.eval x)).toList = some cells := by simp [h0, h1, h2, hb]
    unfold execOp
    simp only [ho, Sem.run_bind, run_build u t _ cells hp, Result.andThen_ok, Sem.run_pure]⟩
/-- Two structs held against each other, in a region that draws its order. -/
theorem yields_eql {P : Program} {ops : Array Oper} {S : World → Prop} {o : Oper} {a : Act} (hw : Region.wanted o (yielded ops a.tmps) = true) (t r : TypeId) (x y : Operand) (ho : o.op = .binOp .eql t x y r) (xs ys : Array Value) (hx : a.eval x = .agg xs) (hy : a.eval y = .agg ys)
    (hm : P.eqGuardType P.depth t = false) (b : Bool) (h : ∀ u, (binOp .eql t (.agg xs) (.agg ys)).run P u = .ok (.bool b) u) : YieldsIf P ops S o (.bool b) a :=
  .inl ⟨hw, fun u _ => by
    unfold execOp
    simp only [ho, hx, hy, Sem.run_bind, run_eqGuard_agg u .eql t x y xs ys hm, Result.andThen_ok, h, Sem.run_pure]⟩
end Go.Proofs.YtonkclkopmdahaaGreatDoor

/-
  Layer 9, the program: what may be a record, read.
-/
namespace Go.Proofs.YtonkclkopmdahaaGreatDoor
set_option maxRecDepth 20000
open Go.RowKit
set_option linter.unusedVariables false
set_option linter.unusedSimpArgs false

theorem wpList_build_five {P : Program} {ops : Array Oper} {rest : List Oper} {o : Oper} {a : Act} {w : World} {Q : Exit → Act → World → Prop} (hgd : o.guard = none) (t : TypeId) (k0 k1 k2 k3 k4 : Nat) (x0 x1 x2 x3 x4 : Operand) (ho : o.op = .build t #[(k0, x0), (k1, x1), (k2, x2), (k3, x3), (k4, x4)])
    (v0 v1 v2 v3 v4 : Value) (h0 : a.eval x0 = v0) (h1 : a.eval x1 = v1) (h2 : a.eval x2 = v2) (h3 : a.eval x3 = v3) (h4 : a.eval x4 = v4) (cells : Array Value) (hb : P.built t [(k0, v0), (k1, v1), (k2, v2), (k3, v3), (k4, v4)] = some cells)
    (h : wpList P ops Q rest (a.put o.dst (.agg cells)) w) : wpList P ops Q (o :: rest) a w :=
  wpList_build_as hgd t #[(k0, x0), (k1, x1), (k2, x2), (k3, x3), (k4, x4)] ho cells (by simp [h0, h1, h2, h3, h4, hb]) h
/-- What is read before it is asked whether it is right. -/
def recQ (s : List UInt8) : Option Rcd :=
  if (idP s treeW).2.1 = true then
    match parsQ unD 16 (idP s treeW).2.2 with
    | none => none
    | some (ps, q) =>
      if (identP q authorW).2.1 = true then
        if (identP (identP q authorW).2.2 committerW).2.1 = true then
          match (identP (identP q authorW).2.2 committerW).2.2 with
          | [] => none
          | d :: tx => if d = 10 then some ⟨(idP s treeW).1, ps, (identP q authorW).1, (identP (identP q authorW).2.2 committerW).1, tx⟩ else none
        else none
      else none
  else none
theorem parse_way9 (s : List UInt8) : parseK s = match recQ s with
    | none => none
    | some c => if rightR c = true then some c else none := by
  unfold parseK
  have ep : ∀ x, parseR Lib.itoa takeN x = parseP Lib.itoa takeN x := fun x => (parse_alike x).symm
  rw [parseC_way]
  unfold recQ idP
  cases e1 : lineL s treeW with
  | none => rfl
  | some y =>
    obtain ⟨x, r⟩ := y
    simp only
    cases e2 : unD x with
    | none => rfl
    | some t =>
      simp only [if_pos]
      cases e3 : parsQ unD 16 r with
      | none => rfl
      | some z =>
        obtain ⟨ps, q⟩ := z
        show endC t (parseR Lib.itoa takeN) ps q = _
        unfold endC whoL identP
        simp only [ep]
        cases e4 : lineL q authorW with
        | none => rfl
        | some y2 =>
          obtain ⟨x2, r2⟩ := y2
          simp only
          cases e5 : parseP Lib.itoa takeN x2 with
          | none => rfl
          | some a =>
            simp only [if_pos]
            cases e6 : lineL r2 committerW with
            | none => rfl
            | some y3 =>
              obtain ⟨x3, r3⟩ := y3
              simp only
              cases e7 : parseP Lib.itoa takeN x3 with
              | none => rfl
              | some c =>
                simp only [if_pos]
                cases r3 with
                | nil => rfl
                | cons d tx =>
                  simp only
                  by_cases hd : d = 10
                  · simp only [if_pos hd]
                  · simp only [if_neg hd]
theorem idP_len (s w : List UInt8) : (idP s w).2.2.length ≤ s.length ∧ (idP s w).1.length = 20 := by
  unfold idP
  cases e1 : lineL s w with
  | none => exact ⟨Nat.le_refl _, rfl⟩
  | some y =>
    obtain ⟨x, r⟩ := y
    have := line_len e1
    simp only
    cases e2 : unD x with
    | none => exact ⟨by simp only; omega, rfl⟩
    | some t => exact ⟨by simp only; omega, un_len e2⟩
theorem identP_len (s w : List UInt8) : (identP s w).2.2.length ≤ s.length ∧ (identP s w).1.name.length ≤ 200 ∧ (identP s w).1.email.length ≤ 200 := by
  unfold identP
  cases e1 : lineL s w with
  | none => exact ⟨Nat.le_refl _, Nat.zero_le _, Nat.zero_le _⟩
  | some y =>
    obtain ⟨x, r⟩ := y
    have := line_len e1
    simp only
    cases e2 : parseP Lib.itoa takeN x with
    | none => exact ⟨by simp only; omega, Nat.zero_le _, Nat.zero_le _⟩
    | some i => exact ⟨by simp only; omega, right_len i (parse_some x i e2).1⟩
/-- A record's cells, read in a world. -/
structure RecRed (w : World) (A : Array Value) (c : Rcd) : Prop where
  fit : c.Fit
  at_ : ∃ pa cap, A = arrC c.tree (.slice pa c.parents.length cap) c.author c.committer c.text ∧ c.parents.length ≤ cap ∧ cap ≤ maxLen ∧ IdsAt w pa c.parents ∧ (pa = none → c.parents.length = 0 ∧ cap = 0)
theorem RecRed.keep {w u : World} {A : Array Value} {c : Rcd} (h : RecRed w A c) (hb : Below w.heap.size w u) : RecRed u A c := by
  obtain ⟨h1, pa, cap, h2, h3, h4, h5, h6⟩ := h
  exact ⟨h1, pa, cap, h2, h3, h4, h5.keep hb, h6⟩
theorem ownD_mono {B B' : Nat} {v : Value} {l : List (List UInt8)} {w : World} (h : OwnD B v l w) (hB : B' ≤ B) : OwnD B' v l w :=
  ⟨h.1, h.2.imp id (fun ⟨g', cap', cur, h', hb', r⟩ => ⟨g', cap', cur, h', Nat.le_trans hB hb', r⟩)⟩
theorem ownD_red {B : Nat} {w : World} {pa : Option Addr} {cap : Nat} {c : Rcd} (h : OwnD B (.slice pa c.parents.length cap) c.parents w) (hf : c.Fit) : RecRed w (arrC c.tree (.slice pa c.parents.length cap) c.author c.committer c.text) c := by
  obtain ⟨pa2, cap2, hv, h1, h2, h3, h4⟩ := ownD_ids h hf.parents
  cases hv
  exact ⟨hf, pa, cap, rfl, h1, h2, h3, h4⟩
def rcdZ : Rcd := ⟨idZ, [], zT, zT, []⟩
theorem recRed_zero (w : World) : RecRed w recZ rcdZ := ⟨⟨rfl, fun p hp => (by cases hp)⟩, none, 0, rfl, Nat.zero_le _, Nat.zero_le _, IdsAt.nil _ _, fun _ => ⟨rfl, rfl⟩⟩
theorem zRd_any : ∀ w, (zeroValue 76).run Tryz.prog w = .ok (.agg #[.string ⟨#[]⟩]) w := zero_arr (n := 1) (by kernel_rfl)
theorem infoRd : (Tryz.prog.info? 76).map (·.size) = some 1 := by kernel_rfl
theorem built_rd (s : ByteArray) : Tryz.prog.built 76 [(0, .string s)] = some #[.string s] := by kernel_rfl
theorem authorV_W : authorV ++ [32] = authorW := rfl
theorem committerV_W : committerV ++ [32] = committerW := rfl
theorem treeV_W : treeV ++ [32] = treeW := rfl
set_option maxHeartbeats 32000000 in
theorem record9_is (s : List UInt8) (w : World) (tab : T7 w) (hs : s.length ≤ 1000000) :
    Calls Tryz.prog 26 #[.string ⟨s.toArray⟩] w fun e w' => ∃ A b, e = .returned (.tuple #[.agg A, .bool b]) ∧ Below w.heap.size w w' ∧ A.size = 30 ∧ A.all (·.oneCell') = true ∧
      ((b = true ∧ ∃ c pa cap, recQ s = some c ∧ A = arrC c.tree (.slice pa c.parents.length cap) c.author c.committer c.text ∧ OwnD w.heap.size (.slice pa c.parents.length cap) c.parents w' ∧ c.Fit ∧ c.parents.length ≤ 16 ∧ c.author.name.length ≤ 200 ∧ c.author.email.length ≤ 200 ∧ c.committer.name.length ≤ 200 ∧ c.committer.email.length ≤ 200) ∨ (b = false ∧ recQ s = none)) := by
  obtain ⟨z, hz0, hzs, hzv, hzb, hz1⟩ := zRec_any
  obtain ⟨y, hy0, hys, hyv, hyb, hy1⟩ := zId_any
  obtain ⟨x, hx0, hxs, hxv, hxb, hx1⟩ := zIdt_any
  have hrv := zRd_any
  have ZS := Lib.hid hzs; have ZB := Lib.hid hzb; have Z1 := Lib.hid hz1; have YS := Lib.hid hys; have XS := Lib.hid hxs
  have IZ := Lib.hid (infoC_arr z hzs)
  have TB := Lib.hid tab
  have HS := Lib.hid hs
  obtain ⟨RQ, hRQ⟩ : ∃ RQ, recQ s = RQ := ⟨_, rfl⟩
  have HQ := Lib.hid (show RQ = recQ s from hRQ.symm)
  unfold recQ at HQ
  rw [hRQ]
  obtain ⟨l1, l2⟩ := idP_len s treeW
  have L1 := Lib.hid l1; have L2 := Lib.hid l2
  have CI := Lib.hid (fun u (hg : RdAt u (w.heap.size + 1) s) (hb : Below w.heap.size w u) => rdid_is (w.heap.size + 1) s treeV w u tab (Nat.le_succ _) hb hg hs (by decide) (by rw [treeV_W]; exact noEol_tree))
  rw [treeV_W, show treeV = [116, 114, 101, 101] from rfl] at CI
  have hT20 : (arrD (idP s treeW).1).size = 20 := arrD_size _ l2
  have hT1 := arrD_one (idP s treeW).1
  clear hz0 hzs hzb hz1 hy0 hys hyb hy1 hx0 hxs hxb hx1 hRQ l1 l2 tab
  obtain ⟨T, hT⟩ : ∃ T, arrD (idP s treeW).1 = T := ⟨_, rfl⟩
  have HT := Lib.hid hT
  rw [hT] at CI hT20 hT1
  have HT20 := Lib.hid hT20; have HT1 := Lib.hid hT1
  have IT := Lib.hid (show (Tryz.prog.info? 23).map (·.size) = some T.size by rw [hT20]; exact infoD_n)
  obtain ⟨t, ht⟩ : ∃ t, (idP s treeW).1 = t := ⟨_, rfl⟩
  obtain ⟨q1, hq1⟩ : ∃ q1, (idP s treeW).2.2 = q1 := ⟨_, rfl⟩
  rw [ht] at HQ HT L2
  rw [hq1] at HQ CI L1
  cases hb1 : (idP s treeW).2.1 with
  | false =>
    rw [hb1] at CI HQ
    rw [if_neg (by decide)] at HQ
    have S0 := Lib.hid (size_toArray s)
    have BRS := Lib.hid (built_rd ⟨s.toArray⟩)
    clear hT20 hT1 hT ht hq1 hb1 S0 hs
    obtain ⟨S, hS⟩ : ∃ S : ByteArray, ⟨s.toArray⟩ = S := ⟨_, rfl⟩
    have HSS := Lib.hid hS
    rw [hS] at BRS ⊢
    clear hS
    go_enter Tryz.func26, Tryz.ntmps26
    go_wp2_with (first
      | (with_reducible refine wpList_build_one rfl 76 0 (.tmp 11) rfl (.string S) rfl _ BRS.out ?_)
      | fail)
    have hba := ((Below.refl w.heap.size w).alloc (Nat.le_refl _) (.cells z 28)).alloc (by simp) (.cells #[.string S] 76)
    have hga := (Below.heap_alloc (w.alloc (.cells z 28)) (.cells #[.string S] 76) w.heap.size (by simp)).trans (heap_alloc_new w (.cells z 28))
    have hra := heap_alloc_new (w.alloc (.cells z 28)) (.cells #[.string S] 76)
    rw [show (w.alloc (.cells z 28)).heap.size = w.heap.size + 1 by simp] at hra
    generalize hwa : (w.alloc (.cells z 28)).alloc (.cells #[.string S] 76) = wa at *
    have BA := Lib.hid hba
    have GA := Lib.hid hga
    have RA := Lib.hid (show RdAt wa (w.heap.size + 1) s from by unfold RdAt; rw [HSS.out]; exact hra)
    clear hga hra hwa hba
    refine (CI.out _ RA.out BA.out).mono ?_
    rintro e wb ⟨rfl, hgb, hob⟩
    have BB := Lib.hid (BA.out.trans (hob.below (B := w.heap.size) (Nat.le_succ _) BA.out.size))
    have GB := Lib.hid ((hob.block w.heap.size (lt_of_heap GA.out) (Nat.ne_of_lt (Nat.lt_succ_self _))).trans GA.out)
    have RB := Lib.hid hgb
    clear hgb hob
    go_wp2_with (first
      | (with_reducible refine wpList_store_all rfl 23 (.tmp 5) (.tmp 15) rfl wb.heap.size T rfl rfl 23 y (heap_alloc_new wb _) IT.out (HT20.out.trans YS.out.symm) HT1.out ?_)
      | fail)
    intro wb2 hgb2 hob2 hsb2
    have hbb2 := ((Below.refl wb.heap.size wb).alloc (Nat.le_refl _) (.cells y 23)).trans (hob2.below (Nat.le_refl _) (by simp))
    have BC := Lib.hid (BB.out.trans (hbb2.mono BB.out.size))
    have GC := Lib.hid ((hbb2.block w.heap.size (lt_of_heap GB.out)).trans GB.out)
    have RC := Lib.hid (rd_keep RB.out hbb2)
    have K5C := Lib.hid hgb2
    have LT5 := Lib.hid (show w.heap.size + 1 < wb.heap.size from lt_of_heap RB.out)
    clear hgb2 hob2 hsb2 hbb2
    have NONE := Lib.hid (show RQ = none from HQ.out)
    go_wp2_with (first
      | (refine wpList_build_none rfl 28 rfl _ ZB.out ?_)
      | (with_reducible refine wpList_store_all rfl 28 (.tmp 2) (.tmp 19) rfl w.heap.size z rfl rfl 28 z GC.out IZ.out rfl Z1.out ?_)
      | fail)
    intro wz hgz hoz hsz
    have BZ := Lib.hid (BC.out.trans (hoz.below (B := w.heap.size) (Nat.le_refl _) BC.out.size))
    have GZ := Lib.hid hgz
    clear hgz hoz hsz
    go_wp2
    exact bodyPost_ret (results_rec Tryz.results26 _ _ w.heap.size z (0, 0) _ rfl rfl GZ.out ZS.out) rfl ⟨_, _, rfl, BZ.out, ZS.out, Z1.out, .inr ⟨rfl, NONE.out⟩⟩
  | true =>
    rw [hb1] at CI HQ
    rw [if_pos rfl] at HQ
    have S0 := Lib.hid (size_toArray s)
    have BRS := Lib.hid (built_rd ⟨s.toArray⟩)
    clear hT20 hT1 hT ht hq1 hb1 S0 hs
    obtain ⟨S, hS⟩ : ∃ S : ByteArray, ⟨s.toArray⟩ = S := ⟨_, rfl⟩
    have HSS := Lib.hid hS
    rw [hS] at BRS ⊢
    clear hS
    go_enter Tryz.func26, Tryz.ntmps26
    go_wp2_with (first
      | (with_reducible refine wpList_build_one rfl 76 0 (.tmp 11) rfl (.string S) rfl _ BRS.out ?_)
      | fail)
    have hba := ((Below.refl w.heap.size w).alloc (Nat.le_refl _) (.cells z 28)).alloc (by simp) (.cells #[.string S] 76)
    have hga := (Below.heap_alloc (w.alloc (.cells z 28)) (.cells #[.string S] 76) w.heap.size (by simp)).trans (heap_alloc_new w (.cells z 28))
    have hra := heap_alloc_new (w.alloc (.cells z 28)) (.cells #[.string S] 76)
    rw [show (w.alloc (.cells z 28)).heap.size = w.heap.size + 1 by simp] at hra
    generalize hwa : (w.alloc (.cells z 28)).alloc (.cells #[.string S] 76) = wa at *
    have BA := Lib.hid hba
    have GA := Lib.hid hga
    have RA := Lib.hid (show RdAt wa (w.heap.size + 1) s from by unfold RdAt; rw [HSS.out]; exact hra)
    clear hga hra hwa hba
    refine (CI.out _ RA.out BA.out).mono ?_
    rintro e wb ⟨rfl, hgb, hob⟩
    have BB := Lib.hid (BA.out.trans (hob.below (B := w.heap.size) (Nat.le_succ _) BA.out.size))
    have GB := Lib.hid ((hob.block w.heap.size (lt_of_heap GA.out) (Nat.ne_of_lt (Nat.lt_succ_self _))).trans GA.out)
    have RB := Lib.hid hgb
    clear hgb hob
    go_wp2_with (first
      | (with_reducible refine wpList_store_all rfl 23 (.tmp 5) (.tmp 15) rfl wb.heap.size T rfl rfl 23 y (heap_alloc_new wb _) IT.out (HT20.out.trans YS.out.symm) HT1.out ?_)
      | fail)
    intro wb2 hgb2 hob2 hsb2
    have hbb2 := ((Below.refl wb.heap.size wb).alloc (Nat.le_refl _) (.cells y 23)).trans (hob2.below (Nat.le_refl _) (by simp))
    have BC := Lib.hid (BB.out.trans (hbb2.mono BB.out.size))
    have GC := Lib.hid ((hbb2.block w.heap.size (lt_of_heap GB.out)).trans GB.out)
    have RC := Lib.hid (rd_keep RB.out hbb2)
    have K5C := Lib.hid hgb2
    have LT5 := Lib.hid (show w.heap.size + 1 < wb.heap.size from lt_of_heap RB.out)
    clear hgb2 hob2 hsb2 hbb2
    have HQ1 := HQ
    clear HQ
    have CP := rdparents_is (w.heap.size + 1) q1 w wb2 TB.out (Nat.le_succ _) BC.out RC.out (by have := L1.out; have := HS.out; omega)
    go_wp2_with fail
    refine CP.mono ?_
    rintro e wd ⟨v, b, q2, ps, rfl, hgd, hl2, hod, hcase⟩
    have HCASE := Lib.hid hcase
    have L3 := Lib.hid hl2
    have WS := Lib.hid (show w.heap.size + 1 < wb2.heap.size from lt_of_heap RC.out)
    clear hcase hl2 CP
    have BD := Lib.hid (BC.out.trans (hod.below (B := w.heap.size) (Nat.le_succ _) BC.out.size))
    have GD := Lib.hid ((hod.block w.heap.size (lt_of_heap GC.out) (Nat.ne_of_lt (Nat.lt_succ_self _))).trans GC.out)
    have RD := Lib.hid hgd
    have K5D := Lib.hid ((hod.block wb.heap.size (lt_of_heap K5C.out) (by have := LT5.out; omega)).trans K5C.out)
    clear hgd hod
    rcases HCASE.out with ⟨hb, hpq, hown, h16, hpi⟩ | ⟨hb, hpq, hv⟩
    case inr =>
      subst hb
      subst hv
      have NONE := Lib.hid (show RQ = none by rw [HQ1.out, hpq])
      clear hpq HCASE
      go_wp2_with (first
        | (refine wpList_build_none rfl 28 rfl _ ZB.out ?_)
        | (with_reducible refine wpList_store_all rfl 28 (.tmp 2) (.tmp 26) rfl w.heap.size z rfl rfl 28 z GD.out IZ.out rfl Z1.out ?_)
        | fail)
      intro wz hgz hoz hsz
      have BZ := Lib.hid (BD.out.trans (hoz.below (B := w.heap.size) (Nat.le_refl _) BD.out.size))
      have GZ := Lib.hid hgz
      clear hgz hoz hsz
      go_wp2
      exact bodyPost_ret (results_rec Tryz.results26 _ _ w.heap.size z (0, 0) _ rfl rfl GZ.out ZS.out) rfl ⟨_, _, rfl, BZ.out, ZS.out, Z1.out, .inr ⟨rfl, NONE.out⟩⟩
    subst hb
    have hq := HQ1.out
    rw [hpq] at hq
    dsimp only at hq
    have HQ2 := Lib.hid hq
    clear hq
    have OWD := Lib.hid hown
    have H16 := Lib.hid h16
    have HPI := Lib.hid hpi
    obtain ⟨pa, cap, hv, hcap, hcm, hids, hnil⟩ := ownD_ids hown hpi
    have HCAP := Lib.hid hcap; have HCM := Lib.hid hcm; have HNIL := Lib.hid hnil; have HV := Lib.hid hv
    clear hpq HCASE HQ1 hown h16 hpi hcap hcm hids hnil
    obtain ⟨pn, hpn⟩ : ∃ pn, ps.length = pn := ⟨_, rfl⟩
    have HPN := Lib.hid hpn
    rw [hpn] at hv
    subst hv
    clear hpn
    obtain ⟨l4, l5, l6⟩ := identP_len q2 authorW
    have L4 := Lib.hid l4; have L5 := Lib.hid l5; have L6 := Lib.hid l6
    have CA := rdident_is (w.heap.size + 1) q2 authorV w wd TB.out (Nat.le_succ _) BD.out RD.out (by have := L1.out; have := L3.out; have := HS.out; omega) (by decide) (by rw [authorV_W]; exact noEol_author)
    rw [authorV_W, show authorV = [97, 117, 116, 104, 111, 114] from rfl] at CA
    have HA1 := Lib.hid (arrI9_one (identP q2 authorW).1)
    obtain ⟨au, hau⟩ : ∃ au, (identP q2 authorW).1 = au := ⟨_, rfl⟩
    obtain ⟨q3, hq3⟩ : ∃ q3, (identP q2 authorW).2.2 = q3 := ⟨_, rfl⟩
    rw [hau] at HQ2 CA L5 L6 HA1
    rw [hq3] at HQ2 CA L4
    clear l4 l5 l6
    have HA4 := Lib.hid (arrI9_size au)
    obtain ⟨AU, hAU⟩ : ∃ AU, arrI9 au = AU := ⟨_, rfl⟩
    rw [hAU] at CA HA1 HA4
    have IA := Lib.hid (show (Tryz.prog.info? 26).map (·.size) = some AU.size by rw [HA4.out]; exact infoT)
    have HAU := Lib.hid hAU
    clear hAU
    cases hb2 : (identP q2 authorW).2.1 with
    | false =>
      rw [hb2] at CA HQ2
      rw [if_neg (by decide)] at HQ2
      clear hau hq3 hb2
      go_wp2_with fail
      refine CA.mono ?_
      rintro e we ⟨rfl, hge, hoe⟩
      have OWE := Lib.hid (ownD_off OWD.out hoe WS.out)
      have BE := Lib.hid (BD.out.trans (hoe.below (B := w.heap.size) (Nat.le_succ _) BD.out.size))
      have GE := Lib.hid ((hoe.block w.heap.size (lt_of_heap GD.out) (Nat.ne_of_lt (Nat.lt_succ_self _))).trans GD.out)
      have RE := Lib.hid hge
      have K5E := Lib.hid ((hoe.block wb.heap.size (lt_of_heap K5D.out) (by have := LT5.out; omega)).trans K5D.out)
      clear hge hoe
      go_wp2_with (first
        | (with_reducible refine wpList_store_all rfl 26 (.tmp 8) (.tmp 29) rfl we.heap.size AU rfl rfl 26 x (heap_alloc_new we _) IA.out (HA4.out.trans XS.out.symm) HA1.out ?_)
        | fail)
      intro we2 hge2 hoe2 hse2
      have hbe2 := ((Below.refl we.heap.size we).alloc (Nat.le_refl _) (.cells x 26)).trans (hoe2.below (Nat.le_refl _) (by simp))
      have BF := Lib.hid (BE.out.trans (hbe2.mono BE.out.size))
      have GF := Lib.hid ((hbe2.block w.heap.size (lt_of_heap GE.out)).trans GE.out)
      have RF := Lib.hid (rd_keep RE.out hbe2)
      have K8F := Lib.hid hge2
      have LT8 := Lib.hid (show w.heap.size + 1 < we.heap.size from lt_of_heap RE.out)
      have K5F := Lib.hid ((hbe2.block wb.heap.size (lt_of_heap K5E.out)).trans K5E.out)
      clear hge2 hoe2 hse2 hbe2
      have NONE := Lib.hid (show RQ = none from HQ2.out)
      go_wp2_with (first
        | (refine wpList_build_none rfl 28 rfl _ ZB.out ?_)
        | (with_reducible refine wpList_store_all rfl 28 (.tmp 2) (.tmp 33) rfl w.heap.size z rfl rfl 28 z GF.out IZ.out rfl Z1.out ?_)
        | fail)
      intro wz hgz hoz hsz
      have BZ := Lib.hid (BF.out.trans (hoz.below (B := w.heap.size) (Nat.le_refl _) BF.out.size))
      have GZ := Lib.hid hgz
      clear hgz hoz hsz
      go_wp2
      exact bodyPost_ret (results_rec Tryz.results26 _ _ w.heap.size z (0, 0) _ rfl rfl GZ.out ZS.out) rfl ⟨_, _, rfl, BZ.out, ZS.out, Z1.out, .inr ⟨rfl, NONE.out⟩⟩
    | true =>
      rw [hb2] at CA HQ2
      rw [if_pos rfl] at HQ2
      clear hau hq3 hb2
      go_wp2_with fail
      refine CA.mono ?_
      rintro e we ⟨rfl, hge, hoe⟩
      have OWE := Lib.hid (ownD_off OWD.out hoe WS.out)
      have BE := Lib.hid (BD.out.trans (hoe.below (B := w.heap.size) (Nat.le_succ _) BD.out.size))
      have GE := Lib.hid ((hoe.block w.heap.size (lt_of_heap GD.out) (Nat.ne_of_lt (Nat.lt_succ_self _))).trans GD.out)
      have RE := Lib.hid hge
      have K5E := Lib.hid ((hoe.block wb.heap.size (lt_of_heap K5D.out) (by have := LT5.out; omega)).trans K5D.out)
      clear hge hoe
      go_wp2_with (first
        | (with_reducible refine wpList_store_all rfl 26 (.tmp 8) (.tmp 29) rfl we.heap.size AU rfl rfl 26 x (heap_alloc_new we _) IA.out (HA4.out.trans XS.out.symm) HA1.out ?_)
        | fail)
      intro we2 hge2 hoe2 hse2
      have hbe2 := ((Below.refl we.heap.size we).alloc (Nat.le_refl _) (.cells x 26)).trans (hoe2.below (Nat.le_refl _) (by simp))
      have BF := Lib.hid (BE.out.trans (hbe2.mono BE.out.size))
      have GF := Lib.hid ((hbe2.block w.heap.size (lt_of_heap GE.out)).trans GE.out)
      have RF := Lib.hid (rd_keep RE.out hbe2)
      have K8F := Lib.hid hge2
      have LT8 := Lib.hid (show w.heap.size + 1 < we.heap.size from lt_of_heap RE.out)
      have K5F := Lib.hid ((hbe2.block wb.heap.size (lt_of_heap K5E.out)).trans K5E.out)
      have OWF := Lib.hid (ownD_below OWE.out hbe2)
      clear hge2 hoe2 hse2 hbe2
      have HQ3 := HQ2
      clear HQ2 CA
      obtain ⟨l7, l8, l9⟩ := identP_len q3 committerW
      have L7 := Lib.hid l7; have L8 := Lib.hid l8; have L9 := Lib.hid l9
      have CC := rdident_is (w.heap.size + 1) q3 committerV w we2 TB.out (Nat.le_succ _) BF.out RF.out (by have := L1.out; have := L3.out; have := L4.out; have := HS.out; omega) (by decide) (by rw [committerV_W]; exact noEol_committer)
      rw [committerV_W, show committerV = [99, 111, 109, 109, 105, 116, 116, 101, 114] from rfl] at CC
      have HC1 := Lib.hid (arrI9_one (identP q3 committerW).1)
      obtain ⟨co, hco⟩ : ∃ co, (identP q3 committerW).1 = co := ⟨_, rfl⟩
      obtain ⟨q4, hq4⟩ : ∃ q4, (identP q3 committerW).2.2 = q4 := ⟨_, rfl⟩
      rw [hco] at HQ3 CC L8 L9 HC1
      rw [hq4] at HQ3 CC L7
      clear l7 l8 l9
      have HC4 := Lib.hid (arrI9_size co)
      obtain ⟨CO, hCO⟩ : ∃ CO, arrI9 co = CO := ⟨_, rfl⟩
      rw [hCO] at CC HC1 HC4
      have IC := Lib.hid (show (Tryz.prog.info? 26).map (·.size) = some CO.size by rw [HC4.out]; exact infoT)
      have HCO := Lib.hid hCO
      clear hCO
      cases hb3 : (identP q3 committerW).2.1 with
      | false =>
        rw [hb3] at CC HQ3
        rw [if_neg (by decide)] at HQ3
        clear hco hq4 hb3
        go_wp2_with fail
        refine CC.mono ?_
        rintro e wg ⟨rfl, hgg, hog⟩
        have OWG := Lib.hid (ownD_off OWF.out hog WS.out)
        have BG := Lib.hid (BF.out.trans (hog.below (B := w.heap.size) (Nat.le_succ _) BF.out.size))
        have GG := Lib.hid ((hog.block w.heap.size (lt_of_heap GF.out) (Nat.ne_of_lt (Nat.lt_succ_self _))).trans GF.out)
        have RG := Lib.hid hgg
        have K5G := Lib.hid ((hog.block wb.heap.size (lt_of_heap K5F.out) (by have := LT5.out; omega)).trans K5F.out)
        have K8G := Lib.hid ((hog.block we.heap.size (lt_of_heap K8F.out) (by have := LT8.out; omega)).trans K8F.out)
        clear hgg hog
        go_wp2_with (first
          | (with_reducible refine wpList_store_all rfl 26 (.tmp 9) (.tmp 36) rfl wg.heap.size CO rfl rfl 26 x (heap_alloc_new wg _) IC.out (HC4.out.trans XS.out.symm) HC1.out ?_)
          | fail)
        intro wg2 hgg2 hog2 hsg2
        have hbg2 := ((Below.refl wg.heap.size wg).alloc (Nat.le_refl _) (.cells x 26)).trans (hog2.below (Nat.le_refl _) (by simp))
        have BH := Lib.hid (BG.out.trans (hbg2.mono BG.out.size))
        have GH := Lib.hid ((hbg2.block w.heap.size (lt_of_heap GG.out)).trans GG.out)
        have RH := Lib.hid (rd_keep RG.out hbg2)
        have K9H := Lib.hid hgg2
        have LT9 := Lib.hid (show w.heap.size + 1 < wg.heap.size from lt_of_heap RG.out)
        have K5H := Lib.hid ((hbg2.block wb.heap.size (lt_of_heap K5G.out)).trans K5G.out)
        have K8H := Lib.hid ((hbg2.block we.heap.size (lt_of_heap K8G.out)).trans K8G.out)
        clear hgg2 hog2 hsg2 hbg2
        have NONE := Lib.hid (show RQ = none from HQ3.out)
        go_wp2_with (first
          | (refine wpList_build_none rfl 28 rfl _ ZB.out ?_)
          | (with_reducible refine wpList_store_all rfl 28 (.tmp 2) (.tmp 40) rfl w.heap.size z rfl rfl 28 z GH.out IZ.out rfl Z1.out ?_)
          | fail)
        intro wz hgz hoz hsz
        have BZ := Lib.hid (BH.out.trans (hoz.below (B := w.heap.size) (Nat.le_refl _) BH.out.size))
        have GZ := Lib.hid hgz
        clear hgz hoz hsz
        go_wp2
        exact bodyPost_ret (results_rec Tryz.results26 _ _ w.heap.size z (0, 0) _ rfl rfl GZ.out ZS.out) rfl ⟨_, _, rfl, BZ.out, ZS.out, Z1.out, .inr ⟨rfl, NONE.out⟩⟩
      | true =>
        rw [hb3] at CC HQ3
        rw [if_pos rfl] at HQ3
        clear hco hq4 hb3
        go_wp2_with fail
        refine CC.mono ?_
        rintro e wg ⟨rfl, hgg, hog⟩
        have OWG := Lib.hid (ownD_off OWF.out hog WS.out)
        have BG := Lib.hid (BF.out.trans (hog.below (B := w.heap.size) (Nat.le_succ _) BF.out.size))
        have GG := Lib.hid ((hog.block w.heap.size (lt_of_heap GF.out) (Nat.ne_of_lt (Nat.lt_succ_self _))).trans GF.out)
        have RG := Lib.hid hgg
        have K5G := Lib.hid ((hog.block wb.heap.size (lt_of_heap K5F.out) (by have := LT5.out; omega)).trans K5F.out)
        have K8G := Lib.hid ((hog.block we.heap.size (lt_of_heap K8F.out) (by have := LT8.out; omega)).trans K8F.out)
        clear hgg hog
        go_wp2_with (first
          | (with_reducible refine wpList_store_all rfl 26 (.tmp 9) (.tmp 36) rfl wg.heap.size CO rfl rfl 26 x (heap_alloc_new wg _) IC.out (HC4.out.trans XS.out.symm) HC1.out ?_)
          | fail)
        intro wg2 hgg2 hog2 hsg2
        have hbg2 := ((Below.refl wg.heap.size wg).alloc (Nat.le_refl _) (.cells x 26)).trans (hog2.below (Nat.le_refl _) (by simp))
        have BH := Lib.hid (BG.out.trans (hbg2.mono BG.out.size))
        have GH := Lib.hid ((hbg2.block w.heap.size (lt_of_heap GG.out)).trans GG.out)
        have RH := Lib.hid (rd_keep RG.out hbg2)
        have K9H := Lib.hid hgg2
        have LT9 := Lib.hid (show w.heap.size + 1 < wg.heap.size from lt_of_heap RG.out)
        have K5H := Lib.hid ((hbg2.block wb.heap.size (lt_of_heap K5G.out)).trans K5G.out)
        have K8H := Lib.hid ((hbg2.block we.heap.size (lt_of_heap K8G.out)).trans K8G.out)
        have OWH := Lib.hid (ownD_below OWG.out hbg2)
        clear hgg2 hog2 hsg2 hbg2
        have HQ4 := HQ3
        clear HQ3 CC
        obtain ⟨b10, hbx⟩ : ∃ b10, Lib.hasPrefix q4 [10] = b10 := ⟨_, rfl⟩
        obtain ⟨tx, htx⟩ : ∃ tx, Lib.trimPrefix q4 [10] = tx := ⟨_, rfl⟩
        have c10 := fun u => Tryz.strings_CutPrefix ⟨q4.toArray⟩ ⟨#[10]⟩ u
        rw [show (⟨q4.toArray⟩ : ByteArray).data.toList = q4 from rfl, show (⟨#[10]⟩ : ByteArray).data.toList = [10] from rfl, hbx, htx] at c10
        have HEND := Lib.hid (show (b10 = true ∧ RQ = some ⟨t, ps, au, co, tx⟩) ∨ (b10 = false ∧ RQ = none) by
          rw [HQ4.out]
          cases q4 with
          | nil => exact .inr ⟨hbx.symm.trans rfl, rfl⟩
          | cons d r =>
            by_cases hd : d = 10
            · subst hd
              have e1 : Lib.hasPrefix (10 :: r) [10] = true := by simp [Lib.hasPrefix, List.isPrefixOf]
              have e2 : Lib.trimPrefix (10 :: r) [10] = r := by simp [Lib.trimPrefix, Lib.hasPrefix, List.isPrefixOf]
              refine .inl ⟨hbx.symm.trans e1, ?_⟩
              rw [← htx, e2]
              simp only [if_pos]
            · have e1 : Lib.hasPrefix (d :: r) [10] = false := by simp [Lib.hasPrefix, List.isPrefixOf]; exact fun e => hd e.symm
              exact .inr ⟨hbx.symm.trans e1, by simp only [if_neg hd]⟩)
        clear HQ4 hbx htx
        have q0 : wg2.cell? ⟨w.heap.size + 1, 0, none⟩ = some (.string ⟨q4.toArray⟩) := by rw [Lib.cell_of_heap RH.out]; rfl
        have hbuilt := built_rec t L2.out pa pn cap au co tx
        obtain ⟨A, hA⟩ : ∃ A, arrC t (.slice pa pn cap) au co tx = A := ⟨_, rfl⟩
        have HAA := Lib.hid hA
        have HAS := Lib.hid (show A.size = 30 by rw [← hA]; exact arrC_size _ _ _ _ _ L2.out)
        have HAO := Lib.hid (show A.all (·.oneCell') = true by rw [← hA]; exact arrC_one _ _ _ _ _ _ _)
        rw [hA, HT.out, show (cellsT au).toArray = AU from HAU.out, show (cellsT co).toArray = CO from HCO.out] at hbuilt
        have HBU := Lib.hid hbuilt
        have IAA := Lib.hid (infoC_arr A HAS.out)
        clear hA hbuilt
        obtain ⟨TX, hTX⟩ : ∃ TX : ByteArray, ⟨tx.toArray⟩ = TX := ⟨_, rfl⟩
        rw [hTX] at c10 HBU
        clear hTX
        generalize (⟨q4.toArray⟩ : ByteArray) = Q4 at *
        go_wp2_with fail
        refine (c10 _).mono ?_
        rintro e wh ⟨rfl, hE⟩
        subst hE
        go_wp2_with (first
          | (with_reducible refine wpList_load_all 23 (.tmp 5) rfl (by kernel_rfl) wb.heap.size T 23 (0, 0) rfl K5H.out _ Tryz.underlying23 rfl IT.out ?_)
          | (with_reducible refine wpList_load_all 26 (.tmp 8) rfl (by kernel_rfl) we.heap.size AU 26 (0, 0) rfl K8H.out _ Tryz.underlying26 rfl IA.out ?_)
          | (with_reducible refine wpList_load_all 26 (.tmp 9) rfl (by kernel_rfl) wg.heap.size CO 26 (0, 0) rfl K9H.out _ Tryz.underlying26 rfl IC.out ?_)
          | (refine wpList_build_five rfl 28 0 1 2 3 4 (.tmp 47) (.tmp 48) (.tmp 49) (.tmp 50) (.tmp 51) rfl (.agg T) (.slice pa pn cap) (.agg AU) (.agg CO) (.string TX) rfl rfl rfl rfl rfl _ HBU.out ?_)
          | (with_reducible refine wpList_store_all rfl 28 (.tmp 2) (.tmp 52) rfl w.heap.size A rfl rfl 28 z GH.out IAA.out (HAS.out.trans ZS.out.symm) HAO.out ?_)
          | fail)
        intro wz hgz hoz hsz
        have BZ := Lib.hid (BH.out.trans (hoz.below (B := w.heap.size) (Nat.le_refl _) BH.out.size))
        have GZ := Lib.hid hgz
        have OWZ := Lib.hid (ownD_off OWH.out hoz (Nat.lt_of_lt_of_le (Nat.lt_succ_self _) (Nat.le_of_lt WS.out)))
        clear hgz hoz hsz
        go_wp2
        refine bodyPost_ret (results_rec Tryz.results26 _ _ w.heap.size A (0, 0) _ rfl rfl GZ.out HAS.out) rfl ⟨_, _, rfl, BZ.out, HAS.out, HAO.out, ?_⟩
        rcases HEND.out with ⟨hb, hq⟩ | ⟨hb, hq⟩
        · refine .inl ⟨hb, _, pa, cap, hq, ?_, ?_, ⟨L2.out, HPI.out⟩, H16.out, L5.out, L6.out, L8.out, L9.out⟩
          · show A = arrC t (.slice pa ps.length cap) au co tx
            rw [HPN.out]; exact HAA.out.symm
          · show OwnD w.heap.size (.slice pa ps.length cap) ps wz
            rw [HPN.out]; exact ownD_mono OWZ.out (Nat.le_of_lt (Nat.lt_trans (Nat.lt_succ_self _) WS.out))
        · exact .inr ⟨hb, hq⟩
end Go.Proofs.YtonkclkopmdahaaGreatDoor

/-
  Layer 9, the program: Parse.
-/
namespace Go.Proofs.YtonkclkopmdahaaGreatDoor
set_option maxRecDepth 20000
open Go.RowKit
set_option linter.unusedVariables false
set_option linter.unusedSimpArgs false

/-- What Parse answers. -/
def parsedR (s : List UInt8) : Rcd × Int := match parseK s with
  | none => (rcdZ, 4)
  | some c => (c, 0)
set_option maxHeartbeats 16000000 in
theorem Parse9_is (a : Option Addr) (n cp : Nat) (bs : List UInt8) (w : World) (tab : T7 w) (hn : n = bs.length) (hb : BAt w a bs) (hs : n ≤ 1000000) :
    Calls Tryz.prog 12 #[.slice a n cp] w fun e w' => ∃ A, e = .returned (.tuple #[.agg A, .int .i64 (parsedR bs).2]) ∧ RecRed w' A (parsedR bs).1 ∧ Below w.heap.size w w' := by
  subst hn
  obtain ⟨z, hz0, hzs, hzv, hzb, hz1⟩ := zRec_any
  have ZS := Lib.hid hzs; have ZB := Lib.hid hzb; have Z1 := Lib.hid hz1; have Z0 := Lib.hid hz0
  have IZ := Lib.hid (infoC_arr z hzs)
  have hb1 := (Below.refl w.heap.size w).alloc (Nat.le_refl _) (.cells z 28)
  have B1 := Lib.hid hb1
  have G1 := Lib.hid (heap_alloc_new w (.cells z 28))
  have cv := (hb.keep hb1).conv (P := Tryz.prog) cp 29 5 Tryz.underlying29 Tryz.underlying5 9 Tryz.underlying9
  have TB := Lib.hid tab
  have CR := Lib.hid (record9_is bs (w.alloc (.cells z 28)) (tab.keep hb1) hs)
  have HPW := Lib.hid (parse_way9 bs)
  obtain ⟨RQ, hRQ⟩ : ∃ RQ, recQ bs = RQ := ⟨_, rfl⟩
  rw [hRQ] at CR HPW
  obtain ⟨PR, hPR⟩ : ∃ PR, parsedR bs = PR := ⟨_, rfl⟩
  have HPR := Lib.hid (show PR = match parseK bs with | none => (rcdZ, 4) | some c => (c, 0) from hPR.symm)
  rw [HPW.out] at HPR
  rw [hPR]
  clear hz0 hzs hzb hz1 hb1 hb tab hRQ hPR hs
  generalize (⟨bs.toArray⟩ : ByteArray) = S at *
  generalize bs.length = n at *
  go_enter Tryz.func12, Tryz.ntmps12
  go_wp2_with fail
  refine CR.out.mono ?_
  rintro e wb ⟨A, b, rfl, hbb, hAs, hA1, hcase⟩
  have HAS := Lib.hid hAs; have HA1 := Lib.hid hA1; have HCASE := Lib.hid hcase
  have BB := Lib.hid (B1.out.trans (hbb.mono B1.out.size))
  have GB := Lib.hid (heap_keep G1.out hbb)
  have IA := Lib.hid (infoC_arr A hAs)
  clear hAs hA1 hcase hbb CR cv
  go_wp2_with (first
    | (with_reducible refine wpList_store_all rfl 28 (.tmp 4) (.tmp 10) rfl wb.heap.size A rfl rfl 28 z (heap_alloc_new wb _) IA.out (HAS.out.trans ZS.out.symm) HA1.out ?_)
    | fail)
  intro wc hgc hoc hsc
  have hbc := ((Below.refl wb.heap.size wb).alloc (Nat.le_refl _) (.cells z 28)).trans (hoc.below (Nat.le_refl _) (by simp))
  have HBC := Lib.hid hbc
  have BC := Lib.hid (BB.out.trans (hbc.mono BB.out.size))
  have GC := Lib.hid (heap_keep GB.out hbc)
  have KC := Lib.hid hgc
  have LT := Lib.hid (show w.heap.size < wb.heap.size from lt_of_heap GB.out)
  clear hgc hoc hsc hbc
  rcases HCASE.out with ⟨hb, c, pa, cap, hq, hA, hown, hfit, h16, n1, n2, n3, n4⟩ | ⟨hb, hq⟩
  case inr =>
    subst hb
    have HE := Lib.hid (show PR = (rcdZ, 4) by rw [HPR.out, hq])
    clear hq HCASE
    obtain rfl := HE.out
    go_wp2_with (first
      | (refine wpList_build_none rfl 28 rfl _ ZB.out ?_)
      | (with_reducible refine wpList_store_all rfl 28 (.tmp 2) (.tmp 19) rfl w.heap.size z rfl rfl 28 z GC.out IZ.out rfl Z1.out ?_)
      | fail)
    intro wz hgz hoz hsz
    have BZ := Lib.hid (BC.out.trans (hoz.below (B := w.heap.size) (Nat.le_refl _) BC.out.size))
    have GZ := Lib.hid hgz
    clear hgz hoz hsz
    go_wp2
    exact bodyPost_ret (results_rec Tryz.results12 _ _ w.heap.size z (0, 0) _ rfl rfl GZ.out ZS.out) rfl ⟨_, rfl, by rw [Z0.out]; exact recRed_zero _, BZ.out⟩
  subst hb
  have S1 := Lib.hid (show (w.alloc (.cells z 28)).heap.size = w.heap.size + 1 by simp)
  rw [S1.out] at hown
  have HFIT := Lib.hid hfit
  have howc := ownD_below hown HBC.out
  have OWC := Lib.hid howc
  obtain ⟨hcap, hidc⟩ : c.parents.length ≤ cap ∧ IdsAt wc pa c.parents := by
    obtain ⟨pa2, cap2, hv, q1, q2, q3, q4⟩ := ownD_ids howc hfit.parents
    cases hv
    exact ⟨q1, q3⟩
  have CRT := Lib.hid (Right9_is c.tree pa c.parents.length cap c.parents c.author c.committer c.text wc (TB.out.keep BC.out).t6 hfit.tree hidc rfl (by omega) hcap hfit.parents (by omega) (by omega) (by omega) (by omega))
  rw [← hA] at CRT
  have HAE := Lib.hid hA
  clear hfit hcap hidc h16 n1 n2 n3 n4 hA hown howc
  cases hr : rightR c with
  | false =>
    have HE := Lib.hid (show PR = (rcdZ, 4) by rw [HPR.out, hq]; simp only; rw [hr]; rfl)
    rw [show rightR ⟨c.tree, c.parents, c.author, c.committer, c.text⟩ = false from hr] at CRT
    clear hq HCASE hr
    obtain rfl := HE.out
    go_wp2_with (first
      | (with_reducible refine wpList_load_all 28 (.tmp 4) rfl (by kernel_rfl) wb.heap.size A 28 (0, 0) rfl KC.out _ Tryz.underlying28 rfl IA.out ?_)
      | fail)
    refine CRT.out.mono ?_
    rintro e wd ⟨rfl, hbd⟩
    have BD := Lib.hid (BC.out.trans (hbd.mono BC.out.size))
    have GD := Lib.hid (heap_keep GC.out hbd)
    clear hbd CRT
    go_wp2_with (first
      | (refine wpList_build_none rfl 28 rfl _ ZB.out ?_)
      | (with_reducible refine wpList_store_all rfl 28 (.tmp 2) (.tmp 19) rfl w.heap.size z rfl rfl 28 z GD.out IZ.out rfl Z1.out ?_)
      | fail)
    intro wz hgz hoz hsz
    have BZ := Lib.hid (BD.out.trans (hoz.below (B := w.heap.size) (Nat.le_refl _) BD.out.size))
    have GZ := Lib.hid hgz
    clear hgz hoz hsz
    go_wp2
    exact bodyPost_ret (results_rec Tryz.results12 _ _ w.heap.size z (0, 0) _ rfl rfl GZ.out ZS.out) rfl ⟨_, rfl, by rw [Z0.out]; exact recRed_zero _, BZ.out⟩
  | true =>
    have HE := Lib.hid (show PR = (c, 0) by rw [HPR.out, hq]; simp only; rw [if_pos hr])
    rw [show rightR ⟨c.tree, c.parents, c.author, c.committer, c.text⟩ = true from hr] at CRT
    clear hq HCASE hr
    obtain rfl := HE.out
    go_wp2_with (first
      | (with_reducible refine wpList_load_all 28 (.tmp 4) rfl (by kernel_rfl) wb.heap.size A 28 (0, 0) rfl KC.out _ Tryz.underlying28 rfl IA.out ?_)
      | fail)
    refine CRT.out.mono ?_
    rintro e wd ⟨rfl, hbd⟩
    have BD := Lib.hid (BC.out.trans (hbd.mono BC.out.size))
    have GD := Lib.hid (heap_keep GC.out hbd)
    have KD := Lib.hid (heap_keep KC.out hbd)
    have OWD := Lib.hid (ownD_below OWC.out hbd)
    clear hbd CRT
    go_wp2_with (first
      | (with_reducible refine wpList_load_all 28 (.tmp 4) rfl (by kernel_rfl) wb.heap.size A 28 (0, 0) rfl KD.out _ Tryz.underlying28 rfl IA.out ?_)
      | (with_reducible refine wpList_store_all rfl 28 (.tmp 2) (.tmp 20) rfl w.heap.size A rfl rfl 28 z GD.out IA.out (HAS.out.trans ZS.out.symm) HA1.out ?_)
      | fail)
    intro wz hgz hoz hsz
    have BZ := Lib.hid (BD.out.trans (hoz.below (B := w.heap.size) (Nat.le_refl _) BD.out.size))
    have GZ := Lib.hid hgz
    have OWZ := Lib.hid (ownD_off OWD.out hoz (Nat.lt_succ_self _))
    clear hgz hoz hsz
    go_wp2
    refine bodyPost_ret (results_rec Tryz.results12 _ _ w.heap.size A (0, 0) _ rfl rfl GZ.out HAS.out) rfl ⟨_, rfl, ?_, BZ.out⟩
    rw [HAE.out]
    exact ownD_red OWZ.out HFIT.out
end Go.Proofs.YtonkclkopmdahaaGreatDoor
