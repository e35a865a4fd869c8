/-
  The law GraphNil: its walk.
-/
import Derived.Test.YtajmgjhknmkfpaaUy
namespace Go.Proofs.Ytajmgjhknmkfpaa.graphNil
set_option maxRecDepth 20000
open Go.RowKit
set_option linter.unusedVariables false
set_option linter.unusedSimpArgs false

theorem empty_slice {B : Nat} {v : Value} {w : World} (h : OwnD B v [] w) : ∃ a c, v = .slice a 0 c := by
  obtain ⟨a, c, e, -⟩ := ownD_ids h (fun i hi => by cases hi)
  exact ⟨a, c, e⟩
set_option maxRecDepth 100000 in
set_option maxHeartbeats 16000000 in
theorem walk (w : World) (l0 : List UInt8) (h0 : l0.length = 20) (l1 : List UInt8) (h1 : l1.length = 20) :
    Calls Try.prog 5 #[.agg (arrD l0), .agg (arrD l1)] w fun e w' => e = .returned (.bool true) ∧ Below w.heap.size w w' := by
  have cAdd := fun v u => addP_nil l0 v u
  have cHas := fun u => hasP_nil l0 h0 u
  have cPar := fun u => parentsP_nil l0 h0 u
  have cCom := fun u => comesP_nil u l0 l0 h0 h0
  have cClo := fun (u : World) (a : Option Addr) (c : Nat) (hr : RowAt rowI u a [l0]) => closureP_any (GOps.nil u) a 1 c [l0] hr rfl (by decide) (fun i h => by rw [List.mem_singleton.1 h]; exact h0)
  have cMis := fun (u : World) (a : Option Addr) (c : Nat) (hr : RowAt rowI u a [l0]) => missingP_all (GOps.nil u) a 1 c [l0] hr rfl (by decide) (fun i h => by rw [List.mem_singleton.1 h]; exact h0)
  rw [show cloG [] [l0] = [] from rfl] at cClo cMis
  obtain ⟨A, hA⟩ : ∃ A, arrD l0 = A := ⟨_, rfl⟩
  obtain ⟨B, hB⟩ : ∃ B, arrD l1 = B := ⟨_, rfl⟩
  have SA := Lib.hid (show A.size = 20 by rw [← hA]; exact arrD_size l0 h0)
  have SB := Lib.hid (show B.size = 20 by rw [← hB]; exact arrD_size l1 h1)
  have IA := Lib.hid (infoD_arr A SA.out)
  have IB := Lib.hid (infoD_arr B SB.out)
  have ROW := Lib.hid (fun (u : World) => (one_row (w := u) hA))
  rw [hA] at cAdd cHas cPar cCom
  have CAdd := Lib.hid cAdd; have CHas := Lib.hid cHas; have CPar := Lib.hid cPar; have CCom := Lib.hid cCom; have CClo := Lib.hid cClo; have CMis := Lib.hid cMis
  rw [hA, hB]
  have b1 := (Below.refl w.heap.size w).alloc (Nat.le_refl _) (.cells A 32)
  have b2 := b1.alloc b1.size (.cells B 32)
  have e1 : (w.alloc (.cells A 32)).heap.size = w.heap.size + 1 := by simp
  have x1 := (((Below.refl (w.alloc (.cells A 32)).heap.size (w.alloc (.cells A 32))).alloc (Nat.le_refl _) (.cells B 32)).block w.heap.size (by simp)).trans (heap_alloc_new w _)
  have x2 := heap_alloc_new (w.alloc (.cells A 32)) (.cells B 32)
  rw [e1] at x2
  have X1 := Lib.hid x1; have X2 := Lib.hid x2; have B2 := Lib.hid b2
  have CAW := Lib.hid (awake12 ((w.alloc (.cells A 32)).alloc (.cells B 32)))
  clear x1 x2 b1 b2 e1 cAdd cHas cPar cCom cClo cMis hA hB
  go_enter Try.func5, Try.ntmps5
  go_wp2_with fail
  refine CAW.out.mono ?_
  rintro e w1 ⟨rfl, hb1⟩
  have BA := Lib.hid (B2.out.trans (hb1.mono B2.out.size))
  have X1a := Lib.hid ((hb1.block _ (lt_of_heap X1.out)).trans X1.out)
  have X2a := Lib.hid ((hb1.block _ (lt_of_heap X2.out)).trans X2.out)
  clear hb1 CAW X1 X2 B2
  have b2 := (Below.refl w1.heap.size w1).alloc (Nat.le_refl _) (.cells B 32)
  have BB := Lib.hid (BA.out.trans (b2.mono BA.out.size))
  have X1b := Lib.hid ((b2.block _ (lt_of_heap X1a.out)).trans X1a.out)
  clear b2
  go_wp2_with (first
    | (with_reducible refine wpList_load_all 32 (.tmp 2) rfl (by kernel_rfl) w.heap.size A 32 (0, 0) rfl X1a.out _ Try.underlying32 rfl IA.out ?_)
    | (with_reducible refine wpList_load_all 32 (.tmp 3) rfl (by kernel_rfl) (w.heap.size + 1) B 32 (0, 0) rfl X2a.out _ Try.underlying32 rfl IB.out ?_)
    | (with_reducible refine wpList_row_W (.tmp 10) rfl (by kernel_rfl) B SB.out rfl ?_)
    | fail)
  refine (CAdd.out _ _).mono ?_
  rintro e w2 ⟨rfl, hb2⟩
  have BC := Lib.hid (BB.out.trans (hb2.mono BB.out.size))
  have X1c := Lib.hid ((hb2.block _ (lt_of_heap X1b.out)).trans X1b.out)
  clear hb2 X1a X2a X1b BA BB
  go_wp2_with (first
    | (with_reducible refine wpList_load_all 32 (.tmp 2) rfl (by kernel_rfl) w.heap.size A 32 (0, 0) rfl X1c.out _ Try.underlying32 rfl IA.out ?_)
    | fail)
  refine (CHas.out _).mono ?_
  rintro e w3 ⟨rfl, hb3⟩
  have BD := Lib.hid (BC.out.trans (hb3.mono BC.out.size))
  have X1d := Lib.hid ((hb3.block _ (lt_of_heap X1c.out)).trans X1c.out)
  clear hb3 X1c BC
  go_wp2_with (first
    | (with_reducible refine wpList_load_all 32 (.tmp 2) rfl (by kernel_rfl) w.heap.size A 32 (0, 0) rfl X1d.out _ Try.underlying32 rfl IA.out ?_)
    | fail)
  refine (CPar.out _).mono ?_
  rintro e w4 ⟨rfl, hb4⟩
  have BE := Lib.hid (BD.out.trans (hb4.mono BD.out.size))
  have X1e := Lib.hid ((hb4.block _ (lt_of_heap X1d.out)).trans X1d.out)
  clear hb4 X1d BD
  have CIds := Lib.hid (idsP_nil w4)
  go_wp2_with fail
  refine CIds.out.mono ?_
  rintro e w5 ⟨rfl, hb5⟩
  have BF := Lib.hid (BE.out.trans (hb5.mono BE.out.size))
  have X1f := Lib.hid ((hb5.block _ (lt_of_heap X1e.out)).trans X1e.out)
  clear hb5 X1e BE CIds
  have CHd := Lib.hid (headsP_nil w5)
  go_wp2_with fail
  refine CHd.out.mono ?_
  rintro e w6 ⟨v, rfl, hv, hb6⟩
  obtain ⟨a6, c6, rfl⟩ := empty_slice hv
  have BG := Lib.hid (BF.out.trans (hb6.mono BF.out.size))
  have X1g := Lib.hid ((hb6.block _ (lt_of_heap X1f.out)).trans X1f.out)
  have b7 := (Below.refl w6.heap.size w6).alloc (Nat.le_refl _) (.cells A 32)
  have BH := Lib.hid (BG.out.trans (b7.mono BG.out.size))
  have X1h := Lib.hid ((b7.block _ (lt_of_heap X1g.out)).trans X1g.out)
  have CC := Lib.hid (CClo.out _ (some ⟨w6.heap.size, 0, none⟩) 1 (ROW.out w6))
  clear hv hb6 X1f BF CHd b7
  go_wp2_with (first
    | (with_reducible refine wpList_load_all 32 (.tmp 2) rfl (by kernel_rfl) w.heap.size A 32 (0, 0) rfl X1g.out _ Try.underlying32 rfl IA.out ?_)
    | (with_reducible refine wpList_row_W (.tmp 42) rfl (by kernel_rfl) A SA.out rfl ?_)
    | fail)
  refine CC.out.mono ?_
  rintro e w8 ⟨v, rfl, hv, hb8⟩
  obtain ⟨a8, c8, rfl⟩ := empty_slice hv
  have BI := Lib.hid (BH.out.trans (hb8.mono BH.out.size))
  have X1i := Lib.hid ((hb8.block _ (lt_of_heap X1h.out)).trans X1h.out)
  have b9 := (Below.refl w8.heap.size w8).alloc (Nat.le_refl _) (.cells A 32)
  have BJ := Lib.hid (BI.out.trans (b9.mono BI.out.size))
  have X1j := Lib.hid ((b9.block _ (lt_of_heap X1i.out)).trans X1i.out)
  have CM := Lib.hid (CMis.out _ (some ⟨w8.heap.size, 0, none⟩) 1 (ROW.out w8))
  clear hv hb8 X1g X1h BG BH CC b9
  go_wp2_with (first
    | (with_reducible refine wpList_load_all 32 (.tmp 2) rfl (by kernel_rfl) w.heap.size A 32 (0, 0) rfl X1i.out _ Try.underlying32 rfl IA.out ?_)
    | (with_reducible refine wpList_row_W (.tmp 50) rfl (by kernel_rfl) A SA.out rfl ?_)
    | fail)
  refine CM.out.mono ?_
  rintro e w10 ⟨v, rfl, hv, hb10⟩
  obtain ⟨a10, c10, rfl⟩ := empty_slice hv
  have BK := Lib.hid (BJ.out.trans (hb10.mono BJ.out.size))
  have X1k := Lib.hid ((hb10.block _ (lt_of_heap X1j.out)).trans X1j.out)
  clear hv hb10 X1i X1j BI BJ CM
  go_wp2_with (first
    | (with_reducible refine wpList_load_all 32 (.tmp 2) rfl (by kernel_rfl) w.heap.size A 32 (0, 0) rfl X1k.out _ Try.underlying32 rfl IA.out ?_)
    | fail)
  refine (CCom.out _).mono ?_
  rintro e w11 ⟨rfl, hb11⟩
  have BL := Lib.hid (BK.out.trans (hb11.mono BK.out.size))
  clear hb11
  go_wp2
  go_ret
  exact ⟨rfl, BL.out⟩
end Go.Proofs.Ytajmgjhknmkfpaa.graphNil
