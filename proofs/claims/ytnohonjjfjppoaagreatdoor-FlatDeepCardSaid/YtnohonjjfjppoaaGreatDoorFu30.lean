/-
  Texts that belong together, one behind the other.
-/
import Derived.Test.YtnohonjjfjppoaaGreatDoorFu29
import Derived.Test.YtnohonjjfjppoaaGreatDoorFu02
import Derived.Test.YtnohonjjfjppoaaGreatDoorFu20
/-
  Layer 13, the program: the way through trees of one item each.
-/
namespace Go.Proofs.YtnohonjjfjppoaaGreatDoor
set_option maxRecDepth 20000
open Go.RowKit
set_option linter.unusedVariables false
set_option linter.unusedSimpArgs false
theorem treeS_same {o : Option Cel} {p p' : List Itm} {e e' : Int} (h : TreeS o p e) (k : TreeS o p' e') : p' = p ∧ e' = e := by
  unfold TreeS at h k
  split at h
  · next h0 => rw [if_pos h0] at k; exact parsedT_same h k
  · next h0 => rw [if_neg h0] at k; exact ⟨k.1.trans h.1.symm, k.2.trans h.2.symm⟩
/-- What goes on at one item, or one tree. -/
def WayOK (w0 : World) (S : Nat → Prop) (M : List Cel) (g q fn : Nat) (arg : Value) (dir : List UInt8) (r : Option Fil) (e : Int) : Prop := ∀ w, Below w0.heap.size w0 w → StoreP S w g M →
  w.heap[q]? = some (.cells #[.pointer (some ⟨g, 0, none⟩), .slice none 0 0] 89 (0, 0)) →
  Calls Tryz.prog fn #[.pointer (some ⟨q, 0, none⟩), arg, .string ⟨dir.toArray⟩] w fun e' w' => e' = .returned (.int .i64 e) ∧ WalkR w' q g r ∧ Chg (fun j => j = q) w w'
theorem item_file_ok {w0 : World} (tab : T13 w0) {S : Nat → Prop} {M : List Cel} {g q : Nat} {x : Itm} {path : List UInt8} (hid : x.id.length = 20) (hm : x.mode ≠ 4) (hp : pathL path = true) :
    WayOK w0 S M g q 83 (.agg (arrI x)) path (some ⟨path, x.mode, x.id⟩) 0 := fun w hb _ hq => item_file tab hb hq hid hm hp
set_option maxHeartbeats 16000000 in
theorem item_tree_ok {w0 : World} (tab : T13 w0) {S : Nat → Prop} {M : List Cel} {g q : Nat} {x : Itm} {path : List UInt8} {r : Option Fil} {e : Int} (hid : x.id.length = 20) (hm : x.mode = 4) (hp : pathL path = true)
    (H : WayOK w0 S M g q 48 (.agg (arrD x.id)) (path ++ [47]) r e) :
    WayOK w0 S M g q 83 (.agg (arrI x)) path r e := by
  intro w hb0 hst hq
  have hpl := path_len hp
  have b1 := (Below.refl w.heap.size w).alloc (Nat.le_refl _) (.cells (arrI x) 54)
  have h1 := heap_alloc_new w (.cells (arrI x) 54)
  obtain ⟨AI, hAI⟩ : ∃ A, arrI x = A := ⟨_, rfl⟩
  have Q2 := Lib.hid (show ∀ j v, (cellsD x.id)[j]? = some v → AI[2 + j]? = some v from fun j v hv => by
    rw [← hAI, Nat.add_comm]
    have h : (Lib.byteCells x.id)[j]? = some v := hv
    simpa [arrI, cellsI] using h)
  have Q0 := Lib.hid (show AI[0]? = some (.int .i64 4) by rw [← hAI, ← hm]; rfl)
  have LI := Lib.hid (show (Tryz.prog.info? 27).map (·.size) = some (cellsD x.id).length by rw [cellsD_len _ hid]; exact info29)
  obtain ⟨CI, hCI⟩ : ∃ A, cellsD x.id = A := ⟨_, rfl⟩
  have EI := Lib.hid (show arrD x.id = CI.toArray by rw [← hCI]; rfl)
  rw [hCI] at LI Q2
  rw [hAI] at b1 h1 ⊢
  obtain ⟨w1, hw1⟩ : ∃ w1, w.alloc (.cells AI 54) = w1 := ⟨_, rfl⟩
  rw [hw1] at b1 h1
  have CPa := Lib.hid (Path_is path w1 (by omega) (tab.keep (hb0.trans (b1.mono hb0.size))).q)
  rw [hp] at CPa
  have CT := Lib.hid (fun u (hu : Below w.heap.size w u) => H u (hb0.trans (hu.mono hb0.size)) (hst.below hu) ((hu.block q (lt_of_heap hq)).trans hq))
  rw [EI.out] at CT
  have ad := fun w => add_lists (P := Tryz.prog) w path [47] (by simp; omega)
  obtain ⟨sp, hsp⟩ : ∃ sp : ByteArray, ⟨path.toArray⟩ = sp := ⟨_, rfl⟩
  obtain ⟨sq, hsq⟩ : ∃ sq : ByteArray, ⟨(path ++ [47]).toArray⟩ = sq := ⟨_, rfl⟩
  rw [hsp] at CPa ⊢
  rw [hsq] at CT
  simp only [hsp, hsq] at ad
  have B1 := Lib.hid b1; have H1 := Lib.hid h1
  clear H hb0 hst hq hid hm hp hpl b1 h1 hAI hCI hsp hsq tab
  go_enter Tryz.func83, Tryz.ntmps83
  go_wp2_with fail
  refine CPa.out.mono ?_
  rintro e9 w2 ⟨rfl, b2⟩
  have B2 := Lib.hid (B1.out.trans (b2.mono B1.out.size))
  have h2 := (b2.block w.heap.size (lt_of_heap H1.out)).trans H1.out
  have q0 : w2.cell? ⟨w.heap.size, 0, none⟩ = some (.int .i64 4) := by rw [Lib.cell_of_heap h2]; exact Q0.out
  have RI := Lib.hid (show w2.rangeAt w.heap.size 2 CI from fun j v hv => by rw [Lib.cell_of_heap h2]; exact Q2.out j v hv)
  clear b2 h2 CPa H1 hw1
  go_wp2_with (first
    | (with_reducible refine wpList_load_mid rfl 27 (.tmp 16) rfl w.heap.size 2 rfl CI _ RI.out Tryz.underlying27 rfl LI.out ?_)
    | fail)
  refine (CT.out w2 B2.out).mono ?_
  rintro e9 w3 ⟨rfl, hr, hc⟩
  have FIN := Lib.hid (And.intro hr ((Chg.of_below (S := fun j => j = q) B2.out).trans hc))
  clear hr hc
  go_wp2
  go_ret
  exact ⟨rfl, FIN.out⟩
end Go.Proofs.YtnohonjjfjppoaaGreatDoor

/-
  Layer 13, the program: a tree on the way, of one item at most.
-/
namespace Go.Proofs.YtnohonjjfjppoaaGreatDoor
set_option maxRecDepth 20000
open Go.RowKit
set_option linter.unusedVariables false
set_option linter.unusedSimpArgs false
set_option maxHeartbeats 32000000 in
theorem tree_ok {w0 : World} (tab : T13 w0) {S : Nat → Prop} {M : List Cel} {g q : Nat} {i dir : List UInt8} {p : List Itm} {e0 : Int} {r : Option Fil} {e : Int} (hi : i.length = 20) (hT : TreeS (getM M i) p e0) (hSq : ¬ S q)
    (hcase : (e0 ≠ 0 ∧ r = none ∧ e = e0) ∨ (e0 = 0 ∧ p = [] ∧ r = none ∧ e = 4) ∨ (e0 = 0 ∧ ∃ x, p = [x] ∧ x.id.length = 20 ∧ dir.length + x.name.length ≤ 1000000 ∧ WayOK w0 S M g q 83 (.agg (arrI x)) (dir ++ x.name) r e)) :
    WayOK w0 S M g q 48 (.agg (arrD i)) dir r e := by
  intro w hb0 hst hq
  have b1 := (Below.refl w.heap.size w).alloc (Nat.le_refl _) (.cells (arrD i) 27)
  have h1 := heap_alloc_new w (.cells (arrD i) 27)
  obtain ⟨AI, hAI⟩ : ∃ A, arrD i = A := ⟨_, rfl⟩
  have CT := Lib.hid (fun u (hu : Below w.heap.size w u) => TreeP_is (hst.below hu) i hi (tab.keep (hb0.trans (hu.mono hb0.size))).q)
  have SAME := Lib.hid (fun p' e' (k : TreeS (getM M i) p' e') => treeS_same hT k)
  have LI := Lib.hid (show (Tryz.prog.info? 27).map (·.size) = some AI.toList.length by rw [Array.length_toList, ← hAI, arrD_size i hi]; exact info29)
  rw [hAI] at b1 h1 CT ⊢
  obtain ⟨w1, hw1⟩ : ∃ w1, w.alloc (.cells AI 27) = w1 := ⟨_, rfl⟩
  rw [hw1] at b1 h1
  have hq1 := (b1.block q (lt_of_heap hq)).trans hq
  have B1 := Lib.hid b1; have HST := Lib.hid hst; have HB0 := Lib.hid hb0; have HQ := Lib.hid hq; have HC := Lib.hid hcase
  have LQ := Lib.hid (show ∀ u, Below w1.heap.size w1 u → u.cell? ⟨q, 0, none⟩ = some (.pointer (some ⟨g, 0, none⟩)) from fun u hu => by rw [Lib.cell_of_heap (heap_keep hq1 hu)]; rfl)
  have RI := Lib.hid (show ∀ u, Below w1.heap.size w1 u → u.rangeAt w.heap.size 0 AI.toList from fun u hu => row_arrD (heap_keep h1 hu))
  obtain ⟨sd, hsd⟩ : ∃ sd : ByteArray, ⟨dir.toArray⟩ = sd := ⟨_, rfl⟩
  have HSD := Lib.hid hsd
  rw [hsd]
  obtain ⟨zi, hzi, hzis, hziv, hzib, hzi1⟩ := zItem_any
  have HZIS := Lib.hid hzis
  clear hb0 hst hq hi hT hcase hAI b1 h1 hq1 tab hsd hzi hzis hzib hzi1
  go_enter Tryz.func48, Tryz.ntmps48
  go_wp2_with fail
  refine wp_region_held_drew (S := fun u => Below w1.heap.size w1 u) (by kernel_rfl) (Below.refl _ _).drew (fun hHeld => ?_)
  refine tkW 0 rfl hHeld ?_
  refine tkW 1 rfl hHeld ?_
  refine tkW 2 rfl hHeld ?_
  refine tkV 3 rfl (.pointer (some ⟨g, 0, none⟩)) (fun u hu => by have q := LQ.out u hu; go_simp) hHeld ?_
  refine tkH 4 rfl (yieldsIf_load_mid (by kernel_rfl) 27 (.tmp 4) (by kernel_rfl) w.heap.size 0 (by kernel_rfl) AI.toList _ (fun u hu => RI.out u hu) Tryz.underlying27 rfl LI.out) hHeld ?_
  refine rdH 5 rfl (fun K hK => ?_)
  go_simp
  refine (CT.out _ (B1.out.trans (hHeld.mono B1.out.size))).mono ?_
  rintro e9 u1 ⟨v, p9, e9, rfl, hrd, hts, hb⟩
  have hH := hHeld.trans (hb.mono hHeld.size)
  clear hHeld hb
  obtain ⟨rfl, rfl⟩ := SAME.out _ _ hts
  have HRD := Lib.hid hrd
  clear hts hrd
  refine hK.out _ _ hH (fun hHeld => ?_)
  clear hK K
  try simp only [Act.put, List.setIfInBounds_toArray, List.set_cons_zero, List.set_cons_succ]
  refine tkW 6 rfl hHeld ?_
  refine tkW 7 rfl hHeld ?_
  refine tkW 8 rfl hHeld ?_
  refine tkW 9 rfl hHeld ?_
  refine tkW 10 rfl hHeld ?_
  try simp only [Act.put, List.getElem_toArray, List.getElem_cons_succ, List.getElem_cons_zero, lsA, lsZ, lsS]
  refine wpAnyH_done (by kernel_rfl) ?_ _
  have BU := Lib.hid (B1.out.trans (hH.mono B1.out.size))
  have HQU := Lib.hid ((BU.out.block q (lt_of_heap HQ.out)).trans HQ.out)
  have FIN := Lib.hid (show ∀ u, Below u1.heap.size u1 u → WalkR u q g none ∧ Chg (fun j => j = q) w u from fun u hu => ⟨(hu.block q (lt_of_heap HQU.out)).trans HQU.out, Chg.of_below (BU.out.trans (hu.mono BU.out.size))⟩)
  obtain ⟨av, cv, rfl, hat, hno, hc1, hc2⟩ := HRD.out
  have HAT := Lib.hid hat
  clear hH hw1 CT hat hno
  rcases HC.out with ⟨h1, rfl, rfl⟩ | ⟨rfl, rfl, rfl, rfl⟩ | ⟨rfl, x, rfl, hidx, hnx, hway⟩
  · have hqb : (e != 0) = true := by simpa using h1
    clear h1 hc1 hc2
    obtain ⟨n9, hn9⟩ : ∃ n, p9.length = n := ⟨_, rfl⟩
    rw [hn9]
    clear hn9
    go_wp2
    go_ret
    exact ⟨rfl, FIN.out u1 (Below.refl _ _)⟩
  · clear hc1 hc2
    rw [show ([] : List Itm).length = 0 from rfl]
    go_wp2
    go_ret
    exact ⟨rfl, FIN.out u1 (Below.refl _ _)⟩
  · rw [show [x].length = 1 from rfl] at hc1 ⊢
    obtain ⟨b, o, rfl, hbl⟩ : ∃ b o, av = some ⟨b, o, none⟩ ∧ b < u1.heap.size := by
      obtain ⟨b, o, e1, e2, _⟩ := HAT.out (by simp)
      exact ⟨b, o, e1, e2⟩
    have rx : u1.rangeAt b o (cellsI x) := by
      obtain ⟨b', o', e1, e2, e3⟩ := HAT.out (by simp)
      cases e1
      intro j v hv
      have := e3 0 (by simp) j v hv
      rwa [show o + 0 * 22 + j = o + j by omega] at this
    have lx : (Tryz.prog.info? 54).map (·.size) = some (cellsI x).length := by rw [cellsI_len x hidx]; exact infoItem
    have hcs : (arrI x).size = 22 := arrI_size x hidx
    have hax : arrI x = (cellsI x).toArray := rfl
    have Q1 := Lib.hid (show (cellsI x)[1]? = some (.string ⟨x.name.toArray⟩) from rfl)
    have ad := fun w => add_lists (P := Tryz.prog) w dir x.name (by omega)
    have WAY := Lib.hid (fun u (hu : Below u1.heap.size u1 u) => hway u (HB0.out.trans ((BU.out.trans (hu.mono BU.out.size)).mono HB0.out.size)) ((HST.out.below BU.out).below hu) ((hu.block q (lt_of_heap HQU.out)).trans HQU.out))
    have OI := Lib.hid (arrI_one x)
    obtain ⟨cx, hcx⟩ : ∃ cx, cellsI x = cx := ⟨_, rfl⟩
    rw [hcx] at rx lx hax Q1
    rw [hax] at hcs WAY OI
    obtain ⟨sn, hsn⟩ : ∃ sn : ByteArray, ⟨x.name.toArray⟩ = sn := ⟨_, rfl⟩
    obtain ⟨sp, hsp⟩ : ∃ sp : ByteArray, ⟨(dir ++ x.name).toArray⟩ = sp := ⟨_, rfl⟩
    rw [hsn] at Q1
    rw [hsp] at WAY
    simp only [hsn, hsp, HSD.out] at ad
    have RX := Lib.hid rx; have LX := Lib.hid lx; have HCS := Lib.hid hcs
    have II := Lib.hid (show (Tryz.prog.info? 54).map (·.size) = some cx.toArray.size by rw [hcs]; exact infoItem)
    have hv1 : 1 ≤ cv := hc1
    clear hc1 hc2 rx lx hcs hax hcx hsn hsp hway hidx hnx hbl
    go_wp2_with fail
    refine wp_loop_rounds 2 ?_
    rw [rounds_succ]
    go_wp2_with (first
      | (with_reducible refine wpList_load_mid rfl 54 (.tmp 31) rfl b o rfl cx _ RX.out Tryz.underlying54 rfl LX.out ?_)
      | (with_reducible refine wpList_store_all rfl 54 (.tmp 10) (.tmp 32) rfl u1.heap.size cx.toArray rfl rfl 54 zi (heap_alloc_new _ _) II.out (HCS.out.trans HZIS.out.symm) OI.out ?_)
      | fail)
    intro u2 r2 off2 sz2
    have b2 : Below u1.heap.size u1 u2 := ((Below.refl u1.heap.size u1).alloc (Nat.le_refl _) (.cells zi 54)).trans (off2.below (Nat.le_refl _) (by simp))
    have q1 : u2.cell? ⟨u1.heap.size, 1, none⟩ = some (.string sn) := by
      rw [Lib.cell_of_heap r2]
      simpa using Q1.out
    have W2 := Lib.hid (WAY.out u2 b2)
    have R2 := Lib.hid r2; have B2 := Lib.hid (BU.out.trans (b2.mono BU.out.size))
    clear r2 off2 sz2 b2 WAY
    go_wp2_with (first
      | (with_reducible refine wpList_load_all 54 (.tmp 10) rfl (by kernel_rfl) u1.heap.size cx.toArray 54 (0, 0) rfl R2.out _ Tryz.underlying54 rfl II.out ?_)
      | fail)
    refine W2.out.mono ?_
    rintro e8 u3 ⟨rfl, hr3, hc3⟩
    have FIN3 := Lib.hid (And.intro hr3 ((Chg.of_below (S := fun j => j = q) B2.out).trans hc3))
    clear hr3 hc3 W2 q1
    by_cases he : e = 0
    · subst he
      go_wp2
      rw [rounds_succ]
      go_wp2
      go_ret
      exact ⟨rfl, FIN3.out⟩
    · have hqb : (e != 0) = true := by simpa using he
      clear he
      go_wp2
      go_ret
      exact ⟨rfl, FIN3.out⟩
/-- What is read of a tree whose trees have one item each. -/
inductive Rd (M : List Cel) : List UInt8 → List UInt8 → Option Fil → Int → Prop
  | bad {i dir : List UInt8} {p : List Itm} {e : Int} : TreeS (getM M i) p e → e ≠ 0 → Rd M i dir none e
  | empty {i dir : List UInt8} : TreeS (getM M i) [] 0 → Rd M i dir none 4
  | file {i dir : List UInt8} {x : Itm} : TreeS (getM M i) [x] 0 → x.id.length = 20 → x.mode ≠ 4 → pathL (dir ++ x.name) = true → Rd M i dir (some ⟨dir ++ x.name, x.mode, x.id⟩) 0
  | tree {i dir : List UInt8} {x : Itm} {r : Option Fil} {e : Int} : TreeS (getM M i) [x] 0 → x.id.length = 20 → x.mode = 4 → pathL (dir ++ x.name) = true → Rd M x.id (dir ++ x.name ++ [47]) r e → Rd M i dir r e
theorem way_is {w0 : World} (tab : T13 w0) {S : Nat → Prop} {M : List Cel} {g q : Nat} (hSq : ¬ S q) {i dir : List UInt8} {r : Option Fil} {e : Int} (h : Rd M i dir r e) : i.length = 20 → WayOK w0 S M g q 48 (.agg (arrD i)) dir r e := by
  induction h with
  | bad hT he => exact fun hi => tree_ok tab hi hT hSq (.inl ⟨he, rfl, rfl⟩)
  | empty hT => exact fun hi => tree_ok tab hi hT hSq (.inr (.inl ⟨rfl, rfl, rfl, rfl⟩))
  | file hT hid hm hp =>
    refine fun hi => tree_ok tab hi hT hSq (.inr (.inr ⟨rfl, _, rfl, hid, ?_, item_file_ok tab hid hm hp⟩))
    have := path_len hp
    rw [List.length_append] at this
    omega
  | tree hT hid hm hp _ ih =>
    refine fun hi => tree_ok tab hi hT hSq (.inr (.inr ⟨rfl, _, rfl, hid, ?_, item_tree_ok tab hid hm hp (ih hid)⟩))
    have := path_len hp
    rw [List.length_append] at this
    omega
end Go.Proofs.YtnohonjjfjppoaaGreatDoor

/-
  Layer 13, plain: the ids of the trees that the laws make, reckoned. (Made by tools/gendig13.py.)
-/
namespace Go.Proofs.YtnohonjjfjppoaaGreatDoor
set_option linter.unusedVariables false
def one1 : List UInt8 := [1, 0, 0, 0, 0, 0, 0, 0, 0, 0, 0, 0, 0, 0, 0, 0, 0, 0, 0, 0]
def one5 : List UInt8 := [5, 0, 0, 0, 0, 0, 0, 0, 0, 0, 0, 0, 0, 0, 0, 0, 0, 0, 0, 0]
def one9 : List UInt8 := [9, 0, 0, 0, 0, 0, 0, 0, 0, 0, 0, 0, 0, 0, 0, 0, 0, 0, 0, 0]
def dgE : List UInt8 := [75, 130, 93, 198, 66, 203, 110, 185, 160, 96, 229, 75, 248, 214, 146, 136, 251, 238, 73, 4]
theorem dgE_is : sumO 2 [] = dgE := by decide +kernel
def dgX : List UInt8 := [193, 176, 115, 14, 1, 51, 68, 123, 173, 207, 212, 127, 209, 68, 226, 84, 128, 123, 6, 225]
theorem dgX_is : sumO 1 [120] = dgX := by decide +kernel
def dgA0 : List UInt8 := [8, 65, 162, 205, 194, 154, 131, 167, 174, 235, 83, 46, 13, 251, 141, 15, 187, 208, 112, 165]
theorem dgA0_is : sumO 2 (flatI [⟨1, [97], one1⟩]) = dgA0 := by decide +kernel
def dgA1 : List UInt8 := [105, 207, 19, 12, 57, 124, 78, 235, 60, 126, 89, 39, 27, 101, 121, 32, 77, 102, 107, 136]
theorem dgA1_is : sumO 2 (flatI [⟨4, [100], dgA0⟩]) = dgA1 := by decide +kernel
def dgD0 : List UInt8 := [44, 149, 238, 244, 179, 235, 112, 192, 144, 185, 101, 207, 46, 81, 241, 103, 221, 27, 175, 31]
theorem dgD0_is : sumO 2 (flatI [⟨2, [102], one5⟩]) = dgD0 := by decide +kernel
def dgD1 : List UInt8 := [112, 252, 148, 235, 119, 82, 207, 85, 98, 14, 51, 148, 207, 180, 234, 236, 87, 232, 69, 106]
theorem dgD1_is : sumO 2 (flatI [⟨4, [100], dgD0⟩]) = dgD1 := by decide +kernel
def dgD2 : List UInt8 := [193, 201, 195, 4, 142, 174, 83, 115, 212, 40, 84, 54, 235, 215, 125, 27, 247, 245, 6, 155]
theorem dgD2_is : sumO 2 (flatI [⟨4, [100], dgD1⟩]) = dgD2 := by decide +kernel
def dgD3 : List UInt8 := [174, 250, 122, 66, 49, 182, 190, 249, 238, 158, 8, 240, 34, 166, 201, 125, 123, 25, 119, 57]
theorem dgD3_is : sumO 2 (flatI [⟨4, [100], dgD2⟩]) = dgD3 := by decide +kernel
def dgD4 : List UInt8 := [140, 151, 205, 129, 229, 78, 179, 71, 77, 113, 243, 122, 120, 206, 105, 186, 228, 239, 14, 158]
theorem dgD4_is : sumO 2 (flatI [⟨4, [100], dgD3⟩]) = dgD4 := by decide +kernel
def dgD5 : List UInt8 := [233, 71, 36, 220, 65, 213, 139, 27, 204, 162, 115, 162, 190, 166, 95, 185, 36, 51, 83, 200]
theorem dgD5_is : sumO 2 (flatI [⟨4, [100], dgD4⟩]) = dgD5 := by decide +kernel
def dgD6 : List UInt8 := [53, 148, 150, 32, 61, 8, 62, 127, 180, 133, 68, 28, 61, 208, 247, 115, 226, 45, 11, 73]
theorem dgD6_is : sumO 2 (flatI [⟨4, [100], dgD5⟩]) = dgD6 := by decide +kernel
def dgD7 : List UInt8 := [239, 162, 184, 95, 54, 125, 65, 104, 74, 147, 63, 174, 129, 2, 120, 59, 153, 204, 239, 5]
theorem dgD7_is : sumO 2 (flatI [⟨4, [100], dgD6⟩]) = dgD7 := by decide +kernel
def dgD8 : List UInt8 := [170, 128, 142, 238, 178, 185, 42, 6, 223, 9, 32, 247, 149, 188, 102, 145, 84, 15, 190, 255]
theorem dgD8_is : sumO 2 (flatI [⟨4, [100], dgD7⟩]) = dgD8 := by decide +kernel
def dgD9 : List UInt8 := [248, 60, 1, 127, 255, 253, 143, 251, 198, 4, 131, 18, 28, 6, 186, 119, 246, 23, 177, 122]
theorem dgD9_is : sumO 2 (flatI [⟨4, [100], dgD8⟩]) = dgD9 := by decide +kernel
def dgD10 : List UInt8 := [15, 195, 174, 210, 235, 109, 237, 176, 98, 239, 108, 61, 181, 235, 171, 107, 153, 242, 217, 118]
theorem dgD10_is : sumO 2 (flatI [⟨4, [100], dgD9⟩]) = dgD10 := by decide +kernel
def dgD11 : List UInt8 := [220, 232, 9, 144, 48, 108, 64, 162, 95, 122, 51, 87, 180, 231, 33, 74, 44, 196, 253, 237]
theorem dgD11_is : sumO 2 (flatI [⟨4, [100], dgD10⟩]) = dgD11 := by decide +kernel
def dgD12 : List UInt8 := [152, 201, 42, 36, 29, 108, 171, 172, 65, 150, 117, 126, 240, 82, 43, 222, 199, 201, 79, 2]
theorem dgD12_is : sumO 2 (flatI [⟨4, [100], dgD11⟩]) = dgD12 := by decide +kernel
def dgD13 : List UInt8 := [80, 143, 247, 213, 204, 187, 95, 245, 11, 0, 78, 84, 82, 162, 233, 108, 161, 33, 142, 168]
theorem dgD13_is : sumO 2 (flatI [⟨4, [100], dgD12⟩]) = dgD13 := by decide +kernel
def dgD14 : List UInt8 := [78, 37, 202, 13, 7, 78, 56, 66, 135, 222, 241, 90, 207, 47, 2, 41, 29, 166, 169, 191]
theorem dgD14_is : sumO 2 (flatI [⟨4, [100], dgD13⟩]) = dgD14 := by decide +kernel
def dgD15 : List UInt8 := [54, 189, 88, 64, 7, 120, 185, 17, 169, 46, 46, 168, 108, 194, 81, 112, 141, 83, 82, 190]
theorem dgD15_is : sumO 2 (flatI [⟨4, [100], dgD14⟩]) = dgD15 := by decide +kernel
def dgFa0 : List UInt8 := [10, 138, 135, 221, 128, 237, 164, 19, 45, 41, 10, 103, 176, 103, 108, 222, 110, 193, 203, 41]
theorem dgFa0_is : sumO 2 (flatI [⟨4, [97], dgE⟩]) = dgFa0 := by decide +kernel
def dgFa1 : List UInt8 := [63, 188, 234, 175, 172, 225, 126, 241, 108, 25, 50, 156, 116, 92, 240, 200, 66, 249, 78, 206]
theorem dgFa1_is : sumO 2 (flatI [⟨4, [97], one9⟩]) = dgFa1 := by decide +kernel
def dgFa2 : List UInt8 := [46, 223, 8, 73, 47, 224, 13, 146, 245, 229, 80, 117, 29, 6, 147, 204, 120, 93, 121, 204]
theorem dgFa2_is : sumO 2 (flatI [⟨4, [97], dgX⟩]) = dgFa2 := by decide +kernel
def dgFa3 : List UInt8 := [196, 241, 12, 249, 89, 46, 179, 122, 38, 238, 42, 127, 71, 237, 244, 222, 41, 244, 218, 143]
theorem dgFa3_is : sumO 2 (flatI [⟨1, [97], one9⟩]) = dgFa3 := by decide +kernel
def dgFb0 : List UInt8 := [23, 44, 28, 25, 118, 250, 13, 108, 98, 245, 123, 110, 212, 147, 152, 38, 118, 108, 10, 15]
theorem dgFb0_is : sumO 2 (flatI [⟨4, [98], dgE⟩]) = dgFb0 := by decide +kernel
def dgFb1 : List UInt8 := [0, 148, 211, 238, 161, 196, 118, 133, 9, 60, 213, 92, 102, 132, 80, 195, 136, 6, 115, 66]
theorem dgFb1_is : sumO 2 (flatI [⟨4, [98], one9⟩]) = dgFb1 := by decide +kernel
def dgFb2 : List UInt8 := [38, 55, 149, 210, 240, 116, 48, 172, 210, 123, 171, 235, 217, 204, 200, 10, 54, 87, 34, 170]
theorem dgFb2_is : sumO 2 (flatI [⟨4, [98], dgX⟩]) = dgFb2 := by decide +kernel
def dgFb3 : List UInt8 := [129, 71, 14, 147, 111, 20, 107, 80, 65, 43, 210, 212, 50, 201, 28, 105, 57, 226, 103, 214]
theorem dgFb3_is : sumO 2 (flatI [⟨1, [98], one9⟩]) = dgFb3 := by decide +kernel
def dgFz0 : List UInt8 := [65, 43, 58, 158, 255, 47, 192, 54, 233, 85, 228, 212, 122, 185, 139, 68, 234, 2, 33, 139]
theorem dgFz0_is : sumO 2 (flatI [⟨4, [122], dgE⟩]) = dgFz0 := by decide +kernel
def dgFz1 : List UInt8 := [212, 6, 21, 15, 84, 51, 22, 57, 255, 221, 231, 121, 10, 157, 204, 22, 150, 102, 177, 218]
theorem dgFz1_is : sumO 2 (flatI [⟨4, [122], one9⟩]) = dgFz1 := by decide +kernel
def dgFz2 : List UInt8 := [100, 138, 160, 0, 75, 94, 177, 138, 166, 175, 71, 13, 137, 167, 46, 22, 11, 180, 76, 185]
theorem dgFz2_is : sumO 2 (flatI [⟨4, [122], dgX⟩]) = dgFz2 := by decide +kernel
def dgFz3 : List UInt8 := [77, 51, 87, 46, 28, 242, 89, 68, 42, 151, 221, 2, 73, 17, 146, 40, 17, 91, 42, 229]
theorem dgFz3_is : sumO 2 (flatI [⟨1, [122], one9⟩]) = dgFz3 := by decide +kernel
end Go.Proofs.YtnohonjjfjppoaaGreatDoor

/-
  Layer 13, the program: Empty, Read.
-/
namespace Go.Proofs.YtnohonjjfjppoaaGreatDoor
set_option maxRecDepth 20000
open Go.RowKit
set_option linter.unusedVariables false
set_option linter.unusedSimpArgs false
theorem Rd.fin {M : List Cel} {i dir : List UInt8} {r : Option Fil} {e : Int} (h : Rd M i dir r e) : (e = 0 ∧ ∃ f, r = some f ∧ f.id.length = 20) ∨ (e ≠ 0 ∧ r = none) := by
  induction h with
  | bad hT he => exact .inr ⟨he, rfl⟩
  | empty hT => exact .inr ⟨by decide, rfl⟩
  | file hT hid hm hp => exact .inl ⟨rfl, _, rfl, hid⟩
  | tree _ _ _ _ _ ih => exact ih
set_option maxHeartbeats 8000000 in
theorem Empty_is (w : World) (tab : Tab w) : Calls Tryz.prog 20 #[] w fun e w' => e = .returned (.agg (arrD dgE)) ∧ Below w.heap.size w w' := by
  obtain ⟨zd, hzd, hzds, hzdv, hzdb, hzd1⟩ := zId_any
  have b1 := (Below.refl w.heap.size w).alloc (Nat.le_refl _) (.cells zd 27)
  have h1 := heap_alloc_new w (.cells zd 27)
  obtain ⟨w1, hw1⟩ : ∃ w1, w.alloc (.cells zd 27) = w1 := ⟨_, rfl⟩
  rw [hw1] at b1 h1
  have CI := Id_is 2 none 0 0 [] w1 rfl (BAt.nil w1 _) (fun _ => ⟨rfl, rfl⟩) (Nat.le_refl _) (Nat.zero_le _) (tab.keep b1)
  rw [dgE_is, show idv dgE = .agg (arrD dgE) from rfl] at CI
  obtain ⟨AE, hAE⟩ : ∃ A, arrD dgE = A := ⟨_, rfl⟩
  rw [hAE] at CI ⊢
  have CI := Lib.hid CI
  have SZ := Lib.hid (show AE.size = 20 by rw [← hAE]; exact arrD_size _ rfl)
  have OD := Lib.hid (show AE.all (·.oneCell') = true by rw [← hAE]; exact arrD_one _)
  have ID := Lib.hid (show (Tryz.prog.info? 27).map (·.size) = some AE.size by rw [SZ.out]; exact info29)
  have HZ := Lib.hid hzds; have B1 := Lib.hid b1; have H1 := Lib.hid h1
  clear hzd hzds hzdb hzd1 b1 h1 hAE tab
  go_enter Tryz.func20, Tryz.ntmps20
  go_wp2_with fail
  refine CI.out.mono ?_
  rintro e9 w2 ⟨rfl, b2⟩
  have H2 := Lib.hid ((b2.block w.heap.size (lt_of_heap H1.out)).trans H1.out)
  have B2 := Lib.hid (B1.out.trans (b2.mono B1.out.size))
  clear b2 CI hw1
  go_wp2_with (first
    | (with_reducible refine wpList_store_all rfl 27 (.tmp 0) (.tmp 2) rfl w.heap.size AE rfl rfl 27 zd H2.out ID.out (SZ.out.trans HZ.out.symm) OD.out ?_)
    | fail)
  intro w3 r3 off3 sz3
  have B3 := Lib.hid (B2.out.trans (off3.below (Nat.le_refl _) B2.out.size))
  have R3 := Lib.hid r3
  clear r3 off3 sz3
  go_wp2
  exact bodyPost_ret (results_cell_row Tryz.results20 _ _ w.heap.size 27 AE (0, 0) _ rfl R3.out Tryz.underlying27 rfl ID.out) rfl ⟨rfl, B3.out⟩
theorem dg_ids (i : List UInt8) (hi : i.length = 20) (A E : Array Value) (hA : arrD i = A) (hE : arrD dgE = E) (w : World) : (binOp .eql 27 (.agg A) (.agg E)).run Tryz.prog w = .ok (.bool (i == dgE)) w := by
  have := eql_idv w i dgE hi rfl
  rw [show idv i = .agg A by rw [← hA]; rfl, show idv dgE = .agg E by rw [← hE]; rfl] at this
  exact this
/-- The files that are handed out. -/
def ReadR (r : Option Fil) (v : Value) (w : World) : Prop :=
  match r with
  | none => v = .slice none 0 0
  | some f => ∃ B, OwnR rowF B v [f] w
set_option maxHeartbeats 32000000 in
theorem Read_is {w0 : World} (tab : T13 w0) {S : Nat → Prop} {w : World} {g : Nat} {M : List Cel} {i : List UInt8} {r : Option Fil} {e : Int} (hst : StoreP S w g M) (hb0 : Below w0.heap.size w0 w) (hi : i.length = 20) (hE : (i == dgE) = false) (h : Rd M i [] r e) :
    Calls Tryz.prog 23 #[.pointer (some ⟨g, 0, none⟩), .agg (arrD i)] w fun e' w' => ∃ v, e' = .returned (.tuple #[v, .int .i64 e]) ∧ ReadR r v w' ∧ Below w.heap.size w w' := by
  have hfin := h.fin
  have b1 := (Below.refl w.heap.size w).alloc (Nat.le_refl _) (.cells (arrD i) 27)
  have h1 := heap_alloc_new w (.cells (arrD i) 27)
  have CE := Lib.hid (fun u (hu : Below w.heap.size w u) => Empty_is u (tab.keep (hb0.trans (hu.mono hb0.size))).pow)
  obtain ⟨AI, hAI⟩ : ∃ A, arrD i = A := ⟨_, rfl⟩
  obtain ⟨AE, hAE⟩ : ∃ A, arrD dgE = A := ⟨_, rfl⟩
  have EQ := Lib.hid (fun w => dg_ids i hi AI AE hAI hAE w)
  rw [hE] at EQ
  rw [hAE] at CE
  have LI := Lib.hid (show (Tryz.prog.info? 27).map (·.size) = some AI.toList.length by rw [Array.length_toList, ← hAI, arrD_size i hi]; exact info29)
  have LA := Lib.hid (show (Tryz.prog.info? 27).map (·.size) = some AI.size by rw [← hAI, arrD_size i hi]; exact info29)
  have WAY := Lib.hid (fun u q (hu : Below w.heap.size w u) (hq : w.heap.size ≤ q) => way_is tab (S := fun j => S j ∧ j < w.heap.size) (g := g) (q := q) (fun k => by omega) h hi u (hb0.trans (hu.mono hb0.size)) ((hst.mono (fun j hj hs => ⟨hs, hj⟩)).below hu))
  rw [hAI] at b1 h1 WAY ⊢
  obtain ⟨w1, hw1⟩ : ∃ w1, w.alloc (.cells AI 27) = w1 := ⟨_, rfl⟩
  rw [hw1] at b1 h1
  have B1 := Lib.hid b1; have H1 := Lib.hid h1; have HF := Lib.hid hfin; have HAI := Lib.hid hAI; have HAE := Lib.hid hAE
  have RI := Lib.hid (show ∀ u, Below w1.heap.size w1 u → u.rangeAt w.heap.size 0 AI.toList from fun u hu => row_arrD (heap_keep h1 hu))
  have SM := Lib.hid (Nat.succ_le_of_lt (lt_of_heap h1))
  clear hst hb0 hi hE h hfin b1 h1 hAI hAE tab
  go_enter Tryz.func23, Tryz.ntmps23
  go_wp2_with fail
  refine wp_region_held_drew (S := fun u => Below w1.heap.size w1 u) (by kernel_rfl) (Below.refl _ _).drew (fun hHeld => ?_)
  refine tkH 0 rfl (yieldsIf_load_mid (by kernel_rfl) 27 (.tmp 3) (by kernel_rfl) w.heap.size 0 (by kernel_rfl) AI.toList _ (fun u hu => RI.out u hu) Tryz.underlying27 rfl LI.out) hHeld ?_
  refine rdH 1 rfl (fun K hK => ?_)
  go_simp
  refine (CE.out _ (B1.out.trans (hHeld.mono B1.out.size))).mono ?_
  rintro e9 u1 ⟨rfl, hb⟩
  have hH := hHeld.trans (hb.mono hHeld.size)
  clear hHeld hb
  refine hK.out _ _ hH (fun hHeld => ?_)
  clear hK K
  try simp only [Act.put, List.setIfInBounds_toArray, List.set_cons_zero, List.set_cons_succ]
  refine tkH 2 rfl (yields_eql (by kernel_rfl) 27 27 (.tmp 10) (.tmp 11) (by kernel_rfl) AI.toList.toArray AE (by kernel_rfl) (by kernel_rfl) (by kernel_rfl) false EQ.out) hHeld ?_
  try simp only [Act.put, List.getElem_toArray, List.getElem_cons_succ, List.getElem_cons_zero, lsA, lsZ, lsS]
  refine wpAnyH_done (by kernel_rfl) ?_ _
  have BU := Lib.hid (B1.out.trans (hH.mono B1.out.size))
  have HU := Lib.hid (heap_keep H1.out hH)
  have LU := Lib.hid (Nat.le_trans SM.out hH.size)
  clear hH hw1 CE
  have b2 := (Below.refl u1.heap.size u1).alloc (Nat.le_refl _) (.cells #[.pointer (some ⟨g, 0, none⟩), .slice none 0 0] 89)
  have HU2 := Lib.hid (heap_keep HU.out b2)
  have CW := Lib.hid (WAY.out _ u1.heap.size (BU.out.trans (b2.mono BU.out.size)) BU.out.size (heap_alloc_new u1 _))
  have B2 := Lib.hid (BU.out.trans (b2.mono BU.out.size))
  rw [show (⟨([] : List UInt8).toArray⟩ : ByteArray) = ⟨#[]⟩ from rfl] at CW
  clear b2 WAY
  go_wp2_with (first
    | (with_reducible refine wpList_load_all 27 (.tmp 3) rfl (by kernel_rfl) w.heap.size AI 27 (0, 0) rfl HU2.out _ Tryz.underlying27 rfl LA.out ?_)
    | fail)
  refine CW.out.mono ?_
  rintro e9 u3 ⟨rfl, hr, hc⟩
  have B3 := Lib.hid (B2.out.trans (hc.below B2.out.size (fun j _ q => by rw [q]; exact BU.out.size)))
  clear hc CW
  rcases HF.out with ⟨rfl, f, rfl, hfid⟩ | ⟨hne, rfl⟩
  · obtain ⟨v, hv, Bv, hown⟩ := hr
    have q1 : u3.cell? ⟨u1.heap.size, 1, none⟩ = some v := by rw [Lib.cell_of_heap hv]; rfl
    have HOWN := Lib.hid hown
    clear hv hown
    go_wp2
    go_ret2
    exact ⟨v, rfl, ⟨Bv, HOWN.out⟩, B3.out⟩
  · have hqb : (e != 0) = true := by simpa using hne
    clear hne hr
    go_wp2
    go_ret2
    exact ⟨_, rfl, rfl, B3.out⟩
end Go.Proofs.YtnohonjjfjppoaaGreatDoor
