/-
  Texts that belong together, one behind the other.
-/
import Derived.Test.YtnbcbiglkmdepaaGreatDoorFu10
import Derived.Test.YtnbcbiglkmdepaaGreatDoorFu06
import Derived.Deep.QuietTactic
import Derived.BigQuiet
set_option maxHeartbeats 64000000
set_option linter.unusedVariables false
set_option linter.unusedSimpArgs false
open Go.Lib renaming hid → hyd
namespace Go.Proofs.YtnbcbiglkmdepaaGreatDoor
set_option maxRecDepth 20000
open Go.RowKit
theorem rtRight_is (a : Option Addr) (n c : Nat) (l : List Itm) (w : World) (hn : n = l.length) (hm : n ≤ maxLen) (hit : ItemsAt w a l) (hid : ∀ i ∈ l, i.id.length = 20) (hnm : ∀ i ∈ l, i.name.length ≤ 1000000) (tab : QTab w) :
  Calls Tryz.prog 85 #[.slice a n c] w fun e w' => e = .returned (.bool (rightIt l)) ∧ Below w.heap.size w w' := by
 unfold maxLen at hm
 by_cases h1 : n < 1
 ·have hR := right_no_len l (.inl (by omega))
  rw [hR]
  have g1 : (n : Int) < 1 := by omega
  clear hn hm hit hid hnm tab hR h1
  go_enter Tryz.func85, Tryz.ntmps85
  go_wp2; go_ret; exact ⟨rfl, Below.refl _ _⟩
 ·by_cases h5 : 500 < n
  ·have hR := right_no_len l (.inr (by omega))
   rw [hR]
   have g1 : ¬ (n : Int) < 1 := by omega
   have g2 : (n : Int) > 500 := by omega
   clear hn hit hid hnm tab hR h1 h5
   go_enter Tryz.func85, Tryz.ntmps85
   go_wp2; go_ret; exact ⟨rfl, Below.refl _ _⟩
  ·obtain ⟨b, o, rfl, hb, hc⟩ := hit (by omega)
   exact rRight_some b o n c l w hn (by omega) (by omega) hb hc hid hnm tab
theorem arr_mode (a m : Int) (s d : List UInt8) : (arrI ⟨a, s, d⟩).setIfInBounds 0 (.int .i64 m) = arrI ⟨m, s, d⟩ := by
 unfold arrI cellsI; rw [List.setIfInBounds_toArray]
 rfl
theorem arr_name (a : Int) (s t d : List UInt8) : (arrI ⟨a, s, d⟩).setIfInBounds 1 (.string ⟨t.toArray⟩) = arrI ⟨a, t, d⟩ := by
 unfold arrI cellsI; rw [List.setIfInBounds_toArray]
 rfl
def headId (y : List UInt8) (i : Nat) : List UInt8 := y.take i ++ List.replicate (20 - i) 0
theorem headId_all (y : List UInt8) : headId y 20 = y.take 20 := by simp [headId]
theorem headId_len (y : List UInt8) (i : Nat) (hi : i ≤ 20) (hy : 20 ≤ y.length) : (headId y i).length = 20 := by simp [headId]; omega
theorem headId_next (y : List UInt8) (i : Nat) (hi : i < 20) (hy : 20 ≤ y.length) : (headId y i).set i (y.getD i 0) = headId y (i + 1) := by
 unfold headId; rw [List.set_append_right _ _ (by rw [List.length_take]; omega), List.length_take, show i - min i y.length = 0 by omega]; obtain ⟨k, hk⟩ : ∃ k, 20 - i = k + 1 := ⟨19 - i, by omega⟩
 have e : y.getD i 0 = y[i]'(by omega) := by rw [List.getD_eq_getElem?_getD, List.getElem?_eq_getElem (show i < y.length by omega)]; rfl
 rw [hk, show 20 - (i + 1) = k by omega, List.replicate_succ, List.set_cons_zero, List.take_add_one, List.getElem?_eq_getElem (show i < y.length by omega), e, List.append_assoc]
 rfl
theorem arr_id (a : Int) (s y : List UInt8) (i : Nat) (hi : i < 20) (hy : 20 ≤ y.length) : (arrI ⟨a, s, headId y i⟩).setIfInBounds (2 + i) (.int .u8 (y.getD i 0).toNat) = arrI ⟨a, s, headId y (i + 1)⟩ := by
 have e : (Lib.byteCells (headId y i)).set i (.int .u8 (y.getD i 0).toNat) = Lib.byteCells (headId y (i + 1)) := by
  rw [← headId_next y i hi hy]; unfold Lib.byteCells; rw [List.map_set]
 unfold arrI cellsI; rw [List.setIfInBounds_toArray, ← e, show 2 + i = (i + 1) + 1 by omega, List.set_cons_succ, List.set_cons_succ]
theorem prefix_take (s t : List UInt8) : (s.take t.length == t) = t.isPrefixOf s := by
 rw [Bool.eq_iff_iff, beq_iff_eq, List.isPrefixOf_iff_prefix, List.prefix_iff_eq_take]; exact eq_comm
theorem pre_apart {b : List UInt8} {m m' : Int} (h : 1 ≤ m ∧ m ≤ 4) (h' : 1 ≤ m' ∧ m' ≤ 4) (e : (modeL m ++ [32]).isPrefixOf b = true) (e' : (modeL m' ++ [32]).isPrefixOf b = true) : m = m' := by
 obtain ⟨t, ht⟩ := List.isPrefixOf_iff_prefix.1 e; obtain ⟨t', ht'⟩ := List.isPrefixOf_iff_prefix.1 e'; rw [← ht'] at ht; simp only [List.append_assoc, List.singleton_append] at ht; exact (mode_apart h h' ht).1
def ModeSo (r : List UInt8) (m : Nat) (mm : Int) : Prop := (mm = 0 ∧ ∀ q : Int, 1 ≤ q → q < m → (modeL q ++ [32]).isPrefixOf r = false) ∨ (1 ≤ mm ∧ mm < m ∧ (modeL mm ++ [32]).isPrefixOf r = true)
theorem modeSo_start (r : List UInt8) : ModeSo r 1 0 := .inl ⟨rfl, fun q h1 h2 => absurd h2 (by omega)⟩
theorem modeSo_no {r : List UInt8} {m : Nat} {mm : Int} (h : ModeSo r m mm) (hn : (modeL (m : Int) ++ [32]).isPrefixOf r = false) : ModeSo r (m + 1) mm := by
 rcases h with ⟨h1, h2⟩ | ⟨h1, h2, h3⟩
 ·refine .inl ⟨h1, fun q q1 q2 => ?_⟩
  by_cases e : q < (m : Int)
  ·exact h2 q q1 e
  ·obtain rfl : q = (m : Int) := by omega
   exact hn
 ·exact .inr ⟨h1, by omega, h3⟩
theorem modeSo_yes {r : List UInt8} {m : Nat} (h1 : 1 ≤ m) (hn : (modeL (m : Int) ++ [32]).isPrefixOf r = true) : ModeSo r (m + 1) (m : Int) := .inr ⟨by omega, by omega, hn⟩
theorem modeSo_none {r : List UInt8} (h : ModeSo r 5 0) : modeAt r = none := by
 rcases h with ⟨_, h2⟩ | ⟨h1, _⟩
 ·unfold modeAt; exact find_none (fun m h1 h4 => h2 m h1 (by omega))
 ·exact absurd h1 (by decide)
theorem modeSo_some {r : List UInt8} {mm : Int} (h : ModeSo r 5 mm) (h0 : mm ≠ 0) : modeAt r = some mm := by
 rcases h with ⟨h1, _⟩ | ⟨h1, h2, h3⟩
 ·exact absurd h1 h0
 ·refine modeAt_first h1 (by omega) (fun m m1 m2 => ?_) h3
  cases e : (modeL m ++ [32]).isPrefixOf r with
  | false => rfl
  | true => have := pre_apart ⟨m1, by omega⟩ ⟨h1, by omega⟩ e h3; omega
theorem takeI_none {r : List UInt8} (h : modeAt r = none) : takeI r = none := by rw [takeI_mode, h]
theorem takeI_short {r : List UInt8} {m : Int} {k : Nat} (h : modeAt r = some m) (hk : (modeL m).length + 1 = k) (hl : (r.drop k).length < (r.drop k).findIdx (· == 0) + 21) : takeI r = none := by
 rw [takeI_mode, h]; simp only; rw [hk, if_pos hl]
theorem takeI_whole {r : List UInt8} {m : Int} {k : Nat} (h : modeAt r = some m) (hk : (modeL m).length + 1 = k) (hl : ¬ (r.drop k).length < (r.drop k).findIdx (· == 0) + 21) :
  takeI r = some (⟨m, (r.drop k).take ((r.drop k).findIdx (· == 0)), ((r.drop k).drop ((r.drop k).findIdx (· == 0) + 1)).take 20⟩, (r.drop k).drop ((r.drop k).findIdx (· == 0) + 21)) := by
 rw [takeI_mode, h]; simp only; rw [hk, if_neg hl]
theorem bs_mid (a : Option Addr) (n c k m : Nat) (l : List UInt8) (hn : n = l.length) (hk : k ≤ m) (hm : m ≤ n) (hc : n ≤ c) :
  ∃ a', (∀ (x y : Int) (u : World), x = k → y = m → (Instr.sliceAt 32 (.slice a n c) (some (.int .i64 x)) (some (.int .i64 y)) none).run Tryz.prog u = .ok (.slice a' (m - k) (c - k)) u) ∧
   ∀ w, BAt w a l → BAt w a' ((l.drop k).take (m - k)) := by
 obtain ⟨i, hi, hz, hs, hby⟩ := info_parts info_byte
 have e : Tryz.prog.elem 32 = 5 := by kernel_rfl
 refine ⟨if c = k then a else a.map (·.add (k * 1)), fun x y u hx hy => ?_, fun w hb => ?_⟩
 ·subst hx; subst hy
  rw [run_sliceAt_slice (h := elem_b), run_slice_lh (ht := elem_b) (h0 := by omega) (h1 := by omega) (h2 := by omega)]; rw [e]
  simp [sizeOf, typeInfo, hi, hs, Result.andThen, sliced]
 ·subst hn
  intro hp; rw [List.length_take, List.length_drop] at hp; rw [if_neg (by omega)]; obtain ⟨b, o, rfl, h1, h2⟩ := hb (by omega); refine ⟨b, o + k, ?_, h1, fun j hj => ?_⟩
  ·simp [Addr.add]
  ·rw [List.length_take, List.length_drop] at hj
   rw [show o + k + j = o + (k + j) by omega, h2 (k + j) (by omega), List.getElem_take, List.getElem_drop]
abbrev GI (w : World) (g : Nat) (i : Itm) : Prop := w.heap[g]? = some (.cells (arrI i) 77 (0, 0))
theorem GI.mode {w : World} {g : Nat} {a m : Int} {s d : List UInt8} (h : GI w g ⟨a, s, d⟩) : GI (w.setCell ⟨g, 0, none⟩ (.int .i64 m)) g ⟨m, s, d⟩ := by
 have := heap_set h 0 (.int .i64 m)
 rwa [arr_mode] at this
theorem GI.name {w : World} {g : Nat} {a : Int} {s t d : List UInt8} (h : GI w g ⟨a, s, d⟩) : GI (w.setCell ⟨g, 1, none⟩ (.string ⟨t.toArray⟩)) g ⟨a, t, d⟩ := by
 have := heap_set h 1 (.string ⟨t.toArray⟩)
 rwa [arr_name] at this
theorem GI.byte {w : World} {g : Nat} {a : Int} {s y : List UInt8} {i : Nat} (hi : i < 20) (hy : 20 ≤ y.length) (h : GI w g ⟨a, s, headId y i⟩) : GI (w.setCell ⟨g, 2 + i, none⟩ (.int .u8 (y.getD i 0).toNat)) g ⟨a, s, headId y (i + 1)⟩ := by
 have := heap_set h (2 + i) (.int .u8 (y.getD i 0).toNat)
 rwa [arr_id a s y i hi hy] at this
theorem GI.cell0 {w : World} {g : Nat} {i : Itm} (h : GI w g i) : w.cell? ⟨g, 0, none⟩ = some (.int .i64 i.mode) := by
 rw [Lib.cell_of_heap h]; rfl
theorem GI.cell1 {w : World} {g : Nat} {i : Itm} (h : GI w g i) : w.cell? ⟨g, 1, none⟩ = some (.string ⟨i.name.toArray⟩) := by
 rw [Lib.cell_of_heap h]; rfl
theorem GI.cellId {w : World} {g : Nat} {i : Itm} (h : GI w g i) (j : Nat) (hj : j < i.id.length) : w.cell? ⟨g, 2 + j, none⟩ = some (.int .u8 (i.id.getD j 0).toNat) := by
 rw [Lib.cell_of_heap h, ← bc_at i.id j hj, show 2 + j = j + 2 by omega]; unfold arrI; rw [List.getElem?_toArray]
 rfl
theorem mode_len {r : List UInt8} {m : Int} (h : modeAt r = some m) : (modeL m).length + 1 ≤ r.length := by
 have h2 := (find_some (b := r) (m := m) h).2; have h3 := congrArg List.length h2; simp only [List.length_append, List.length_cons] at h3
 omega
theorem kept_drewN {B : Nat} {a w : World} (h : Below B a w) (n : Nat) : Below B a (w.drewN n) := h.trans ⟨rfl, rfl, rfl, Nat.le_refl _, fun _ _ => rfl⟩
theorem rtParse_is (a : Option Addr) (n c : Nat) (bs : List UInt8) (w : World) (hn : n = bs.length) (hb : BAt w a bs) (hc : n ≤ c) (tab : QTab w) :
  Calls Tryz.prog 61 #[.slice a n c] w fun e w' => ∃ v p err, e = .returned (.tuple #[v, .int .i64 err]) ∧ RedI w' v p ∧ ParsedT bs p err ∧ Below w.heap.size w w' := by
 by_cases h6 : 65536 < n
 ·have g6 : (n : Int) > 65536 := by omega
  have hp : ParsedT bs [] 5 := .inl ⟨by omega, rfl, rfl⟩; clear hn hb tab h6 hc
  go_enter Tryz.func61, Tryz.ntmps61
  go_wp2
  go_ret2
  exact ⟨_, [], 5, rfl, RedI.none _, hp, Below.refl _ _⟩
 ·have g6 : ¬ (n : Int) > 65536 := by omega
  have hb6 : bs.length ≤ 65536 := by omega
  have HB6 := hyd hb6; have HN := hyd hn; have HB := hyd hb; have TB := hyd tab; have HCC := hyd hc
  have hn6 : n ≤ 65536 := by omega
  obtain ⟨z, hz, hzs, hzv, hzb, hz1⟩ := zItem_any; have HZS := hyd hzs; have HZ := hyd hz; have HZ1 := hyd hz1; clear hn hb tab h6 hzs hz1 hz hb6
  go_enter Tryz.func61, Tryz.ntmps61
  go_wp2_with fail
  go_loopw [4, 5] (fun v4 v5 wr => ∃ (p : List Itm) (k : Nat), v5 = .int .i64 k ∧ k ≤ n ∧ (flatI p).length = k ∧ flatI p ++ bs.drop k = bs ∧ (∀ i ∈ p, fine i) ∧ OwnI w.heap.size v4 p wr ∧ Below w.heap.size w wr) (fun _ v5 _ => n - (intOf v5).toNat)
  case atStart => exact ⟨[], 0, rfl, Nat.zero_le _, rfl, rfl, (fun i hi => by cases hi), ownI_nil w _, Below.refl _ _⟩
  case round =>
   obtain ⟨p, k, rfl, hkn, hfk, hfl, hfi, hown, hbr⟩ := hrel; have HFK := hyd hfk; have HFL := hyd hfl; have HFI := hyd hfi; have HOWN := hyd hown; have HBR := hyd hbr; clear hfk hfl hfi hown hbr
   by_cases hlt : k < n
   ·obtain ⟨a', hts, hbt⟩ := bs_tail a n c k bs HN.out hkn hc
    have ts := fun u => hts (k : Int) u rfl
    obtain ⟨r, hr⟩ : ∃ r, bs.drop k = r := ⟨_, rfl⟩
    have hrl : n - k = r.length := by rw [← hr, List.length_drop, HN.out]
    rw [hr] at hbt; have HR := hyd hr; have HRL := hyd hrl; have HBT := hyd (fun u (hu : Below w.heap.size w u) => hbt u (HB.out.keep hu))
    have hr6 : r.length ≤ 65536 := by rw [← hrl]; omega
    have CVU := hyd (fun (u : World) (hu : Below w.heap.size w u) => (HBT.out u hu).conv (P := Tryz.prog) (c - k) 32 5 Tryz.underlying32 Tryz.underlying5 9 Tryz.underlying9); rw [← hrl] at CVU; obtain ⟨rm, hrm⟩ : ∃ rm, n - k = rm := ⟨_, rfl⟩; rw [hrm] at CVU ts HRL; have HRM := hyd hrm; have HBE := hyd (fun m u => Begins_is r (modeL m ++ [32]) (by omega) (by have := modeL_len m; simp; omega) u); have WE := hyd ((Below.refl wr.heap.size wr).alloc (Nat.le_refl _) (.cells z 77)); clear hts hbt hr hrl hrm
    go_wp2_with (first
     | (with_reducible refine wpList_store_row rfl 77 (.tmp 6) (.tmp 18) rfl wr.heap.size z rfl rfl 77 z (heap_alloc_new wr _) (info_arr _ HZS.out) rfl HZ1.out ?_)
     | fail)
    rename World => wo
    have b2 := below_setRow (B := wo.heap.size) (g := wo.heap.size) ((Below.refl wo.heap.size wo).alloc (Nat.le_refl _) (.cells z 77)) (Nat.le_refl _) z; have h2 := setRow_heap (wo.alloc (.cells z 77)) wo.heap.size z z 77 (0, 0) (heap_alloc_new wo _); obtain ⟨W2, hW2⟩ : ∃ W2, (wo.alloc (.cells z 77)).setRow wo.heap.size z = W2 := ⟨_, rfl⟩; rw [hW2] at b2 h2 ⊢; rw [HZ.out] at h2; have H2 := hyd (show GI W2 wo.heap.size ⟨0, [], zeroId⟩ from h2); have B2 := hyd b2; have LTW := hyd (HBR.out.size); clear b2 h2 hW2
    go_loopw [7] (fun v7 wr => ∃ (m : Nat) (mm : Int), 1 ≤ m ∧ m ≤ 5 ∧ v7 = .int .i64 m ∧ GI wr wo.heap.size ⟨mm, [], zeroId⟩ ∧ ModeSo r m mm ∧ Below wo.heap.size wo wr) (fun v7 _ => 5 - (intOf v7).toNat)
    case atStart => exact ⟨1, 0, Nat.le_refl _, by omega, rfl, H2.out, modeSo_start r, B2.out⟩
    case round =>
     obtain ⟨m, mm, hm1, hm5, rfl, hgi, hso, hbi⟩ := hrel; have HGI := hyd hgi; have HSO := hyd hso; have HBI := hyd hbi; have HBA := hyd (HBR.out.trans (hbi.mono HBR.out.size)); clear hgi hso hbi
     by_cases hm4 : m ≤ 4
     ·have cv : ∀ q, (convert 32 9 (.slice a' rm (c - k))).run Tryz.prog (wr.drewN q) = .ok (.string ⟨r.toArray⟩) (wr.drewN q) := fun q => CVU.out _ (kept_drewN HBA.out q)
      have hwd := fun u => mode_is (m : Int) u
      have hbe := HBE.out (m : Int); have hwl := modeL_len (m : Int)
      have ad := fun u => add_lists (P := Tryz.prog) u (modeL (m : Int)) [32] (by simp; omega)
      have q0 := HGI.out.cell0; have z0 := not_frozen HGI.out 0; have MY := hyd (fun h => modeSo_yes (r := r) hm1 h); have MN := hyd (fun h => modeSo_no HSO.out h); have MP := hyd (prefix_take r (modeL (m : Int) ++ [32])); rw [MP.out] at hbe; generalize (⟨(modeL (m : Int) ++ [32]).toArray⟩ : ByteArray) = s2 at hbe ad; generalize (⟨(modeL (m : Int)).toArray⟩ : ByteArray) = s1 at hwd ad; generalize (⟨r.toArray⟩ : ByteArray) = rs at cv hbe; generalize (modeL (m : Int) ++ [32]).isPrefixOf r = y at hbe MY MN; clear hwl MP
      cases y with
      | false =>
       go_wp2_with fail
       go_quiet (first
        | (go_at_call 83; exact Calls.quiet_of_same ((hwd _).mono fun _ _ h => ⟨h.1, h.2.symm⟩))
        | (go_at_call 82; exact Calls.quiet_of_same ((hbe _).mono fun _ _ h => ⟨h.1, h.2.symm⟩)))
       go_wp2
       go_roundw
       case rel => exact ⟨m + 1, mm, by omega, by omega, by go_num, HGI.out, MN.out (by first | rfl | trivial), kept_drewN HBI.out _⟩
       case measure => simp [intOf]; omega
      | true =>
       go_wp2_with fail
       go_quiet (first
        | (go_at_call 83; exact Calls.quiet_of_same ((hwd _).mono fun _ _ h => ⟨h.1, h.2.symm⟩))
        | (go_at_call 82; exact Calls.quiet_of_same ((hbe _).mono fun _ _ h => ⟨h.1, h.2.symm⟩)))
       have q0' : (wr.drewN nq).cell? ⟨wo.heap.size, 0, none⟩ = some (.int .i64 mm) := q0; have z0' : (wr.drewN nq).frozen? ⟨wo.heap.size, 0, none⟩ = false := z0; have HG2 := hyd (GI.mode (m := (m : Int)) (show GI (wr.drewN nq) wo.heap.size ⟨mm, [], zeroId⟩ from HGI.out)); have HB2 := hyd (show Below wo.heap.size wo ((wr.drewN nq).setCell ⟨wo.heap.size, 0, none⟩ (.int .i64 m)) from (kept_drewN HBI.out nq).setCell (by show wo.heap.size ≤ wo.heap.size; exact Nat.le_refl _) _); clear q0 z0; go_wp2
       go_roundw
       case rel => exact ⟨m + 1, m, by omega, by omega, by go_num, HG2.out, MY.out (by first | rfl | trivial), HB2.out⟩
       case measure => simp [intOf]; omega
     ·obtain rfl : m = 5 := by omega
      have q0 := HGI.out.cell0
      by_cases hmm : mm = 0
      ·subst hmm
       have HPT := hyd (show ParsedT bs [] 4 from .inr (.inr ⟨HB6.out, rfl, rfl, fun q hq hq2 e => take_stop HFI.out (by intro e; have := HRL.out; rw [e] at this; have := HRM.out; simp at *; omega) (takeI_none (modeSo_none HSO.out)) q hq (by rw [← HR.out, HFL.out]; exact e)⟩)); go_wp2
       go_ret2
       exact ⟨_, [], 4, rfl, RedI.none _, HPT.out, HBA.out⟩
      ·have hmo := modeSo_some HSO.out hmm
       have hm0 : (mm == 0) = false := beq_false_of_ne hmm; have HMO := hyd hmo; obtain ⟨hk1, hk2⟩ : (modeL mm).length ≤ 6 ∧ 5 ≤ (modeL mm).length := ⟨(modeL_len mm).2, (modeL_len mm).1⟩
       have hwd := fun u => mode_is mm u
       have hsz := size_toArray (modeL mm); obtain ⟨ml, hml⟩ : ∃ ml, (modeL mm).length = ml := ⟨_, rfl⟩; rw [hml] at hk1 hk2 hsz; have HML := hyd hml; generalize (⟨(modeL mm).toArray⟩ : ByteArray) = sm at hwd hsz; have HMM := hyd hmm; have HM5 := hyd hm5
       have hj : k + ml + 1 ≤ n := by
        have h1 := mode_len hmo; have h2 := HRL.out; have h3 := HRM.out; rw [hml] at h1
        omega
       have cvb := (HB.out.keep HBA.out).conv (P := Tryz.prog) c 32 5 Tryz.underlying32 Tryz.underlying5 9 Tryz.underlying9; rw [← HN.out] at cvb
       have cf := fun u => Find_byte 0 bs (k + ml + 1) (by have := HB6.out; omega) (by rw [← HN.out]; exact hj) u
       have j1 : ((k + ml + 1 : Nat) : Int) = (k : Int) + (ml : Int) + 1 := by omega
       rw [j1] at cf; generalize (⟨bs.toArray⟩ : ByteArray) = sb at cvb cf; obtain ⟨F, hF⟩ : ∃ F, findB bs 0 (k + ml + 1) = F := ⟨_, rfl⟩; rw [hF] at cf; have HF := hyd hF; have HJ := hyd hj; have q1 := HGI.out.cell1; have z1 := not_frozen HGI.out 1; clear hmo hmm hml hm4 hm1 hm5 j1 hF
       go_wp2_with fail
       refine (hwd _).mono ?_; rintro e w3 ⟨rfl, rfl⟩
       go_wp2_with fail
       refine (cf _).mono ?_; rintro e w3 ⟨rfl, rfl⟩
       have hdr : r.drop (ml + 1) = bs.drop (k + ml + 1) := by rw [← HR.out, List.drop_drop, Nat.add_assoc]
       obtain ⟨y, hy⟩ : ∃ y, bs.drop (k + ml + 1) = y := ⟨_, rfl⟩
       have hyl : y.length = n - (k + ml + 1) := by rw [← hy, List.length_drop, HN.out]
       obtain ⟨q, hq⟩ : ∃ q, y.findIdx (· == 0) = q := ⟨_, rfl⟩; have hF := HF.out; unfold findB at hF; rw [hy, hq] at hF; rw [hy] at hdr
       have hrne : r ≠ [] := by intro e; have h1 := HRL.out; rw [e] at h1; have h2 := HRM.out; simp at h1; omega
       by_cases hbad : y.length < q + 21
       ·have HPT := hyd (show ParsedT bs [] 4 from .inr (.inr ⟨HB6.out, rfl, rfl, fun q' hq' hq2 e => take_stop HFI.out hrne (takeI_short HMO.out (by rw [HML.out]) (by rw [hdr, hq]; exact hbad)) q' hq' (by rw [← HR.out, HFL.out]; exact e)⟩))
        by_cases hql : q < y.length
        ·rw [if_pos hql] at hF
         obtain ⟨e, he⟩ : ∃ e, k + ml + 1 + q = e := ⟨_, rfl⟩
         obtain rfl : F = (e : Int) := by rw [← hF, ← he]; omega
         have g1 : ¬ ((e : Int) < 0) := by omega
         have g2 : (e : Int) + 21 > (n : Int) := by omega
         have g3 : e ≤ 65536 := by omega
         clear hF hbad hql he hq hy hyl hdr cf hrne; go_wp2
         go_ret2
         exact ⟨_, [], 4, rfl, RedI.none _, HPT.out, HBA.out⟩
        ·rw [if_neg hql] at hF
         subst hF; clear hbad hql hq hy hyl hdr cf hrne; go_wp2
         go_ret2
         exact ⟨_, [], 4, rfl, RedI.none _, HPT.out, HBA.out⟩
       ·have htk := takeI_whole HMO.out (by rw [HML.out]) (by rw [hdr, hq]; exact hbad)
        rw [hdr, hq] at htk
        have hql : q < y.length := by omega
        rw [if_pos hql] at hF; obtain ⟨e, he⟩ : ∃ e, k + ml + 1 + q = e := ⟨_, rfl⟩
        obtain rfl : F = (e : Int) := by rw [← hF, ← he]; omega
        have g1 : ¬ ((e : Int) < 0) := by omega
        have g2 : ¬ ((e : Int) + 21 > (n : Int)) := by omega
        have g3 : e ≤ 65536 := by omega
        have HTK := hyd htk; obtain ⟨a3, hms, hbm⟩ := bs_mid a n c (k + ml + 1) e bs HN.out (by omega) (by omega) hc
        have ms := fun u => hms ((k : Int) + (ml : Int) + 1) (e : Int) u (by omega) rfl
        rw [hy, show e - (k + ml + 1) = q by omega] at hbm; rw [show e - (k + ml + 1) = q by omega] at ms; have cvm := (hbm wr (HB.out.keep HBA.out)).conv (P := Tryz.prog) (c - (k + ml + 1)) 32 5 Tryz.underlying32 Tryz.underlying5 9 Tryz.underlying9; rw [List.length_take, Nat.min_eq_left (by omega)] at cvm; have HG1 := hyd (GI.name (t := y.take q) HGI.out); have HB1 := hyd (show Below wo.heap.size wo (wr.setCell ⟨wo.heap.size, 1, none⟩ (.string ⟨(y.take q).toArray⟩)) from HBI.out.setCell (by show wo.heap.size ≤ wo.heap.size; exact Nat.le_refl _) _); obtain ⟨sn, hsn⟩ : ∃ sn : ByteArray, ⟨(y.take q).toArray⟩ = sn := ⟨_, rfl⟩; rw [hsn] at cvm HG1 HB1; have HE := hyd he; have HY := hyd hy; have HYL := hyd hyl; have HBAD := hyd hbad; clear hF hbad hql he hq hy hyl hdr cf hrne htk hms hbm hsn; obtain ⟨b, o, rfl, hbl, hcl⟩ := HB.out (by rw [← HN.out]; omega); have HCL := hyd hcl
        go_wp2_with fail
        obtain ⟨W4, hW4⟩ : ∃ W4, wr.setCell ⟨wo.heap.size, 1, none⟩ (.string sn) = W4 := ⟨_, rfl⟩; have hg1 := HG1.out; have hb1 := HB1.out; rw [hW4] at hg1 hb1 ⊢; obtain ⟨yy, hyy⟩ : ∃ yy, y.drop (q + 1) = yy := ⟨_, rfl⟩; have HYY := hyd hyy
        have hyyl : 20 ≤ yy.length := by rw [← hyy, List.length_drop]; have := HBAD.out; omega
        have HG4 := hyd (show GI W4 wo.heap.size ⟨mm, y.take q, headId yy 0⟩ from hg1); have HB4 := hyd hb1; have HYYL := hyd hyyl
        have hen : e + 21 ≤ n := by omega
        clear hg1 hb1 hW4 HG1 HB1 q1 z1 cvm cvb ms hyy hyyl g2
        go_wp2_with fail
        go_loopw [10] (fun v10 wr => ∃ i : Nat, i ≤ 20 ∧ v10 = .int .i64 i ∧ GI wr wo.heap.size ⟨mm, y.take q, headId yy i⟩ ∧ Below wo.heap.size wo wr) (fun v10 _ => 20 - (intOf v10).toNat)
        case atStart => exact ⟨0, Nat.zero_le _, rfl, HG4.out, HB4.out⟩
        case round =>
         obtain ⟨i, hi, rfl, hgi, hbi⟩ := hrel; have HGI2 := hyd hgi; have HBI2 := hyd hbi; have HBA2 := hyd (HBR.out.trans (hbi.mono HBR.out.size)); clear hgi hbi
         by_cases hi20 : i < 20
         ·have hjl : e + 1 + i < bs.length := by rw [← HN.out]; omega
          have qb : wr.cell? ⟨b, o + (e + 1 + i), none⟩ = some (.int .u8 (yy.getD i 0).toNat) := by
           rw [HBA2.out.cell (p := ⟨b, o + (e + 1 + i), none⟩) hbl, HCL.out (e + 1 + i) hjl, ← HYY.out, ← HY.out, List.drop_drop, List.getD_eq_getElem?_getD, List.getElem?_drop]
           have h1 : k + ml + 1 + (q + 1) + i = e + 1 + i := by have := HE.out; omega
           rw [h1, List.getElem?_eq_getElem hjl]
           rfl
          have hg0 := HGI2.out.cellId i (by rw [headId_len yy i hi HYYL.out]; exact hi20); have hz0 := not_frozen HGI2.out (2 + i); have HGN := hyd (GI.byte hi20 HYYL.out HGI2.out); have HBN := hyd (show Below wo.heap.size wo (wr.setCell ⟨wo.heap.size, 2 + i, none⟩ (.int .u8 (yy.getD i 0).toNat)) from HBI2.out.setCell (by show wo.heap.size ≤ wo.heap.size; exact Nat.le_refl _) _); obtain ⟨x, hx⟩ : ∃ x : Int, ((yy.getD i 0).toNat : Int) = x := ⟨_, rfl⟩; rw [hx] at qb HGN HBN; clear hx hjl
          go_wp2_with fail
          refine ⟨?re3, ?me3⟩
          case re3 => exact ⟨i + 1, by omega, by go_num, HGN.out, HBN.out⟩
          case me3 => simp [intOf]; omega
         ·obtain rfl : i = 20 := by omega
          obtain ⟨it, hit⟩ : ∃ it : Itm, (⟨mm, y.take q, yy.take 20⟩ : Itm) = it := ⟨_, rfl⟩; have hg2 := HGI2.out; rw [headId_all, hit] at hg2; have htk := HTK.out; rw [HYY.out, hit] at htk; obtain ⟨t3, t2⟩ := take_back htk
          have hrest : y.drop (q + 21) = bs.drop (e + 21) := by rw [← HY.out, List.drop_drop]; congr 1; have := HE.out; omega
          rw [hrest] at t2
          have hfn : flatI (p ++ [it]) ++ bs.drop (e + 21) = bs := by
           rw [flat_append, show flatI [it] = printIt it by simp [flatI], List.append_assoc, ← t2, ← HR.out, HFL.out]
          have HFN := hyd hfn
          have HFK2 := hyd (show (flatI (p ++ [it])).length = e + 21 by
           have h1 := congrArg List.length hfn; rw [List.length_append, List.length_drop] at h1; have h2 := HN.out
           omega)
          have HNI := hyd (show ∀ j ∈ p ++ [it], fine j from fun j hj => by
           rcases List.mem_append.1 hj with hj | hj
           ·exact HFI.out j hj
           ·rw [List.mem_singleton.1 hj]; exact t3)
          have HIDI := hyd t3.2.2; obtain ⟨A, hA⟩ : ∃ A, arrI it = A := ⟨_, rfl⟩; have HA := hyd hA; have HAS := hyd (show A.size = 22 by rw [← hA]; exact arrI_size it t3.2.2); have H2R := hyd (show wr.heap[wo.heap.size]? = some (.cells A 77 (0, 0)) by rw [← hA]; exact hg2); have o1 := ownI_below HOWN.out HBI2.out; have b5 := (Below.refl wr.heap.size wr).alloc (Nat.le_refl _) (.cells A 77); have HO5 := hyd (ownI_below o1 b5); have HB5 := hyd (HBA2.out.trans (b5.mono HBA2.out.size)); have HPC := hyd (show p.length ≤ 1000000000 by have h1 := flat_count p; have h2 := HFK.out; omega); clear hit hg2 htk t3 t2 hrest hfn hA o1 b5
          go_wp2_with (first
           | (with_reducible refine wpList_load_row rfl 77 (.tmp 6) rfl wo.heap.size rfl 77 A (0, 0) _ H2R.out Tryz.underlying77 rfl (info_arr A HAS.out) ?_)
           | (with_reducible refine wpList_build_item rfl (.tmp 77) rfl A HAS.out rfl ?_)
           | (at_builtin; refine wpList_append_item rfl _ _ rfl w.heap.size _ p it wr.heap.size A HA.out.symm rfl rfl (heap_alloc_new wr _) HIDI.out HO5.out HPC.out HB5.out.size ?_)
           | fail)
          intro v6 w6 o6 g6'; have HO6 := hyd o6; have HB6' := hyd (HB5.out.grown g6' HB5.out.size (fun j hj => (HO5.out.lt j hj).1)); clear o6 g6'; go_wp2; refine ⟨?re2, ?me2⟩
          case re2 => exact ⟨p ++ [it], e + 21, by go_num, by omega, HFK2.out, HFN.out, HNI.out, HO6.out, HB6'.out⟩
          case me2 => have h1 := HE.out; simp [intOf]; omega
   ·obtain rfl : k = n := by omega
    have HFL2 := hyd (show flatI p = bs by
     have h1 := HFL.out
     rwa [List.drop_eq_nil_of_le (by rw [HN.out]; exact Nat.le_refl _), List.append_nil] at h1)
    obtain ⟨a', c', hv, hl1, hl2, hit, hno⟩ := ownI_items HOWN.out (fun i hi => (HFI.out i hi).2.2); subst hv; have hpc := flat_count p; have hpk := HFK.out; have HRI := hyd (show RedI wr (.slice a' p.length c') p from ⟨a', c', rfl, hit, hno, hl1, hl2⟩); have cR := rtRight_is a' p.length c' p wr rfl (by unfold maxLen; omega) hit (fun i hi => (HFI.out i hi).2.2) (fun i hi => by have := name_le hi; omega) (TB.out.below HBR.out); obtain ⟨m, hm⟩ : ∃ m, p.length = m := ⟨_, rfl⟩; rw [hm] at cR hpc; have HM := hyd hm
    have hm6 : m ≤ 65536 := by omega
    clear hit hno hl1 hl2 HOWN hpc hpk hlt
    by_cases hp0 : m = 0
    ·have g0 : ¬ (m : Int) > 0 := by omega
     have HPT := hyd (show ParsedT bs p 0 from .inr (.inl ⟨HB6.out, rfl, HFL2.out, HFI.out, .inl (List.eq_nil_of_length_eq_zero (by rw [HM.out]; exact hp0))⟩)); clear hp0 cR; go_wp2
     go_ret2
     refine ⟨_, p, 0, rfl, ?_, HPT.out, HBR.out⟩; rw [← HM.out]; exact HRI.out
    ·have g0 : (m : Int) > 0 := by omega
     cases hr : rightIt p with
     | true =>
      rw [hr] at cR; have HPT := hyd (show ParsedT bs p 0 from .inr (.inl ⟨HB6.out, rfl, HFL2.out, HFI.out, .inr hr⟩)); clear hp0 hr
      go_wp2_with fail
      refine cR.mono ?_; rintro e w1 ⟨rfl, b1⟩; have HR1 := hyd (HRI.out.keep b1); have HB1 := hyd (HBR.out.trans (b1.mono HBR.out.size)); clear b1; go_wp2
      go_ret2
      refine ⟨_, p, 0, rfl, ?_, HPT.out, HB1.out⟩; rw [← HM.out]; exact HR1.out
     | false =>
      rw [hr] at cR
      have HPT := hyd (show ParsedT bs [] 4 from .inr (.inr ⟨HB6.out, rfl, rfl, fun q hq hq2 e => by
       have := flat_inj q p hq HFI.out (by rw [e, HFL2.out]); subst this
       rcases hq2 with h | h
       ·subst h; exact hp0 (by rw [← HM.out]; rfl)
       ·rw [hr] at h; cases h⟩))
      clear hp0 hr
      go_wp2_with fail
      refine cR.mono ?_; rintro e w1 ⟨rfl, b1⟩; have HB1 := hyd (HBR.out.trans (b1.mono HBR.out.size)); clear b1; go_wp2
      go_ret2
      exact ⟨_, [], 4, rfl, RedI.none _, HPT.out, HB1.out⟩
end Go.Proofs.YtnbcbiglkmdepaaGreatDoor
