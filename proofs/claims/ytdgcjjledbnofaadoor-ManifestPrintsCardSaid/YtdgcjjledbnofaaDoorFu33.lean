/-
  Texts that belong together, one behind the other.
-/
import Derived.Test.YtdgcjjledbnofaaDoorFu32
import Derived.IntWalk
import Derived.WalkSmall
import Derived.OwnWalk
import Derived.Test.YtdgcjjledbnofaaDoorFu01
import Derived.Deep.QuietTactic
import Derived.BigQuiet
import Derived.Laws.OwnMore
import Derived.Laws.CopyOwn
/-
  The helper Own of the statements over items: a copy with three items of room behind it.
-/
namespace Go.Proofs.YtdgcjjledbnofaaDoor
set_option maxRecDepth 20000
open Go.RowKit
set_option linter.unusedVariables false
set_option linter.unusedSimpArgs false

/-- What Own leaves: the copy, and its room, in a block of its own. -/
def OwnFil (w : World) (g : Nat) (l : List Fil) (f : Fil) : Prop :=
  w.ownsRow g 28 22 (.slice (some ⟨g, 0, none⟩) (l.length + 3) (l.length + 3)) (l.length + 3) ((l ++ List.replicate 3 f).flatMap cellsF)
theorem OwnFil.keep {w w' : World} {g : Nat} {l : List Fil} {f : Fil} (h : OwnFil w g l f) (hb : Below w.heap.size w w') : OwnFil w' g l f := ownF_keep_n h hb
theorem OwnFil.lt {w : World} {g : Nat} {l : List Fil} {f : Fil} (h : OwnFil w g l f) : g < w.heap.size := ownF_lt_n h
set_option maxHeartbeats 8000000 in
theorem OwnFil_any (a : Option Addr) (n c : Nat) (l : List Fil) (f : Fil) (w : World) (h : FilesAt w a l) (hnone : a = none → n = 0 ∧ c = 0) (hl : n = l.length) (hn : n ≤ 1000000) (hid : ∀ i ∈ l, i.id.length = 20) (hf : f.id.length = 20) :
    Calls Tryd.prog 7 #[.slice a n c, .agg (arrF f)] w fun e w' => e = .returned (.slice (some ⟨w.heap.size + 1, 0, none⟩) n (n + 3)) ∧ OwnFil w' (w.heap.size + 1) l f ∧ Below w.heap.size w w' := by
  obtain ⟨i0, hi, hz0, hz1, hz2⟩ := infoF_all
  obtain ⟨A, hA⟩ : ∃ A, arrF f = A := ⟨_, rfl⟩
  have HAS := Lib.hid (show A.size = 22 by rw [← hA]; exact arrF_size f hf)
  have HA := Lib.hid hA
  have b1 := (Below.refl w.heap.size w).alloc (Nat.le_refl _) (.cells A 28)
  have h1 := heap_alloc_new w (.cells A 28)
  have hs1 : (w.alloc (.cells A 28)).heap.size = w.heap.size + 1 := by simp
  have HC := Lib.hid (fun w' (hb : Below w.heap.size w w') => FilesAt.cells (h.keep hb) hid)
  have HFL := Lib.hid (flatF_len l hid)
  have HN := Lib.hid hnone
  have HL := Lib.hid hl
  have H1 := Lib.hid h1
  have B1 := Lib.hid b1
  have S1 := Lib.hid hs1
  rw [hA]
  obtain ⟨g, hg⟩ : ∃ g, g = w.heap.size + 1 := ⟨_, rfl⟩
  have HG := Lib.hid hg
  rw [← hg]
  rw [← hg] at hs1
  clear h hnone hl hid hA b1 h1 hg
  go_enter Tryd.func7, Tryd.ntmps7
  go_wp2_with (at_make; refine wpList_make_own _ rfl _ _ 22 rfl w.heap.size 28 i0 (.agg (arrF zFil)) 22 Tryd.underlying22 hi hz0 hz1 _ _ _ (n + 3) rfl rfl (by omega) (by rw [hz2]; omega) (by unfold maxLen; omega) (by have := S1.out; omega) ?_)
  intro w0 hown0 hgrow0
  have hb0 : Below w.heap.size w w0 := B1.out.grown hgrow0 B1.out.size (fun k h => by cases h)
  have hx0 := (hgrow0.block w.heap.size (by have := S1.out; omega) (by simp)).trans H1.out
  have HC0 := Lib.hid (HC.out w0 hb0)
  have HN2 := Lib.hid (show (l.flatMap cellsF).length = n * 22 by rw [HFL.out, ← HL.out])
  have HX0 := Lib.hid hx0
  clear hgrow0 hx0
  go_wp2_with (at_builtin; refine wpList_append_fits_any _ rfl _ _ 22 rfl w.heap.size 28 i0 22 Tryd.underlying22 hi hz1 g 0 (n + 3) _ rfl hown0 a n c (l.flatMap cellsF) rfl HN2.out HN.out HC0.out (flatF_one l) (by omega) ?_)
  intro w1 hown1 hgrow1
  have hlt0 := Nat.lt_of_lt_of_le (ownF_lt_n hown0) hgrow1.size
  have hb1 : Below w.heap.size w w1 := hb0.grown hgrow1 hb0.size (fun k hk => by cases hk; have := HG.out; omega)
  have hx1 := (hgrow1.block w.heap.size (lt_of_heap HX0.out) (by intro e; have := HG.out; cases e; omega)).trans HX0.out
  clear hown0 HC0 hb0 HX0 hgrow1
  have hown2 : w1.ownsRow w.heap.size 28 22 (.slice (some ⟨g, 0, none⟩) n (n + 3)) n (l.flatMap cellsF) := by simpa using hown1
  obtain ⟨ys, hown, hys⟩ := ownF_full_n hown2
  clear hown2 hown1
  have HY := Lib.hid hys; have HX1 := Lib.hid hx1; have HOWN := Lib.hid hown; have HB1 := Lib.hid hb1
  clear hys hx1 hown hb1 hlt0 HN2
  go_wp2_with fail
  go_loopw [7] (fun i wr => ∃ (k : Nat) (ys : List Value), n ≤ k ∧ k ≤ n + 3 ∧ i = .int .i64 k ∧ wr.ownsRow w.heap.size 28 22 (.slice (some ⟨g, 0, none⟩) (n + 3) (n + 3)) (n + 3) ys ∧
      ys.take (k * 22) = (l ++ List.replicate (k - n) f).flatMap cellsF ∧ wr.heap[w.heap.size]? = some (.cells A 28 (0, 0)) ∧ Below w.heap.size w wr) (fun i _ => n + 3 - (intOf i).toNat)
  case atStart => exact ⟨n, ys, Nat.le_refl _, by omega, rfl, HOWN.out, by rw [HY.out]; simp, HX1.out, HB1.out⟩
  case round =>
    clear HOWN HB1 HY HX1
    obtain ⟨k, ys, hk0, hk, rfl, hown, hys, hx, hbr⟩ := hrel
    have HY := Lib.hid hys; have HOWN := Lib.hid hown; have HX := Lib.hid hx; have HBR := Lib.hid hbr
    clear hys hown hx hbr
    by_cases hlt : k < n + 3
    · go_wp2_with (first
        | (with_reducible refine wpList_load_row rfl 28 _ rfl w.heap.size rfl 28 A (0, 0) _ HX.out Tryd.underlying28 rfl (info_arrF A HAS.out) ?_)
        | (refine wpList_store_cellsF22 rfl _ _ rfl w.heap.size g (n + 3) (n + 3) k _ ys f A HA.out.symm rfl rfl rfl hlt hf HOWN.out ?_))
      intro w2 hown2 hgr2
      have HO2 := Lib.hid hown2
      have HB2 := Lib.hid (HBR.out.grown hgr2 HBR.out.size (fun k hk => by cases hk; have := HG.out; omega))
      have HX2 := Lib.hid ((hgr2.block w.heap.size (lt_of_heap HX.out) (by intro e; have := HG.out; cases e; omega)).trans HX.out)
      clear hown2 hgr2
      go_wp2
      go_roundw
      case rel =>
        refine ⟨k + 1, _, by omega, by omega, by go_num, HO2.out, ?_, HX2.out, HB2.out⟩
        rw [putFl_take ys k f hf (by rw [HOWN.out.1]; omega), HY.out, show k + 1 - n = (k - n) + 1 by omega, List.replicate_succ', ← List.append_assoc, List.flatMap_append]
        simp
      case measure => simp [intOf]; omega
    · obtain rfl : k = n + 3 := by omega
      have hY := HY.out
      rw [List.take_of_length_le (by rw [HOWN.out.1]; omega), show n + 3 - n = 3 by omega] at hY
      subst hY
      go_wp2
      go_ret
      refine ⟨rfl, ?_, HBR.out⟩
      unfold OwnFil
      rw [← HL.out]
      have ho := HOWN.out
      refine ⟨ho.1, ?_⟩
      rcases ho.2 with ⟨h', _⟩ | ⟨g', cap', cur, h', hb', r⟩
      · simp at h'
      · refine .inr ⟨g', cap', cur, h', ?_, r⟩
        simp only [Value.slice.injEq, Option.some.injEq, Addr.mk.injEq, and_true, true_and] at h'
        omega
end Go.Proofs.YtdgcjjledbnofaaDoor

/-
  Cut of Za: OwnFil.items, OwnFil.front, rowF_arr, rowF_keep, KeptFil_any.
-/
namespace Go.Proofs.YtdgcjjledbnofaaDoor
set_option maxRecDepth 20000
open Go.RowKit
set_option linter.unusedVariables false
set_option linter.unusedSimpArgs false

theorem OwnFil.items {w : World} {g : Nat} {l : List Fil} {f : Fil} (h : OwnFil w g l f) (hid : ∀ i ∈ l, i.id.length = 20) (hf : f.id.length = 20) : FilesAt w (some ⟨g, 0, none⟩) (l ++ List.replicate 3 f) := by
  have hall : ∀ i ∈ l ++ List.replicate 3 f, i.id.length = 20 := fun i hi => by
    rcases List.mem_append.1 hi with h | h
    · exact hid i h
    · rw [List.eq_of_mem_replicate h]; exact hf
  refine fun _ => ⟨g, 0, rfl, h.lt, fun k hk j v hv => ?_⟩
  have hr := flatF_at _ hall k hk j v hv
  have hlt : k * 22 + j < (l.length + 3) * 22 := by
    have := (List.getElem?_eq_some_iff.1 hr).1
    rw [flatF_len _ hall] at this
    simpa using this
  show w.cell? ⟨g, 0 + k * 22 + j, none⟩ = some v
  rw [show 0 + k * 22 + j = k * 22 + j by omega, h.cellAt (k * 22 + j) hlt]
  exact hr
theorem OwnFil.front {w : World} {g : Nat} {l : List Fil} {f : Fil} (h : OwnFil w g l f) (hid : ∀ i ∈ l, i.id.length = 20) (hf : f.id.length = 20) : FilesAt w (some ⟨g, 0, none⟩) l := by
  have := (h.items hid hf).take l.length
  rwa [List.take_left] at this
theorem rowF_arr {w : World} {g : Nat} {A : Array Value} {t : TypeId} {fr : Nat × Nat} (h : w.heap[g]? = some (.cells A t fr)) : w.rangeAt g 0 A.toList := fun j v hv => by
  rw [Nat.zero_add, Lib.cell_of_heap h, ← hv]
  simp
theorem rowF_keep {w u : World} {g : Nat} {cs : List Value} (h : w.rangeAt g 0 cs) (hg : g < w.heap.size) (hb : Below w.heap.size w u) : u.rangeAt g 0 cs := fun j v hv => (hb.cell (p := ⟨g, 0 + j, none⟩) hg).trans (h j v hv)
set_option maxHeartbeats 8000000 in
theorem KeptFil_any (g n c2 : Nat) (a : Option Addr) (l : List Fil) (f : Fil) (w : World) (ho : OwnFil w g l f) (h : FilesAt w a l) (hn : n = l.length) (hm : n ≤ 1000000) (hid : ∀ i ∈ l, i.id.length = 20) (hf : f.id.length = 20) :
    Calls Tryd.prog 15 #[.slice (some ⟨g, 0, none⟩) n (n + 3), .slice a n c2, .agg (arrF f)] w fun e w' => e = .returned (.bool true) ∧ Below w.heap.size w w' := by
  obtain ⟨A, hA⟩ : ∃ A, arrF f = A := ⟨_, rfl⟩
  have HAS := Lib.hid (show A.size = 22 by rw [← hA]; exact arrF_size f hf)
  have b1 := (Below.refl w.heap.size w).alloc (Nat.le_refl _) (.cells A 28)
  have P := Lib.hid (fun u (hb : Below w.heap.size w u) => PlainFil_any (some ⟨g, 0, none⟩) a n (n + 3) c2 l u ((ho.front hid hf).keep hb) (h.keep hb) hn hm hid)
  have N := fun u => neq_file f f hf hf u
  rw [eqF_same, hA] at N
  have hit := ho.items hid hf
  have hr : ∀ k, l.length ≤ k → k < l.length + 3 → ∀ u, Below w.heap.size w u → u.rangeAt g (k * 22) A.toList := (fun k hk0 hk u hb j v hv => by
    obtain ⟨b, o, e1, hlt, hc⟩ := hit (by simp)
    cases e1
    refine (hb.cell (p := ⟨g, k * 22 + j, none⟩) hlt).trans ?_
    have e2 : (l ++ List.replicate 3 f)[k]'(by simp; omega) = f := by
      rw [List.getElem_append_right hk0]
      exact List.getElem_replicate ..
    have := hc k (by simp; omega) j v (by rw [e2, ← hv, ← hA]; show (cellsF f)[j]? = _; simp [arrF])
    rw [show rowF.size = 22 from rfl] at this
    rwa [show 0 + k * 22 + j = k * 22 + j by omega] at this)
  have H1 := Lib.hid (heap_alloc_new w (.cells A 28))
  have B1 := Lib.hid b1
  have HL := Lib.hid hn
  have LA := Lib.hid (show (Tryd.prog.info? 28).map (·.size) = some A.toList.length by rw [Array.length_toList]; exact info_arrF A HAS.out)
  rw [hA]
  have HR := Lib.hid hr
  clear ho h hid hA b1 hit hn hr
  go_enter Tryd.func15, Tryd.ntmps15
  go_wp2_with fail
  refine (P.out _ B1.out).mono ?_
  rintro e w1 ⟨rfl, hb1⟩
  have HX := Lib.hid ((hb1.block w.heap.size (lt_of_heap H1.out)).trans H1.out)
  have HB1 := Lib.hid (B1.out.trans (hb1.mono B1.out.size))
  clear hb1
  go_wp2_with fail
  go_loopw [8] (fun i wr => ∃ k : Nat, n ≤ k ∧ k ≤ n + 3 ∧ i = .int .i64 k ∧ wr.heap[w.heap.size]? = some (.cells A 28 (0, 0)) ∧ Below w.heap.size w wr) (fun i _ => n + 3 - (intOf i).toNat)
  case atStart => exact ⟨n, Nat.le_refl _, by omega, rfl, HX.out, HB1.out⟩
  case round =>
    obtain ⟨k, hk0, hk, rfl, hx, hbr⟩ := hrel
    have HXR := Lib.hid hx; have HBR := Lib.hid hbr
    clear hx hbr
    by_cases hlt : k < n + 3
    · have HRK := Lib.hid (HR.out k (by rw [← HL.out]; omega) (by rw [← HL.out]; omega))
      have hrow := rowF_arr (w := wr) (A := A) HXR.out
      have HRW := Lib.hid hrow
      clear hrow
      go_wp2_with fail
      refine wp_region_held_drew (S := fun u => Below wr.heap.size wr u) (by kernel_rfl) (Below.refl _ _).drew (fun hHeld => ?_)
      refine wpAnyH_take (i := 0) (v := ?hv0) rfl (by kernel_rfl) (by kernel_rfl) (by kernel_rfl) (fun _ _ _ h => h) (Or.inl ⟨by kernel_rfl, ?hy0⟩) hHeld ?_
      case hy0 => intro u hu; go_simp; try with_reducible rfl
      try simp only [Act.put, List.setIfInBounds_toArray, List.set_cons_zero, List.set_cons_succ]
      refine wpAnyH_take (i := 1) (v := ?hv1) rfl (by kernel_rfl) (by kernel_rfl) (by kernel_rfl) (fun _ _ _ h => h) (Or.inl ⟨by kernel_rfl, ?hy1⟩) hHeld ?_
      case hy1 => intro u hu; go_simp; try with_reducible rfl
      try simp only [Act.put, List.setIfInBounds_toArray, List.set_cons_zero, List.set_cons_succ]
      refine wpAnyH_take (i := 2) (v := ?hv2) rfl (by kernel_rfl) (by kernel_rfl) (by kernel_rfl) (fun _ _ _ h => h) (Or.inl ⟨by kernel_rfl, ?hy2⟩) hHeld ?_
      case hy2 => intro u hu; go_simp; try with_reducible rfl
      try simp only [Act.put, List.setIfInBounds_toArray, List.set_cons_zero, List.set_cons_succ]
      refine wpAnyH_take (i := 3) rfl (by kernel_rfl) (by kernel_rfl) (by kernel_rfl) (fun _ _ _ h => h) (yieldsIf_load_mid (by kernel_rfl) 28 (.tmp 36) (by kernel_rfl) g (k * 22) (by kernel_rfl) A.toList _ (fun u hu => HRK.out u (HBR.out.trans (hu.mono HBR.out.size))) Tryd.underlying28 rfl LA.out) hHeld ?_
      try simp only [Act.put, List.setIfInBounds_toArray, List.set_cons_zero, List.set_cons_succ]
      refine wpAnyH_take (i := 4) rfl (by kernel_rfl) (by kernel_rfl) (by kernel_rfl) (fun _ _ _ h => h) (yieldsIf_load_mid (by kernel_rfl) 28 (.tmp 5) (by kernel_rfl) w.heap.size 0 (by kernel_rfl) A.toList _ (fun u hu => rowF_keep HRW.out (lt_of_heap HXR.out) hu) Tryd.underlying28 rfl LA.out) hHeld ?_
      try simp only [Act.put, List.setIfInBounds_toArray, List.set_cons_zero, List.set_cons_succ]
      refine wpAnyH_take (i := 5) (v := ?hv5) rfl (by kernel_rfl) (by kernel_rfl) (by kernel_rfl) (fun _ _ _ h => h) (Or.inl ⟨by kernel_rfl, ?hy5⟩) hHeld ?_
      case hy5 => intro u hu; go_simp; try with_reducible rfl
      try simp only [Act.put, List.setIfInBounds_toArray, List.set_cons_zero, List.set_cons_succ]
      refine wpAnyH_done (by kernel_rfl) ?_ _
      have HB2 := Lib.hid (HBR.out.trans (hHeld.mono HBR.out.size))
      have HX2 := Lib.hid (heap_keep HXR.out hHeld)
      clear hHeld
      go_wp2
      go_roundw
      case rel => exact ⟨k + 1, by omega, by omega, by go_num, HX2.out, HB2.out⟩
      case measure => simp [intOf]; omega
    · obtain rfl : k = n + 3 := by omega
      go_wp2
      go_ret
      exact ⟨rfl, HBR.out⟩
end Go.Proofs.YtdgcjjledbnofaaDoor

/-
  The helpers of the statements over bytes: Same, Plain.
-/
namespace Go.Proofs.YtdgcjjledbnofaaDoor
open Go.RowKit
set_option linter.unusedVariables false

set_option maxHeartbeats 400000 in
theorem eq_byte (x y : Int) (w : World) :
    Calls Tryd.prog 42 #[.int .u8 x, .int .u8 y] w fun e w' => e = .returned (.bool (x == y)) ∧ w = w' := by
  go_enter Tryd.func42, Tryd.ntmps42
  go_wp2
  go_ret
  exact ⟨rfl, rfl⟩

theorem eq_byte_same (x : Int) (w : World) :
    Calls Tryd.prog 42 #[.int .u8 x, .int .u8 x] w fun e w' => e = .returned (.bool true) ∧ w = w' := by
  have h := eq_byte x x w
  rwa [show (x == x) = true by simp] at h

set_option maxHeartbeats 400000 in
theorem Same_some (b1 o1 b2 o2 c1 c2 : Nat) (l : List UInt8) (w : World) (h1 : b1 < w.heap.size) (h2 : b2 < w.heap.size)
    (hc1 : ∀ i (h : i < l.length), w.cell? ⟨b1, o1 + i, none⟩ = some (.int .u8 (l[i]).toNat)) (hc2 : ∀ i (h : i < l.length), w.cell? ⟨b2, o2 + i, none⟩ = some (.int .u8 (l[i]).toNat)) (hn : l.length ≤ 1099511627776) :
    Calls Tryd.prog 41 #[.slice (some ⟨b1, o1, none⟩) l.length c1, .slice (some ⟨b2, o2, none⟩) l.length c2, .func (.func 42) #[] #[]] w fun e w' => e = .returned (.bool true) ∧ Below w.heap.size w w' := by
  have HC1 := Lib.hid hc1; clear hc1
  have HC2 := Lib.hid hc2; clear hc2
  go_enter Tryd.func41, Tryd.ntmps41
  go_wp2_with fail
  go_loopw [7] (fun i wr => ∃ k : Nat, k ≤ l.length ∧ i = .int .i64 k ∧ Below w.heap.size w wr) (fun i _ => l.length - (intOf i).toNat)
  case atStart => exact ⟨0, Nat.zero_le _, rfl, Below.refl _ _⟩
  case round =>
    obtain ⟨k, hk, rfl, hbr⟩ := hrel
    by_cases hlt : k < l.length
    · have hcell1 : wr.cell? ⟨b1, o1 + k, none⟩ = some (.int .u8 (l[k]).toNat) := (hbr.cell (p := ⟨b1, o1 + k, none⟩) h1).trans (HC1.out k hlt)
      have hcell2 : wr.cell? ⟨b2, o2 + k, none⟩ = some (.int .u8 (l[k]).toNat) := (hbr.cell (p := ⟨b2, o2 + k, none⟩) h2).trans (HC2.out k hlt)
      obtain ⟨x, hxe⟩ : ∃ x : Int, x = (l[k]).toNat := ⟨_, rfl⟩
      rw [← hxe] at hcell1 hcell2
      clear hxe
      go_wp2_with fail
      go_quiet ((go_at_call 42; exact Calls.quiet_of_same ((eq_byte_same _ _).mono fun _ _ h => ⟨h.1, h.2.symm⟩)))
      go_wp2
      go_roundw
      case rel => exact ⟨k + 1, by omega, by go_num, _root_.Go.below_drewN hbr _⟩
      case measure => simp [intOf]; omega
    · obtain rfl : k = l.length := by omega
      go_wp2
      go_ret
      exact ⟨rfl, hbr⟩
set_option maxHeartbeats 400000 in
theorem Same_none (a1 a2 : Option Addr) (c1 c2 : Nat) (w : World) :
    Calls Tryd.prog 41 #[.slice a1 0 c1, .slice a2 0 c2, .func (.func 42) #[] #[]] w fun e w' => e = .returned (.bool true) ∧ Below w.heap.size w w' := by
  go_enter Tryd.func41, Tryd.ntmps41
  go_wp2_with fail
  refine wp_loop_rounds 1 ?_
  rw [rounds_succ]
  go_wp2
  go_ret
  exact ⟨rfl, Below.refl _ _⟩
theorem Same_any (a1 a2 : Option Addr) (n1 n2 c1 c2 : Nat) (l : List UInt8) (w : World) (h1 : BAt w a1 l) (h2 : BAt w a2 l) (e1 : n1 = l.length) (e2 : n2 = l.length) (hn : l.length ≤ 1099511627776) :
    Calls Tryd.prog 41 #[.slice a1 n1 c1, .slice a2 n2 c2, .func (.func 42) #[] #[]] w fun e w' => e = .returned (.bool true) ∧ Below w.heap.size w w' := by
  subst e1; subst e2
  by_cases hp : 0 < l.length
  · obtain ⟨b1, o1, rfl, hb1, hc1⟩ := h1 hp
    obtain ⟨b2, o2, rfl, hb2, hc2⟩ := h2 hp
    exact Same_some b1 o1 b2 o2 c1 c2 l w hb1 hb2 hc1 hc2 hn
  · obtain rfl : l = [] := List.eq_nil_of_length_eq_zero (by omega)
    exact Same_none a1 a2 c1 c2 w
set_option maxHeartbeats 400000 in
theorem Plain_any (a1 a2 : Option Addr) (n1 n2 c1 c2 : Nat) (l : List UInt8) (w : World) (h1 : BAt w a1 l) (h2 : BAt w a2 l) (e1 : n1 = l.length) (e2 : n2 = l.length) (hn : l.length ≤ 1099511627776) :
    Calls Tryd.prog 29 #[.slice a1 n1 c1, .slice a2 n2 c2] w fun e w' => e = .returned (.bool true) ∧ Below w.heap.size w w' := by
  have C := Lib.hid (Same_any a1 a2 n1 n2 c1 c2 l w h1 h2 e1 e2 hn)
  clear h1 h2 e1 e2
  go_enter Tryd.func29, Tryd.ntmps29
  go_wp2_with fail
  refine C.out.mono ?_
  rintro e w1 ⟨rfl, hb⟩
  go_wp2
  go_ret
  exact ⟨rfl, hb⟩
end Go.Proofs.YtdgcjjledbnofaaDoor
