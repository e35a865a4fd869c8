/-
  Texts that belong together, one behind the other.
-/
import Derived.Test.YtonkclkopmdahaaGreatDoorFu18
import Derived.Deep.MidRow
import Derived.Deep.QuietTactic
import Derived.BigQuiet
import Derived.Test.YtonkclkopmdahaaGreatDoorFu04
import Derived.Test.YtonkclkopmdahaaGreatDoorFu13
import Derived.Test.YtonkclkopmdahaaGreatDoorFu10
import Derived.IntWalk
import Derived.WalkSmall
/-
  The helpers Same, Plain, Kept of the statements over ids; few.
-/
namespace Go.Proofs.YtonkclkopmdahaaGreatDoor
set_option maxRecDepth 20000
open Go.RowKit
set_option linter.unusedVariables false
set_option linter.unusedSimpArgs false

set_option maxHeartbeats 2000000 in
theorem eq_idD (i j : List UInt8) (hi : i.length = 20) (hj : j.length = 20) (w : World) :
    Calls Tryz.prog 58 #[.agg (arrD i), .agg (arrD j)] w fun e w' => e = .returned (.bool (eqD i j)) ∧ Below w.heap.size w w' := by
  have E := fun u => eql_arrD i j hi hj u
  have HA := Lib.hid (arrD_size i hi); have HB := Lib.hid (arrD_size j hj)
  generalize arrD i = A at *
  generalize arrD j = B at *
  generalize eqD i j = r at *
  have b1 := (Below.refl w.heap.size w).alloc (Nat.le_refl _) (.cells A 23)
  have b2 := b1.alloc b1.size (.cells B 23)
  have e1 : (w.alloc (.cells A 23)).heap.size = w.heap.size + 1 := by simp
  have h1 := (((Below.refl (w.alloc (.cells A 23)).heap.size (w.alloc (.cells A 23))).alloc (Nat.le_refl _) (.cells B 23)).block w.heap.size (by simp)).trans (heap_alloc_new w _)
  have h2 := heap_alloc_new (w.alloc (.cells A 23)) (.cells B 23)
  rw [e1] at h2
  have H1 := Lib.hid h1; have H2 := Lib.hid h2; have B2 := Lib.hid b2
  clear b1 b2 h1 h2 hi hj e1
  go_enter Tryz.func58, Tryz.ntmps58
  go_wp2_with (first
    | (with_reducible refine wpList_load_row rfl 23 (.tmp 2) rfl w.heap.size rfl 23 A (0, 0) _ H1.out Tryz.underlying23 rfl (infoD_arr A HA.out) ?_)
    | (with_reducible refine wpList_load_row rfl 23 (.tmp 3) rfl (w.heap.size + 1) rfl 23 B (0, 0) _ H2.out Tryz.underlying23 rfl (infoD_arr B HB.out) ?_))
  go_ret
  exact ⟨rfl, B2.out⟩
set_option maxHeartbeats 8000000 in
theorem SameIds_some (b1 o1 b2 o2 c1 c2 n : Nat) (l : List (List UInt8)) (w : World) (hn : n = l.length) (hm : n ≤ 1000000) (h1 : b1 < w.heap.size) (h2 : b2 < w.heap.size)
    (hc1 : ∀ k (h : k < l.length) j v, (cellsD l[k])[j]? = some v → w.cell? ⟨b1, o1 + k * 20 + j, none⟩ = some v) (hc2 : ∀ k (h : k < l.length) j v, (cellsD l[k])[j]? = some v → w.cell? ⟨b2, o2 + k * 20 + j, none⟩ = some v) (hid : ∀ i ∈ l, i.length = 20) :
    Calls Tryz.prog 57 #[.slice (some ⟨b1, o1, none⟩) n c1, .slice (some ⟨b2, o2, none⟩) n c2, .func (.func 58) #[] #[]] w fun e w' => e = .returned (.bool true) ∧ Below w.heap.size w w' := by
  have HC1 := Lib.hid hc1; have HC2 := Lib.hid hc2; have HID := Lib.hid hid; have HN := Lib.hid hn
  clear hc1 hc2 hid hn
  go_enter Tryz.func57, Tryz.ntmps57
  go_wp2_with fail
  go_loopw [7] (fun i wr => ∃ k : Nat, k ≤ n ∧ i = .int .i64 k ∧ Below w.heap.size w wr) (fun i _ => n - (intOf i).toNat)
  case atStart => exact ⟨0, Nat.zero_le _, rfl, Below.refl _ _⟩
  case round =>
    obtain ⟨k, hk, rfl, hbr⟩ := hrel
    have HBR := Lib.hid hbr
    clear hbr
    by_cases hlt : k < n
    · have hkl : k < l.length := by rw [← HN.out]; exact hlt
      obtain ⟨x, hx2⟩ : ∃ x, l[k] = x := ⟨_, rfl⟩
      have hidx := HID.out x (by rw [← hx2]; exact List.getElem_mem _)
      have r1 : ∀ u, Below wr.heap.size wr u → u.rangeAt b1 (o1 + k * 20) (cellsD x) := fun u hu j v hv =>
        (hu.cell (p := ⟨b1, o1 + k * 20 + j, none⟩) (Nat.lt_of_lt_of_le h1 HBR.out.size)).trans ((HBR.out.cell (p := ⟨b1, o1 + k * 20 + j, none⟩) h1).trans (HC1.out k hkl j v (by rw [hx2]; exact hv)))
      have r2 : ∀ u, Below wr.heap.size wr u → u.rangeAt b2 (o2 + k * 20) (cellsD x) := fun u hu j v hv =>
        (hu.cell (p := ⟨b2, o2 + k * 20 + j, none⟩) (Nat.lt_of_lt_of_le h2 HBR.out.size)).trans ((HBR.out.cell (p := ⟨b2, o2 + k * 20 + j, none⟩) h2).trans (HC2.out k hkl j v (by rw [hx2]; exact hv)))
      have ce : ∀ u, Below wr.heap.size wr u → Calls Tryz.prog 58 #[.agg (cellsD x).toArray, .agg (cellsD x).toArray] u fun e u' => e = .returned (.bool true) ∧ Below wr.heap.size wr u' := fun u hu =>
        (eq_idD x x hidx hidx u).mono fun e u' h => ⟨by rw [h.1, eqD_same], hu.trans (h.2.mono hu.size)⟩
      have ll : (Tryz.prog.info? 23).map (·.size) = some (cellsD x).length := by rw [cellsD_len x hidx]; exact infoD_n
      have R1 := Lib.hid r1; have R2 := Lib.hid r2; have CE := Lib.hid ce; have LX := Lib.hid ll
      clear r1 r2 ce ll hx2 hidx
      generalize cellsD x = cx at *
      go_wp2_with fail
      refine wp_region_held_drew (S := fun u => Below wr.heap.size wr u) (by kernel_rfl) (Below.refl _ _).drew (fun hHeld => ?_)
      refine wpAnyH_take (i := 0) (v := ?hv0) rfl (by kernel_rfl) (by kernel_rfl) (by kernel_rfl) (fun _ _ _ h => h) (Or.inl ⟨by kernel_rfl, ?hy0⟩) hHeld ?_
      case hy0 => intro u hu; go_simp; try with_reducible rfl
      try simp only [Act.put, List.setIfInBounds_toArray, List.set_cons_zero, List.set_cons_succ]
      refine wpAnyH_take (i := 1) (v := ?hv1) rfl (by kernel_rfl) (by kernel_rfl) (by kernel_rfl) (fun _ _ _ h => h) (Or.inl ⟨by kernel_rfl, ?hy1⟩) hHeld ?_
      case hy1 => intro u hu; go_simp; try with_reducible rfl
      try simp only [Act.put, List.setIfInBounds_toArray, List.set_cons_zero, List.set_cons_succ]
      refine wpAnyH_take (i := 2) (v := ?hv2) rfl (by kernel_rfl) (by kernel_rfl) (by kernel_rfl) (fun _ _ _ h => h) (Or.inl ⟨by kernel_rfl, ?hy2⟩) hHeld ?_
      case hy2 => intro u hu; go_simp; try with_reducible rfl
      try simp only [Act.put, List.setIfInBounds_toArray, List.set_cons_zero, List.set_cons_succ]
      refine wpAnyH_take (i := 3) (v := ?hv3) rfl (by kernel_rfl) (by kernel_rfl) (by kernel_rfl) (fun _ _ _ h => h) (Or.inl ⟨by kernel_rfl, ?hy3⟩) hHeld ?_
      case hy3 => intro u hu; go_simp; try with_reducible rfl
      try simp only [Act.put, List.setIfInBounds_toArray, List.set_cons_zero, List.set_cons_succ]
      refine wpAnyH_take (i := 4) rfl (by kernel_rfl) (by kernel_rfl) (by kernel_rfl) (fun _ _ _ h => h) (yieldsIf_load_mid (by kernel_rfl) 23 (.tmp 22) (by kernel_rfl) b1 (o1 + k * 20) (by kernel_rfl) cx _ (fun u hu => R1.out u hu) Tryz.underlying23 rfl LX.out) hHeld ?_
      try simp only [Act.put, List.setIfInBounds_toArray, List.set_cons_zero, List.set_cons_succ]
      refine wpAnyH_take (i := 5) (v := ?hv5) rfl (by kernel_rfl) (by kernel_rfl) (by kernel_rfl) (fun _ _ _ h => h) (Or.inl ⟨by kernel_rfl, ?hy5⟩) hHeld ?_
      case hy5 => intro u hu; go_simp; try with_reducible rfl
      try simp only [Act.put, List.setIfInBounds_toArray, List.set_cons_zero, List.set_cons_succ]
      refine wpAnyH_take (i := 6) (v := ?hv6) rfl (by kernel_rfl) (by kernel_rfl) (by kernel_rfl) (fun _ _ _ h => h) (Or.inl ⟨by kernel_rfl, ?hy6⟩) hHeld ?_
      case hy6 => intro u hu; go_simp; try with_reducible rfl
      try simp only [Act.put, List.setIfInBounds_toArray, List.set_cons_zero, List.set_cons_succ]
      refine wpAnyH_take (i := 7) (v := ?hv7) rfl (by kernel_rfl) (by kernel_rfl) (by kernel_rfl) (fun _ _ _ h => h) (Or.inl ⟨by kernel_rfl, ?hy7⟩) hHeld ?_
      case hy7 => intro u hu; go_simp; try with_reducible rfl
      try simp only [Act.put, List.setIfInBounds_toArray, List.set_cons_zero, List.set_cons_succ]
      refine wpAnyH_take (i := 8) rfl (by kernel_rfl) (by kernel_rfl) (by kernel_rfl) (fun _ _ _ h => h) (yieldsIf_load_mid (by kernel_rfl) 23 (.tmp 26) (by kernel_rfl) b2 (o2 + k * 20) (by kernel_rfl) cx _ (fun u hu => R2.out u hu) Tryz.underlying23 rfl LX.out) hHeld ?_
      try simp only [Act.put, List.setIfInBounds_toArray, List.set_cons_zero, List.set_cons_succ]
      refine wpAnyH_ready (rs := [9]) (by kernel_rfl) (by simp) ?_
      refine AllReadyH.cons rfl (fun K hK => ?_) AllReadyH.nil
      go_simp
      refine (CE.out _ hHeld).mono ?_
      rintro e u1 ⟨rfl, hH⟩
      clear hHeld
      refine hK.out _ _ hH (fun hHeld => ?_)
      clear hK K
      try simp only [Act.put, List.setIfInBounds_toArray, List.set_cons_zero, List.set_cons_succ]
      refine wpAnyH_take (i := 10) (v := ?hv10) rfl (by kernel_rfl) (by kernel_rfl) (by kernel_rfl) (fun _ _ _ h => h) (Or.inl ⟨by kernel_rfl, ?hy10⟩) hHeld ?_
      case hy10 => intro u hu; go_simp; try with_reducible rfl
      try simp only [Act.put, List.setIfInBounds_toArray, List.set_cons_zero, List.set_cons_succ]
      refine wpAnyH_done (by kernel_rfl) ?_ _
      have HB2 := Lib.hid (HBR.out.trans (hHeld.mono HBR.out.size))
      clear hHeld
      go_wp2
      go_roundw
      case rel => exact ⟨k + 1, by omega, by go_num, HB2.out⟩
      case measure => simp [intOf]; omega
    · obtain rfl : k = n := by omega
      go_wp2
      go_ret
      exact ⟨rfl, HBR.out⟩
end Go.Proofs.YtonkclkopmdahaaGreatDoor

/-
  The helpers Plain, Kept of the statements over ids; few.
-/
namespace Go.Proofs.YtonkclkopmdahaaGreatDoor
set_option maxRecDepth 20000
open Go.RowKit
set_option linter.unusedVariables false
set_option linter.unusedSimpArgs false

set_option maxHeartbeats 400000 in
theorem SameIds_none (a1 a2 : Option Addr) (c1 c2 : Nat) (w : World) :
    Calls Tryz.prog 57 #[.slice a1 0 c1, .slice a2 0 c2, .func (.func 58) #[] #[]] w fun e w' => e = .returned (.bool true) ∧ Below w.heap.size w w' := by
  go_enter Tryz.func57, Tryz.ntmps57
  go_wp2_with fail
  refine wp_loop_rounds 1 ?_
  rw [rounds_succ]
  go_wp2
  go_ret
  exact ⟨rfl, Below.refl _ _⟩
theorem SameIds_any (a1 a2 : Option Addr) (n c1 c2 : Nat) (l : List (List UInt8)) (w : World) (h1 : IdsAt w a1 l) (h2 : IdsAt w a2 l) (hn : n = l.length) (hm : n ≤ 1000000) (hid : ∀ i ∈ l, i.length = 20) :
    Calls Tryz.prog 57 #[.slice a1 n c1, .slice a2 n c2, .func (.func 58) #[] #[]] w fun e w' => e = .returned (.bool true) ∧ Below w.heap.size w w' := by
  by_cases hp : 0 < l.length
  · obtain ⟨b1, o1, rfl, hb1, hc1⟩ := h1 hp
    obtain ⟨b2, o2, rfl, hb2, hc2⟩ := h2 hp
    exact SameIds_some b1 o1 b2 o2 c1 c2 n l w hn hm hb1 hb2 hc1 hc2 hid
  · obtain rfl : n = 0 := by omega
    exact SameIds_none a1 a2 c1 c2 w
set_option maxHeartbeats 400000 in
theorem PlainIds_any (a1 a2 : Option Addr) (n c1 c2 : Nat) (l : List (List UInt8)) (w : World) (h1 : IdsAt w a1 l) (h2 : IdsAt w a2 l) (hn : n = l.length) (hm : n ≤ 1000000) (hid : ∀ i ∈ l, i.length = 20) :
    Calls Tryz.prog 36 #[.slice a1 n c1, .slice a2 n c2] w fun e w' => e = .returned (.bool true) ∧ Below w.heap.size w w' := by
  have C := Lib.hid (SameIds_any a1 a2 n c1 c2 l w h1 h2 hn hm hid)
  clear h1 h2 hn hm hid
  go_enter Tryz.func36, Tryz.ntmps36
  go_wp2_with fail
  refine C.out.mono ?_
  rintro e w1 ⟨rfl, hb⟩
  go_wp2
  go_ret
  exact ⟨rfl, hb⟩
theorem OwnIds.items {w : World} {g : Nat} {l : List (List UInt8)} {f : List UInt8} (h : OwnIds w g l f) (hid : ∀ i ∈ l, i.length = 20) (hf : f.length = 20) : IdsAt w (some ⟨g, 0, none⟩) (l ++ List.replicate 3 f) := by
  have hall : ∀ i ∈ l ++ List.replicate 3 f, i.length = 20 := fun i hi => by
    rcases List.mem_append.1 hi with h | h
    · exact hid i h
    · rw [List.eq_of_mem_replicate h]; exact hf
  refine fun _ => ⟨g, 0, rfl, h.lt, fun k hk j v hv => ?_⟩
  have hr := flatD_at _ hall k hk j v hv
  have hlt : k * 20 + j < (l.length + 3) * 20 := by
    have := (List.getElem?_eq_some_iff.1 hr).1
    rw [flatD_len _ hall] at this
    simpa using this
  rw [show 0 + k * 20 + j = k * 20 + j by omega, h.cellAt (k * 20 + j) hlt]
  exact hr
theorem OwnIds.front {w : World} {g : Nat} {l : List (List UInt8)} {f : List UInt8} (h : OwnIds w g l f) (hid : ∀ i ∈ l, i.length = 20) (hf : f.length = 20) : IdsAt w (some ⟨g, 0, none⟩) l := by
  have := (h.items hid hf).take l.length
  rwa [List.take_left] at this
set_option maxHeartbeats 8000000 in
theorem KeptIds_any (g n c2 : Nat) (a : Option Addr) (l : List (List UInt8)) (f : List UInt8) (w : World) (ho : OwnIds w g l f) (h : IdsAt w a l) (hn : n = l.length) (hm : n ≤ 1000000) (hid : ∀ i ∈ l, i.length = 20) (hf : f.length = 20) :
    Calls Tryz.prog 18 #[.slice (some ⟨g, 0, none⟩) n (n + 3), .slice a n c2, .agg (arrD f)] w fun e w' => e = .returned (.bool true) ∧ Below w.heap.size w w' := by
  obtain ⟨A, hA⟩ : ∃ A, arrD f = A := ⟨_, rfl⟩
  have HAS := Lib.hid (show A.size = 20 by rw [← hA]; exact arrD_size f hf)
  have b1 := (Below.refl w.heap.size w).alloc (Nat.le_refl _) (.cells A 23)
  have P := Lib.hid (fun u (hb : Below w.heap.size w u) => PlainIds_any (some ⟨g, 0, none⟩) a n (n + 3) c2 l u ((ho.front hid hf).keep hb) (h.keep hb) hn hm hid)
  have N := fun u => neq_arrD f f hf hf u
  rw [eqD_same, hA] at N
  have hit := ho.items hid hf
  have hr : ∀ k, l.length ≤ k → k < l.length + 3 → ∀ u, Below w.heap.size w u → u.rangeAt g (k * 20) A.toList := (fun k hk0 hk u hb j v hv => by
    obtain ⟨b, o, e1, hlt, hc⟩ := hit (by simp)
    cases e1
    refine (hb.cell (p := ⟨g, k * 20 + j, none⟩) hlt).trans ?_
    have e2 : (l ++ List.replicate 3 f)[k]'(by simp; omega) = f := by
      rw [List.getElem_append_right hk0]
      exact List.getElem_replicate ..
    have := hc k (by simp; omega) j v (by rw [e2, ← hv, ← hA]; simp [arrD])
    rwa [show 0 + k * 20 + j = k * 20 + j by omega] at this)
  have H1 := Lib.hid (heap_alloc_new w (.cells A 23))
  have B1 := Lib.hid b1
  have HL := Lib.hid hn
  have LA := Lib.hid (show (Tryz.prog.info? 23).map (·.size) = some A.toList.length by rw [Array.length_toList]; exact infoD_arr A HAS.out)
  rw [hA]
  have HR := Lib.hid hr
  clear ho h hid hA b1 hit hn hr
  go_enter Tryz.func18, Tryz.ntmps18
  go_wp2_with fail
  refine (P.out _ B1.out).mono ?_
  rintro e w1 ⟨rfl, hb1⟩
  have HX := Lib.hid ((hb1.block w.heap.size (lt_of_heap H1.out)).trans H1.out)
  have HB1 := Lib.hid (B1.out.trans (hb1.mono B1.out.size))
  clear hb1
  go_wp2_with fail
  go_loopw [8] (fun i wr => ∃ k : Nat, n ≤ k ∧ k ≤ n + 3 ∧ i = .int .i64 k ∧ wr.heap[w.heap.size]? = some (.cells A 23 (0, 0)) ∧ Below w.heap.size w wr) (fun i _ => n + 3 - (intOf i).toNat)
  case atStart => exact ⟨n, Nat.le_refl _, by omega, rfl, HX.out, HB1.out⟩
  case round =>
    obtain ⟨k, hk0, hk, rfl, hx, hbr⟩ := hrel
    have HXR := Lib.hid hx; have HBR := Lib.hid hbr
    clear hx hbr
    by_cases hlt : k < n + 3
    · have HRK := Lib.hid (HR.out k (by rw [← HL.out]; omega) (by rw [← HL.out]; omega))
      have hrow := row_arrD (w := wr) (A := A) HXR.out
      have HRW := Lib.hid hrow
      clear hrow
      go_wp2_with fail
      refine wp_region_held_drew (S := fun u => Below wr.heap.size wr u) (by kernel_rfl) (Below.refl _ _).drew (fun hHeld => ?_)
      refine wpAnyH_take (i := 0) (v := ?hv0) rfl (by kernel_rfl) (by kernel_rfl) (by kernel_rfl) (fun _ _ _ h => h) (Or.inl ⟨by kernel_rfl, ?hy0⟩) hHeld ?_
      case hy0 => intro u hu; go_simp; try with_reducible rfl
      try simp only [Act.put, List.setIfInBounds_toArray, List.set_cons_zero, List.set_cons_succ]
      refine wpAnyH_take (i := 1) (v := ?hv1) rfl (by kernel_rfl) (by kernel_rfl) (by kernel_rfl) (fun _ _ _ h => h) (Or.inl ⟨by kernel_rfl, ?hy1⟩) hHeld ?_
      case hy1 => intro u hu; go_simp; try with_reducible rfl
      try simp only [Act.put, List.setIfInBounds_toArray, List.set_cons_zero, List.set_cons_succ]
      refine wpAnyH_take (i := 2) (v := ?hv2) rfl (by kernel_rfl) (by kernel_rfl) (by kernel_rfl) (fun _ _ _ h => h) (Or.inl ⟨by kernel_rfl, ?hy2⟩) hHeld ?_
      case hy2 => intro u hu; go_simp; try with_reducible rfl
      try simp only [Act.put, List.setIfInBounds_toArray, List.set_cons_zero, List.set_cons_succ]
      refine wpAnyH_take (i := 3) rfl (by kernel_rfl) (by kernel_rfl) (by kernel_rfl) (fun _ _ _ h => h) (yieldsIf_load_mid (by kernel_rfl) 23 (.tmp 36) (by kernel_rfl) g (k * 20) (by kernel_rfl) A.toList _ (fun u hu => HRK.out u (HBR.out.trans (hu.mono HBR.out.size))) Tryz.underlying23 rfl LA.out) hHeld ?_
      try simp only [Act.put, List.setIfInBounds_toArray, List.set_cons_zero, List.set_cons_succ]
      refine wpAnyH_take (i := 4) rfl (by kernel_rfl) (by kernel_rfl) (by kernel_rfl) (fun _ _ _ h => h) (yieldsIf_load_mid (by kernel_rfl) 23 (.tmp 5) (by kernel_rfl) w.heap.size 0 (by kernel_rfl) A.toList _ (fun u hu => row_keepD HRW.out (lt_of_heap HXR.out) hu) Tryz.underlying23 rfl LA.out) hHeld ?_
      try simp only [Act.put, List.setIfInBounds_toArray, List.set_cons_zero, List.set_cons_succ]
      refine wpAnyH_take (i := 5) (v := ?hv5) rfl (by kernel_rfl) (by kernel_rfl) (by kernel_rfl) (fun _ _ _ h => h) (Or.inl ⟨by kernel_rfl, ?hy5⟩) hHeld ?_
      case hy5 => intro u hu; go_simp; try with_reducible rfl
      try simp only [Act.put, List.setIfInBounds_toArray, List.set_cons_zero, List.set_cons_succ]
      refine wpAnyH_done (by kernel_rfl) ?_ _
      have HB2 := Lib.hid (HBR.out.trans (hHeld.mono HBR.out.size))
      have HX2 := Lib.hid (heap_keep HXR.out hHeld)
      clear hHeld
      go_wp2
      go_roundw
      case rel => exact ⟨k + 1, by omega, by omega, by go_num, HX2.out, HB2.out⟩
      case measure => simp [intOf]; omega
    · obtain rfl : k = n + 3 := by omega
      go_wp2
      go_ret
      exact ⟨rfl, HBR.out⟩
end Go.Proofs.YtonkclkopmdahaaGreatDoor

/-
  The helper In of the statements over ids: is one among some?
-/
namespace Go.Proofs.YtonkclkopmdahaaGreatDoor
set_option maxRecDepth 20000
open Go.RowKit
set_option linter.unusedVariables false
set_option linter.unusedSimpArgs false

set_option maxHeartbeats 8000000 in
theorem InIds_some (b1 o1 c1 n : Nat) (l : List (List UInt8)) (x : List UInt8) (w : World) (hn : n = l.length) (hm : n ≤ 1000000) (h1 : b1 < w.heap.size)
    (hc1 : ∀ k (h : k < l.length) j v, (cellsD l[k])[j]? = some v → w.cell? ⟨b1, o1 + k * 20 + j, none⟩ = some v) (hid : ∀ i ∈ l, i.length = 20) (hx : x.length = 20) :
    Calls Tryz.prog 35 #[.slice (some ⟨b1, o1, none⟩) n c1, .agg (arrD x)] w fun e w' => e = .returned (.bool (amongD l x)) ∧ Below w.heap.size w w' := by
  obtain ⟨A, hA⟩ : ∃ A, arrD x = A := ⟨_, rfl⟩
  have HAS := Lib.hid (show A.size = 20 by rw [← hA]; exact arrD_size x hx)
  have E := fun (y : List UInt8) (hy : y.length = 20) u => eql_arrD y x hy hx u
  have HERE := Lib.hid (fun (k : Nat) (hk : k < l.length) h => among_here (x := x) hk h)
  have NONE := Lib.hid (fun h => among_none (l := l) (x := x) h)
  obtain ⟨R, hR⟩ : ∃ R, amongD l x = R := ⟨_, rfl⟩
  rw [hR] at HERE NONE ⊢
  rw [hA] at E ⊢
  obtain ⟨q, hq⟩ : ∃ q : List UInt8 → Bool, ∀ y, eqD y x = q y := ⟨_, fun _ => rfl⟩
  simp only [hq] at E HERE NONE
  have HE := Lib.hid E
  have b1 := (Below.refl w.heap.size w).alloc (Nat.le_refl _) (.cells A 23)
  have HX := Lib.hid (heap_alloc_new w (.cells A 23))
  have B1 := Lib.hid b1
  have HC1 := Lib.hid hc1; have HID := Lib.hid hid; have HN := Lib.hid hn
  have LA := Lib.hid (show (Tryz.prog.info? 23).map (·.size) = some A.toList.length by rw [Array.length_toList]; exact infoD_arr A HAS.out)
  clear hc1 hid hn b1 hR hA hx hq E
  go_enter Tryz.func35, Tryz.ntmps35
  go_wp2_with fail
  go_loopw [5] (fun i wr => ∃ k : Nat, k ≤ n ∧ i = .int .i64 k ∧ (∀ j (hj : j < l.length), j < k → q l[j] = false) ∧ wr.heap[w.heap.size]? = some (.cells A 23 (0, 0)) ∧ Below w.heap.size w wr) (fun i _ => n - (intOf i).toNat)
  case atStart => exact ⟨0, Nat.zero_le _, rfl, fun j _ h => absurd h (Nat.not_lt_zero _), HX.out, B1.out⟩
  case round =>
    obtain ⟨k, hk, rfl, hno, hx, hbr⟩ := hrel
    have HBR := Lib.hid hbr; have HNO := Lib.hid hno; have HXR := Lib.hid hx
    clear hbr hno hx
    by_cases hlt : k < n
    · have hkl : k < l.length := by rw [← HN.out]; exact hlt
      obtain ⟨y, hy⟩ : ∃ y, l[k] = y := ⟨_, rfl⟩
      have hidy := HID.out y (by rw [← hy]; exact List.getElem_mem _)
      have r1 : ∀ u, Below wr.heap.size wr u → u.rangeAt b1 (o1 + k * 20) (cellsD y) := fun u hu j v hv =>
        (hu.cell (p := ⟨b1, o1 + k * 20 + j, none⟩) (Nat.lt_of_lt_of_le h1 HBR.out.size)).trans ((HBR.out.cell (p := ⟨b1, o1 + k * 20 + j, none⟩) h1).trans (HC1.out k hkl j v (by rw [hy]; exact hv)))
      have R1 := Lib.hid r1
      have LX := Lib.hid (show (Tryz.prog.info? 23).map (·.size) = some (cellsD y).length by rw [cellsD_len y hidy]; exact infoD_n)
      have E1 := HE.out y hidy
      unfold arrD at E1
      have HERE1 := Lib.hid (HERE.out k hkl)
      have HNO1 := Lib.hid (fun (e : q y = false) (j : Nat) (hj : j < l.length) (hjk : j < k + 1) => (show q l[j] = false from if h : j < k then HNO.out j hj h else by
        obtain rfl : j = k := by omega
        rw [hy]; exact e))
      rw [hy] at HERE1
      have HRW := Lib.hid (row_arrD (w := wr) (A := A) HXR.out)
      clear r1 hidy hy
      generalize cellsD y = cy at *
      go_wp2_with fail
      refine wp_region_held_drew (S := fun u => Below wr.heap.size wr u) (by kernel_rfl) (Below.refl _ _).drew (fun hHeld => ?_)
      refine wpAnyH_take (i := 0) (v := ?hv0) rfl (by kernel_rfl) (by kernel_rfl) (by kernel_rfl) (fun _ _ _ h => h) (Or.inl ⟨by kernel_rfl, ?hy0⟩) hHeld ?_
      case hy0 => intro u hu; go_simp; try with_reducible rfl
      try simp only [Act.put, List.setIfInBounds_toArray, List.set_cons_zero, List.set_cons_succ]
      refine wpAnyH_take (i := 1) (v := ?hv1) rfl (by kernel_rfl) (by kernel_rfl) (by kernel_rfl) (fun _ _ _ h => h) (Or.inl ⟨by kernel_rfl, ?hy1⟩) hHeld ?_
      case hy1 => intro u hu; go_simp; try with_reducible rfl
      try simp only [Act.put, List.setIfInBounds_toArray, List.set_cons_zero, List.set_cons_succ]
      refine wpAnyH_take (i := 2) (v := ?hv2) rfl (by kernel_rfl) (by kernel_rfl) (by kernel_rfl) (fun _ _ _ h => h) (Or.inl ⟨by kernel_rfl, ?hy2⟩) hHeld ?_
      case hy2 => intro u hu; go_simp; try with_reducible rfl
      try simp only [Act.put, List.setIfInBounds_toArray, List.set_cons_zero, List.set_cons_succ]
      refine wpAnyH_take (i := 3) rfl (by kernel_rfl) (by kernel_rfl) (by kernel_rfl) (fun _ _ _ h => h) (yieldsIf_load_mid (by kernel_rfl) 23 (.tmp 14) (by kernel_rfl) b1 (o1 + k * 20) (by kernel_rfl) cy _ (fun u hu => R1.out u hu) Tryz.underlying23 rfl LX.out) hHeld ?_
      try simp only [Act.put, List.setIfInBounds_toArray, List.set_cons_zero, List.set_cons_succ]
      refine wpAnyH_take (i := 4) rfl (by kernel_rfl) (by kernel_rfl) (by kernel_rfl) (fun _ _ _ h => h) (yieldsIf_load_mid (by kernel_rfl) 23 (.tmp 3) (by kernel_rfl) w.heap.size 0 (by kernel_rfl) A.toList _ (fun u hu => row_keepD HRW.out (lt_of_heap HXR.out) hu) Tryz.underlying23 rfl LA.out) hHeld ?_
      try simp only [Act.put, List.setIfInBounds_toArray, List.set_cons_zero, List.set_cons_succ]
      refine wpAnyH_take (i := 5) (v := ?hv5) rfl (by kernel_rfl) (by kernel_rfl) (by kernel_rfl) (fun _ _ _ h => h) (Or.inl ⟨by kernel_rfl, ?hy5⟩) hHeld ?_
      case hy5 => intro u hu; go_simp; try with_reducible rfl
      try simp only [Act.put, List.getElem_toArray, List.getElem_cons_succ, List.getElem_cons_zero, List.setIfInBounds_toArray, List.set_cons_zero, List.set_cons_succ]
      refine wpAnyH_done (by kernel_rfl) ?_ _
      have HB2 := Lib.hid (HBR.out.trans (hHeld.mono HBR.out.size))
      have HX2 := Lib.hid (heap_keep HXR.out hHeld)
      clear hHeld
      cases hqy : q y with
      | true =>
        go_wp2
        go_ret
        exact ⟨by rw [HERE1.out hqy]; rfl, HB2.out⟩
      | false =>
        go_wp2
        go_roundw
        case rel => exact ⟨k + 1, by omega, by go_num, HNO1.out hqy, HX2.out, HB2.out⟩
        case measure => simp [intOf]; omega
    · obtain rfl : k = n := by omega
      go_wp2
      go_ret
      exact ⟨by rw [NONE.out (fun j hj => HNO.out j hj (by rw [HN.out]; exact hj))]; rfl, HBR.out⟩
end Go.Proofs.YtonkclkopmdahaaGreatDoor

/-
  Layer 9, the document's answers: which records are right.
-/
namespace Go.Proofs.YtonkclkopmdahaaGreatDoor
set_option maxRecDepth 20000
open Go.RowKit
set_option linter.unusedVariables false
set_option linter.unusedSimpArgs false

theorem right_false {c : Rcd} (h : c.tree = idZ ∨ ¬ c.parents.length ≤ 16 ∨ rightI c.author = false ∨ rightI c.committer = false ∨ ¬ c.text.length ≤ 32768 ∨ (∃ d ∈ c.text, d = 0) ∨ parentsR c.parents = false) : rightR c = false := by
  cases e : rightR c with
  | false => rfl
  | true =>
    obtain ⟨h1, h2, h3, h4, h5, h6, h7⟩ := (rightR_iff c).1 e
    rcases h with h | h | h | h | h | ⟨d, hd, h⟩ | h
    · exact absurd h h1
    · exact absurd h2 h
    · rw [h4] at h; cases h
    · rw [h5] at h; cases h
    · exact absurd h6 h
    · exact absurd h (h7 d hd)
    · rw [h3] at h; cases h
theorem find_zero (s : List UInt8) : (findB s 0 0 = -1 ∧ ∀ d ∈ s, d ≠ 0) ∨ (∃ k : Nat, findB s 0 0 = (k : Int) ∧ ∃ d ∈ s, d = 0) := by
  unfold findB
  simp only [List.drop_zero]
  by_cases h : s.findIdx (· == 0) < s.length
  · rw [if_pos h]
    exact .inr ⟨s.findIdx (· == 0), by simp, _, List.getElem_mem h, beq_iff_eq.1 (List.findIdx_getElem (p := fun c : UInt8 => c == 0) (w := h))⟩
  · rw [if_neg h]
    refine .inl ⟨rfl, fun d hd e => h (List.findIdx_lt_length.2 ⟨d, hd, by simp [e]⟩)⟩
set_option maxHeartbeats 16000000 in
theorem rRight9 (t : List UInt8) (a1 : Option Addr) (n c1 : Nat) (l : List (List UInt8)) (a c : Idt) (x : List UInt8) (w : World) (tab : T6 w) (ht : t.length = 20) (hit : IdsAt w a1 l) (hn : n = l.length) (hm : n ≤ 1000000) (hnc : n ≤ c1) (hid : ∀ i ∈ l, i.length = 20)
    (s1 : a.name.length ≤ 1000000) (s2 : a.email.length ≤ 1000000) (s3 : c.name.length ≤ 1000000) (s4 : c.email.length ≤ 1000000) (sx : x.length ≤ 1000000) :
    Calls Tryz.prog 15 #[.agg (arrC t (.slice a1 n c1) a c x)] w fun e w' => e = .returned (.bool (rightR ⟨t, l, a, c, x⟩)) ∧ Below w.heap.size w w' := by
  obtain ⟨A1, hA1⟩ : ∃ A, arrC t (.slice a1 n c1) a c x = A := ⟨_, rfl⟩
  have b1 : Below w.heap.size w (w.alloc (.cells A1 28)) := (Below.refl w.heap.size w).alloc (Nat.le_refl _) (.cells A1 28)
  have r1 : RecAt (w.alloc (.cells A1 28)) w.heap.size t (.slice a1 n c1) a c x := recAt_of (ty := 28) (fr := (0, 0)) ht (by rw [hA1]; exact heap_alloc_new w _)
  have K := Lib.hid (fun u (hb : Below (w.alloc (.cells A1 28)).heap.size (w.alloc (.cells A1 28)) u) => r1.keep hb)
  obtain ⟨z, hz0, hzs, hzv, hzb, hz1⟩ := zId_any
  have HZ0 := Lib.hid hz0; have pZ := Lib.hid hzb
  have ED := fun u => eql_arrD t idZ ht rfl u
  rw [← HZ0.out] at ED
  unfold arrD at ED
  clear hz0 hzs hz1 hzb hzv
  have CA := Lib.hid (fun u (hb : Below w.heap.size w u) => rRight_is a s1 s2 u (tab.keep hb))
  have CC := Lib.hid (fun u (hb : Below w.heap.size w u) => rRight_is c s3 s4 u (tab.keep hb))
  have FZ := Lib.hid (fun u => Find_byte 0 x 0 sx (Nat.zero_le _) u)
  have ea : idtV a = .agg (cellsT a).toArray := rfl
  have ec : idtV c = .agg (cellsT c).toArray := rfl
  rw [ea] at CA
  rw [ec] at CC
  have LD := Lib.hid (show (Tryz.prog.info? 23).map (·.size) = some (cellsD t).length by rw [cellsD_len t ht]; exact infoD_n)
  have LA := Lib.hid (show (Tryz.prog.info? 26).map (·.size) = some (cellsT a).length from infoT)
  have LC := Lib.hid (show (Tryz.prog.info? 26).map (·.size) = some (cellsT c).length from infoT)
  have B1 := Lib.hid b1
  have RD := Lib.hid r1.tree
  have RA := Lib.hid r1.author
  have p1 := r1.parents
  have KP := Lib.hid (fun u (hb : Below (w.alloc (.cells A1 28)).heap.size (w.alloc (.cells A1 28)) u) => (K.out u hb).parents)
  have KC := Lib.hid (fun u (hb : Below (w.alloc (.cells A1 28)).heap.size (w.alloc (.cells A1 28)) u) => (K.out u hb).committer)
  have KX := Lib.hid (fun u (hb : Below (w.alloc (.cells A1 28)).heap.size (w.alloc (.cells A1 28)) u) => (K.out u hb).text)
  have zx := size_toArray x
  have HF := find_zero x
  have hgt : 0 ≤ n := Nat.zero_le _
  rw [hA1]
  have RF : ∀ q, _ → rightR ⟨t, l, a, c, x⟩ = q := fun q (hq : rightR ⟨t, l, a, c, x⟩ = q) => hq
  have F0 := Lib.hid (fun h => right_false (c := ⟨t, l, a, c, x⟩) h)
  have HN := Lib.hid hn
  have HIT := Lib.hid hit
  have HID := Lib.hid hid
  have HNC := Lib.hid hnc
  have hlw : w.heap.size < (w.alloc (.cells A1 28)).heap.size := by simp
  have HLW := Lib.hid hlw
  clear hit hid hnc hlw
  clear RF K r1 b1 ea ec hn
  cases hz : eqD t idZ with
  | true =>
    have hr := F0.out (.inl ((eqD_iff _ _).1 hz))
    rw [hz] at ED
    clear hz HF F0
    generalize cellsD t = cd at *
    go_enter Tryz.func15, Tryz.ntmps15
    go_wp2_with (first
        | (with_reducible refine wpList_load_mid rfl 23 (.tmp 4) rfl w.heap.size 0 rfl cd _ RD.out Tryz.underlying23 rfl LD.out ?_)
        | (refine wpList_build_none rfl 23 rfl _ pZ.out ?_))
    go_ret
    exact ⟨by first | (rw [hr]; rfl) | rfl, B1.out⟩
  | false =>
    rw [hz] at ED
    by_cases k1 : n ≤ 16
    case neg =>
      have hr := F0.out (.inr (.inl (by rw [← HN.out]; exact k1)))
      have g1 : (n : Int) > 16 := by omega
      clear k1 HF F0 hz
      generalize cellsD t = cd at *
      go_enter Tryz.func15, Tryz.ntmps15
      go_wp2_with (first
          | (with_reducible refine wpList_load_mid rfl 23 (.tmp 4) rfl w.heap.size 0 rfl cd _ RD.out Tryz.underlying23 rfl LD.out ?_)
          | (refine wpList_build_none rfl 23 rfl _ pZ.out ?_))
      go_ret
      exact ⟨by first | (rw [hr]; rfl) | rfl, B1.out⟩
    have g1 : decide ((n : Int) > 16) = false := decide_eq_false (by omega)
    have g1b : decide (16 < (n : Int)) = false := decide_eq_false (by omega)
    have g1c : ¬ (n : Int) > 16 := by omega
    cases hra : rightI a with
    | false =>
      have hr := F0.out (.inr (.inr (.inl hra)))
      rw [hra] at CA
      clear HF F0 hz
      generalize cellsD t = cd at *
      go_enter Tryz.func15, Tryz.ntmps15
      go_wp2_with (first
          | (with_reducible refine wpList_load_mid rfl 23 (.tmp 4) rfl w.heap.size 0 rfl cd _ RD.out Tryz.underlying23 rfl LD.out ?_)
          | (refine wpList_build_none rfl 23 rfl _ pZ.out ?_)
          | (with_reducible refine wpList_load_midD 26 (.tmp 15) rfl (by kernel_rfl) w.heap.size 21 rfl (cellsT a) _ RA.out Tryz.underlying26 rfl LA.out ?_))
      refine (CA.out _ B1.out).mono ?_
      rintro e w2 ⟨rfl, hb2⟩
      have HB2 := Lib.hid hb2
      have RC := Lib.hid (KC.out _ hb2)
      clear hb2
      go_wp2_with fail
      go_ret
      exact ⟨by first | (rw [hr]; rfl) | rfl, B1.out.trans (HB2.out.mono B1.out.size)⟩
    | true =>
      rw [hra] at CA
      cases hrc : rightI c with
      | false =>
        have hr := F0.out (.inr (.inr (.inr (.inl hrc))))
        rw [hrc] at CC
        clear HF F0 hz
        generalize cellsD t = cd at *
        go_enter Tryz.func15, Tryz.ntmps15
        go_wp2_with (first
            | (with_reducible refine wpList_load_mid rfl 23 (.tmp 4) rfl w.heap.size 0 rfl cd _ RD.out Tryz.underlying23 rfl LD.out ?_)
            | (refine wpList_build_none rfl 23 rfl _ pZ.out ?_)
            | (with_reducible refine wpList_load_midD 26 (.tmp 15) rfl (by kernel_rfl) w.heap.size 21 rfl (cellsT a) _ RA.out Tryz.underlying26 rfl LA.out ?_))
        refine (CA.out _ B1.out).mono ?_
        rintro e w2 ⟨rfl, hb2⟩
        have HB2 := Lib.hid hb2
        have RC := Lib.hid (KC.out _ hb2)
        clear hb2
        go_wp2_with (first
            | (with_reducible refine wpList_load_midD 26 (.tmp 21) rfl (by kernel_rfl) w.heap.size 25 rfl (cellsT c) _ RC.out Tryz.underlying26 rfl LC.out ?_))
        refine (CC.out _ (B1.out.trans (HB2.out.mono B1.out.size))).mono ?_
        rintro e w3 ⟨rfl, hb3⟩
        have HB3 := Lib.hid (HB2.out.trans (hb3.mono HB2.out.size))
        have p3 := KX.out _ HB3.out
        have p4 := KP.out _ HB3.out
        clear hb3
        go_wp2_with fail
        go_ret
        exact ⟨by first | (rw [hr]; rfl) | rfl, B1.out.trans (HB3.out.mono B1.out.size)⟩
      | true =>
        rw [hrc] at CC
        by_cases k2 : x.length ≤ 32768
        case neg =>
          have hr := F0.out (.inr (.inr (.inr (.inr (.inl k2)))))
          have g2 : (x.length : Int) > 32768 := by omega
          clear k2 HF F0 hz
          generalize cellsD t = cd at *
          generalize (⟨x.toArray⟩ : ByteArray) = X at *
          go_enter Tryz.func15, Tryz.ntmps15
          go_wp2_with (first
              | (with_reducible refine wpList_load_mid rfl 23 (.tmp 4) rfl w.heap.size 0 rfl cd _ RD.out Tryz.underlying23 rfl LD.out ?_)
              | (refine wpList_build_none rfl 23 rfl _ pZ.out ?_)
              | (with_reducible refine wpList_load_midD 26 (.tmp 15) rfl (by kernel_rfl) w.heap.size 21 rfl (cellsT a) _ RA.out Tryz.underlying26 rfl LA.out ?_))
          refine (CA.out _ B1.out).mono ?_
          rintro e w2 ⟨rfl, hb2⟩
          have HB2 := Lib.hid hb2
          have RC := Lib.hid (KC.out _ hb2)
          clear hb2
          go_wp2_with (first
              | (with_reducible refine wpList_load_midD 26 (.tmp 21) rfl (by kernel_rfl) w.heap.size 25 rfl (cellsT c) _ RC.out Tryz.underlying26 rfl LC.out ?_))
          refine (CC.out _ (B1.out.trans (HB2.out.mono B1.out.size))).mono ?_
          rintro e w3 ⟨rfl, hb3⟩
          have HB3 := Lib.hid (HB2.out.trans (hb3.mono HB2.out.size))
          have p3 := KX.out _ HB3.out
          have p4 := KP.out _ HB3.out
          clear hb3
          go_wp2_with fail
          go_ret
          exact ⟨by first | (rw [hr]; rfl) | rfl, B1.out.trans (HB3.out.mono B1.out.size)⟩
        have g2 : ¬ (x.length : Int) > 32768 := by omega
        rcases HF with ⟨hf, hno⟩ | ⟨kz, hf, hno⟩
        case inr =>
          have hr := F0.out (.inr (.inr (.inr (.inr (.inr (.inl hno))))))
          rw [hf] at FZ
          have g3 : (kz : Int) ≥ 0 := by omega
          clear hf hno F0 hz
          generalize cellsD t = cd at *
          generalize (⟨x.toArray⟩ : ByteArray) = X at *
          go_enter Tryz.func15, Tryz.ntmps15
          go_wp2_with (first
              | (with_reducible refine wpList_load_mid rfl 23 (.tmp 4) rfl w.heap.size 0 rfl cd _ RD.out Tryz.underlying23 rfl LD.out ?_)
              | (refine wpList_build_none rfl 23 rfl _ pZ.out ?_)
              | (with_reducible refine wpList_load_midD 26 (.tmp 15) rfl (by kernel_rfl) w.heap.size 21 rfl (cellsT a) _ RA.out Tryz.underlying26 rfl LA.out ?_))
          refine (CA.out _ B1.out).mono ?_
          rintro e w2 ⟨rfl, hb2⟩
          have HB2 := Lib.hid hb2
          have RC := Lib.hid (KC.out _ hb2)
          clear hb2
          go_wp2_with (first
              | (with_reducible refine wpList_load_midD 26 (.tmp 21) rfl (by kernel_rfl) w.heap.size 25 rfl (cellsT c) _ RC.out Tryz.underlying26 rfl LC.out ?_))
          refine (CC.out _ (B1.out.trans (HB2.out.mono B1.out.size))).mono ?_
          rintro e w3 ⟨rfl, hb3⟩
          have HB3 := Lib.hid (HB2.out.trans (hb3.mono HB2.out.size))
          have p3 := KX.out _ HB3.out
          have p4 := KP.out _ HB3.out
          clear hb3
          go_wp2_with fail
          refine (FZ.out _).mono ?_
          rintro e w4 ⟨rfl, rfl⟩
          go_wp2_with fail
          go_ret
          exact ⟨by first | (rw [hr]; rfl) | rfl, B1.out.trans (HB3.out.mono B1.out.size)⟩
        rw [hf] at FZ
        have hgood : parentsR l = true → rightR ⟨t, l, a, c, x⟩ = true := fun hp => (rightR_iff _).2 ⟨fun e => (by have e2 : t = idZ := e; rw [e2, eqD_same] at hz; cases hz), (by rw [← HN.out]; exact k1), hp, hra, hrc, k2, hno⟩
        have hbad : parentsR l = false → rightR ⟨t, l, a, c, x⟩ = false := fun hp => F0.out (.inr (.inr (.inr (.inr (.inr (.inr hp))))))
        clear hf F0 hz hno k1 k2 hra hrc
        generalize cellsD t = cd at *
        generalize (⟨x.toArray⟩ : ByteArray) = X at *
        go_enter Tryz.func15, Tryz.ntmps15
        go_wp2_with (first
            | (with_reducible refine wpList_load_mid rfl 23 (.tmp 4) rfl w.heap.size 0 rfl cd _ RD.out Tryz.underlying23 rfl LD.out ?_)
            | (refine wpList_build_none rfl 23 rfl _ pZ.out ?_)
            | (with_reducible refine wpList_load_midD 26 (.tmp 15) rfl (by kernel_rfl) w.heap.size 21 rfl (cellsT a) _ RA.out Tryz.underlying26 rfl LA.out ?_))
        refine (CA.out _ B1.out).mono ?_
        rintro e w2 ⟨rfl, hb2⟩
        have HB2 := Lib.hid hb2
        have RC := Lib.hid (KC.out _ hb2)
        clear hb2
        go_wp2_with (first
            | (with_reducible refine wpList_load_midD 26 (.tmp 21) rfl (by kernel_rfl) w.heap.size 25 rfl (cellsT c) _ RC.out Tryz.underlying26 rfl LC.out ?_))
        refine (CC.out _ (B1.out.trans (HB2.out.mono B1.out.size))).mono ?_
        rintro e w3 ⟨rfl, hb3⟩
        have HB3 := Lib.hid (HB2.out.trans (hb3.mono HB2.out.size))
        have p3 := KX.out _ HB3.out
        have p4 := KP.out _ HB3.out
        clear hb3
        go_wp2_with fail
        refine (FZ.out _).mono ?_
        rintro e w4 ⟨rfl, rfl⟩
        go_wp2_with fail
        go_loopw [3] (fun i wr => ∃ k : Nat, k ≤ n ∧ i = .int .i64 k ∧ (∀ j (hj : j < l.length), j < k → l[j] ≠ idZ ∧ l[j] ∉ l.take j) ∧ Below (w.alloc (.cells A1 28)).heap.size (w.alloc (.cells A1 28)) wr) (fun i _ => n - (intOf i).toNat)
        case atStart => exact ⟨0, Nat.zero_le _, rfl, fun j _ h => absurd h (Nat.not_lt_zero _), HB3.out⟩
        case round =>
          obtain ⟨k, hk, rfl, hok, hbr⟩ := hrel
          have HBR := Lib.hid hbr; have HOK := Lib.hid hok
          have pp := KP.out _ hbr
          have HBW := Lib.hid (B1.out.trans (hbr.mono B1.out.size))
          clear hbr hok
          by_cases hlt : k < n
          · have hkl : k < l.length := by rw [← HN.out]; exact hlt
            obtain ⟨b, o, rfl, hbl, hc⟩ := HIT.out (by omega)
            have HC := Lib.hid hc
            have HBL := Lib.hid hbl
            clear hc hbl
            obtain ⟨y, hy⟩ : ∃ y, l[k] = y := ⟨_, rfl⟩
            have hidy := HID.out y (by rw [← hy]; exact List.getElem_mem _)
            have PP := Lib.hid (fun u (hu : Below wr.heap.size wr u) => (hu.cell (p := ⟨w.heap.size, 20, none⟩) (Nat.lt_of_lt_of_le HLW.out HBR.out.size)).trans pp)
            have RY := Lib.hid (fun u (hu : Below wr.heap.size wr u) => (fun j v hv =>
              (hu.cell (p := ⟨b, o + k * 20 + j, none⟩) (Nat.lt_of_lt_of_le HBL.out HBW.out.size)).trans ((HBW.out.cell (p := ⟨b, o + k * 20 + j, none⟩) HBL.out).trans (HC.out k hkl j v (by rw [hy]; exact hv))) : u.rangeAt b (o + k * 20) (cellsD y)))
            have LX := Lib.hid (show (Tryz.prog.info? 23).map (·.size) = some (cellsD y).length by rw [cellsD_len y hidy]; exact infoD_n)
            have EY := fun u => eql_arrD y idZ hidy rfl u
            rw [← HZ0.out] at EY
            unfold arrD at EY
            have gk : (k : Int) ≤ (c1 : Int) := by have := HNC.out; omega
            have CI := Lib.hid (fun u (hu : Below wr.heap.size wr u) => InIds_some b o c1 k (l.take k) y u (by rw [List.length_take]; omega) (by omega) (Nat.lt_of_lt_of_le HBL.out (Nat.le_trans HBW.out.size hu.size)) (fun q hq j v hv => (hu.cell (p := ⟨b, o + q * 20 + j, none⟩) (Nat.lt_of_lt_of_le HBL.out HBW.out.size)).trans ((HBW.out.cell (p := ⟨b, o + q * 20 + j, none⟩) HBL.out).trans (HC.out q (by rw [List.length_take] at hq; omega) j v (by rw [List.getElem_take] at hv; exact hv)))) (fun i hi => HID.out i (List.mem_of_mem_take hi)) hidy)
            unfold arrD at CI
            cases hyz : eqD y idZ with
            | true =>
              rw [hyz] at EY
              have hr := hbad (parents_bad k hkl (.inl (by rw [hy]; exact (eqD_iff _ _).1 hyz)))
              clear hyz hbad hgood
              generalize cellsD y = cy at *
              go_wp2_with fail
              refine wp_region_held_drew (S := fun u => Below wr.heap.size wr u) (by kernel_rfl) (Below.refl _ _).drew (fun hHeld => ?_)
              refine wpAnyH_take (i := 0) (v := ?tv0) rfl (by kernel_rfl) (by kernel_rfl) (by kernel_rfl) (fun _ _ _ h => h) (Or.inl ⟨by kernel_rfl, ?ty0⟩) hHeld ?_
              case ty0 => intro u hu; go_simp; try with_reducible rfl
              try simp only [Act.put, List.setIfInBounds_toArray, List.set_cons_zero, List.set_cons_succ]
              refine wpAnyH_take (i := 1) (v := .slice (some ⟨b, o, none⟩) n c1) rfl (by kernel_rfl) (by kernel_rfl) (by kernel_rfl) (fun _ _ _ h => h) (Or.inl ⟨by kernel_rfl, ?ty1⟩) hHeld ?_
              case ty1 => intro u hu; have q := PP.out u hu; go_simp
              try simp only [Act.put, List.setIfInBounds_toArray, List.set_cons_zero, List.set_cons_succ]
              refine wpAnyH_take (i := 2) (v := ?tv2) rfl (by kernel_rfl) (by kernel_rfl) (by kernel_rfl) (fun _ _ _ h => h) (Or.inl ⟨by kernel_rfl, ?ty2⟩) hHeld ?_
              case ty2 => intro u hu; go_simp; try with_reducible rfl
              try simp only [Act.put, List.setIfInBounds_toArray, List.set_cons_zero, List.set_cons_succ]
              refine wpAnyH_take (i := 3) (v := ?tv3) rfl (by kernel_rfl) (by kernel_rfl) (by kernel_rfl) (fun _ _ _ h => h) (Or.inl ⟨by kernel_rfl, ?ty3⟩) hHeld ?_
              case ty3 => intro u hu; go_simp; try with_reducible rfl
              try simp only [Act.put, List.setIfInBounds_toArray, List.set_cons_zero, List.set_cons_succ]
              refine wpAnyH_take (i := 4) rfl (by kernel_rfl) (by kernel_rfl) (by kernel_rfl) (fun _ _ _ h => h) (yieldsIf_load_mid (by kernel_rfl) 23 (.tmp 48) (by kernel_rfl) b (o + k * 20) (by kernel_rfl) cy _ (fun u hu => RY.out u hu) Tryz.underlying23 rfl LX.out) hHeld ?_
              try simp only [Act.put, List.setIfInBounds_toArray, List.set_cons_zero, List.set_cons_succ]
              refine wpAnyH_take (i := 5) rfl (by kernel_rfl) (by kernel_rfl) (by kernel_rfl) (fun _ _ _ h => h) (yields_build0 (by kernel_rfl) 23 rfl _ pZ.out) hHeld ?_
              try simp only [Act.put, List.setIfInBounds_toArray, List.set_cons_zero, List.set_cons_succ]
              refine wpAnyH_take (i := 6) (v := ?tv6) rfl (by kernel_rfl) (by kernel_rfl) (by kernel_rfl) (fun _ _ _ h => h) (Or.inl ⟨by kernel_rfl, ?ty6⟩) hHeld ?_
              case ty6 => intro u hu; go_simp; try with_reducible rfl
              try simp only [Act.put, List.setIfInBounds_toArray, List.set_cons_zero, List.set_cons_succ]
              refine wpAnyH_take (i := 7) (v := ?tv7) rfl (by kernel_rfl) (by kernel_rfl) (by kernel_rfl) (fun _ _ _ h => h) (Or.inl ⟨by kernel_rfl, ?ty7⟩) hHeld ?_
              case ty7 => intro u hu; go_simp; try with_reducible rfl
              try simp only [Act.put, List.setIfInBounds_toArray, List.set_cons_zero, List.set_cons_succ]
              refine wpAnyH_take (i := 8) (v := undef) rfl (by kernel_rfl) (by kernel_rfl) (by kernel_rfl) (fun _ _ _ h => h) (Or.inr ⟨by kernel_rfl, rfl⟩) hHeld ?_
              try simp only [Act.put, List.setIfInBounds_toArray, List.set_cons_zero, List.set_cons_succ]
              refine wpAnyH_take (i := 9) (v := undef) rfl (by kernel_rfl) (by kernel_rfl) (by kernel_rfl) (fun _ _ _ h => h) (Or.inr ⟨by kernel_rfl, rfl⟩) hHeld ?_
              try simp only [Act.put, List.setIfInBounds_toArray, List.set_cons_zero, List.set_cons_succ]
              refine wpAnyH_take (i := 10) (v := undef) rfl (by kernel_rfl) (by kernel_rfl) (by kernel_rfl) (fun _ _ _ h => h) (Or.inr ⟨by kernel_rfl, rfl⟩) hHeld ?_
              try simp only [Act.put, List.setIfInBounds_toArray, List.set_cons_zero, List.set_cons_succ]
              refine wpAnyH_take (i := 11) (v := undef) rfl (by kernel_rfl) (by kernel_rfl) (by kernel_rfl) (fun _ _ _ h => h) (Or.inr ⟨by kernel_rfl, rfl⟩) hHeld ?_
              try simp only [Act.put, List.setIfInBounds_toArray, List.set_cons_zero, List.set_cons_succ]
              refine wpAnyH_take (i := 12) (v := undef) rfl (by kernel_rfl) (by kernel_rfl) (by kernel_rfl) (fun _ _ _ h => h) (Or.inr ⟨by kernel_rfl, rfl⟩) hHeld ?_
              try simp only [Act.put, List.setIfInBounds_toArray, List.set_cons_zero, List.set_cons_succ]
              refine wpAnyH_take (i := 13) (v := undef) rfl (by kernel_rfl) (by kernel_rfl) (by kernel_rfl) (fun _ _ _ h => h) (Or.inr ⟨by kernel_rfl, rfl⟩) hHeld ?_
              try simp only [Act.put, List.setIfInBounds_toArray, List.set_cons_zero, List.set_cons_succ]
              refine wpAnyH_take (i := 14) (v := undef) rfl (by kernel_rfl) (by kernel_rfl) (by kernel_rfl) (fun _ _ _ h => h) (Or.inr ⟨by kernel_rfl, rfl⟩) hHeld ?_
              try simp only [Act.put, List.setIfInBounds_toArray, List.set_cons_zero, List.set_cons_succ]
              refine wpAnyH_take (i := 15) (v := undef) rfl (by kernel_rfl) (by kernel_rfl) (by kernel_rfl) (fun _ _ _ h => h) (Or.inr ⟨by kernel_rfl, rfl⟩) hHeld ?_
              try simp only [Act.put, List.setIfInBounds_toArray, List.set_cons_zero, List.set_cons_succ]
              refine wpAnyH_take (i := 16) (v := undef) rfl (by kernel_rfl) (by kernel_rfl) (by kernel_rfl) (fun _ _ _ h => h) (Or.inr ⟨by kernel_rfl, rfl⟩) hHeld ?_
              try simp only [Act.put, List.setIfInBounds_toArray, List.set_cons_zero, List.set_cons_succ]
              refine wpAnyH_take (i := 17) (v := undef) rfl (by kernel_rfl) (by kernel_rfl) (by kernel_rfl) (fun _ _ _ h => h) (Or.inr ⟨by kernel_rfl, rfl⟩) hHeld ?_
              try simp only [Act.put, List.setIfInBounds_toArray, List.set_cons_zero, List.set_cons_succ]
              refine wpAnyH_take (i := 18) (v := ?tv18) rfl (by kernel_rfl) (by kernel_rfl) (by kernel_rfl) (fun _ _ _ h => h) (Or.inl ⟨by kernel_rfl, ?ty18⟩) hHeld ?_
              case ty18 => intro u hu; go_simp; try with_reducible rfl
              try simp only [Act.put, List.getElem_toArray, List.getElem_cons_succ, List.getElem_cons_zero, List.setIfInBounds_toArray, List.set_cons_zero, List.set_cons_succ]
              refine wpAnyH_done (by kernel_rfl) ?_ _
              have HB5 := Lib.hid (HBW.out.trans (hHeld.mono HBW.out.size))
              clear hHeld
              go_wp2
              go_ret
              exact ⟨by first | (rw [hr]; rfl) | rfl, HB5.out⟩
            | false =>
              rw [hyz] at EY
              cases hin : amongD (l.take k) y with
              | true =>
                rw [hin] at CI
                have hr := hbad (parents_bad k hkl (.inr (by rw [hy]; exact (among_iff _ _).1 hin)))
                clear hyz hin hbad hgood
                generalize cellsD y = cy at *
                go_wp2_with fail
                refine wp_region_held_drew (S := fun u => Below wr.heap.size wr u) (by kernel_rfl) (Below.refl _ _).drew (fun hHeld => ?_)
                refine wpAnyH_take (i := 0) (v := ?fv0) rfl (by kernel_rfl) (by kernel_rfl) (by kernel_rfl) (fun _ _ _ h => h) (Or.inl ⟨by kernel_rfl, ?fy0⟩) hHeld ?_
                case fy0 => intro u hu; go_simp; try with_reducible rfl
                try simp only [Act.put, List.setIfInBounds_toArray, List.set_cons_zero, List.set_cons_succ]
                refine wpAnyH_take (i := 1) (v := .slice (some ⟨b, o, none⟩) n c1) rfl (by kernel_rfl) (by kernel_rfl) (by kernel_rfl) (fun _ _ _ h => h) (Or.inl ⟨by kernel_rfl, ?fy1x⟩) hHeld ?_
                case fy1x => intro u hu; have q := PP.out u hu; go_simp
                try simp only [Act.put, List.setIfInBounds_toArray, List.set_cons_zero, List.set_cons_succ]
                refine wpAnyH_take (i := 2) (v := ?fv2) rfl (by kernel_rfl) (by kernel_rfl) (by kernel_rfl) (fun _ _ _ h => h) (Or.inl ⟨by kernel_rfl, ?fy2⟩) hHeld ?_
                case fy2 => intro u hu; go_simp; try with_reducible rfl
                try simp only [Act.put, List.setIfInBounds_toArray, List.set_cons_zero, List.set_cons_succ]
                refine wpAnyH_take (i := 3) (v := ?fv3) rfl (by kernel_rfl) (by kernel_rfl) (by kernel_rfl) (fun _ _ _ h => h) (Or.inl ⟨by kernel_rfl, ?fy3⟩) hHeld ?_
                case fy3 => intro u hu; go_simp; try with_reducible rfl
                try simp only [Act.put, List.setIfInBounds_toArray, List.set_cons_zero, List.set_cons_succ]
                refine wpAnyH_take (i := 4) rfl (by kernel_rfl) (by kernel_rfl) (by kernel_rfl) (fun _ _ _ h => h) (yieldsIf_load_mid (by kernel_rfl) 23 (.tmp 48) (by kernel_rfl) b (o + k * 20) (by kernel_rfl) cy _ (fun u hu => RY.out u hu) Tryz.underlying23 rfl LX.out) hHeld ?_
                try simp only [Act.put, List.setIfInBounds_toArray, List.set_cons_zero, List.set_cons_succ]
                refine wpAnyH_take (i := 5) rfl (by kernel_rfl) (by kernel_rfl) (by kernel_rfl) (fun _ _ _ h => h) (yields_build0 (by kernel_rfl) 23 rfl _ pZ.out) hHeld ?_
                try simp only [Act.put, List.setIfInBounds_toArray, List.set_cons_zero, List.set_cons_succ]
                refine wpAnyH_take (i := 6) (v := ?fv6) rfl (by kernel_rfl) (by kernel_rfl) (by kernel_rfl) (fun _ _ _ h => h) (Or.inl ⟨by kernel_rfl, ?fy6⟩) hHeld ?_
                case fy6 => intro u hu; go_simp; try with_reducible rfl
                try simp only [Act.put, List.setIfInBounds_toArray, List.set_cons_zero, List.set_cons_succ]
                refine wpAnyH_take (i := 7) (v := ?fv7) rfl (by kernel_rfl) (by kernel_rfl) (by kernel_rfl) (fun _ _ _ h => h) (Or.inl ⟨by kernel_rfl, ?fy7⟩) hHeld ?_
                case fy7 => intro u hu; go_simp; try with_reducible rfl
                try simp only [Act.put, List.setIfInBounds_toArray, List.set_cons_zero, List.set_cons_succ]
                refine wpAnyH_take (i := 8) (v := ?fv8) rfl (by kernel_rfl) (by kernel_rfl) (by kernel_rfl) (fun _ _ _ h => h) (Or.inl ⟨by kernel_rfl, ?fy8⟩) hHeld ?_
                case fy8 => intro u hu; go_simp; try with_reducible rfl
                try simp only [Act.put, List.setIfInBounds_toArray, List.set_cons_zero, List.set_cons_succ]
                refine wpAnyH_take (i := 9) (v := .slice (some ⟨b, o, none⟩) n c1) rfl (by kernel_rfl) (by kernel_rfl) (by kernel_rfl) (fun _ _ _ h => h) (Or.inl ⟨by kernel_rfl, ?fy9x⟩) hHeld ?_
                case fy9x => intro u hu; have q := PP.out u hu; go_simp
                try simp only [Act.put, List.setIfInBounds_toArray, List.set_cons_zero, List.set_cons_succ]
                refine wpAnyH_take (i := 10) (v := ?fv10) rfl (by kernel_rfl) (by kernel_rfl) (by kernel_rfl) (fun _ _ _ h => h) (Or.inl ⟨by kernel_rfl, ?fy10⟩) hHeld ?_
                case fy10 => intro u hu; go_simp; try with_reducible rfl
                try simp only [Act.put, List.setIfInBounds_toArray, List.set_cons_zero, List.set_cons_succ]
                refine wpAnyH_take (i := 11) (v := ?fv11) rfl (by kernel_rfl) (by kernel_rfl) (by kernel_rfl) (fun _ _ _ h => h) (Or.inl ⟨by kernel_rfl, ?fy11⟩) hHeld ?_
                case fy11 => intro u hu; go_simp; try with_reducible rfl
                try simp only [Act.put, List.setIfInBounds_toArray, List.set_cons_zero, List.set_cons_succ]
                refine wpAnyH_take (i := 12) (v := ?fv12) rfl (by kernel_rfl) (by kernel_rfl) (by kernel_rfl) (fun _ _ _ h => h) (Or.inl ⟨by kernel_rfl, ?fy12⟩) hHeld ?_
                case fy12 => intro u hu; go_simp; try with_reducible rfl
                try simp only [Act.put, List.setIfInBounds_toArray, List.set_cons_zero, List.set_cons_succ]
                refine wpAnyH_take (i := 13) (v := .slice (some ⟨b, o, none⟩) n c1) rfl (by kernel_rfl) (by kernel_rfl) (by kernel_rfl) (fun _ _ _ h => h) (Or.inl ⟨by kernel_rfl, ?fy13x⟩) hHeld ?_
                case fy13x => intro u hu; have q := PP.out u hu; go_simp
                try simp only [Act.put, List.setIfInBounds_toArray, List.set_cons_zero, List.set_cons_succ]
                refine wpAnyH_take (i := 14) (v := ?fv14) rfl (by kernel_rfl) (by kernel_rfl) (by kernel_rfl) (fun _ _ _ h => h) (Or.inl ⟨by kernel_rfl, ?fy14⟩) hHeld ?_
                case fy14 => intro u hu; go_simp; try with_reducible rfl
                try simp only [Act.put, List.setIfInBounds_toArray, List.set_cons_zero, List.set_cons_succ]
                refine wpAnyH_take (i := 15) (v := ?fv15) rfl (by kernel_rfl) (by kernel_rfl) (by kernel_rfl) (fun _ _ _ h => h) (Or.inl ⟨by kernel_rfl, ?fy15⟩) hHeld ?_
                case fy15 => intro u hu; go_simp; try with_reducible rfl
                try simp only [Act.put, List.setIfInBounds_toArray, List.set_cons_zero, List.set_cons_succ]
                refine wpAnyH_take (i := 16) rfl (by kernel_rfl) (by kernel_rfl) (by kernel_rfl) (fun _ _ _ h => h) (yieldsIf_load_mid (by kernel_rfl) 23 (.tmp 60) (by kernel_rfl) b (o + k * 20) (by kernel_rfl) cy _ (fun u hu => RY.out u hu) Tryz.underlying23 rfl LX.out) hHeld ?_
                try simp only [Act.put, List.setIfInBounds_toArray, List.set_cons_zero, List.set_cons_succ]
                refine wpAnyH_ready (rs := [17]) (by kernel_rfl) (by simp) ?_
                refine AllReadyH.cons rfl (fun K hK => ?_) AllReadyH.nil
                go_simp
                refine (CI.out _ hHeld).mono ?_
                rintro e u1 ⟨rfl, hI⟩
                have hH := hHeld.trans (hI.mono hHeld.size)
                clear hHeld hI
                refine hK.out _ _ hH (fun hHeld => ?_)
                clear hK K
                try simp only [Act.put, List.setIfInBounds_toArray, List.set_cons_zero, List.set_cons_succ]
                refine wpAnyH_take (i := 18) (v := ?fv18) rfl (by kernel_rfl) (by kernel_rfl) (by kernel_rfl) (fun _ _ _ h => h) (Or.inl ⟨by kernel_rfl, ?fy18⟩) hHeld ?_
                case fy18 => intro u hu; go_simp; try with_reducible rfl
                try simp only [Act.put, List.getElem_toArray, List.getElem_cons_succ, List.getElem_cons_zero, List.setIfInBounds_toArray, List.set_cons_zero, List.set_cons_succ]
                refine wpAnyH_done (by kernel_rfl) ?_ _
                have HB5 := Lib.hid (HBW.out.trans (hHeld.mono HBW.out.size))
                clear hHeld
                go_wp2
                go_ret
                exact ⟨by first | (rw [hr]; rfl) | rfl, HB5.out⟩
              | false =>
                rw [hin] at CI
                have HOK1 := Lib.hid (fun (j : Nat) (hj : j < l.length) (hjk : j < k + 1) => (show l[j] ≠ idZ ∧ l[j] ∉ l.take j from if h : j < k then HOK.out j hj h else by
                  obtain rfl : j = k := by omega
                  rw [hy]
                  exact ⟨fun e => (by rw [e, eqD_same] at hyz; cases hyz), fun e => (by rw [(among_iff _ _).2 e] at hin; cases hin)⟩))
                clear hyz hin hbad hgood
                generalize cellsD y = cy at *
                go_wp2_with fail
                refine wp_region_held_drew (S := fun u => Below wr.heap.size wr u) (by kernel_rfl) (Below.refl _ _).drew (fun hHeld => ?_)
                refine wpAnyH_take (i := 0) (v := ?gv0) rfl (by kernel_rfl) (by kernel_rfl) (by kernel_rfl) (fun _ _ _ h => h) (Or.inl ⟨by kernel_rfl, ?gy0⟩) hHeld ?_
                case gy0 => intro u hu; go_simp; try with_reducible rfl
                try simp only [Act.put, List.setIfInBounds_toArray, List.set_cons_zero, List.set_cons_succ]
                refine wpAnyH_take (i := 1) (v := .slice (some ⟨b, o, none⟩) n c1) rfl (by kernel_rfl) (by kernel_rfl) (by kernel_rfl) (fun _ _ _ h => h) (Or.inl ⟨by kernel_rfl, ?gy1x⟩) hHeld ?_
                case gy1x => intro u hu; have q := PP.out u hu; go_simp
                try simp only [Act.put, List.setIfInBounds_toArray, List.set_cons_zero, List.set_cons_succ]
                refine wpAnyH_take (i := 2) (v := ?gv2) rfl (by kernel_rfl) (by kernel_rfl) (by kernel_rfl) (fun _ _ _ h => h) (Or.inl ⟨by kernel_rfl, ?gy2⟩) hHeld ?_
                case gy2 => intro u hu; go_simp; try with_reducible rfl
                try simp only [Act.put, List.setIfInBounds_toArray, List.set_cons_zero, List.set_cons_succ]
                refine wpAnyH_take (i := 3) (v := ?gv3) rfl (by kernel_rfl) (by kernel_rfl) (by kernel_rfl) (fun _ _ _ h => h) (Or.inl ⟨by kernel_rfl, ?gy3⟩) hHeld ?_
                case gy3 => intro u hu; go_simp; try with_reducible rfl
                try simp only [Act.put, List.setIfInBounds_toArray, List.set_cons_zero, List.set_cons_succ]
                refine wpAnyH_take (i := 4) rfl (by kernel_rfl) (by kernel_rfl) (by kernel_rfl) (fun _ _ _ h => h) (yieldsIf_load_mid (by kernel_rfl) 23 (.tmp 48) (by kernel_rfl) b (o + k * 20) (by kernel_rfl) cy _ (fun u hu => RY.out u hu) Tryz.underlying23 rfl LX.out) hHeld ?_
                try simp only [Act.put, List.setIfInBounds_toArray, List.set_cons_zero, List.set_cons_succ]
                refine wpAnyH_take (i := 5) rfl (by kernel_rfl) (by kernel_rfl) (by kernel_rfl) (fun _ _ _ h => h) (yields_build0 (by kernel_rfl) 23 rfl _ pZ.out) hHeld ?_
                try simp only [Act.put, List.setIfInBounds_toArray, List.set_cons_zero, List.set_cons_succ]
                refine wpAnyH_take (i := 6) (v := ?gv6) rfl (by kernel_rfl) (by kernel_rfl) (by kernel_rfl) (fun _ _ _ h => h) (Or.inl ⟨by kernel_rfl, ?gy6⟩) hHeld ?_
                case gy6 => intro u hu; go_simp; try with_reducible rfl
                try simp only [Act.put, List.setIfInBounds_toArray, List.set_cons_zero, List.set_cons_succ]
                refine wpAnyH_take (i := 7) (v := ?gv7) rfl (by kernel_rfl) (by kernel_rfl) (by kernel_rfl) (fun _ _ _ h => h) (Or.inl ⟨by kernel_rfl, ?gy7⟩) hHeld ?_
                case gy7 => intro u hu; go_simp; try with_reducible rfl
                try simp only [Act.put, List.setIfInBounds_toArray, List.set_cons_zero, List.set_cons_succ]
                refine wpAnyH_take (i := 8) (v := ?gv8) rfl (by kernel_rfl) (by kernel_rfl) (by kernel_rfl) (fun _ _ _ h => h) (Or.inl ⟨by kernel_rfl, ?gy8⟩) hHeld ?_
                case gy8 => intro u hu; go_simp; try with_reducible rfl
                try simp only [Act.put, List.setIfInBounds_toArray, List.set_cons_zero, List.set_cons_succ]
                refine wpAnyH_take (i := 9) (v := .slice (some ⟨b, o, none⟩) n c1) rfl (by kernel_rfl) (by kernel_rfl) (by kernel_rfl) (fun _ _ _ h => h) (Or.inl ⟨by kernel_rfl, ?gy9x⟩) hHeld ?_
                case gy9x => intro u hu; have q := PP.out u hu; go_simp
                try simp only [Act.put, List.setIfInBounds_toArray, List.set_cons_zero, List.set_cons_succ]
                refine wpAnyH_take (i := 10) (v := ?gv10) rfl (by kernel_rfl) (by kernel_rfl) (by kernel_rfl) (fun _ _ _ h => h) (Or.inl ⟨by kernel_rfl, ?gy10⟩) hHeld ?_
                case gy10 => intro u hu; go_simp; try with_reducible rfl
                try simp only [Act.put, List.setIfInBounds_toArray, List.set_cons_zero, List.set_cons_succ]
                refine wpAnyH_take (i := 11) (v := ?gv11) rfl (by kernel_rfl) (by kernel_rfl) (by kernel_rfl) (fun _ _ _ h => h) (Or.inl ⟨by kernel_rfl, ?gy11⟩) hHeld ?_
                case gy11 => intro u hu; go_simp; try with_reducible rfl
                try simp only [Act.put, List.setIfInBounds_toArray, List.set_cons_zero, List.set_cons_succ]
                refine wpAnyH_take (i := 12) (v := ?gv12) rfl (by kernel_rfl) (by kernel_rfl) (by kernel_rfl) (fun _ _ _ h => h) (Or.inl ⟨by kernel_rfl, ?gy12⟩) hHeld ?_
                case gy12 => intro u hu; go_simp; try with_reducible rfl
                try simp only [Act.put, List.setIfInBounds_toArray, List.set_cons_zero, List.set_cons_succ]
                refine wpAnyH_take (i := 13) (v := .slice (some ⟨b, o, none⟩) n c1) rfl (by kernel_rfl) (by kernel_rfl) (by kernel_rfl) (fun _ _ _ h => h) (Or.inl ⟨by kernel_rfl, ?gy13x⟩) hHeld ?_
                case gy13x => intro u hu; have q := PP.out u hu; go_simp
                try simp only [Act.put, List.setIfInBounds_toArray, List.set_cons_zero, List.set_cons_succ]
                refine wpAnyH_take (i := 14) (v := ?gv14) rfl (by kernel_rfl) (by kernel_rfl) (by kernel_rfl) (fun _ _ _ h => h) (Or.inl ⟨by kernel_rfl, ?gy14⟩) hHeld ?_
                case gy14 => intro u hu; go_simp; try with_reducible rfl
                try simp only [Act.put, List.setIfInBounds_toArray, List.set_cons_zero, List.set_cons_succ]
                refine wpAnyH_take (i := 15) (v := ?gv15) rfl (by kernel_rfl) (by kernel_rfl) (by kernel_rfl) (fun _ _ _ h => h) (Or.inl ⟨by kernel_rfl, ?gy15⟩) hHeld ?_
                case gy15 => intro u hu; go_simp; try with_reducible rfl
                try simp only [Act.put, List.setIfInBounds_toArray, List.set_cons_zero, List.set_cons_succ]
                refine wpAnyH_take (i := 16) rfl (by kernel_rfl) (by kernel_rfl) (by kernel_rfl) (fun _ _ _ h => h) (yieldsIf_load_mid (by kernel_rfl) 23 (.tmp 60) (by kernel_rfl) b (o + k * 20) (by kernel_rfl) cy _ (fun u hu => RY.out u hu) Tryz.underlying23 rfl LX.out) hHeld ?_
                try simp only [Act.put, List.setIfInBounds_toArray, List.set_cons_zero, List.set_cons_succ]
                refine wpAnyH_ready (rs := [17]) (by kernel_rfl) (by simp) ?_
                refine AllReadyH.cons rfl (fun K hK => ?_) AllReadyH.nil
                go_simp
                refine (CI.out _ hHeld).mono ?_
                rintro e u1 ⟨rfl, hI⟩
                have hH := hHeld.trans (hI.mono hHeld.size)
                clear hHeld hI
                refine hK.out _ _ hH (fun hHeld => ?_)
                clear hK K
                try simp only [Act.put, List.setIfInBounds_toArray, List.set_cons_zero, List.set_cons_succ]
                refine wpAnyH_take (i := 18) (v := ?gv18) rfl (by kernel_rfl) (by kernel_rfl) (by kernel_rfl) (fun _ _ _ h => h) (Or.inl ⟨by kernel_rfl, ?gy18⟩) hHeld ?_
                case gy18 => intro u hu; go_simp; try with_reducible rfl
                try simp only [Act.put, List.getElem_toArray, List.getElem_cons_succ, List.getElem_cons_zero, List.setIfInBounds_toArray, List.set_cons_zero, List.set_cons_succ]
                refine wpAnyH_done (by kernel_rfl) ?_ _
                have HB5 := Lib.hid (HBR.out.trans (hHeld.mono HBR.out.size))
                clear hHeld
                go_wp2
                go_roundw
                case rel => exact ⟨k + 1, by omega, by go_num, HOK1.out, HB5.out⟩
                case measure => simp [intOf]; omega
          · obtain rfl : k = n := by omega
            have hr := hgood ((parentsR_iff l).2 (fun j hj => HOK.out j hj (by rw [HN.out]; exact hj)))
            clear hbad hgood
            go_wp2
            go_ret
            exact ⟨by first | (rw [hr]; rfl) | rfl, HBW.out⟩
end Go.Proofs.YtonkclkopmdahaaGreatDoor

/-
  Layer 1: Hex of the reference.
-/
namespace Go.Proofs.YtonkclkopmdahaaGreatDoor
open Go.RowKit
set_option linter.unusedVariables false

theorem ext_dig16 : ∀ n : Fin 16, (⟨#[48, 49, 50, 51, 52, 53, 54, 55, 56, 57, 97, 98, 99, 100, 101, 102]⟩ : ByteArray).extract n.1 (n.1 + 1) = ⟨[hexDig n.1].toArray⟩ := by decide
theorem ext_dig (n : Nat) (h : n < 16) : (⟨#[48, 49, 50, 51, 52, 53, 54, 55, 56, 57, 97, 98, 99, 100, 101, 102]⟩ : ByteArray).extract n (n + 1) = ⟨[hexDig n].toArray⟩ := ext_dig16 ⟨n, h⟩

set_option maxHeartbeats 400000 in
theorem rHex_some (b o c : Nat) (l : List UInt8) (w : World) (hb : b < w.heap.size) (hc : ∀ i (h : i < l.length), w.cell? ⟨b, o + i, none⟩ = some (.int .u8 (l[i]).toNat)) (hn : l.length ≤ 1099511627776) :
    Calls Tryz.prog 24 #[.slice (some ⟨b, o, none⟩) l.length c] w fun e w' => e = .returned (.string ⟨(hexL l).toArray⟩) ∧ Below w.heap.size w w' := by
  have HC := Lib.hid hc; clear hc
  go_enter Tryz.func24, Tryz.ntmps24
  go_wp2_with fail
  go_loopw [3, 4] (fun s i wr => ∃ k : Nat, k ≤ l.length ∧ i = .int .i64 k ∧ s = .string ⟨(hexL (l.take k)).toArray⟩ ∧ Below w.heap.size w wr) (fun _ i _ => l.length - (intOf i).toNat)
  case atStart => exact ⟨0, Nat.zero_le _, rfl, rfl, Below.refl _ _⟩
  case round =>
    obtain ⟨k, hk, rfl, rfl, hbr⟩ := hrel
    by_cases hlt : k < l.length
    · have hcell : wr.cell? ⟨b, o + k, none⟩ = some (.int .u8 (l[k]).toNat) := (hbr.cell (p := ⟨b, o + k, none⟩) hb).trans (HC.out k hlt)
      have hx : (l[k]).toNat < 256 := (l[k]).toNat_lt
      obtain ⟨x, hxe⟩ : ∃ x : Nat, x = (l[k]).toNat := ⟨_, rfl⟩
      rw [← hxe] at hcell hx
      obtain ⟨acc, hacc⟩ : ∃ acc : List UInt8, acc = hexL (l.take k) := ⟨_, rfl⟩
      have hal : acc.length = 2 * k := by rw [hacc, hexL_length, List.length_take]; omega
      rw [← hacc]
      obtain ⟨s1, hs1⟩ : ∃ s : List UInt8, s = [hexDig (x / 16)] := ⟨_, rfl⟩
      obtain ⟨s2, hs2⟩ : ∃ s : List UInt8, s = [hexDig (x % 16)] := ⟨_, rfl⟩
      obtain ⟨acc1, ha1⟩ : ∃ a : List UInt8, a = acc ++ s1 := ⟨_, rfl⟩
      obtain ⟨acc2, ha2⟩ : ∃ a : List UInt8, a = acc1 ++ s2 := ⟨_, rfl⟩
      have g1 := ext_dig (x / 16) (by omega)
      have g2 := ext_dig (x % 16) (by omega)
      rw [← hs1] at g1
      rw [← hs2] at g2
      have b1 : (0 : Int) ≤ (x : Int) / 16 + 1 := by omega
      have b2 : (x : Int) / 16 + 1 ≤ 16 := by omega
      have b3 : (0 : Int) ≤ (x : Int) % 16 + 1 := by omega
      have b4 : (x : Int) % 16 + 1 ≤ 16 := by omega
      have t1 : ((x : Int) / 16 + 1).toNat = x / 16 + 1 := by omega
      have t2 : ((x : Int) / 16).toNat = x / 16 := by omega
      have t3 : ((x : Int) % 16 + 1).toNat = x % 16 + 1 := by omega
      have t4 : ((x : Int) % 16).toNat = x % 16 := by omega
      have d1 := fun w => add_lists (P := Tryz.prog) w acc s1 (by rw [hs1, hal]; simp; omega)
      rw [← ha1] at d1
      have d2 := fun w => add_lists (P := Tryz.prog) w acc1 s2 (by rw [hs2, ha1, hs1, List.length_append, hal]; simp; omega)
      rw [← ha2] at d2
      have q1 := IntWalk.i64_in ((x : Int) / 16 + 1) (by omega)
      have q2 := IntWalk.i64_in ((x : Int) % 16 + 1) (by omega)
      have fin : acc2 = hexL (l.take (k + 1)) := by
        rw [hexL_snoc l k hlt, ← hxe, ha2, ha1, hs1, hs2, hacc, List.append_assoc]; rfl
      have FIN := Lib.hid fin
      clear hs1 hs2 ha1 ha2 hal hacc fin hxe
      go_wp2_with fail
      go_quiet (fail)
      go_wp2_with fail
      go_quiet (fail)
      go_wp2
      go_roundw
      case rel => exact ⟨k + 1, by omega, by go_num, by rw [FIN.out], _root_.Go.below_drewN hbr _⟩
      case measure => simp [intOf]; omega
    · obtain rfl : k = l.length := by omega
      rw [List.take_length]
      go_wp2
      go_ret
      exact ⟨rfl, hbr⟩
set_option maxHeartbeats 400000 in
theorem rHex_none (a : Option Addr) (c : Nat) (w : World) :
    Calls Tryz.prog 24 #[.slice a 0 c] w fun e w' => e = .returned (.string ⟨(hexL []).toArray⟩) ∧ Below w.heap.size w w' := by
  go_enter Tryz.func24, Tryz.ntmps24
  go_wp2_with fail
  refine wp_loop_rounds 1 ?_
  rw [rounds_succ]
  go_wp2
  go_ret
  exact ⟨rfl, Below.refl _ _⟩
theorem rHex_any (a : Option Addr) (n c : Nat) (l : List UInt8) (w : World) (h : BAt w a l) (hl : n = l.length) (hn : l.length ≤ 1099511627776) :
    Calls Tryz.prog 24 #[.slice a n c] w fun e w' => e = .returned (.string ⟨(hexL l).toArray⟩) ∧ Below w.heap.size w w' := by
  subst hl
  by_cases hp : 0 < l.length
  · obtain ⟨b, o, rfl, hb, hc⟩ := h hp
    exact rHex_some b o c l w hb hc hn
  · obtain rfl : l = [] := List.eq_nil_of_length_eq_zero (by omega)
    exact rHex_none a c w
end Go.Proofs.YtonkclkopmdahaaGreatDoor
