/-
  Texts that belong together, one behind the other.
-/
import Derived.Test.YtdgcjjledbnofaaDoorFu31
import Derived.Deep.MidRow
import Derived.Deep.QuietTactic
import Derived.BigQuiet
import Derived.Test.YtdgcjjledbnofaaDoorFu02
import Derived.Laws.OwnMore
import Derived.Laws.CopyOwn
/-
  The helpers Same, Plain, Kept of the statements over files. (Made by tools/genfil13.py.)
-/
namespace Go.Proofs.YtdgcjjledbnofaaDoor
set_option maxRecDepth 20000
open Go.RowKit
set_option linter.unusedVariables false
set_option linter.unusedSimpArgs false

set_option maxHeartbeats 2000000 in
theorem eq_file (i j : Fil) (hi : i.id.length = 20) (hj : j.id.length = 20) (w : World) :
    Calls Tryd.prog 28 #[.agg (arrF i), .agg (arrF j)] w fun e w' => e = .returned (.bool (eqF i j)) ∧ Below w.heap.size w w' := by
  have E := fun u => eql_file i j hi hj u
  have HA := Lib.hid (arrF_size i hi); have HB := Lib.hid (arrF_size j hj)
  generalize arrF i = A at *
  generalize arrF j = B at *
  generalize eqF i j = r at *
  have b1 := (Below.refl w.heap.size w).alloc (Nat.le_refl _) (.cells A 28)
  have b2 := b1.alloc b1.size (.cells B 28)
  have e1 : (w.alloc (.cells A 28)).heap.size = w.heap.size + 1 := by simp
  have h1 := (((Below.refl (w.alloc (.cells A 28)).heap.size (w.alloc (.cells A 28))).alloc (Nat.le_refl _) (.cells B 28)).block w.heap.size (by simp)).trans (heap_alloc_new w _)
  have h2 := heap_alloc_new (w.alloc (.cells A 28)) (.cells B 28)
  rw [e1] at h2
  have H1 := Lib.hid h1; have H2 := Lib.hid h2; have B2 := Lib.hid b2
  clear b1 b2 h1 h2 hi hj e1
  go_enter Tryd.func28, Tryd.ntmps28
  go_wp2_with (first
    | (with_reducible refine wpList_load_row rfl 28 (.tmp 2) rfl w.heap.size rfl 28 A (0, 0) _ H1.out Tryd.underlying28 rfl (info_arrF A HA.out) ?_)
    | (with_reducible refine wpList_load_row rfl 28 (.tmp 3) rfl (w.heap.size + 1) rfl 28 B (0, 0) _ H2.out Tryd.underlying28 rfl (info_arrF B HB.out) ?_))
  go_ret
  exact ⟨rfl, B2.out⟩
set_option maxHeartbeats 8000000 in
theorem SameFil_some (b1 o1 b2 o2 c1 c2 n : Nat) (l : List Fil) (w : World) (hn : n = l.length) (hm : n ≤ 1000000) (h1 : b1 < w.heap.size) (h2 : b2 < w.heap.size)
    (hc1 : ∀ k (h : k < l.length) j v, (cellsF l[k])[j]? = some v → w.cell? ⟨b1, o1 + k * 22 + j, none⟩ = some v) (hc2 : ∀ k (h : k < l.length) j v, (cellsF l[k])[j]? = some v → w.cell? ⟨b2, o2 + k * 22 + j, none⟩ = some v) (hid : ∀ i ∈ l, i.id.length = 20) :
    Calls Tryd.prog 27 #[.slice (some ⟨b1, o1, none⟩) n c1, .slice (some ⟨b2, o2, none⟩) n c2, .func (.func 28) #[] #[]] w fun e w' => e = .returned (.bool true) ∧ Below w.heap.size w w' := by
  have HC1 := Lib.hid hc1; have HC2 := Lib.hid hc2; have HID := Lib.hid hid; have HN := Lib.hid hn
  clear hc1 hc2 hid hn
  go_enter Tryd.func27, Tryd.ntmps27
  go_wp2_with fail
  go_loopw [7] (fun i wr => ∃ k : Nat, k ≤ n ∧ i = .int .i64 k ∧ Below w.heap.size w wr) (fun i _ => n - (intOf i).toNat)
  case atStart => exact ⟨0, Nat.zero_le _, rfl, Below.refl _ _⟩
  case round =>
    obtain ⟨k, hk, rfl, hbr⟩ := hrel
    have HBR := Lib.hid hbr
    clear hbr
    by_cases hlt : k < n
    · have hkl : k < l.length := by rw [← HN.out]; exact hlt
      obtain ⟨x, hx2⟩ : ∃ x, l[k] = x := ⟨_, rfl⟩
      have hidx := HID.out x (by rw [← hx2]; exact List.getElem_mem _)
      have r1 : ∀ u, Below wr.heap.size wr u → u.rangeAt b1 (o1 + k * 22) (cellsF x) := fun u hu j v hv =>
        (hu.cell (p := ⟨b1, o1 + k * 22 + j, none⟩) (Nat.lt_of_lt_of_le h1 HBR.out.size)).trans ((HBR.out.cell (p := ⟨b1, o1 + k * 22 + j, none⟩) h1).trans (HC1.out k hkl j v (by rw [hx2]; exact hv)))
      have r2 : ∀ u, Below wr.heap.size wr u → u.rangeAt b2 (o2 + k * 22) (cellsF x) := fun u hu j v hv =>
        (hu.cell (p := ⟨b2, o2 + k * 22 + j, none⟩) (Nat.lt_of_lt_of_le h2 HBR.out.size)).trans ((HBR.out.cell (p := ⟨b2, o2 + k * 22 + j, none⟩) h2).trans (HC2.out k hkl j v (by rw [hx2]; exact hv)))
      have ce : ∀ u, Below wr.heap.size wr u → Calls Tryd.prog 28 #[.agg (cellsF x).toArray, .agg (cellsF x).toArray] u fun e u' => e = .returned (.bool true) ∧ Below wr.heap.size wr u' := fun u hu =>
        (eq_file x x hidx hidx u).mono fun e u' h => ⟨by rw [h.1, eqF_same], hu.trans (h.2.mono hu.size)⟩
      have ll : (Tryd.prog.info? 28).map (·.size) = some (cellsF x).length := by rw [cellsF_len x hidx]; exact infoFile
      have R1 := Lib.hid r1; have R2 := Lib.hid r2; have CE := Lib.hid ce; have LX := Lib.hid ll
      clear r1 r2 ce ll hx2 hidx
      generalize cellsF x = cx at *
      go_wp2_with fail
      refine wp_region_held_drew (S := fun u => Below wr.heap.size wr u) (by kernel_rfl) (Below.refl _ _).drew (fun hHeld => ?_)
      refine wpAnyH_take (i := 0) (v := ?hv0) rfl (by kernel_rfl) (by kernel_rfl) (by kernel_rfl) (fun _ _ _ h => h) (Or.inl ⟨by kernel_rfl, ?hy0⟩) hHeld ?_
      case hy0 => intro u hu; go_simp; try with_reducible rfl
      try simp only [Act.put, List.setIfInBounds_toArray, List.set_cons_zero, List.set_cons_succ]
      refine wpAnyH_take (i := 1) (v := ?hv1) rfl (by kernel_rfl) (by kernel_rfl) (by kernel_rfl) (fun _ _ _ h => h) (Or.inl ⟨by kernel_rfl, ?hy1⟩) hHeld ?_
      case hy1 => intro u hu; go_simp; try with_reducible rfl
      try simp only [Act.put, List.setIfInBounds_toArray, List.set_cons_zero, List.set_cons_succ]
      refine wpAnyH_take (i := 2) (v := ?hv2) rfl (by kernel_rfl) (by kernel_rfl) (by kernel_rfl) (fun _ _ _ h => h) (Or.inl ⟨by kernel_rfl, ?hy2⟩) hHeld ?_
      case hy2 => intro u hu; go_simp; try with_reducible rfl
      try simp only [Act.put, List.setIfInBounds_toArray, List.set_cons_zero, List.set_cons_succ]
      refine wpAnyH_take (i := 3) (v := ?hv3) rfl (by kernel_rfl) (by kernel_rfl) (by kernel_rfl) (fun _ _ _ h => h) (Or.inl ⟨by kernel_rfl, ?hy3⟩) hHeld ?_
      case hy3 => intro u hu; go_simp; try with_reducible rfl
      try simp only [Act.put, List.setIfInBounds_toArray, List.set_cons_zero, List.set_cons_succ]
      refine wpAnyH_take (i := 4) rfl (by kernel_rfl) (by kernel_rfl) (by kernel_rfl) (fun _ _ _ h => h) (yieldsIf_load_mid (by kernel_rfl) 28 (.tmp 22) (by kernel_rfl) b1 (o1 + k * 22) (by kernel_rfl) cx _ (fun u hu => R1.out u hu) Tryd.underlying28 rfl LX.out) hHeld ?_
      try simp only [Act.put, List.setIfInBounds_toArray, List.set_cons_zero, List.set_cons_succ]
      refine wpAnyH_take (i := 5) (v := ?hv5) rfl (by kernel_rfl) (by kernel_rfl) (by kernel_rfl) (fun _ _ _ h => h) (Or.inl ⟨by kernel_rfl, ?hy5⟩) hHeld ?_
      case hy5 => intro u hu; go_simp; try with_reducible rfl
      try simp only [Act.put, List.setIfInBounds_toArray, List.set_cons_zero, List.set_cons_succ]
      refine wpAnyH_take (i := 6) (v := ?hv6) rfl (by kernel_rfl) (by kernel_rfl) (by kernel_rfl) (fun _ _ _ h => h) (Or.inl ⟨by kernel_rfl, ?hy6⟩) hHeld ?_
      case hy6 => intro u hu; go_simp; try with_reducible rfl
      try simp only [Act.put, List.setIfInBounds_toArray, List.set_cons_zero, List.set_cons_succ]
      refine wpAnyH_take (i := 7) (v := ?hv7) rfl (by kernel_rfl) (by kernel_rfl) (by kernel_rfl) (fun _ _ _ h => h) (Or.inl ⟨by kernel_rfl, ?hy7⟩) hHeld ?_
      case hy7 => intro u hu; go_simp; try with_reducible rfl
      try simp only [Act.put, List.setIfInBounds_toArray, List.set_cons_zero, List.set_cons_succ]
      refine wpAnyH_take (i := 8) rfl (by kernel_rfl) (by kernel_rfl) (by kernel_rfl) (fun _ _ _ h => h) (yieldsIf_load_mid (by kernel_rfl) 28 (.tmp 26) (by kernel_rfl) b2 (o2 + k * 22) (by kernel_rfl) cx _ (fun u hu => R2.out u hu) Tryd.underlying28 rfl LX.out) hHeld ?_
      try simp only [Act.put, List.setIfInBounds_toArray, List.set_cons_zero, List.set_cons_succ]
      refine wpAnyH_ready (rs := [9]) (by kernel_rfl) (by simp) ?_
      refine AllReadyH.cons rfl (fun K hK => ?_) AllReadyH.nil
      go_simp
      refine (CE.out _ hHeld).mono ?_
      rintro e u1 ⟨rfl, hH⟩
      clear hHeld
      refine hK.out _ _ hH (fun hHeld => ?_)
      clear hK K
      try simp only [Act.put, List.setIfInBounds_toArray, List.set_cons_zero, List.set_cons_succ]
      refine wpAnyH_take (i := 10) (v := ?hv10) rfl (by kernel_rfl) (by kernel_rfl) (by kernel_rfl) (fun _ _ _ h => h) (Or.inl ⟨by kernel_rfl, ?hy10⟩) hHeld ?_
      case hy10 => intro u hu; go_simp; try with_reducible rfl
      try simp only [Act.put, List.getElem_toArray, List.getElem_cons_succ, List.getElem_cons_zero, List.setIfInBounds_toArray, List.set_cons_zero, List.set_cons_succ]
      refine wpAnyH_done (by kernel_rfl) ?_ _
      have HB2 := Lib.hid (HBR.out.trans (hHeld.mono HBR.out.size))
      clear hHeld
      go_wp2
      go_roundw
      case rel => exact ⟨k + 1, by omega, by go_num, HB2.out⟩
      case measure => simp [intOf]; omega
    · obtain rfl : k = n := by omega
      go_wp2
      go_ret
      exact ⟨rfl, HBR.out⟩
end Go.Proofs.YtdgcjjledbnofaaDoor

/-
  The helpers Plain, Kept of the statements over items; few.
-/
namespace Go.Proofs.YtdgcjjledbnofaaDoor
set_option maxRecDepth 20000
open Go.RowKit
set_option linter.unusedVariables false
set_option linter.unusedSimpArgs false

set_option maxHeartbeats 400000 in
theorem SameFil_none (a1 a2 : Option Addr) (c1 c2 : Nat) (w : World) :
    Calls Tryd.prog 27 #[.slice a1 0 c1, .slice a2 0 c2, .func (.func 28) #[] #[]] w fun e w' => e = .returned (.bool true) ∧ Below w.heap.size w w' := by
  go_enter Tryd.func27, Tryd.ntmps27
  go_wp2_with fail
  refine wp_loop_rounds 1 ?_
  rw [rounds_succ]
  go_wp2
  go_ret
  exact ⟨rfl, Below.refl _ _⟩
theorem SameFil_any (a1 a2 : Option Addr) (n c1 c2 : Nat) (l : List Fil) (w : World) (h1 : FilesAt w a1 l) (h2 : FilesAt w a2 l) (hn : n = l.length) (hm : n ≤ 1000000) (hid : ∀ i ∈ l, i.id.length = 20) :
    Calls Tryd.prog 27 #[.slice a1 n c1, .slice a2 n c2, .func (.func 28) #[] #[]] w fun e w' => e = .returned (.bool true) ∧ Below w.heap.size w w' := by
  by_cases hp : 0 < l.length
  · obtain ⟨b1, o1, rfl, hb1, hc1⟩ := h1 hp
    obtain ⟨b2, o2, rfl, hb2, hc2⟩ := h2 hp
    exact SameFil_some b1 o1 b2 o2 c1 c2 n l w hn hm hb1 hb2 hc1 hc2 hid
  · obtain rfl : n = 0 := by omega
    exact SameFil_none a1 a2 c1 c2 w
set_option maxHeartbeats 400000 in
theorem PlainFil_any (a1 a2 : Option Addr) (n c1 c2 : Nat) (l : List Fil) (w : World) (h1 : FilesAt w a1 l) (h2 : FilesAt w a2 l) (hn : n = l.length) (hm : n ≤ 1000000) (hid : ∀ i ∈ l, i.id.length = 20) :
    Calls Tryd.prog 14 #[.slice a1 n c1, .slice a2 n c2] w fun e w' => e = .returned (.bool true) ∧ Below w.heap.size w w' := by
  have C := Lib.hid (SameFil_any a1 a2 n c1 c2 l w h1 h2 hn hm hid)
  clear h1 h2 hn hm hid
  go_enter Tryd.func14, Tryd.ntmps14
  go_wp2_with fail
  refine C.out.mono ?_
  rintro e w1 ⟨rfl, hb⟩
  go_wp2
  go_ret
  exact ⟨rfl, hb⟩
end Go.Proofs.YtdgcjjledbnofaaDoor

/-
  Rows of items: stores into them; the helper Own of the statements over items.
-/
namespace Go.Proofs.YtdgcjjledbnofaaDoor
set_option maxRecDepth 20000
open Go.RowKit
set_option linter.unusedVariables false
set_option linter.unusedSimpArgs false

abbrev OwnFl (B : Nat) (v : Value) (l : List Fil) (w : World) : Prop := w.ownsRow B 28 22 v l.length (l.flatMap cellsF)
theorem flatF_at (l : List Fil) (hid : ∀ i ∈ l, i.id.length = 20) (k : Nat) (h : k < l.length) (j : Nat) (v : Value) (hv : (cellsF l[k])[j]? = some v) : (l.flatMap cellsF)[k * 22 + j]? = some v := rflat_at goodF l hid k h j v hv
theorem flatF_len (l : List Fil) (hid : ∀ i ∈ l, i.id.length = 20) : (l.flatMap cellsF).length = l.length * 22 := rflat_len goodF l hid
theorem info_file_bytes : (Tryd.prog.info? 28).map (fun i => i.bytes) = some 48 := by kernel_rfl
theorem infoF_all : ∃ ie, Tryd.prog.info? 28 = some ie ∧ ie.zero = some (.agg (arrF zFil)) ∧ ie.size = 22 ∧ ie.bytes = 48 := by
  have h1 := zFile
  have h2 := info_file_bytes
  cases hq : Tryd.prog.info? 28 with
  | none => rw [hq] at h1; cases h1
  | some ie =>
    rw [hq] at h1 h2
    simp only [Option.map_some, Option.some.injEq, Prod.mk.injEq] at h1 h2
    exact ⟨ie, rfl, h1.1, h1.2, h2⟩
theorem flatF_back : ∀ (l : List Fil) (hid : ∀ i ∈ l, i.id.length = 20) (j : Nat) (v : Value), (l.flatMap cellsF)[j]? = some v → ∃ (k : Nat) (h : k < l.length) (q : Nat), j = k * 22 + q ∧ (cellsF l[k])[q]? = some v
  | [], _, _, _, h => by simp at h
  | i :: l, hid, j, v, h => by
    have hl := cellsF_len i (hid i (by simp))
    rw [List.flatMap_cons] at h
    by_cases hj : j < 22
    · rw [List.getElem?_append_left (by omega)] at h
      exact ⟨0, by simp, j, by omega, h⟩
    · rw [List.getElem?_append_right (by omega), hl] at h
      obtain ⟨k, hk, q, e, hq⟩ := flatF_back l (fun x hx => hid x (by simp [hx])) (j - 22) v h
      exact ⟨k + 1, by simpa using hk, q, by omega, by simpa using hq⟩
theorem flatF_one (l : List Fil) : ∀ v ∈ l.flatMap cellsF, v.oneCell' = true := by
  intro v hv
  obtain ⟨i, _, hi⟩ := List.mem_flatMap.1 hv
  exact cellsF_one i v hi
theorem FilesAt.cells {w : World} {a : Option Addr} {l : List Fil} (h : FilesAt w a l) (hid : ∀ i ∈ l, i.id.length = 20) (ad : Addr) (had : a = some ad) (j : Nat) (u : Value) (hj : (l.flatMap cellsF)[j]? = some u) : w.cell? (ad.add j) = some u := by
  obtain ⟨k, hk, q, e, hq⟩ := flatF_back l hid j u hj
  obtain ⟨b, o, e2, _, hc⟩ := h (by omega)
  rw [had] at e2
  cases e2
  rw [show (⟨b, o, none⟩ : Addr).add j = ⟨b, o + j, none⟩ by unfold Addr.add; split <;> simp_all, e, ← Nat.add_assoc]
  exact hc k hk q u hq
theorem ownF_full_n {w : World} {base : Nat} {e : TypeId} {s g n cap : Nat} {xs : List Value} (h : w.ownsRow base e s (.slice (some ⟨g, 0, none⟩) n cap) n xs) :
    ∃ ys, w.ownsRow base e s (.slice (some ⟨g, 0, none⟩) cap cap) cap ys ∧ ys.take (n * s) = xs := by
  rcases h.2 with ⟨h', _⟩ | ⟨g', cap', cur, h', hb, hg, hnc, hcm, hcs, htake⟩
  · simp at h'
  · simp only [Value.slice.injEq, Option.some.injEq, Addr.mk.injEq, and_true, true_and] at h'
    obtain ⟨rfl, rfl⟩ := h'
    refine ⟨cur.toList, ⟨by simpa using hcs, .inr ⟨g, cap, cur, rfl, hb, hg, Nat.le_refl _, hcm, hcs, List.take_of_length_le (by rw [Array.length_toList, hcs]; exact Nat.le_refl _)⟩⟩, by simpa using htake⟩
theorem ownF_lt_n {w : World} {base : Nat} {e : TypeId} {s g n cap : Nat} {xs : List Value} (h : w.ownsRow base e s (.slice (some ⟨g, 0, none⟩) n cap) n xs) : g < w.heap.size := by
  rcases h.2 with ⟨h', _⟩ | ⟨g', cap', cur, h', hb, hg, hnc, hcm, hcs, htake⟩
  · simp at h'
  · simp only [Value.slice.injEq, Option.some.injEq, Addr.mk.injEq, and_true, true_and] at h'
    obtain ⟨rfl, rfl⟩ := h'
    exact lt_of_heap hg
theorem ownF_same_n {w w' : World} {base : Nat} {e : TypeId} {s g n cap : Nat} {xs : List Value} (h : w.ownsRow base e s (.slice (some ⟨g, 0, none⟩) n cap) n xs) (hk : w'.heap[g]? = w.heap[g]?) :
    w'.ownsRow base e s (.slice (some ⟨g, 0, none⟩) n cap) n xs := by
  refine ⟨h.1, ?_⟩
  rcases h.2 with ⟨h', _⟩ | ⟨g', cap', cur, h', hb', hg, r⟩
  · simp at h'
  · refine .inr ⟨g', cap', cur, h', hb', ?_, r⟩
    simp only [Value.slice.injEq, Option.some.injEq, Addr.mk.injEq, and_true, true_and] at h'
    obtain ⟨rfl, rfl⟩ := h'
    exact hk.trans hg
theorem ownF_keep_n {w w' : World} {base : Nat} {e : TypeId} {s g n cap : Nat} {xs : List Value} (h : w.ownsRow base e s (.slice (some ⟨g, 0, none⟩) n cap) n xs) (hb : Below w.heap.size w w') :
    w'.ownsRow base e s (.slice (some ⟨g, 0, none⟩) n cap) n xs := ownF_same_n h (hb.block g (ownF_lt_n h))
theorem takeF_put {α : Type} (l cs : List α) (p q m : Nat) (hq : q = p + cs.length) (hqm : q ≤ m) (hm : m ≤ l.length) : (l.take p ++ cs ++ l.drop q).take m = (l.take m).take p ++ cs ++ (l.take m).drop q := by
  rw [List.append_assoc, List.take_append, List.take_append, List.length_take, List.take_take, List.take_take, List.drop_take, show min p l.length = p by omega, show min m p = p by omega, show min p m = p by omega,
    List.take_of_length_le (l := cs) (by omega), show m - p - cs.length = m - q by omega, List.append_assoc]
theorem grownF_setRow (w : World) (g : Nat) (cs : Array Value) : w.grownBy (w.setRow g cs) (some g) := by
  have b := below_setRow (B := g) (Below.refl g w) (Nat.le_refl _) cs
  refine ⟨b.os, b.tape, b.output, b.size, fun k _ hk => ?_⟩
  have hkg : k ≠ g := fun e => hk (by rw [e])
  simp [World.setRow, Array.getElem?_modify, hkg.symm]
/-- What an item is stored into: the row's other cells stay. -/
def putFl (ys : List Value) (k : Nat) (i : Fil) : List Value := ys.take (k * 22) ++ cellsF i ++ ys.drop (k * 22 + 22)
theorem wpList_store_cellsF22 {ops : Array Oper} {rest : List Oper} {o : Oper} {a : Act} {w : World} {Q : Exit → Act → World → Prop} (hgd : o.guard = none) (x y : Operand) (ho : o.op = .store 28 x y)
    (B g n c k off : Nat) (ys : List Value) (i : Fil) (A : Array Value) (hA : A = arrF i) (hoff : off = k * 22) (hx : a.eval x = .pointer (some ⟨g, off, none⟩)) (hy : a.eval y = .agg A) (hk : k < n) (hi : i.id.length = 20) (hown : w.ownsRow B 28 22 (.slice (some ⟨g, 0, none⟩) n c) n ys)
    (h : ∀ w', w'.ownsRow B 28 22 (.slice (some ⟨g, 0, none⟩) n c) n (putFl ys k i) → w.grownBy w' (some g) → wpList Tryd.prog ops Q rest (a.put o.dst undef) w') : wpList Tryd.prog ops Q (o :: rest) a w := by
  subst hA; subst hoff
  refine wpList_plain hgd fun K hK => ?_
  have hcl := cellsF_len i hi
  have hmul : k * 22 + 22 ≤ n * 22 := by omega
  rcases hown.2 with ⟨h', _⟩ | ⟨g', cap', cur, h', hb', hg, hnc, hcm, hcs, htake⟩
  · simp at h'
  · simp only [Value.slice.injEq, Option.some.injEq, Addr.mk.injEq, and_true, true_and] at h'
    obtain ⟨rfl, rfl⟩ := h'
    have hc22 : n * 22 ≤ c * 22 := Nat.mul_le_mul_right 22 hnc
    have hst := run_storeCells_at Tryd.prog g (k * 22) 28 (cellsF i) 0 cur w hg (by rw [hcl, hcs]; omega) (fun v hv => cellsF_one i v hv)
    have hi' : (Tryd.prog.info? 28).map (·.size) = some (arrF i).size := info_arrF _ (arrF_size i hi)
    obtain ⟨ie, hie, _, hsz, _⟩ := infoF_all
    unfold Oper.wp execOp
    simp only [ho, hx, hy, Instr.storeAt, Instr.sureAddr, Sem.run_bind, Sem.run_pure, Result.andThen_ok]
    have hrun : (storeVar 28 ⟨g, k * 22, none⟩ (.agg (arrF i))).run Tryd.prog w = .ok () (w.setRow g (cur.toList.take (k * 22) ++ cellsF i ++ cur.toList.drop (k * 22 + 22)).toArray) := by
      simp only [Nat.add_zero] at hst
      rw [hcl] at hst
      simp [storeVar, sizeOf, typeInfo, hie, hsz, Value.cells, arrF, hcl, hst]
    rw [hrun]
    refine hK _ _ (h _ ⟨?_, .inr ⟨g, c, _, rfl, hb', setRow_heap w g cur _ 28 (0, 0) hg, hnc, hcm, ?_, ?_⟩⟩ (grownF_setRow w g _))
    · unfold putFl
      have := hown.1
      simp only [List.length_append, List.length_take, List.length_drop, hcl]
      omega
    · simp only [List.size_toArray, List.length_append, List.length_take, List.length_drop, hcl, Array.length_toList, hcs]
      omega
    · unfold putFl
      rw [← htake]
      exact takeF_put cur.toList (cellsF i) (k * 22) (k * 22 + 22) (n * 22) (by rw [hcl]) hmul (by rw [Array.length_toList, hcs]; exact hc22)
theorem putFl_take (ys : List Value) (k : Nat) (i : Fil) (hi : i.id.length = 20) (h : k * 22 + 22 ≤ ys.length) : (putFl ys k i).take ((k + 1) * 22) = ys.take (k * 22) ++ cellsF i := by
  unfold putFl
  have hl := cellsF_len i hi
  exact List.take_left' (by rw [List.length_append, List.length_take, hl]; omega)
theorem flatF_take (l : List Fil) (hid : ∀ i ∈ l, i.id.length = 20) (k : Nat) (hk : k ≤ l.length) : (l.flatMap cellsF).take (k * 22) = (l.take k).flatMap cellsF := by
  have h1 : l.flatMap cellsF = (l.take k).flatMap cellsF ++ (l.drop k).flatMap cellsF := by rw [← List.flatMap_append, List.take_append_drop]
  have h2 := flatF_len (l.take k) (fun i hi => hid i (List.mem_of_mem_take hi))
  rw [List.length_take, Nat.min_eq_left hk] at h2
  rw [h1, ← h2, List.take_left]
theorem flatF_drop (l : List Fil) (hid : ∀ i ∈ l, i.id.length = 20) (k : Nat) (hk : k ≤ l.length) : (l.flatMap cellsF).drop (k * 22) = (l.drop k).flatMap cellsF := by
  have h1 : l.flatMap cellsF = (l.take k).flatMap cellsF ++ (l.drop k).flatMap cellsF := by rw [← List.flatMap_append, List.take_append_drop]
  have h2 := flatF_len (l.take k) (fun i hi => hid i (List.mem_of_mem_take hi))
  rw [List.length_take, Nat.min_eq_left hk] at h2
  rw [h1, ← h2, List.drop_left]
theorem putFl_flat (l : List Fil) (hid : ∀ i ∈ l, i.id.length = 20) (k : Nat) (hk : k < l.length) (i : Fil) : putFl (l.flatMap cellsF) k i = (l.set k i).flatMap cellsF := by
  unfold putFl
  rw [flatF_take l hid k (by omega), show k * 22 + 22 = (k + 1) * 22 by omega, flatF_drop l hid (k + 1) (by omega), List.set_eq_take_append_cons_drop, if_pos hk, List.flatMap_append, List.flatMap_cons, List.append_assoc]
/-- An item is stored into a row that a call owns. -/
theorem wpList_store_file {ops : Array Oper} {rest : List Oper} {o : Oper} {a : Act} {w : World} {Q : Exit → Act → World → Prop} (hgd : o.guard = none) (x y : Operand) (ho : o.op = .store 28 x y)
    (B g c k off : Nat) (l : List Fil) (hid : ∀ i ∈ l, i.id.length = 20) (i : Fil) (A : Array Value) (hA : A = arrF i) (hoff : off = k * 22) (hx : a.eval x = .pointer (some ⟨g, off, none⟩)) (hy : a.eval y = .agg A) (hk : k < l.length) (hi : i.id.length = 20) (hown : OwnFl B (.slice (some ⟨g, 0, none⟩) l.length c) l w)
    (h : ∀ w', OwnFl B (.slice (some ⟨g, 0, none⟩) l.length c) (l.set k i) w' → w.grownBy w' (some g) → wpList Tryd.prog ops Q rest (a.put o.dst undef) w') : wpList Tryd.prog ops Q (o :: rest) a w := by
  refine wpList_store_cellsF22 hgd x y ho B g l.length c k off _ i A hA hoff hx hy hk hi hown (fun w' hw hg => h w' ?_ hg)
  unfold OwnFl
  rw [List.length_set, ← putFl_flat l hid k hk i]
  exact hw
theorem setF_ids {l : List Fil} (hid : ∀ i ∈ l, i.id.length = 20) (k : Nat) {x : Fil} (hx : x.id.length = 20) : ∀ i ∈ l.set k x, i.id.length = 20 := fun i hi => by
  rcases List.mem_or_eq_of_mem_set hi with h | rfl
  · exact hid i h
  · exact hx
end Go.Proofs.YtdgcjjledbnofaaDoor
