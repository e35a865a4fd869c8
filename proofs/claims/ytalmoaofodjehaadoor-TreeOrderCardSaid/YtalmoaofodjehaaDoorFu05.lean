/-
  Texts that belong together, one behind the other.
-/
import Derived.Test.YtalmoaofodjehaaDoorFu03
import Derived.Test.YtalmoaofodjehaaDoorFu04
import Derived.Deep.MidRow
import Derived.Deep.QuietTactic
import Derived.BigQuiet
/-
  Items held against each other.
-/
namespace Go.Proofs.YtalmoaofodjehaaDoor
set_option maxRecDepth 20000
open Go.RowKit
set_option linter.unusedVariables false
set_option linter.unusedSimpArgs false

theorem item_part0 (xs : Array Value) (v : Value) (u : World) (h : xs[0]? = some v) : (part 3 xs 0).run Tryd.prog u = .ok v u := by
  simp [part, isAgg, run_underlying Tryd.underlying3, h]
theorem item_part1 (xs : Array Value) (v : Value) (u : World) (h : xs[1]? = some v) : (part 9 xs 1).run Tryd.prog u = .ok v u := by
  simp [part, isAgg, run_underlying Tryd.underlying9, h]
theorem item_part2 (i : Itm) (hid : i.id.length = 20) (u : World) : (part 28 (arrI i) 2).run Tryd.prog u = .ok (idv i.id) u := by
  have hs : (sizeOf 28).run Tryd.prog u = .ok 20 u := Tryd.sizeOf28 u
  have hl : (Lib.byteCells i.id).length = 20 := by simp [Lib.byteCells, hid]
  have e : ((arrI i).extract 2 (2 + 20)) = (Lib.byteCells i.id).toArray := by
    apply Array.ext'
    unfold arrI
    rw [Array.toList_extract]
    simp only [List.extract, cellsI]
    show ((Lib.byteCells i.id)).take 20 = _
    rw [List.take_of_length_le (by omega)]
  simp [part, isAgg, run_underlying Tryd.underlying28, hs, idv]
  simpa using e
theorem item_fields : ∃ f0 f1 f2 : Field, (Tryd.prog.fieldsOf 30).toList = [f0, f1, f2] ∧ (f0.type = 3 ∧ f0.offset = 0 ∧ (f0.name == "_") = false) ∧ (f1.type = 9 ∧ f1.offset = 1 ∧ (f1.name == "_") = false) ∧ (f2.type = 28 ∧ f2.offset = 2 ∧ (f2.name == "_") = false) := by
  have h : (Tryd.prog.fieldsOf 30).toList.map (fun f => (f.type, f.offset, f.name == "_")) = [(3, 0, false), (9, 1, false), (28, 2, false)] := by kernel_rfl
  generalize (Tryd.prog.fieldsOf 30).toList = fs at h ⊢
  rcases fs with _ | ⟨f0, _ | ⟨f1, _ | ⟨f2, _ | ⟨f3, fs⟩⟩⟩⟩
  · cases h
  · exact absurd (congrArg List.length h) (by simp)
  · exact absurd (congrArg List.length h) (by simp)
  · simp only [List.map_cons, List.map_nil, List.cons.injEq, Prod.mk.injEq, and_true] at h
    exact ⟨f0, f1, f2, rfl, h.1, h.2.1, h.2.2⟩
  · exact absurd (congrArg List.length h) (by simp)
/-- Two items alike. -/
def eqI (i j : Itm) : Bool := (i.mode == j.mode) && ((i.name == j.name) && (i.id == j.id))
theorem eqI_iff (i j : Itm) : eqI i j = true ↔ i = j := by
  cases i; cases j
  simp [eqI]
theorem eqI_same (i : Itm) : eqI i i = true := (eqI_iff i i).2 rfl
theorem item_under : Tryd.prog.underlying 30 = some (.struct (Tryd.prog.fieldsOf 30)) := by kernel_rfl
theorem equalIn_item (d : Nat) (i j : Itm) (hi : i.id.length = 20) (hj : j.id.length = 20) (w : World) : (Op.equalIn (d + 3) 30 (.agg (arrI i)) (.agg (arrI j))).run Tryd.prog w = .ok (eqI i j) w := by
  obtain ⟨f0, f1, f2, hf, ⟨a0, b0, c0⟩, ⟨a1, b1, c1⟩, ⟨a2, b2, c2⟩⟩ := item_fields
  have n0 : f0.name ≠ "_" := by intro e; rw [e] at c0; simp at c0
  have n1 : f1.name ≠ "_" := by intro e; rw [e] at c1; simp at c1
  have n2 : f2.name ≠ "_" := by intro e; rw [e] at c2; simp at c2
  have p0 := fun k u => item_part0 (arrI k) (.int .i64 k.mode) u rfl
  have p1 := fun k u => item_part1 (arrI k) (.string ⟨k.name.toArray⟩) u rfl
  have e0 := fun u => run_equalIn_int (P := Tryd.prog) u (d + 1) 3 .i64 .i64 i.mode j.mode Tryd.underlying3
  have e1 := fun u => run_equalIn_string (P := Tryd.prog) u (d + 1) 9 ⟨i.name.toArray⟩ ⟨j.name.toArray⟩ Tryd.underlying9
  have e2 : ∀ u, (Op.equalIn (d + 1 + 1) 28 (idv i.id) (idv j.id)).run Tryd.prog u = .ok (i.id == j.id) u := fun u => run_equalIn_bytes (P := Tryd.prog) u d 28 5 20 Tryd.underlying28 Tryd.underlying5 Tryd.sizeOf5 i.id j.id hi hj
  have p2 := fun u => item_part2 i hi u
  have p3 := fun u => item_part2 j hj u
  rw [run_equalIn_struct w (d + 2) 30 _ _ item_under (by kernel_rfl), hf]
  unfold eqI
  rw [toList_mk, toList_mk] at e1
  generalize (i.mode == j.mode) = x at e0 ⊢
  generalize (i.name == j.name) = y at e1 ⊢
  generalize (i.id == j.id) = z at e2 ⊢
  simp only [Op.eqFields, n0, n1, n2, ne_eq, not_false_eq_true, if_true, Sem.run_bind, a0, b0, a1, b1, a2, b2, p0, p1, p2, p3, Result.andThen_ok, e0, e1, e2]
  cases x <;> cases y <;> cases z <;> simp [e1, e2, p1, p2, p3]
theorem eql_item (i j : Itm) (hi : i.id.length = 20) (hj : j.id.length = 20) (w : World) : (binOp .eql 30 (.agg (arrI i)) (.agg (arrI j))).run Tryd.prog w = .ok (.bool (eqI i j)) w := by
  have h := equalIn_item 9997 i j hi hj w
  rw [run_eql_struct]
  rw [show Op.equalIn 10000 = Op.equalIn (9997 + 3) from rfl, h]
  rfl
theorem neq_item (i j : Itm) (hi : i.id.length = 20) (hj : j.id.length = 20) (w : World) : (binOp .neq 30 (.agg (arrI i)) (.agg (arrI j))).run Tryd.prog w = .ok (.bool (!eqI i j)) w := by
  have h := equalIn_item 9997 i j hi hj w
  rw [run_neq_struct]
  rw [show Op.equalIn 10000 = Op.equalIn (9997 + 3) from rfl, h]
  rfl
end Go.Proofs.YtalmoaofodjehaaDoor

/-
  The helpers Same, Plain, Kept of the statements over items; few.
-/
namespace Go.Proofs.YtalmoaofodjehaaDoor
set_option maxRecDepth 20000
open Go.RowKit
set_option linter.unusedVariables false
set_option linter.unusedSimpArgs false

set_option maxHeartbeats 2000000 in
theorem eq_item (i j : Itm) (hi : i.id.length = 20) (hj : j.id.length = 20) (w : World) :
    Calls Tryd.prog 34 #[.agg (arrI i), .agg (arrI j)] w fun e w' => e = .returned (.bool (eqI i j)) ∧ Below w.heap.size w w' := by
  have E := fun u => eql_item i j hi hj u
  have HA := Lib.hid (arrI_size i hi); have HB := Lib.hid (arrI_size j hj)
  generalize arrI i = A at *
  generalize arrI j = B at *
  generalize eqI i j = r at *
  have b1 := (Below.refl w.heap.size w).alloc (Nat.le_refl _) (.cells A 30)
  have b2 := b1.alloc b1.size (.cells B 30)
  have e1 : (w.alloc (.cells A 30)).heap.size = w.heap.size + 1 := by simp
  have h1 := (((Below.refl (w.alloc (.cells A 30)).heap.size (w.alloc (.cells A 30))).alloc (Nat.le_refl _) (.cells B 30)).block w.heap.size (by simp)).trans (heap_alloc_new w _)
  have h2 := heap_alloc_new (w.alloc (.cells A 30)) (.cells B 30)
  rw [e1] at h2
  have H1 := Lib.hid h1; have H2 := Lib.hid h2; have B2 := Lib.hid b2
  clear b1 b2 h1 h2 hi hj e1
  go_enter Tryd.func34, Tryd.ntmps34
  go_wp2_with (first
    | (with_reducible refine wpList_load_row rfl 30 (.tmp 2) rfl w.heap.size rfl 30 A (0, 0) _ H1.out Tryd.underlying30 rfl (info_arr A HA.out) ?_)
    | (with_reducible refine wpList_load_row rfl 30 (.tmp 3) rfl (w.heap.size + 1) rfl 30 B (0, 0) _ H2.out Tryd.underlying30 rfl (info_arr B HB.out) ?_))
  go_ret
  exact ⟨rfl, B2.out⟩
set_option maxHeartbeats 8000000 in
theorem SameItm_some (b1 o1 b2 o2 c1 c2 n : Nat) (l : List Itm) (w : World) (hn : n = l.length) (hm : n ≤ 1000000) (h1 : b1 < w.heap.size) (h2 : b2 < w.heap.size)
    (hc1 : ∀ k (h : k < l.length) j v, (cellsI l[k])[j]? = some v → w.cell? ⟨b1, o1 + k * 22 + j, none⟩ = some v) (hc2 : ∀ k (h : k < l.length) j v, (cellsI l[k])[j]? = some v → w.cell? ⟨b2, o2 + k * 22 + j, none⟩ = some v) (hid : ∀ i ∈ l, i.id.length = 20) :
    Calls Tryd.prog 33 #[.slice (some ⟨b1, o1, none⟩) n c1, .slice (some ⟨b2, o2, none⟩) n c2, .func (.func 34) #[] #[]] w fun e w' => e = .returned (.bool true) ∧ Below w.heap.size w w' := by
  have HC1 := Lib.hid hc1; have HC2 := Lib.hid hc2; have HID := Lib.hid hid; have HN := Lib.hid hn
  clear hc1 hc2 hid hn
  go_enter Tryd.func33, Tryd.ntmps33
  go_wp2_with fail
  go_loopw [7] (fun i wr => ∃ k : Nat, k ≤ n ∧ i = .int .i64 k ∧ Below w.heap.size w wr) (fun i _ => n - (intOf i).toNat)
  case atStart => exact ⟨0, Nat.zero_le _, rfl, Below.refl _ _⟩
  case round =>
    obtain ⟨k, hk, rfl, hbr⟩ := hrel
    have HBR := Lib.hid hbr
    clear hbr
    by_cases hlt : k < n
    · have hkl : k < l.length := by rw [← HN.out]; exact hlt
      obtain ⟨x, hx2⟩ : ∃ x, l[k] = x := ⟨_, rfl⟩
      have hidx := HID.out x (by rw [← hx2]; exact List.getElem_mem _)
      have r1 : ∀ u, Below wr.heap.size wr u → u.rangeAt b1 (o1 + k * 22) (cellsI x) := fun u hu j v hv =>
        (hu.cell (p := ⟨b1, o1 + k * 22 + j, none⟩) (Nat.lt_of_lt_of_le h1 HBR.out.size)).trans ((HBR.out.cell (p := ⟨b1, o1 + k * 22 + j, none⟩) h1).trans (HC1.out k hkl j v (by rw [hx2]; exact hv)))
      have r2 : ∀ u, Below wr.heap.size wr u → u.rangeAt b2 (o2 + k * 22) (cellsI x) := fun u hu j v hv =>
        (hu.cell (p := ⟨b2, o2 + k * 22 + j, none⟩) (Nat.lt_of_lt_of_le h2 HBR.out.size)).trans ((HBR.out.cell (p := ⟨b2, o2 + k * 22 + j, none⟩) h2).trans (HC2.out k hkl j v (by rw [hx2]; exact hv)))
      have ce : ∀ u, Below wr.heap.size wr u → Calls Tryd.prog 34 #[.agg (cellsI x).toArray, .agg (cellsI x).toArray] u fun e u' => e = .returned (.bool true) ∧ Below wr.heap.size wr u' := fun u hu =>
        (eq_item x x hidx hidx u).mono fun e u' h => ⟨by rw [h.1, eqI_same], hu.trans (h.2.mono hu.size)⟩
      have ll : (Tryd.prog.info? 30).map (·.size) = some (cellsI x).length := by rw [cellsI_len x hidx]; exact infoItem
      have R1 := Lib.hid r1; have R2 := Lib.hid r2; have CE := Lib.hid ce; have LX := Lib.hid ll
      clear r1 r2 ce ll hx2 hidx
      generalize cellsI x = cx at *
      go_wp2_with fail
      refine wp_region_held_drew (S := fun u => Below wr.heap.size wr u) (by kernel_rfl) (Below.refl _ _).drew (fun hHeld => ?_)
      refine wpAnyH_take (i := 0) (v := ?hv0) rfl (by kernel_rfl) (by kernel_rfl) (by kernel_rfl) (fun _ _ _ h => h) (Or.inl ⟨by kernel_rfl, ?hy0⟩) hHeld ?_
      case hy0 => intro u hu; go_simp; try with_reducible rfl
      try simp only [Act.put, List.setIfInBounds_toArray, List.set_cons_zero, List.set_cons_succ]
      refine wpAnyH_take (i := 1) (v := ?hv1) rfl (by kernel_rfl) (by kernel_rfl) (by kernel_rfl) (fun _ _ _ h => h) (Or.inl ⟨by kernel_rfl, ?hy1⟩) hHeld ?_
      case hy1 => intro u hu; go_simp; try with_reducible rfl
      try simp only [Act.put, List.setIfInBounds_toArray, List.set_cons_zero, List.set_cons_succ]
      refine wpAnyH_take (i := 2) (v := ?hv2) rfl (by kernel_rfl) (by kernel_rfl) (by kernel_rfl) (fun _ _ _ h => h) (Or.inl ⟨by kernel_rfl, ?hy2⟩) hHeld ?_
      case hy2 => intro u hu; go_simp; try with_reducible rfl
      try simp only [Act.put, List.setIfInBounds_toArray, List.set_cons_zero, List.set_cons_succ]
      refine wpAnyH_take (i := 3) (v := ?hv3) rfl (by kernel_rfl) (by kernel_rfl) (by kernel_rfl) (fun _ _ _ h => h) (Or.inl ⟨by kernel_rfl, ?hy3⟩) hHeld ?_
      case hy3 => intro u hu; go_simp; try with_reducible rfl
      try simp only [Act.put, List.setIfInBounds_toArray, List.set_cons_zero, List.set_cons_succ]
      refine wpAnyH_take (i := 4) rfl (by kernel_rfl) (by kernel_rfl) (by kernel_rfl) (fun _ _ _ h => h) (yieldsIf_load_mid (by kernel_rfl) 30 (.tmp 22) (by kernel_rfl) b1 (o1 + k * 22) (by kernel_rfl) cx _ (fun u hu => R1.out u hu) Tryd.underlying30 rfl LX.out) hHeld ?_
      try simp only [Act.put, List.setIfInBounds_toArray, List.set_cons_zero, List.set_cons_succ]
      refine wpAnyH_take (i := 5) (v := ?hv5) rfl (by kernel_rfl) (by kernel_rfl) (by kernel_rfl) (fun _ _ _ h => h) (Or.inl ⟨by kernel_rfl, ?hy5⟩) hHeld ?_
      case hy5 => intro u hu; go_simp; try with_reducible rfl
      try simp only [Act.put, List.setIfInBounds_toArray, List.set_cons_zero, List.set_cons_succ]
      refine wpAnyH_take (i := 6) (v := ?hv6) rfl (by kernel_rfl) (by kernel_rfl) (by kernel_rfl) (fun _ _ _ h => h) (Or.inl ⟨by kernel_rfl, ?hy6⟩) hHeld ?_
      case hy6 => intro u hu; go_simp; try with_reducible rfl
      try simp only [Act.put, List.setIfInBounds_toArray, List.set_cons_zero, List.set_cons_succ]
      refine wpAnyH_take (i := 7) (v := ?hv7) rfl (by kernel_rfl) (by kernel_rfl) (by kernel_rfl) (fun _ _ _ h => h) (Or.inl ⟨by kernel_rfl, ?hy7⟩) hHeld ?_
      case hy7 => intro u hu; go_simp; try with_reducible rfl
      try simp only [Act.put, List.setIfInBounds_toArray, List.set_cons_zero, List.set_cons_succ]
      refine wpAnyH_take (i := 8) rfl (by kernel_rfl) (by kernel_rfl) (by kernel_rfl) (fun _ _ _ h => h) (yieldsIf_load_mid (by kernel_rfl) 30 (.tmp 26) (by kernel_rfl) b2 (o2 + k * 22) (by kernel_rfl) cx _ (fun u hu => R2.out u hu) Tryd.underlying30 rfl LX.out) hHeld ?_
      try simp only [Act.put, List.setIfInBounds_toArray, List.set_cons_zero, List.set_cons_succ]
      refine wpAnyH_ready (rs := [9]) (by kernel_rfl) (by simp) ?_
      refine AllReadyH.cons rfl (fun K hK => ?_) AllReadyH.nil
      go_simp
      refine (CE.out _ hHeld).mono ?_
      rintro e u1 ⟨rfl, hH⟩
      clear hHeld
      refine hK.out _ _ hH (fun hHeld => ?_)
      clear hK K
      try simp only [Act.put, List.setIfInBounds_toArray, List.set_cons_zero, List.set_cons_succ]
      refine wpAnyH_take (i := 10) (v := ?hv10) rfl (by kernel_rfl) (by kernel_rfl) (by kernel_rfl) (fun _ _ _ h => h) (Or.inl ⟨by kernel_rfl, ?hy10⟩) hHeld ?_
      case hy10 => intro u hu; go_simp; try with_reducible rfl
      try simp only [Act.put, List.setIfInBounds_toArray, List.set_cons_zero, List.set_cons_succ]
      refine wpAnyH_done (by kernel_rfl) ?_ _
      have HB2 := Lib.hid (HBR.out.trans (hHeld.mono HBR.out.size))
      clear hHeld
      go_wp2
      go_roundw
      case rel => exact ⟨k + 1, by omega, by go_num, HB2.out⟩
      case measure => simp [intOf]; omega
    · obtain rfl : k = n := by omega
      go_wp2
      go_ret
      exact ⟨rfl, HBR.out⟩
end Go.Proofs.YtalmoaofodjehaaDoor

/-
  The helpers Plain, Kept of the statements over items; few.
-/
namespace Go.Proofs.YtalmoaofodjehaaDoor
set_option maxRecDepth 20000
open Go.RowKit
set_option linter.unusedVariables false
set_option linter.unusedSimpArgs false

set_option maxHeartbeats 400000 in
theorem SameItm_none (a1 a2 : Option Addr) (c1 c2 : Nat) (w : World) :
    Calls Tryd.prog 33 #[.slice a1 0 c1, .slice a2 0 c2, .func (.func 34) #[] #[]] w fun e w' => e = .returned (.bool true) ∧ Below w.heap.size w w' := by
  go_enter Tryd.func33, Tryd.ntmps33
  go_wp2_with fail
  refine wp_loop_rounds 1 ?_
  rw [rounds_succ]
  go_wp2
  go_ret
  exact ⟨rfl, Below.refl _ _⟩
theorem SameItm_any (a1 a2 : Option Addr) (n c1 c2 : Nat) (l : List Itm) (w : World) (h1 : ItemsAt w a1 l) (h2 : ItemsAt w a2 l) (hn : n = l.length) (hm : n ≤ 1000000) (hid : ∀ i ∈ l, i.id.length = 20) :
    Calls Tryd.prog 33 #[.slice a1 n c1, .slice a2 n c2, .func (.func 34) #[] #[]] w fun e w' => e = .returned (.bool true) ∧ Below w.heap.size w w' := by
  by_cases hp : 0 < l.length
  · obtain ⟨b1, o1, rfl, hb1, hc1⟩ := h1 hp
    obtain ⟨b2, o2, rfl, hb2, hc2⟩ := h2 hp
    exact SameItm_some b1 o1 b2 o2 c1 c2 n l w hn hm hb1 hb2 hc1 hc2 hid
  · obtain rfl : n = 0 := by omega
    exact SameItm_none a1 a2 c1 c2 w
set_option maxHeartbeats 400000 in
theorem PlainItm_any (a1 a2 : Option Addr) (n c1 c2 : Nat) (l : List Itm) (w : World) (h1 : ItemsAt w a1 l) (h2 : ItemsAt w a2 l) (hn : n = l.length) (hm : n ≤ 1000000) (hid : ∀ i ∈ l, i.id.length = 20) :
    Calls Tryd.prog 20 #[.slice a1 n c1, .slice a2 n c2] w fun e w' => e = .returned (.bool true) ∧ Below w.heap.size w w' := by
  have C := Lib.hid (SameItm_any a1 a2 n c1 c2 l w h1 h2 hn hm hid)
  clear h1 h2 hn hm hid
  go_enter Tryd.func20, Tryd.ntmps20
  go_wp2_with fail
  refine C.out.mono ?_
  rintro e w1 ⟨rfl, hb⟩
  go_wp2
  go_ret
  exact ⟨rfl, hb⟩
theorem OwnItm.items {w : World} {g : Nat} {l : List Itm} {f : Itm} (h : OwnItm w g l f) (hid : ∀ i ∈ l, i.id.length = 20) (hf : f.id.length = 20) : ItemsAt w (some ⟨g, 0, none⟩) (l ++ List.replicate 3 f) := by
  have hall : ∀ i ∈ l ++ List.replicate 3 f, i.id.length = 20 := fun i hi => by
    rcases List.mem_append.1 hi with h | h
    · exact hid i h
    · rw [List.eq_of_mem_replicate h]; exact hf
  refine fun _ => ⟨g, 0, rfl, h.lt, fun k hk j v hv => ?_⟩
  have hr := flat_at _ hall k hk j v hv
  have hlt : k * 22 + j < (l.length + 3) * 22 := by
    have := (List.getElem?_eq_some_iff.1 hr).1
    rw [flat_cells_len _ hall] at this
    simpa using this
  rw [show 0 + k * 22 + j = k * 22 + j by omega, h.cellAt (k * 22 + j) hlt]
  exact hr
theorem OwnItm.front {w : World} {g : Nat} {l : List Itm} {f : Itm} (h : OwnItm w g l f) (hid : ∀ i ∈ l, i.id.length = 20) (hf : f.id.length = 20) : ItemsAt w (some ⟨g, 0, none⟩) l := by
  have := (h.items hid hf).take l.length
  rwa [List.take_left] at this
theorem row_arr {w : World} {g : Nat} {A : Array Value} {t : TypeId} {fr : Nat × Nat} (h : w.heap[g]? = some (.cells A t fr)) : w.rangeAt g 0 A.toList := fun j v hv => by
  rw [Nat.zero_add, Lib.cell_of_heap h, ← hv]
  simp
theorem row_keep {w u : World} {g : Nat} {cs : List Value} (h : w.rangeAt g 0 cs) (hg : g < w.heap.size) (hb : Below w.heap.size w u) : u.rangeAt g 0 cs := fun j v hv => (hb.cell (p := ⟨g, 0 + j, none⟩) hg).trans (h j v hv)
set_option maxHeartbeats 8000000 in
theorem KeptItm_any (g n c2 : Nat) (a : Option Addr) (l : List Itm) (f : Itm) (w : World) (ho : OwnItm w g l f) (h : ItemsAt w a l) (hn : n = l.length) (hm : n ≤ 1000000) (hid : ∀ i ∈ l, i.id.length = 20) (hf : f.id.length = 20) :
    Calls Tryd.prog 21 #[.slice (some ⟨g, 0, none⟩) n (n + 3), .slice a n c2, .agg (arrI f)] w fun e w' => e = .returned (.bool true) ∧ Below w.heap.size w w' := by
  obtain ⟨A, hA⟩ : ∃ A, arrI f = A := ⟨_, rfl⟩
  have HAS := Lib.hid (show A.size = 22 by rw [← hA]; exact arrI_size f hf)
  have b1 := (Below.refl w.heap.size w).alloc (Nat.le_refl _) (.cells A 30)
  have P := Lib.hid (fun u (hb : Below w.heap.size w u) => PlainItm_any (some ⟨g, 0, none⟩) a n (n + 3) c2 l u ((ho.front hid hf).keep hb) (h.keep hb) hn hm hid)
  have N := fun u => neq_item f f hf hf u
  rw [eqI_same, hA] at N
  have hit := ho.items hid hf
  have hr : ∀ k, l.length ≤ k → k < l.length + 3 → ∀ u, Below w.heap.size w u → u.rangeAt g (k * 22) A.toList := (fun k hk0 hk u hb j v hv => by
    obtain ⟨b, o, e1, hlt, hc⟩ := hit (by simp)
    cases e1
    refine (hb.cell (p := ⟨g, k * 22 + j, none⟩) hlt).trans ?_
    have e2 : (l ++ List.replicate 3 f)[k]'(by simp; omega) = f := by
      rw [List.getElem_append_right hk0]
      exact List.getElem_replicate ..
    have := hc k (by simp; omega) j v (by rw [e2, ← hv, ← hA]; simp [arrI])
    rwa [show 0 + k * 22 + j = k * 22 + j by omega] at this)
  have H1 := Lib.hid (heap_alloc_new w (.cells A 30))
  have B1 := Lib.hid b1
  have HL := Lib.hid hn
  have LA := Lib.hid (show (Tryd.prog.info? 30).map (·.size) = some A.toList.length by rw [Array.length_toList]; exact info_arr A HAS.out)
  rw [hA]
  have HR := Lib.hid hr
  clear ho h hid hA b1 hit hn hr
  go_enter Tryd.func21, Tryd.ntmps21
  go_wp2_with fail
  refine (P.out _ B1.out).mono ?_
  rintro e w1 ⟨rfl, hb1⟩
  have HX := Lib.hid ((hb1.block w.heap.size (lt_of_heap H1.out)).trans H1.out)
  have HB1 := Lib.hid (B1.out.trans (hb1.mono B1.out.size))
  clear hb1
  go_wp2_with fail
  go_loopw [8] (fun i wr => ∃ k : Nat, n ≤ k ∧ k ≤ n + 3 ∧ i = .int .i64 k ∧ wr.heap[w.heap.size]? = some (.cells A 30 (0, 0)) ∧ Below w.heap.size w wr) (fun i _ => n + 3 - (intOf i).toNat)
  case atStart => exact ⟨n, Nat.le_refl _, by omega, rfl, HX.out, HB1.out⟩
  case round =>
    obtain ⟨k, hk0, hk, rfl, hx, hbr⟩ := hrel
    have HXR := Lib.hid hx; have HBR := Lib.hid hbr
    clear hx hbr
    by_cases hlt : k < n + 3
    · have HRK := Lib.hid (HR.out k (by rw [← HL.out]; omega) (by rw [← HL.out]; omega))
      have hrow := row_arr (w := wr) (A := A) HXR.out
      have HRW := Lib.hid hrow
      clear hrow
      go_wp2_with fail
      refine wp_region_held_drew (S := fun u => Below wr.heap.size wr u) (by kernel_rfl) (Below.refl _ _).drew (fun hHeld => ?_)
      refine wpAnyH_take (i := 0) (v := ?hv0) rfl (by kernel_rfl) (by kernel_rfl) (by kernel_rfl) (fun _ _ _ h => h) (Or.inl ⟨by kernel_rfl, ?hy0⟩) hHeld ?_
      case hy0 => intro u hu; go_simp; try with_reducible rfl
      try simp only [Act.put, List.setIfInBounds_toArray, List.set_cons_zero, List.set_cons_succ]
      refine wpAnyH_take (i := 1) (v := ?hv1) rfl (by kernel_rfl) (by kernel_rfl) (by kernel_rfl) (fun _ _ _ h => h) (Or.inl ⟨by kernel_rfl, ?hy1⟩) hHeld ?_
      case hy1 => intro u hu; go_simp; try with_reducible rfl
      try simp only [Act.put, List.setIfInBounds_toArray, List.set_cons_zero, List.set_cons_succ]
      refine wpAnyH_take (i := 2) (v := ?hv2) rfl (by kernel_rfl) (by kernel_rfl) (by kernel_rfl) (fun _ _ _ h => h) (Or.inl ⟨by kernel_rfl, ?hy2⟩) hHeld ?_
      case hy2 => intro u hu; go_simp; try with_reducible rfl
      try simp only [Act.put, List.setIfInBounds_toArray, List.set_cons_zero, List.set_cons_succ]
      refine wpAnyH_take (i := 3) rfl (by kernel_rfl) (by kernel_rfl) (by kernel_rfl) (fun _ _ _ h => h) (yieldsIf_load_mid (by kernel_rfl) 30 (.tmp 36) (by kernel_rfl) g (k * 22) (by kernel_rfl) A.toList _ (fun u hu => HRK.out u (HBR.out.trans (hu.mono HBR.out.size))) Tryd.underlying30 rfl LA.out) hHeld ?_
      try simp only [Act.put, List.setIfInBounds_toArray, List.set_cons_zero, List.set_cons_succ]
      refine wpAnyH_take (i := 4) rfl (by kernel_rfl) (by kernel_rfl) (by kernel_rfl) (fun _ _ _ h => h) (yieldsIf_load_mid (by kernel_rfl) 30 (.tmp 5) (by kernel_rfl) w.heap.size 0 (by kernel_rfl) A.toList _ (fun u hu => row_keep HRW.out (lt_of_heap HXR.out) hu) Tryd.underlying30 rfl LA.out) hHeld ?_
      try simp only [Act.put, List.setIfInBounds_toArray, List.set_cons_zero, List.set_cons_succ]
      refine wpAnyH_take (i := 5) (v := ?hv5) rfl (by kernel_rfl) (by kernel_rfl) (by kernel_rfl) (fun _ _ _ h => h) (Or.inl ⟨by kernel_rfl, ?hy5⟩) hHeld ?_
      case hy5 => intro u hu; go_simp; try with_reducible rfl
      try simp only [Act.put, List.setIfInBounds_toArray, List.set_cons_zero, List.set_cons_succ]
      refine wpAnyH_done (by kernel_rfl) ?_ _
      have HB2 := Lib.hid (HBR.out.trans (hHeld.mono HBR.out.size))
      have HX2 := Lib.hid (heap_keep HXR.out hHeld)
      clear hHeld
      go_wp2
      go_roundw
      case rel => exact ⟨k + 1, by omega, by omega, by go_num, HX2.out, HB2.out⟩
      case measure => simp [intOf]; omega
    · obtain rfl : k = n + 3 := by omega
      go_wp2
      go_ret
      exact ⟨rfl, HBR.out⟩
end Go.Proofs.YtalmoaofodjehaaDoor
