/-
  Texts that belong together, one behind the other.
-/
import Derived.Test.YtdgcjjledbnofaaDoorFu21
import Derived.OrdersHeld
import Derived.Deep.RegionHeld
import Derived.Test.YtdgcjjledbnofaaDoorFu01
import Derived.Test.YtdgcjjledbnofaaDoorFu07
/-
  Layer 13, the program: what a file alone must be.
-/
namespace Go.Proofs.YtdgcjjledbnofaaDoor
set_option maxRecDepth 20000
open Go.RowKit
set_option linter.unusedVariables false
set_option linter.unusedSimpArgs false

theorem rowF_cells {w : World} {g : Nat} {f : Fil} {fr : Nat × Nat} (h : w.heap[g]? = some (.cells (arrF f) 28 fr)) : w.rangeAt g 0 (cellsF f) := fun j v hv => by
  rw [Lib.cell_of_heap h, Nat.zero_add]
  simpa [arrF] using hv
set_option maxHeartbeats 4000000 in
theorem fsound_is (i : Fil) (hid : i.id.length = 20) (hnm : i.path.length ≤ 1000000) (w : World) (tab : QTab w) :
    Calls Tryd.prog 43 #[.agg (arrF i)] w fun e w' => e = .returned (.bool (soundF i)) ∧ Below w.heap.size w w' := by
  have h0 := heap_alloc_new w (.cells (arrF i) 28)
  have hr := rowF_cells h0
  have q0 : (w.alloc (.cells (arrF i) 28)).cell? ⟨w.heap.size, 0, none⟩ = some (.string ⟨i.path.toArray⟩) := hr 0 _ rfl
  have q1 : (w.alloc (.cells (arrF i) 28)).cell? ⟨w.heap.size, 1, none⟩ = some (.int .i64 i.mode) := hr 1 _ rfl
  have b0 := (Below.refl w.heap.size w).alloc (Nat.le_refl _) (.cells (arrF i) 28)
  have s0 : (w.alloc (.cells (arrF i) 28)).heap.size = w.heap.size + 1 := by simp
  have cN := Path_is i.path (w.alloc (.cells (arrF i) 28)) hnm (tab.below b0)
  have q2 : ∀ u, Below (w.alloc (.cells (arrF i) 28)).heap.size (w.alloc (.cells (arrF i) 28)) u → u.rangeAt w.heap.size 2 (Lib.byteCells i.id) := fun u hu j v hv => by
    have := (hu.cell (p := ⟨w.heap.size, 0 + (j + 2), none⟩) (by rw [s0]; exact Nat.lt_succ_self _)).trans (hr (j + 2) v hv)
    rwa [show 0 + (j + 2) = 2 + j by omega] at this
  have hli : (Tryd.prog.info? 26).map (·.size) = some (Lib.byteCells i.id).length := by rw [show (Lib.byteCells i.id).length = 20 by simp [Lib.byteCells, hid]]; exact info29
  have LI := Lib.hid hli
  have HQ2 := Lib.hid q2; have HB0 := Lib.hid b0
  obtain ⟨z, hz, hze⟩ := z29
  have hzv := zero_arr hz
  have ids := fun u => neq_idv u i.id zeroId hid (by simp [zeroId])
  rw [show idv zeroId = .agg z by rw [hze]; rfl, show idv i.id = .agg (Lib.byteCells i.id).toArray from rfl] at ids
  have hone : soundF i = (decide (1 ≤ i.mode) && decide (i.mode ≤ 3) && pathL i.path && !(i.id == zeroId)) := rfl
  obtain ⟨m, hm⟩ : ∃ m, i.mode = m := ⟨_, rfl⟩
  rw [hm] at q1 hone
  obtain ⟨zb, hzb⟩ : ∃ zb, (i.id == zeroId) = zb := ⟨_, rfl⟩
  rw [hzb] at ids hone
  obtain ⟨nm, hnm2⟩ : ∃ nm, pathL i.path = nm := ⟨_, rfl⟩
  rw [hnm2] at cN hone
  obtain ⟨R, hR⟩ : ∃ R, soundF i = R := ⟨_, rfl⟩
  rw [hR] at hone ⊢
  have HONE := Lib.hid hone
  clear hnm tab h0 hr b0 s0 q2 hli hz hze hid hm hzb hnm2 hR hone
  generalize Lib.byteCells i.id = ic at *
  generalize arrF i = ar at *
  generalize (⟨i.path.toArray⟩ : ByteArray) = sn at *
  by_cases h14 : 1 ≤ m ∧ m ≤ 3
  · have hd1 : decide (1 ≤ m) = true := decide_eq_true h14.1
    have hd4 : decide (m ≤ 3) = true := decide_eq_true h14.2
    rw [hd1, hd4] at HONE
    obtain h | h | h : m = 1 ∨ m = 2 ∨ m = 3 := by omega
    all_goals
      subst h
      clear h14 hd1 hd4
      cases nm with
      | false =>
        have hr : R = false := HONE.out
        subst hr
        go_enter Tryd.func43, Tryd.ntmps43
        go_wp2_with fail
        refine cN.mono ?_
        rintro e w1 ⟨rfl, b1⟩
        have B1 := Lib.hid (HB0.out.trans (b1.mono HB0.out.size))
        clear b1
        go_wp2
        go_ret
        exact ⟨rfl, B1.out⟩
      | true =>
        have hr : R = !zb := by rw [HONE.out]; simp
        subst hr
        go_enter Tryd.func43, Tryd.ntmps43
        go_wp2_with fail
        refine cN.mono ?_
        rintro e w1 ⟨rfl, b1⟩
        have Q3 := Lib.hid (HQ2.out _ b1)
        have B1 := Lib.hid (HB0.out.trans (b1.mono HB0.out.size))
        clear b1
        go_wp2_with (first
          | (with_reducible refine wpList_load_midW 26 (.tmp 13) rfl (by kernel_rfl) w.heap.size 2 rfl ic _ Q3.out Tryd.underlying26 rfl LI.out ?_)
          | fail)
        go_ret
        exact ⟨rfl, B1.out⟩
  · have hr : R = false := by
      rw [HONE.out]
      by_cases h1 : 1 ≤ m
      · rw [decide_eq_false (by omega : ¬ m ≤ 3)]; simp
      · rw [decide_eq_false h1]; simp
    subst hr
    have f1 : (m == 1) = false := beq_false_of_ne (by omega)
    have f2 : (m == 2) = false := beq_false_of_ne (by omega)
    have f3 : (m == 3) = false := beq_false_of_ne (by omega)
    clear h14 cN
    go_enter Tryd.func43, Tryd.ntmps43
    go_wp2
    go_ret
    exact ⟨rfl, HB0.out⟩
end Go.Proofs.YtdgcjjledbnofaaDoor

/-
  Short forms of the steps of a region that draws its order, the frame's puts told anew behind each.
-/
namespace Go.Proofs.YtdgcjjledbnofaaDoor
open Go.RowKit

variable {P : Program} {ops : Array Oper} {Q : Exit → Act → World → Prop} {md : Region.Mode} {S : World → Prop}
theorem lsA (l : List Value) (i : Nat) (x : Value) : l.toArray.setIfInBounds i x = (l.set i x).toArray := List.setIfInBounds_toArray l i x
theorem lsZ (x y : Value) (l : List Value) : (x :: l).set 0 y = y :: l := rfl
theorem lsS (x y : Value) (l : List Value) (i : Nat) : (x :: l).set (i + 1) y = x :: l.set i y := rfl
theorem tkH (i : Nat) {oi : Oper} {v : Value} {fuel : Nat} {listed : Array Bool} {a b : Act} {w : World} (hi : ops[i]? = some oi) (hy : YieldsIf P ops S oi v a) (hS : S w)
    (h : wpAnyH P md ops Q S fuel (listed.setIfInBounds i true) b w) (hs : Region.noSelect ops = true := by kernel_rfl) (hf : Region.free md ops listed i = true := by kernel_rfl)
    (hr : (Region.ready md ops listed).contains i = true := by kernel_rfl) (hQ : ∀ c a w, Q (.panic c) (a.put oi.dst v) w → Q (.panic c) a w := by exact fun _ _ _ h => h)
    (hb : a.put oi.dst v = b := by first | (simp only [Act.put, lsA, lsZ, lsS]; rfl) | rfl) : wpAnyH P md ops Q S (fuel + 1) listed a w :=
  wpAnyH_take hi hs hf hr hQ hy hS (hb ▸ h)
theorem tkV (i : Nat) {oi : Oper} {fuel : Nat} {listed : Array Bool} {a b : Act} {w : World} (hi : ops[i]? = some oi) (v : Value) (hy : ∀ w, S w → (execOp a.eval oi).run P w = .ok (.value v) w) (hS : S w)
    (h : wpAnyH P md ops Q S fuel (listed.setIfInBounds i true) b w) (hs : Region.noSelect ops = true := by kernel_rfl) (hf : Region.free md ops listed i = true := by kernel_rfl)
    (hr : (Region.ready md ops listed).contains i = true := by kernel_rfl) (hQ : ∀ c a w, Q (.panic c) (a.put oi.dst v) w → Q (.panic c) a w := by exact fun _ _ _ h => h) (hw : Region.wanted oi (yielded ops a.tmps) = true := by kernel_rfl)
    (hb : a.put oi.dst v = b := by first | (simp only [Act.put, lsA, lsZ, lsS]; rfl) | rfl) : wpAnyH P md ops Q S (fuel + 1) listed a w :=
  wpAnyH_take hi hs hf hr hQ (.inl ⟨hw, hy⟩) hS (hb ▸ h)
theorem tkW (i : Nat) {oi : Oper} {fuel : Nat} {listed : Array Bool} {a b : Act} {w : World} {v : Value} (hi : ops[i]? = some oi) (hS : S w)
    (h : wpAnyH P md ops Q S fuel (listed.setIfInBounds i true) b w) (hs : Region.noSelect ops = true := by kernel_rfl) (hf : Region.free md ops listed i = true := by kernel_rfl)
    (hr : (Region.ready md ops listed).contains i = true := by kernel_rfl) (hy : ∀ w, S w → (execOp a.eval oi).run P w = .ok (.value v) w := by intro u hu; go_simp; try with_reducible rfl)
    (hQ : ∀ c a w, Q (.panic c) (a.put oi.dst v) w → Q (.panic c) a w := by exact fun _ _ _ h => h) (hw : Region.wanted oi (yielded ops a.tmps) = true := by kernel_rfl)
    (hb : a.put oi.dst v = b := by first | (simp only [Act.put, lsA, lsZ, lsS]; rfl) | rfl) : wpAnyH P md ops Q S (fuel + 1) listed a w :=
  wpAnyH_take hi hs hf hr hQ (.inl ⟨hw, hy⟩) hS (hb ▸ h)
theorem tkU (i : Nat) {oi : Oper} {fuel : Nat} {listed : Array Bool} {a b : Act} {w : World} (hi : ops[i]? = some oi) (hS : S w)
    (h : wpAnyH P md ops Q S fuel (listed.setIfInBounds i true) b w) (hs : Region.noSelect ops = true := by kernel_rfl) (hf : Region.free md ops listed i = true := by kernel_rfl)
    (hr : (Region.ready md ops listed).contains i = true := by kernel_rfl) (hQ : ∀ c a w, Q (.panic c) (a.put oi.dst undef) w → Q (.panic c) a w := by exact fun _ _ _ h => h) (hw : Region.wanted oi (yielded ops a.tmps) = false := by kernel_rfl)
    (hb : a.put oi.dst undef = b := by first | (simp only [Act.put, lsA, lsZ, lsS]; rfl) | rfl) : wpAnyH P md ops Q S (fuel + 1) listed a w :=
  wpAnyH_take hi hs hf hr hQ (.inr ⟨hw, rfl⟩) hS (hb ▸ h)
theorem rdH (i : Nat) {o : Oper} {fuel : Nat} {listed : Array Bool} {a : Act} {w : World} (ho : ops[i]? = some o)
    (h : ∀ K' : Act → World → Prop, Shut (∀ a w, S w → (S w → wpAnyH P md ops Q S fuel (listed.setIfInBounds i true) a w) → K' a w) → if Region.wanted o (yielded ops a.tmps) = true then Oper.wp P o a w K' Q else K' (a.put o.dst undef) w)
    (hr : Region.ready md ops listed = [i] := by kernel_rfl) : wpAnyH P md ops Q S (fuel + 1) listed a w := wpAnyH_ready hr (by simp) (.cons ho h .nil)
theorem rgB {id : Nat} {a : Act} (W : World) (h : Below W.heap.size W W.drew → wpAnyH P .any ops Q (fun u => Below W.heap.size W u) ops.size (Array.replicate ops.size false) a W.drew)
    (hm : P.follows .mixedOrders = true := by kernel_rfl) : (Code.region id ops true).wp P Q a W := wp_region_held_drew (S := fun u => Below W.heap.size W u) hm (Below.refl _ _).drew h
end Go.Proofs.YtdgcjjledbnofaaDoor

/-
  Layer 13, the program: which lists of files are valid.
-/
namespace Go.Proofs.YtdgcjjledbnofaaDoor
set_option maxRecDepth 20000
open Go.RowKit Go.Maps
set_option linter.unusedVariables false
set_option linter.unusedSimpArgs false

/-- The paths of the first files, as a set. -/
def pathsD (l : List Fil) (k : Nat) : DataW Unit := setOf (.agg []) ((l.take k).map fun i => Lit.string i.path)
theorem pathsD_zero (l : List Fil) : pathsD l 0 = .map [] := by simp [pathsD, setOf]
theorem pathsD_next (l : List Fil) (k : Nat) (h : k < l.length) : pathsD l (k + 1) = (pathsD l k).put (.string l[k].path) (.agg []) := by
  unfold pathsD
  rw [List.take_add_one, List.getElem?_eq_getElem h, List.map_append]
  exact setOf_snoc _ _ _
theorem pathsD_has (l : List Fil) (k : Nat) (s : List UInt8) : Maps.has (pathsD l k) (.string s) = (l.take k).any (fun i => i.path == s) := by
  unfold pathsD
  rw [has_setOf _ _ _ (fun y hy => by obtain ⟨_, _, rfl⟩ := List.mem_map.1 hy; trivial), List.any_map]
  rfl
theorem underF_iff (d p : List UInt8) : underF d p = true ↔ d.length < p.length ∧ p.getD d.length 0 = 47 ∧ p.take d.length = d := by
  unfold underF
  rw [List.isPrefixOf_iff_prefix]
  constructor
  · rintro ⟨t, rfl⟩
    refine ⟨by simp, ?_, ?_⟩
    · simp [List.getD_eq_getElem?_getD]
    · simp
  · rintro ⟨h1, h2, h3⟩
    refine ⟨p.drop (d.length + 1), ?_⟩
    have e : p[d.length] = 47 := by
      rw [List.getD_eq_getElem?_getD, List.getElem?_eq_getElem h1] at h2
      exact h2
    have := List.take_append_drop d.length p
    rw [← List.getElem_cons_drop h1, e, h3] at this
    rw [List.append_assoc]
    exact this
theorem getD_fil (l : List Fil) (k : Nat) (h : k < l.length) : l.getD k noF = l[k] := by rw [List.getD_eq_getElem?_getD, List.getElem?_eq_getElem h]; rfl
theorem clear_below (l : List Fil) (i : Nat) (hi : i < l.length) : clearF l i = !belowF (pathsD l i) l[i].path := by
  rw [Bool.eq_iff_iff, clearF_iff, Bool.not_eq_true']
  constructor
  · intro h
    refine belowF_no (fun j hj => ?_)
    unfold hitF
    rw [pathsD_has]
    cases hb : (l[i].path.getD j 0 == 47) with
    | false => rfl
    | true =>
      rw [Bool.true_and, List.any_eq_false]
      intro f hf he
      obtain ⟨k, hk, rfl⟩ := List.mem_iff_getElem.1 hf
      rw [List.length_take] at hk
      rw [List.getElem_take] at he
      have h2 := h k (by omega)
      rw [getD_fil l k (by omega), getD_fil l i hi] at h2
      have e : l[k].path = l[i].path.take j := by simpa using he
      have e2 : l[k].path.length = j := by rw [e, List.length_take]; omega
      have h3 : underF l[k].path l[i].path = true := (underF_iff _ _).2 ⟨by rw [e2]; exact hj, by rw [e2]; simpa using hb, by rw [e2]; exact e.symm⟩
      rw [h3] at h2
      cases h2
  · intro h k hk
    rw [getD_fil l k (by omega), getD_fil l i hi]
    cases hu : underF l[k].path l[i].path with
    | false => rfl
    | true =>
      obtain ⟨h1, h2, h3⟩ := (underF_iff _ _).1 hu
      have : belowF (pathsD l i) l[i].path = true := by
        refine belowF_yes l[k].path.length h1 ?_
        rw [hit_here h2, pathsD_has, List.any_eq_true]
        exact ⟨l[k], List.mem_iff_getElem.2 ⟨k, by rw [List.length_take]; omega, by rw [List.getElem_take]⟩, by rw [h3]; simp⟩
      rw [h] at this
      cases this
set_option maxHeartbeats 64000000 in
theorem fRight_some (b o n c : Nat) (l : List Fil) (w : World) (hn : n = l.length) (h1 : 1 ≤ n) (h5 : n ≤ 500) (hat : FilesAt w (some ⟨b, o, none⟩) l) (hid : ∀ i ∈ l, i.id.length = 20) (hnm : ∀ i ∈ l, i.path.length ≤ 1000000) (tab : QTab w) :
    Calls Tryd.prog 30 #[.slice (some ⟨b, o, none⟩) n c] w fun e w' => e = .returned (.bool (rightF l)) ∧ Below w.heap.size w w' := by
  have g2 : ¬ ((n : Int) > 500) := by omega
  have HN := Lib.hid hn; have HAT := Lib.hid hat; have HID := Lib.hid hid; have HNM := Lib.hid hnm; have TB := Lib.hid tab
  have HBL := Lib.hid (hat.lt (by omega))
  have hmm := run_makeMap_hint (n : Int)
  obtain ⟨R, hR⟩ : ∃ R, rightF l = R := ⟨_, rfl⟩
  have BAD := Lib.hid (fun i hi h => hR.symm.trans (rightF_step l i hi h))
  have GOOD := Lib.hid (fun h => hR.symm.trans ((rightF_iff l).2 h))
  have H5 := Lib.hid h5
  rw [hR]
  obtain ⟨z, hz, hzs, hzv, hzb, hz1⟩ := zFile_any
  have HZS := Lib.hid hzs
  clear hn hat hid hnm tab hR hz hzs hzb hz1 h5
  go_enter Tryd.func30, Tryd.ntmps30
  go_wp2_with fail
  go_loopw [14] (fun v21 wr => ∃ i : Nat, i ≤ n ∧ v21 = .int .i64 i ∧ (∀ j, j < i → stepF l j = true) ∧ wr.ownsMap Tryd.prog 9 unitElem w.heap.size i (pathsD l i) ∧ Below w.heap.size w wr) (fun v21 _ => n - (intOf v21).toNat)
  case atStart => exact ⟨0, Nat.zero_le _, rfl, fun j hj => absurd hj (Nat.not_lt_zero _), by rw [pathsD_zero]; exact World.ownsMap_made _ _ _ _, (Below.refl _ _).alloc (Nat.le_refl _) _⟩
  case round =>
    obtain ⟨i, hi, rfl, hst, hown, hbr⟩ := hrel
    have HST := Lib.hid hst
    have HOWN := Lib.hid hown
    have HBR := Lib.hid hbr
    clear hst hown hbr
    by_cases hlt : i < n
    · have hil : i < l.length := by rw [← HN.out]; exact hlt
      obtain ⟨x, hx2⟩ : ∃ x, l[i] = x := ⟨_, rfl⟩
      have hxm : x ∈ l := by rw [← hx2]; exact List.getElem_mem _
      have hidx := HID.out x hxm
      have hnx := HNM.out x hxm
      have rx : wr.rangeAt b (o + i * 22) (cellsF x) := fun j v hv => (HBR.out.cell (p := ⟨b, o + i * 22 + j, none⟩) HBL.out).trans (HAT.out.elem i hil j v (by rw [hx2]; exact hv))
      have lx : (Tryd.prog.info? 28).map (·.size) = some (cellsF x).length := by rw [cellsF_len x hidx]; exact infoFile
      have HSTP := Lib.hid (show stepF l i = (soundF x && (i == 0 || decide ((l.getD (i - 1) noF).path < x.path)) && !belowF (pathsD l i) x.path) by unfold stepF; rw [getD_fil l i hil, hx2, clear_below l i hil, hx2])
      have HNX := Lib.hid (show pathsD l (i + 1) = (pathsD l i).put (.string x.path) (.agg []) by rw [pathsD_next l i hil, hx2])
      have hky : keyOf Tryd.prog 9 (.string ⟨x.path.toArray⟩) = some (.string x.path) := WideMaps.keyOf_string_mk Tryd.underlying9 (by rw [size_toArray]; unfold maxLen; omega)
      have hcs : (arrF x).size = 22 := arrF_size x hidx
      have hc1 : (arrF x).all (·.oneCell') = true := arrF_one x
      have b1 := below_setRow (B := wr.heap.size) (g := wr.heap.size) ((Below.refl wr.heap.size wr).alloc (Nat.le_refl _) (.cells z 28)) (Nat.le_refl _) (arrF x)
      have h1g := setRow_heap (wr.alloc (.cells z 28)) wr.heap.size z (arrF x) 28 (0, 0) (heap_alloc_new wr _)
      have hax : arrF x = (cellsF x).toArray := rfl
      obtain ⟨cx, hcx⟩ : ∃ cx, cellsF x = cx := ⟨_, rfl⟩
      have icx : cx[0]? = some (.string ⟨x.path.toArray⟩) := by rw [← hcx]; rfl
      rw [hcx] at rx lx hax
      rw [hax] at hcs hc1 b1 h1g
      have RX := Lib.hid rx; have LX := Lib.hid lx; have HCS := Lib.hid hcs; have HC1 := Lib.hid hc1; have II := Lib.hid (show (Tryd.prog.info? 28).map (·.size) = some cx.toArray.size by rw [hcs]; exact infoFile)
      have HB1 := Lib.hid b1; have H1G := Lib.hid h1g
      have DSND := Lib.hid (fun u (hu : Below w.heap.size w u) => (fsound_is x hidx hnx u (TB.out.below hu)))
      rw [show arrF x = cx.toArray from hax] at DSND
      have DBEL := Lib.hid (fun u (hu : Below w.heap.size w u) hm hB => below_is x.path u hnx w.heap.size i (pathsD l i) hm hB)
      clear rx lx hcs hc1 b1 h1g hxm hax hcx
      go_wp2_with (first
        | (with_reducible refine wpList_load_mid rfl 28 (.tmp 17) rfl b (o + i * 22) rfl cx _ RX.out Tryd.underlying28 rfl LX.out ?_)
        | (with_reducible refine wpList_store_row rfl 28 (.tmp 5) (.tmp 18) rfl wr.heap.size cx.toArray rfl rfl 28 z (heap_alloc_new wr _) II.out (HZS.out.trans HCS.out.symm) HC1.out ?_)
        | fail)
      obtain ⟨W1, hW1⟩ : ∃ W1, (wr.alloc (.cells z 28)).setRow wr.heap.size cx.toArray = W1 := ⟨_, rfl⟩
      have hb1 := HB1.out
      have hg1 := H1G.out
      rw [hW1] at hb1 hg1 ⊢
      have HBW := Lib.hid (HBR.out.trans (hb1.mono HBR.out.size))
      have HOW := Lib.hid (map_below HOWN.out hb1)
      have RG := Lib.hid (show ∀ u, Below W1.heap.size W1 u → u.rangeAt wr.heap.size 0 cx from fun u hu j v hv => by
        have e := heap_keep hg1 hu
        rw [Lib.cell_of_heap e, Nat.zero_add, ← hv]; simp)
      have DSN := Lib.hid (fun u (hu : Below W1.heap.size W1 u) => (DSND.out u (HBW.out.trans (hu.mono HBW.out.size))).mono (fun e u' h => And.intro h.1 (hu.trans (h.2.mono hu.size))))
      have DBE := Lib.hid (fun u (hu : Below W1.heap.size W1 u) => (DBEL.out u (HBW.out.trans (hu.mono HBW.out.size)) (map_below HOW.out hu) (Nat.lt_of_lt_of_le (World.ownsMap.lt HOW.out) hu.size)).mono (fun e u' h => And.intro h.1 (hu.trans (h.2.mono hu.size))))
      obtain ⟨sx, hsx⟩ : ∃ sx : ByteArray, ⟨x.path.toArray⟩ = sx := ⟨_, rfl⟩
      have hls := fun y : List UInt8 => less_mk y x.path
      rw [hsx] at icx hky DBE
      simp only [hsx] at hls
      have CX := Lib.hid (show ∀ u, Below W1.heap.size W1 u → u.cell? ⟨wr.heap.size, 0, none⟩ = some (.string sx) from fun u hu => RG.out u hu 0 _ icx)
      have HK := Lib.hid hky
      have LS := Lib.hid hls
      have HIL := Lib.hid hil; have HIDX := Lib.hid hidx
      clear hb1 hg1 hW1 hsx icx hky hls hil hidx hnx hx2 DSND DBEL
      obtain ⟨on, hon⟩ : ∃ on, soundF x = on := ⟨_, rfl⟩
      obtain ⟨be, hbe⟩ : ∃ be, belowF (pathsD l i) x.path = be := ⟨_, rfl⟩
      have hstp := HSTP.out
      rw [hon, hbe] at hstp
      clear HSTP
      have dsn := DSN.out
      have dbe := DBE.out
      clear DSN DBE
      simp only [hon] at dsn
      simp only [hbe] at dbe
      have DSN := Lib.hid dsn; have DBE := Lib.hid dbe; have HSTP := Lib.hid hstp
      clear dsn dbe hstp hon hbe
      cases on with
      | false =>
        have hR : false = R := (BAD.out i HIL.out (by rw [HSTP.out]; rfl)).symm
        subst hR
        refine wp_region_held_drew (S := fun u => Below W1.heap.size W1 u) (by kernel_rfl) (Below.refl _ _).drew (fun hHeld => ?_)
        refine tkH 0 rfl (yieldsIf_load_mid (by kernel_rfl) 28 (.tmp 5) (by kernel_rfl) wr.heap.size 0 (by kernel_rfl) cx _ (fun u hu => RG.out u hu) Tryd.underlying28 rfl LX.out) hHeld ?_
        refine rdH 1 rfl (fun K hK => ?_)
        go_simp
        refine (DSN.out _ hHeld).mono ?_
        rintro e u1 ⟨rfl, hH⟩
        clear hHeld
        refine hK.out _ _ hH (fun hHeld => ?_)
        clear hK K
        try simp only [Act.put, List.setIfInBounds_toArray, List.set_cons_zero, List.set_cons_succ]
        refine tkW 2 rfl hHeld ?_
        refine tkW 3 rfl hHeld ?_
        refine tkU 4 rfl hHeld ?_
        refine tkU 5 rfl hHeld ?_
        refine tkU 6 rfl hHeld ?_
        refine tkU 7 rfl hHeld ?_
        refine tkU 8 rfl hHeld ?_
        refine tkU 9 rfl hHeld ?_
        refine tkU 10 rfl hHeld ?_
        refine tkU 11 rfl hHeld ?_
        refine tkU 12 rfl hHeld ?_
        refine tkU 13 rfl hHeld ?_
        refine tkU 14 rfl hHeld ?_
        refine tkU 15 rfl hHeld ?_
        refine tkU 16 rfl hHeld ?_
        refine tkW 17 rfl hHeld ?_
        refine tkW 18 rfl hHeld ?_
        refine tkU 19 rfl hHeld ?_
        refine tkU 20 rfl hHeld ?_
        refine tkU 21 rfl hHeld ?_
        refine tkU 22 rfl hHeld ?_
        refine tkW 23 rfl hHeld ?_
        try simp only [Act.put, List.getElem_toArray, List.getElem_cons_succ, List.getElem_cons_zero, lsA, lsZ, lsS]
        refine wpAnyH_done (by kernel_rfl) ?_ _
        have HBU := Lib.hid (HBW.out.trans (hH.mono HBW.out.size))
        clear hH
        go_wp2
        go_ret
        exact ⟨rfl, HBU.out⟩
      | true =>
        by_cases hi0 : i = 0
        · have hi1 : (i == 0) = true := by simp [hi0]
          have hz2 : ¬ 0 < i := by omega
          have HI0 := Lib.hid hi0
          clear hi0
          cases be with
          | true =>
            have hR : false = R := (BAD.out i HIL.out (by rw [HSTP.out, hi1]; rfl)).symm
            subst hR
            refine wp_region_held_drew (S := fun u => Below W1.heap.size W1 u) (by kernel_rfl) (Below.refl _ _).drew (fun hHeld => ?_)
            refine tkH 0 rfl (yieldsIf_load_mid (by kernel_rfl) 28 (.tmp 5) (by kernel_rfl) wr.heap.size 0 (by kernel_rfl) cx _ (fun u hu => RG.out u hu) Tryd.underlying28 rfl LX.out) hHeld ?_
            refine rdH 1 rfl (fun K hK => ?_)
            go_simp
            refine (DSN.out _ hHeld).mono ?_
            rintro e u1 ⟨rfl, hH⟩
            clear hHeld
            refine hK.out _ _ hH (fun hHeld => ?_)
            clear hK K
            try simp only [Act.put, List.setIfInBounds_toArray, List.set_cons_zero, List.set_cons_succ]
            refine tkW 2 rfl hHeld ?_
            refine tkW 3 rfl hHeld ?_
            refine tkW 4 rfl hHeld ?_
            refine tkW 5 rfl hHeld ?_
            refine tkW 6 rfl hHeld ?_
            refine tkU 7 rfl hHeld ?_
            refine tkU 8 rfl hHeld ?_
            refine tkU 9 rfl hHeld ?_
            refine tkU 10 rfl hHeld ?_
            refine tkU 11 rfl hHeld ?_
            refine tkU 12 rfl hHeld ?_
            refine tkU 13 rfl hHeld ?_
            refine tkU 14 rfl hHeld ?_
            refine tkU 15 rfl hHeld ?_
            refine tkW 16 rfl hHeld ?_
            refine tkW 17 rfl hHeld ?_
            refine tkW 18 rfl hHeld ?_
            refine tkW 19 rfl hHeld ?_
            refine tkV 20 rfl (.string sx) (fun u hu => by have q := CX.out u hu; go_simp) hHeld ?_
            refine tkW 21 rfl hHeld ?_
            refine rdH 22 rfl (fun K hK => ?_)
            go_simp
            refine (DBE.out _ hHeld).mono ?_
            rintro e u2 ⟨rfl, hH⟩
            clear hHeld
            refine hK.out _ _ hH (fun hHeld => ?_)
            clear hK K
            try simp only [Act.put, List.setIfInBounds_toArray, List.set_cons_zero, List.set_cons_succ]
            refine tkW 23 rfl hHeld ?_
            try simp only [Act.put, List.getElem_toArray, List.getElem_cons_succ, List.getElem_cons_zero, lsA, lsZ, lsS]
            refine wpAnyH_done (by kernel_rfl) ?_ _
            have HBU := Lib.hid (HBW.out.trans (hH.mono HBW.out.size))
            clear hH
            go_wp2
            go_ret
            exact ⟨rfl, HBU.out⟩
          | false =>
            have HSTEP := Lib.hid (show stepF l i = true by rw [HSTP.out, hi1]; rfl)
            refine wp_region_held_drew (S := fun u => Below W1.heap.size W1 u) (by kernel_rfl) (Below.refl _ _).drew (fun hHeld => ?_)
            refine tkH 0 rfl (yieldsIf_load_mid (by kernel_rfl) 28 (.tmp 5) (by kernel_rfl) wr.heap.size 0 (by kernel_rfl) cx _ (fun u hu => RG.out u hu) Tryd.underlying28 rfl LX.out) hHeld ?_
            refine rdH 1 rfl (fun K hK => ?_)
            go_simp
            refine (DSN.out _ hHeld).mono ?_
            rintro e u1 ⟨rfl, hH⟩
            clear hHeld
            refine hK.out _ _ hH (fun hHeld => ?_)
            clear hK K
            try simp only [Act.put, List.setIfInBounds_toArray, List.set_cons_zero, List.set_cons_succ]
            refine tkW 2 rfl hHeld ?_
            refine tkW 3 rfl hHeld ?_
            refine tkW 4 rfl hHeld ?_
            refine tkW 5 rfl hHeld ?_
            refine tkW 6 rfl hHeld ?_
            refine tkU 7 rfl hHeld ?_
            refine tkU 8 rfl hHeld ?_
            refine tkU 9 rfl hHeld ?_
            refine tkU 10 rfl hHeld ?_
            refine tkU 11 rfl hHeld ?_
            refine tkU 12 rfl hHeld ?_
            refine tkU 13 rfl hHeld ?_
            refine tkU 14 rfl hHeld ?_
            refine tkU 15 rfl hHeld ?_
            refine tkW 16 rfl hHeld ?_
            refine tkW 17 rfl hHeld ?_
            refine tkW 18 rfl hHeld ?_
            refine tkW 19 rfl hHeld ?_
            refine tkV 20 rfl (.string sx) (fun u hu => by have q := CX.out u hu; go_simp) hHeld ?_
            refine tkW 21 rfl hHeld ?_
            refine rdH 22 rfl (fun K hK => ?_)
            go_simp
            refine (DBE.out _ hHeld).mono ?_
            rintro e u2 ⟨rfl, hH⟩
            clear hHeld
            refine hK.out _ _ hH (fun hHeld => ?_)
            clear hK K
            try simp only [Act.put, List.setIfInBounds_toArray, List.set_cons_zero, List.set_cons_succ]
            refine tkW 23 rfl hHeld ?_
            try simp only [Act.put, List.getElem_toArray, List.getElem_cons_succ, List.getElem_cons_zero, lsA, lsZ, lsS]
            refine wpAnyH_done (by kernel_rfl) ?_ _
            have HBU := Lib.hid (HBW.out.trans (hH.mono HBW.out.size))
            have HOV := Lib.hid (map_below HOW.out hH)
            have q1b := CX.out _ hH
            clear hH
            go_wp2_with (first
              | (at_mapUpdate; refine wpList_mapUpdate_own _ rfl _ _ _ 73 rfl 9 76 keyLaw Tryd.underlying73 (unitElem (H := Unit)) w.heap.size i _ rfl HOV.out (by unfold maxLen; omega) _ _ _ rfl rfl HK.out _ [] unitElem_mk ?_; intro w9 hown1 hgrow1)
              | fail)
            have hbn := HBU.out.grown hgrow1 HBU.out.size (fun j hj => by cases hj; exact Nat.le_refl _)
            have HON := Lib.hid hown1; have HBN := Lib.hid hbn
            clear hown1 hgrow1 hbn
            go_roundw
            case rel =>
              refine ⟨i + 1, by omega, by go_num, fun j hj => ?_, by rw [HNX.out]; exact HON.out, HBN.out⟩
              by_cases hji : j < i
              · exact HST.out j hji
              · obtain rfl : j = i := by omega
                exact HSTEP.out
            case measure => simp [intOf]; omega
        · have hp : i - 1 < l.length := by have := HIL.out; omega
          obtain ⟨q, hpi⟩ : ∃ q, q + 1 = i := ⟨i - 1, by omega⟩
          obtain ⟨y, hy⟩ : ∃ y, l[i - 1] = y := ⟨_, rfl⟩
          have hyp : l.getD (i - 1) noF = y := by rw [getD_fil l _ hp]; exact hy
          have hw : IntKind.i64.wrap ((i : Int) - 1) = (q : Int) := by rw [IntWalk.i64_in _ (by omega)]; omega
          have hpn : q < n := by omega
          obtain ⟨sp, hsp⟩ : ∃ sp : ByteArray, ⟨y.path.toArray⟩ = sp := ⟨_, rfl⟩
          have cp : ∀ u, Below W1.heap.size W1 u → u.cell? ⟨b, o + q * 22, none⟩ = some (.string sp) := fun u hu => ((HBW.out.trans (hu.mono HBW.out.size)).cell (p := ⟨b, o + q * 22, none⟩) HBL.out).trans (HAT.out.elem q (by omega) 0 _ (by rw [show l[q]'(by omega) = y by rw [← hy]; congr 1; omega]; rw [← hsp]; rfl))
          have CP := Lib.hid cp
          have hls := LS.out y.path
          rw [hsp] at hls
          obtain ⟨r, hr⟩ : ∃ r, decide (y.path < x.path) = r := ⟨_, rfl⟩
          rw [hr] at hls
          have HLS := Lib.hid hls
          have hi1 : (i == 0) = false := beq_false_of_ne hi0
          have hpos : 0 < i := by omega
          have hstp := HSTP.out
          rw [hyp, hr, hi1] at hstp
          clear HSTP
          have HSTP := Lib.hid hstp
          clear cp hr hyp hsp hy hp hls LS hstp
          cases r with
          | false =>
            have hR : false = R := (BAD.out i HIL.out (by rw [HSTP.out]; rfl)).symm
            subst hR
            refine wp_region_held_drew (S := fun u => Below W1.heap.size W1 u) (by kernel_rfl) (Below.refl _ _).drew (fun hHeld => ?_)
            refine tkH 0 rfl (yieldsIf_load_mid (by kernel_rfl) 28 (.tmp 5) (by kernel_rfl) wr.heap.size 0 (by kernel_rfl) cx _ (fun u hu => RG.out u hu) Tryd.underlying28 rfl LX.out) hHeld ?_
            refine rdH 1 rfl (fun K hK => ?_)
            go_simp
            refine (DSN.out _ hHeld).mono ?_
            rintro e u1 ⟨rfl, hH⟩
            clear hHeld
            refine hK.out _ _ hH (fun hHeld => ?_)
            clear hK K
            try simp only [Act.put, List.setIfInBounds_toArray, List.set_cons_zero, List.set_cons_succ]
            refine tkW 2 rfl hHeld ?_
            refine tkW 3 rfl hHeld ?_
            refine tkW 4 rfl hHeld ?_
            refine tkW 5 rfl hHeld ?_
            refine tkW 6 rfl hHeld ?_
            refine tkW 7 rfl hHeld ?_
            refine tkW 8 rfl hHeld ?_
            refine tkW 9 rfl hHeld ?_
            refine tkW 10 rfl hHeld ?_
            refine tkW 11 rfl hHeld ?_
            refine tkV 12 rfl (.string sp) (fun u hu => by have q := CP.out u hu; go_simp) hHeld ?_
            refine tkW 13 rfl hHeld ?_
            refine tkV 14 rfl (.string sx) (fun u hu => by have q := CX.out u hu; go_simp) hHeld ?_
            refine tkV 15 rfl (.bool (true)) (fun u hu => by have q := HLS.out; go_simp) hHeld ?_
            refine tkW 16 rfl hHeld ?_
            refine tkW 17 rfl hHeld ?_
            refine tkW 18 rfl hHeld ?_
            refine tkU 19 rfl hHeld ?_
            refine tkU 20 rfl hHeld ?_
            refine tkU 21 rfl hHeld ?_
            refine tkU 22 rfl hHeld ?_
            refine tkW 23 rfl hHeld ?_
            try simp only [Act.put, List.getElem_toArray, List.getElem_cons_succ, List.getElem_cons_zero, lsA, lsZ, lsS]
            refine wpAnyH_done (by kernel_rfl) ?_ _
            have HBU := Lib.hid (HBW.out.trans (hH.mono HBW.out.size))
            clear hH
            go_wp2
            go_ret
            exact ⟨rfl, HBU.out⟩
          | true =>
            cases be with
            | true =>
              have hR : false = R := (BAD.out i HIL.out (by rw [HSTP.out]; rfl)).symm
              subst hR
              refine wp_region_held_drew (S := fun u => Below W1.heap.size W1 u) (by kernel_rfl) (Below.refl _ _).drew (fun hHeld => ?_)
              refine tkH 0 rfl (yieldsIf_load_mid (by kernel_rfl) 28 (.tmp 5) (by kernel_rfl) wr.heap.size 0 (by kernel_rfl) cx _ (fun u hu => RG.out u hu) Tryd.underlying28 rfl LX.out) hHeld ?_
              refine rdH 1 rfl (fun K hK => ?_)
              go_simp
              refine (DSN.out _ hHeld).mono ?_
              rintro e u1 ⟨rfl, hH⟩
              clear hHeld
              refine hK.out _ _ hH (fun hHeld => ?_)
              clear hK K
              try simp only [Act.put, List.setIfInBounds_toArray, List.set_cons_zero, List.set_cons_succ]
              refine tkW 2 rfl hHeld ?_
              refine tkW 3 rfl hHeld ?_
              refine tkW 4 rfl hHeld ?_
              refine tkW 5 rfl hHeld ?_
              refine tkW 6 rfl hHeld ?_
              refine tkW 7 rfl hHeld ?_
              refine tkW 8 rfl hHeld ?_
              refine tkW 9 rfl hHeld ?_
              refine tkW 10 rfl hHeld ?_
              refine tkW 11 rfl hHeld ?_
              refine tkV 12 rfl (.string sp) (fun u hu => by have q := CP.out u hu; go_simp) hHeld ?_
              refine tkW 13 rfl hHeld ?_
              refine tkV 14 rfl (.string sx) (fun u hu => by have q := CX.out u hu; go_simp) hHeld ?_
              refine tkV 15 rfl (.bool (false)) (fun u hu => by have q := HLS.out; go_simp) hHeld ?_
              refine tkW 16 rfl hHeld ?_
              refine tkW 17 rfl hHeld ?_
              refine tkW 18 rfl hHeld ?_
              refine tkW 19 rfl hHeld ?_
              refine tkV 20 rfl (.string sx) (fun u hu => by have q := CX.out u hu; go_simp) hHeld ?_
              refine tkW 21 rfl hHeld ?_
              refine rdH 22 rfl (fun K hK => ?_)
              go_simp
              refine (DBE.out _ hHeld).mono ?_
              rintro e u2 ⟨rfl, hH⟩
              clear hHeld
              refine hK.out _ _ hH (fun hHeld => ?_)
              clear hK K
              try simp only [Act.put, List.setIfInBounds_toArray, List.set_cons_zero, List.set_cons_succ]
              refine tkW 23 rfl hHeld ?_
              try simp only [Act.put, List.getElem_toArray, List.getElem_cons_succ, List.getElem_cons_zero, lsA, lsZ, lsS]
              refine wpAnyH_done (by kernel_rfl) ?_ _
              have HBU := Lib.hid (HBW.out.trans (hH.mono HBW.out.size))
              clear hH
              go_wp2
              go_ret
              exact ⟨rfl, HBU.out⟩
            | false =>
              have HSTEP := Lib.hid (show stepF l i = true by rw [HSTP.out]; rfl)
              refine wp_region_held_drew (S := fun u => Below W1.heap.size W1 u) (by kernel_rfl) (Below.refl _ _).drew (fun hHeld => ?_)
              refine tkH 0 rfl (yieldsIf_load_mid (by kernel_rfl) 28 (.tmp 5) (by kernel_rfl) wr.heap.size 0 (by kernel_rfl) cx _ (fun u hu => RG.out u hu) Tryd.underlying28 rfl LX.out) hHeld ?_
              refine rdH 1 rfl (fun K hK => ?_)
              go_simp
              refine (DSN.out _ hHeld).mono ?_
              rintro e u1 ⟨rfl, hH⟩
              clear hHeld
              refine hK.out _ _ hH (fun hHeld => ?_)
              clear hK K
              try simp only [Act.put, List.setIfInBounds_toArray, List.set_cons_zero, List.set_cons_succ]
              refine tkW 2 rfl hHeld ?_
              refine tkW 3 rfl hHeld ?_
              refine tkW 4 rfl hHeld ?_
              refine tkW 5 rfl hHeld ?_
              refine tkW 6 rfl hHeld ?_
              refine tkW 7 rfl hHeld ?_
              refine tkW 8 rfl hHeld ?_
              refine tkW 9 rfl hHeld ?_
              refine tkW 10 rfl hHeld ?_
              refine tkW 11 rfl hHeld ?_
              refine tkV 12 rfl (.string sp) (fun u hu => by have q := CP.out u hu; go_simp) hHeld ?_
              refine tkW 13 rfl hHeld ?_
              refine tkV 14 rfl (.string sx) (fun u hu => by have q := CX.out u hu; go_simp) hHeld ?_
              refine tkV 15 rfl (.bool (false)) (fun u hu => by have q := HLS.out; go_simp) hHeld ?_
              refine tkW 16 rfl hHeld ?_
              refine tkW 17 rfl hHeld ?_
              refine tkW 18 rfl hHeld ?_
              refine tkW 19 rfl hHeld ?_
              refine tkV 20 rfl (.string sx) (fun u hu => by have q := CX.out u hu; go_simp) hHeld ?_
              refine tkW 21 rfl hHeld ?_
              refine rdH 22 rfl (fun K hK => ?_)
              go_simp
              refine (DBE.out _ hHeld).mono ?_
              rintro e u2 ⟨rfl, hH⟩
              clear hHeld
              refine hK.out _ _ hH (fun hHeld => ?_)
              clear hK K
              try simp only [Act.put, List.setIfInBounds_toArray, List.set_cons_zero, List.set_cons_succ]
              refine tkW 23 rfl hHeld ?_
              try simp only [Act.put, List.getElem_toArray, List.getElem_cons_succ, List.getElem_cons_zero, lsA, lsZ, lsS]
              refine wpAnyH_done (by kernel_rfl) ?_ _
              have HBU := Lib.hid (HBW.out.trans (hH.mono HBW.out.size))
              have HOV := Lib.hid (map_below HOW.out hH)
              have q1b := CX.out _ hH
              clear hH
              go_wp2_with (first
                | (at_mapUpdate; refine wpList_mapUpdate_own _ rfl _ _ _ 73 rfl 9 76 keyLaw Tryd.underlying73 (unitElem (H := Unit)) w.heap.size i _ rfl HOV.out (by unfold maxLen; omega) _ _ _ rfl rfl HK.out _ [] unitElem_mk ?_; intro w9 hown1 hgrow1)
                | fail)
              have hbn := HBU.out.grown hgrow1 HBU.out.size (fun j hj => by cases hj; exact Nat.le_refl _)
              have HON := Lib.hid hown1; have HBN := Lib.hid hbn
              clear hown1 hgrow1 hbn
              go_roundw
              case rel =>
                refine ⟨i + 1, by omega, by go_num, fun j hj => ?_, by rw [HNX.out]; exact HON.out, HBN.out⟩
                by_cases hji : j < i
                · exact HST.out j hji
                · obtain rfl : j = i := by omega
                  exact HSTEP.out
              case measure => simp [intOf]; omega
    · have hR : true = R := (GOOD.out ⟨by rw [← HN.out]; exact H5.out, fun j hj => HST.out j (by rw [← HN.out] at hj; omega)⟩).symm
      subst hR
      go_wp2
      go_ret
      exact ⟨rfl, HBR.out⟩
end Go.Proofs.YtdgcjjledbnofaaDoor
