/-
  Texts that belong together, one behind the other.
-/
import Derived.Test.YtdgcjjledbnofaaDoorFu19
import Derived.Test.YtdgcjjledbnofaaDoorFu17
import Derived.Test.YtdgcjjledbnofaaDoorFu23
import Derived.Test.YtdgcjjledbnofaaDoorFu24
import Derived.Test.YtdgcjjledbnofaaDoorFu22
import Derived.Test.YtdgcjjledbnofaaDoorFu07
/-
  Cut of Gr: an id read as bytes.
-/
namespace Go.Proofs.YtdgcjjledbnofaaDoor
set_option maxRecDepth 20000
open Go.RowKit
set_option linter.unusedVariables false
set_option linter.unusedSimpArgs false

/-- An id's cells are its bytes. -/
theorem bat_of_range {w : World} {b o : Nat} {i : List UInt8} (hb : b < w.heap.size) (h : w.rangeAt b o (cellsD i)) : BAt w (some ⟨b, o, none⟩) i := fun _ =>
  ⟨b, o, rfl, hb, fun j hj => h j _ (by simp [cellsD, Lib.byteCells, List.getElem?_map, hj])⟩
end Go.Proofs.YtdgcjjledbnofaaDoor

/-
  Layer 16, the program: Print.
-/
namespace Go.Proofs.YtdgcjjledbnofaaDoor
set_option maxRecDepth 20000
open Go.RowKit
set_option linter.unusedVariables false
set_option linter.unusedSimpArgs false

/-- 'append(b, s...)' of a text, as one step. -/
theorem wp_append_strF {o : Oper} {a : Act} {w : World} {K : Act → World → Prop} {Q : Exit → Act → World → Prop} (sl x : Operand)
    (ho : o.op = .call { callee := .builtin .append, args := #[sl, x], argTypes := #[23, 9] }) (B : Nat) (v : Value) (out m : List UInt8) (s : ByteArray) (hs : a.eval sl = v) (hx : a.eval x = .string s)
    (hS : s = ⟨m.toArray⟩) (hown : OwnF B v out w) (hb : out.length + m.length ≤ 1099511627776) (hB : B ≤ w.heap.size)
    (h : ∀ v' w', OwnF B v' (out ++ m) w' → w.grownBy w' v.ownBlock → K (a.put o.dst v') w') : o.wp Tryd.prog a w K Q := by
  subst hS
  obtain ⟨i, hi, hz, hz1, hz2⟩ := info_parts info_byte
  obtain ⟨v', w', hr, h2, h3, -⟩ := Lib.run_append_own_stringF (P := Tryd.prog) w B 23 9 o.type 5 i Tryd.underlying23 Tryd.underlying9 hi hz hz1 hz2 v out.length (Lib.byteCells out) hown ⟨m.toArray⟩ (by rw [size_toArray]; unfold maxLen; omega) (by rw [size_toArray]; omega) hB
  unfold Oper.wp execOp
  simp only [ho, resolve, invoke, builtin, Sem.run_bind, Sem.run_pure, Result.andThen_ok, List.map_toArray, List.map_cons, List.map_nil, hs, hx, hr]
  refine h v' w' ?_ h3
  rw [size_toArray, Lib.strCells_eq] at h2
  unfold OwnF
  rw [List.length_append, Lib.byteCells_append]
  exact h2
theorem printM_no {l : List Fil} (h : rightM l = false) : printM l = ([], 11) := by unfold printM; rw [h]; rfl
theorem printM_yes {l : List Fil} (h : rightM l = true) : printM l = if 65536 < (textM l).length then ([], 5) else (textM l, 0) := by unfold printM; rw [if_pos h]
theorem pathM_len {l : List Fil} (h : rightM l = true) : ∀ f ∈ l, f.path.length ≤ 400 := fun f hf => path_len0 (sound_parts ((rightM_parts h).2 f hf).1).2.2
set_option maxHeartbeats 16000000 in
theorem mPrint_some (b o n c : Nat) (l : List Fil) (w : World) (hn : n = l.length) (h1 : 1 ≤ n) (hm : n ≤ maxLen) (hat : FilesAt w (some ⟨b, o, none⟩) l) (hid : ∀ i ∈ l, i.id.length = 20) (hnm : ∀ i ∈ l, i.path.length ≤ 1000000) (tab : QTab w) :
    Calls Tryd.prog 9 #[.slice (some ⟨b, o, none⟩) n c] w fun e w' => ∃ v, e = .returned (.tuple #[v, .int .i64 (printM l).2]) ∧ Red w' v (printM l).1 ∧ Below w.heap.size w w' := by
  have cR := mright_is (some ⟨b, o, none⟩) n c l w hn hm hat hid hnm tab
  have HN := Lib.hid hn; have HAT := Lib.hid hat; have HID := Lib.hid hid; have HBL := Lib.hid (hat.lt (by omega))
  obtain ⟨P, hP⟩ : ∃ P, printM l = P := ⟨_, rfl⟩
  have HP := Lib.hid hP
  rw [hP]
  cases hr : rightM l with
  | false =>
    rw [hr] at cR
    have hp := (HP.out.symm.trans (printM_no hr))
    subst hp
    clear hn hat hid hnm tab hP hr HN HAT HID HBL
    go_enter Tryd.func9, Tryd.ntmps9
    go_wp2_with fail
    refine cR.mono ?_
    rintro e w1 ⟨rfl, b1⟩
    have B1 := Lib.hid b1
    clear b1
    go_wp2
    go_ret2
    exact ⟨_, rfl, Red.none _, B1.out⟩
  | true =>
    rw [hr] at cR
    have hn5 : n ≤ 500 := by rw [hn]; exact ((rightF_iff l).1 (rightM_parts hr).1).1
    have HP2 := Lib.hid (HP.out.symm.trans (printM_yes hr))
    have HONE := Lib.hid (pathM_len hr)
    obtain ⟨z, hz, hzs, hzv, hzb, hz1⟩ := zFile_any
    have HZS := Lib.hid hzs; have CR := Lib.hid cR
    clear hn hm hat hid hnm tab hP hr hz hzs hzb hz1 cR HP
    go_enter Tryd.func9, Tryd.ntmps9
    go_wp2_with fail
    refine CR.out.mono ?_
    rintro e w1 ⟨rfl, b1⟩
    have B1 := Lib.hid b1
    clear b1 CR
    go_wp2_with fail
    go_loopw [4, 12] (fun v4 v12 wr => ∃ i : Nat, i ≤ n ∧ v12 = .int .i64 i ∧ OwnF w.heap.size v4 (textM (l.take i)) wr ∧ Below w.heap.size w wr) (fun _ v12 _ => n - (intOf v12).toNat)
    case atStart => exact ⟨0, Nat.zero_le _, rfl, World.ownsRowF_nil w1 _ _ _, B1.out⟩
    case round =>
      obtain ⟨i, hi, rfl, hown, hbr⟩ := hrel
      have HOWN := Lib.hid hown
      have HBR := Lib.hid hbr
      clear hown hbr
      by_cases hlt : i < n
      · have hil : i < l.length := by rw [← HN.out]; exact hlt
        obtain ⟨x, hx⟩ : ∃ x, l[i] = x := ⟨_, rfl⟩
        have hxm : x ∈ l := by rw [← hx]; exact List.getElem_mem _
        have hidx := HID.out x hxm
        have hpx := HONE.out x hxm
        have rx : wr.rangeAt b (o + i * 22) (cellsF x) := fun j v hv => (HBR.out.cell (p := ⟨b, o + i * 22 + j, none⟩) HBL.out).trans (HAT.out.elem i hil j v (by rw [hx]; exact hv))
        have RX := Lib.hid rx
        have LX := Lib.hid (show (Tryd.prog.info? 28).map (·.size) = some (cellsF x).length by rw [cellsF_len x hidx]; exact infoFile)
        have SX := Lib.hid (arrF_size x hidx); have OX := Lib.hid (arrF_one x)
        have IX := Lib.hid (show (Tryd.prog.info? 28).map (·.size) = some (arrF x).size by rw [SX.out]; exact infoFile)
        have EX := Lib.hid (SX.out.trans HZS.out.symm)
        have HCX := Lib.hid (show (cellsF x).toArray = arrF x from rfl)
        have HFN := Lib.hid (show textM (l.take (i + 1)) = textM (l.take i) ++ lineM x by rw [textM_next l i hil, hx])
        have fle : (textM (l.take i)).length ≤ 443 * 500 := by
          have := textM_len 400 (l.take i) (fun j hj => HID.out j (List.mem_of_mem_take hj)) (fun j hj => HONE.out j (List.mem_of_mem_take hj))
          rw [List.length_take] at this
          omega
        have FLE := Lib.hid fle
        have hxl : (hexL x.id).length = 40 := by rw [hexL_length, hidx]
        have hfl := flagM_len x.mode
        have a1 := fun u => add_lists (P := Tryd.prog) u x.path [0] (by simp; omega)
        have a2 := fun u => add_lists (P := Tryd.prog) u (x.path ++ [0]) (hexL x.id) (by simp; omega)
        have a3 := fun u => add_lists (P := Tryd.prog) u (x.path ++ [0] ++ hexL x.id) (flagM x.mode) (by simp; omega)
        have a4 := fun u => add_lists (P := Tryd.prog) u (x.path ++ [0] ++ hexL x.id ++ flagM x.mode) [10] (by simp; omega)
        have hll := (lineM_len x hidx).1
        rw [show x.path ++ [0] ++ hexL x.id ++ flagM x.mode ++ [10] = lineM x from rfl] at a4
        have LLE := Lib.hid (show (lineM x).length ≤ 500 by omega)
        have CH := Lib.hid (fun (u : World) (h : u.heap[wr.heap.size]? = some (.cells (arrF x) 28 (0, 0))) => Hex_any (some ⟨wr.heap.size, 2, none⟩) 20 20 x.id u (bat_of_range (lt_of_heap h) (fun j v hv => by
          have := rowF_cells h (j + 2) v hv
          rwa [show 0 + (j + 2) = 2 + j by omega] at this)) hidx.symm (by omega))
        have CF := Lib.hid (fun u => flag_is x.mode u)
        have QP := Lib.hid (fun (u : World) (h : u.heap[wr.heap.size]? = some (.cells (arrF x) 28 (0, 0))) => (rowF_cells h 0 _ rfl : u.cell? ⟨wr.heap.size, 0 + 0, none⟩ = some (.string ⟨x.path.toArray⟩)))
        have QM := Lib.hid (fun (u : World) (h : u.heap[wr.heap.size]? = some (.cells (arrF x) 28 (0, 0))) => (rowF_cells h 1 _ rfl : u.cell? ⟨wr.heap.size, 0 + 1, none⟩ = some (.int .i64 x.mode)))
        obtain ⟨m, hm⟩ : ∃ m, x.mode = m := ⟨_, rfl⟩
        obtain ⟨ln, hln⟩ : ∃ ln, lineM x = ln := ⟨_, rfl⟩
        rw [hln] at a4 HFN LLE
        rw [hm] at a3 a4 CF QM
        obtain ⟨s4, hs4⟩ : ∃ s4 : ByteArray, ⟨ln.toArray⟩ = s4 := ⟨_, rfl⟩
        rw [hs4] at a4
        have HS4 := Lib.hid hs4
        generalize (⟨(x.path ++ [0] ++ hexL x.id ++ flagM m).toArray⟩ : ByteArray) = s3 at a3 a4
        generalize (⟨(x.path ++ [0] ++ hexL x.id).toArray⟩ : ByteArray) = s2 at a2 a3
        generalize (⟨(x.path ++ [0]).toArray⟩ : ByteArray) = s1 at a1 a2
        generalize (⟨(hexL x.id).toArray⟩ : ByteArray) = sh at a2 CH
        generalize (⟨(flagM m).toArray⟩ : ByteArray) = sf at a3 CF
        generalize (⟨x.path.toArray⟩ : ByteArray) = sp at a1 QP
        clear rx hidx hx hxm hpx hil fle hxl hfl hll hm hln hs4
        generalize arrF x = ax at SX OX IX EX QP QM HCX CH
        generalize cellsF x = cx at RX LX HCX
        go_wp2_with (first
          | (with_reducible refine wpList_load_mid rfl 28 (.tmp 14) rfl b (o + i * 22) rfl cx _ RX.out Tryd.underlying28 rfl LX.out ?_; rw [HCX.out])
          | (with_reducible refine wpList_store_all rfl 28 (.tmp 6) (.tmp 15) rfl wr.heap.size ax rfl rfl 28 z (heap_alloc_new _ _) IX.out EX.out OX.out ?_)
          | fail)
        intro w4 r4 off4 sz4
        have b4 : Below wr.heap.size wr w4 := ((Below.refl wr.heap.size wr).alloc (Nat.le_refl _) (.cells z 28)).trans (off4.below (Nat.le_refl _) (by simp))
        have HBW := Lib.hid (HBR.out.trans (b4.mono HBR.out.size))
        have HO4 := Lib.hid (ownF_below HOWN.out b4)
        have HNE := Lib.hid (show u4.ownBlock ≠ some wr.heap.size from fun e => Nat.lt_irrefl _ (HOWN.out.lt _ e).2)
        have R4 := Lib.hid r4
        obtain ⟨g, hg⟩ : ∃ g, wr.heap.size = g := ⟨_, rfl⟩
        rw [hg] at CH QP QM R4 HNE
        have sl := fun u => slice20_all u g 2
        have KEEP := Lib.hid (fun (u u' : World) (h : u.heap[g]? = some (.cells ax 28 (0, 0)) ∧ Below w.heap.size w u) (b : Below u.heap.size u u') => (⟨(b.block g (lt_of_heap h.1)).trans h.1, h.2.trans (b.mono h.2.size)⟩ : u'.heap[g]? = some (.cells ax 28 (0, 0)) ∧ Below w.heap.size w u'))
        have HGG := Lib.hid hg
        clear r4 off4 sz4 b4 hg
        go_wp2_with fail
        rw [HGG.out]
        refine wp_region_held_drew (S := fun u => u.heap[g]? = some (.cells ax 28 (0, 0)) ∧ Below w.heap.size w u) (by kernel_rfl) ⟨R4.out, HBW.out.drew⟩ (fun hHeld => ?_)
        have HOD := Lib.hid (ownF_below HO4.out (Below.refl _ _).drew)
        refine tkW 0 rfl hHeld ?_
        refine tkW 1 rfl hHeld ?_
        refine tkV 2 rfl (.string sp) (fun u hu => by have q := QP.out u hu.1; go_simp) hHeld ?_
        refine tkW 3 rfl hHeld ?_
        refine tkW 4 rfl hHeld ?_
        refine tkV 5 rfl (.slice (some ⟨g, 2, none⟩) 20 20) (fun u hu => by have q := sl u; go_simp) hHeld ?_
        refine tkW 8 rfl hHeld ?_
        refine tkV 9 rfl (.int .i64 m) (fun u hu => by have q := QM.out u hu.1; go_simp) hHeld ?_
        refine rdH 6 rfl (fun K hK => ?_)
        go_simp
        refine (CH.out _ hHeld.1).mono ?_
        rintro e u5 ⟨rfl, bh⟩
        have hH := KEEP.out _ _ hHeld bh
        have HO5 := Lib.hid (ownF_below HOD.out bh)
        clear hHeld bh
        refine hK.out _ _ hH (fun hHeld => ?_)
        clear hK K
        try simp only [Act.put, List.getElem_toArray, List.getElem_cons_succ, List.getElem_cons_zero, lsA, lsZ, lsS]
        refine tkW 7 rfl hHeld ?_
        refine rdH 10 rfl (fun K hK => ?_)
        go_simp
        refine (CF.out _).mono ?_
        rintro e u6 ⟨rfl, rfl⟩
        refine hK.out _ _ hHeld (fun hHeld => ?_)
        clear hK K
        try simp only [Act.put, List.getElem_toArray, List.getElem_cons_succ, List.getElem_cons_zero, lsA, lsZ, lsS]
        refine tkW 11 rfl hHeld ?_
        refine tkW 12 rfl hHeld ?_
        refine rdH 13 rfl (fun K hK => ?_)
        refine stepW rfl (wp_append_strF (.tmp 16) (.tmp 28) rfl w.heap.size u4 (textM (l.take i)) ln s4 (by kernel_rfl) (by kernel_rfl) HS4.out.symm HO5.out (by have := FLE.out; have := LLE.out; omega) hHeld.2.size (fun v6 w6 ow6 gw6 => ?_))
        have hH : w6.heap[g]? = some (.cells ax 28 (0, 0)) ∧ Below w.heap.size w w6 := ⟨(gw6.block g (lt_of_heap hHeld.1) (fun e => HNE.out e.symm)).trans hHeld.1, hHeld.2.grown gw6 hHeld.2.size (fun j hj => (HO5.out.lt j hj).1)⟩
        have OW6 := Lib.hid ow6
        clear hHeld ow6 gw6
        refine hK.out _ _ hH (fun hHeld => ?_)
        clear hK K
        try simp only [Act.put, List.getElem_toArray, List.getElem_cons_succ, List.getElem_cons_zero, lsA, lsZ, lsS]
        refine tkW 14 rfl hHeld ?_
        try simp only [Act.put, List.getElem_toArray, List.getElem_cons_succ, List.getElem_cons_zero, lsA, lsZ, lsS]
        refine wpAnyH_done (by kernel_rfl) ?_ _
        have HB6 := Lib.hid hHeld.2
        clear hHeld hH
        go_wp2
        go_roundw
        case rel => exact ⟨i + 1, by omega, by go_num, by rw [HFN.out]; exact OW6.out, HB6.out⟩
        case measure => simp [intOf]; omega
      · have hin : i = l.length := by rw [← HN.out]; omega
        have hfl : l.take i = l := by rw [hin, List.take_length]
        have hown := HOWN.out
        rw [hfl] at hown
        obtain ⟨a', c', hv, hl', hm', hb'⟩ := ownF_shape hown
        have HRD := Lib.hid (ownF_red hown)
        subst hv
        have HFL := Lib.hid (show (textM l).length ≤ 443 * 500 by
          have := textM_len 400 l HID.out HONE.out
          have := HN.out
          omega)
        have hfl2 := HFL.out
        have hp := HP2.out
        obtain ⟨fl, hfl3⟩ : ∃ fl, textM l = fl := ⟨_, rfl⟩
        rw [hfl3] at hp hfl2 ⊢
        have hrd := HRD.out
        rw [hfl3] at hrd
        have HRE := Lib.hid hrd
        clear hin hfl hown hl' hm' hb' HOWN HRD HFL hrd
        by_cases h64 : 65536 < fl.length
        · rw [if_pos h64] at hp
          subst hp
          have g6 : (fl.length : Int) > 65536 := by omega
          clear h64 hfl3
          go_wp2
          go_ret2
          exact ⟨_, rfl, Red.none _, HBR.out⟩
        · rw [if_neg h64] at hp
          subst hp
          have g6 : ¬ (fl.length : Int) > 65536 := by omega
          clear h64 hfl3
          go_wp2
          go_ret2
          exact ⟨_, rfl, HRE.out, HBR.out⟩
theorem mPrint_is (a : Option Addr) (n c : Nat) (l : List Fil) (w : World) (hn : n = l.length) (hm : n ≤ maxLen) (hat : FilesAt w a l) (hid : ∀ i ∈ l, i.id.length = 20) (hnm : ∀ i ∈ l, i.path.length ≤ 1000000) (tab : QTab w) :
    Calls Tryd.prog 9 #[.slice a n c] w fun e w' => ∃ v, e = .returned (.tuple #[v, .int .i64 (printM l).2]) ∧ Red w' v (printM l).1 ∧ Below w.heap.size w w' := by
  by_cases h1 : n = 0
  · have cR := mright_is a n c l w hn hm hat hid hnm tab
    obtain rfl : l = [] := List.eq_nil_of_length_eq_zero (by omega)
    rw [show printM [] = ([], 0) from rfl]
    rw [show rightM [] = true from rfl] at cR
    subst h1
    clear hn hm hat hid hnm tab
    go_enter Tryd.func9, Tryd.ntmps9
    go_wp2_with fail
    refine cR.mono ?_
    rintro e u ⟨rfl, b1⟩
    have B1 := Lib.hid b1
    clear b1 cR
    go_wp2_with fail
    refine wp_loop_rounds 1 ?_
    rw [rounds_succ]
    go_wp2
    go_ret2
    exact ⟨_, rfl, Red.none _, B1.out⟩
  · obtain ⟨b, o, rfl, -⟩ := hat.some (by omega)
    exact mPrint_some b o n c l w hn (by omega) hm hat hid hnm tab
end Go.Proofs.YtdgcjjledbnofaaDoor

/-
  Layer 16, plain: lines read one by one; files that are handed out.
-/
namespace Go.Proofs.YtdgcjjledbnofaaDoor
open Go.RowKit
set_option linter.unusedVariables false
set_option linter.unusedSimpArgs false

/-- Some files are read, a text is left. -/
def AtM (bs x : List UInt8) (p : List Fil) : Prop := filesM bs = (filesM x).map (p ++ ·) ∧ p.length + x.length ≤ bs.length ∧ ∀ f ∈ p, f.id.length = 20 ∧ f.path.length ≤ bs.length
theorem AtM.start (bs : List UInt8) : AtM bs bs [] := ⟨by cases filesM bs <;> rfl, by simp, fun f h => by cases h⟩
theorem AtM.next {bs x : List UInt8} {p : List Fil} {f : Fil} (h : AtM bs x p) (hx : x ≠ []) (hl : idxB 10 x < x.length) (hf : fileM (x.take (idxB 10 x)) = some f) : AtM bs (x.drop (idxB 10 x + 1)) (p ++ [f]) := by
  obtain ⟨h1, h2, h3⟩ := h
  obtain ⟨e, i, -⟩ := fileM_some hf
  refine ⟨?_, ?_, fun g hg => ?_⟩
  · rw [h1, filesM_cons x hx, if_pos hl, hf]
    simp only [Option.map_map]
    congr 1
    funext q
    simp
  · rw [List.length_append, List.length_drop]
    simp only [List.length_cons, List.length_nil]
    omega
  · rcases List.mem_append.1 hg with hg | hg
    · exact h3 g hg
    · rw [List.mem_singleton.1 hg]
      have e2 := congrArg List.length e
      simp only [List.length_append, List.length_take] at e2
      exact ⟨i, by omega⟩
theorem AtM.noLine {bs x : List UInt8} {p : List Fil} (h : AtM bs x p) (hx : x ≠ []) (hl : ¬ idxB 10 x < x.length) : filesM bs = none := by
  rw [h.1, filesM_cons x hx, if_neg hl]; rfl
theorem AtM.noFile {bs x : List UInt8} {p : List Fil} (h : AtM bs x p) (hx : x ≠ []) (hl : idxB 10 x < x.length) (hf : fileM (x.take (idxB 10 x)) = none) : filesM bs = none := by
  rw [h.1, filesM_cons x hx, if_pos hl, hf]; rfl
theorem AtM.fin {bs : List UInt8} {p : List Fil} (h : AtM bs [] p) : filesM bs = some p := by
  rw [h.1, filesM_nil]; simp
theorem parseM_none {bs : List UInt8} (h : filesM bs = none) : parseM bs = ([], 4) := by
  unfold parseM
  split
  · rfl
  · rw [h]
theorem parseM_some {bs : List UInt8} {p : List Fil} (hl : bs.length ≤ 65536) (h : filesM bs = some p) : parseM bs = if rightM p = true then (p, 0) else ([], 4) := by
  unfold parseM
  rw [if_neg (by omega), h]
theorem parseM_long {bs : List UInt8} (h : 65536 < bs.length) : parseM bs = ([], 4) := by unfold parseM; rw [if_pos h]
theorem AtM.ne {bs x : List UInt8} {p : List Fil} (h : AtM bs x p) : x.length ≤ bs.length := by have := h.2.1; omega
/-- Files that are handed out. -/
def RedM (w : World) (v : Value) (l : List Fil) : Prop := ∃ a c, v = .slice a l.length c ∧ FilesAt w a l ∧ (a = none → l.length = 0 ∧ c = 0) ∧ l.length ≤ c ∧ c ≤ maxLen
theorem RedM.none (w : World) : RedM w (.slice none 0 0) [] := ⟨_, _, rfl, RowAt.nil _ _, fun _ => ⟨rfl, rfl⟩, Nat.le_refl _, Nat.zero_le _⟩
theorem redM_of {B : Nat} {v : Value} {l : List Fil} {w : World} (h : OwnR rowF B v l w) (hid : ∀ f ∈ l, f.id.length = 20) : RedM w v l := by
  obtain ⟨a, c, e, h1, h2, h3, h4, -⟩ := ownR_shape goodF h hid
  exact ⟨a, c, e, h3, h4, h1, h2⟩
theorem RedM.keep {w u : World} {v : Value} {l : List Fil} (h : RedM w v l) (b : Below w.heap.size w u) : RedM u v l := by
  obtain ⟨a, c, e, h3, h4, h1, h2⟩ := h
  exact ⟨a, c, e, h3.keep b, h4, h1, h2⟩
end Go.Proofs.YtdgcjjledbnofaaDoor
