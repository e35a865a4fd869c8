/-
  The law TreeModes: its walk.
-/
import Derived.Test.YtalmoaofodjehaaDoorFu18
import Derived.Test.YtalmoaofodjehaaDoorFu19
namespace Go.Proofs.YtalmoaofodjehaaDoor.treeModes
set_option maxRecDepth 200000
open Go.RowKit
set_option linter.unusedVariables false
set_option linter.unusedSimpArgs false

theorem digits_at (r : Nat) (hr : r < 4) : ∀ h, [Value.string ⟨#[49, 48, 48, 54, 52, 52]⟩, Value.string ⟨#[49, 48, 48, 55, 53, 53]⟩, Value.string ⟨#[49, 50, 48, 48, 48, 48]⟩, Value.string ⟨#[52, 48, 48, 48, 48]⟩][r]'h = .string ⟨(modeL ((1 + r : Nat) : Int)).toArray⟩ := by
  intro h
  have h0 : r = 0 ∨ r = 1 ∨ r = 2 ∨ r = 3 := by omega
  rcases h0 with rfl | rfl | rfl | rfl <;> rfl
/-- A mode's digits, spoilt in one of seven ways. -/
def badL (d : List UInt8) (q : Nat) : List UInt8 := [[48] ++ d, [49, 48, 48, 54, 54, 52], [49, 54, 48, 48, 48, 48], [48, 52, 48, 48, 48, 48], [], d ++ [48], [45] ++ d].getD q []
theorem bad_at (d : List UInt8) (q : Nat) (hq : q < 7) : ∀ h, [Value.string ⟨([48] ++ d).toArray⟩, Value.string ⟨#[49, 48, 48, 54, 54, 52]⟩, Value.string ⟨#[49, 54, 48, 48, 48, 48]⟩, Value.string ⟨#[48, 52, 48, 48, 48, 48]⟩, Value.string ⟨#[]⟩, Value.string ⟨(d ++ [48]).toArray⟩, Value.string ⟨([45] ++ d).toArray⟩][q]'h = .string ⟨(badL d q).toArray⟩ := by
  intro h
  have h0 : q = 0 ∨ q = 1 ∨ q = 2 ∨ q = 3 ∨ q = 4 ∨ q = 5 ∨ q = 6 := by omega
  rcases h0 with rfl | rfl | rfl | rfl | rfl | rfl | rfl <;> rfl
theorem bat_block {w : World} {g : Nat} {l : List UInt8} {t : TypeId} {fr : Nat × Nat} (h : w.heap[g]? = some (.cells (Lib.byteCells l).toArray t fr)) : BAt w (some ⟨g, 0, none⟩) l := fun _ =>
  ⟨g, 0, rfl, lt_of_heap h, fun i hi => by
    rw [Nat.zero_add, Lib.cell_of_heap h, List.getElem?_toArray, bc_at l i hi, List.getD_eq_getElem?_getD, List.getElem?_eq_getElem hi]
    rfl⟩
def idSeven : List UInt8 := 7 :: List.replicate 19 0
/-- What a mode's digits, with a name and an id behind, are read as. -/
def itS (r : Nat) : Itm := ⟨((1 + r : Nat) : Int), [97], idSeven⟩
theorem built_itS (m : Int) : Tryd.prog.built 30 [(0, .int .i64 m), (1, .string ⟨#[97]⟩), (2, .agg (Lib.byteCells idSeven).toArray)] = some (arrI ⟨m, [97], idSeven⟩) := by kernel_rfl
theorem good_parsed (r : Nat) (hr : r < 4) : ParsedT (modeL ((1 + r : Nat) : Int) ++ [32, 97, 0] ++ idSeven) [itS r] 0 := by
  have h0 : r = 0 ∨ r = 1 ∨ r = 2 ∨ r = 3 := by omega
  refine .inr (.inl ⟨?_, rfl, ?_, ?_, .inr ?_⟩)
  · have := modeL_len ((1 + r : Nat) : Int)
    simp only [List.length_append, List.length_cons, List.length_nil]
    have h2 : idSeven.length = 20 := rfl
    omega
  · simp [flatI, printI, itS]
  · intro i hi
    rw [List.mem_singleton.1 hi]
    refine ⟨⟨by show (1 : Int) ≤ ((1 + r : Nat) : Int); omega, by show ((1 + r : Nat) : Int) ≤ 4; omega⟩, ?_, rfl⟩
    intro c hc
    rw [List.mem_singleton.1 hc]
    decide
  · rcases h0 with rfl | rfl | rfl | rfl <;> decide +kernel
theorem bad_none : ∀ r, r < 4 → ∀ q, q < 7 → (takeI (badL (modeL ((1 + r : Nat) : Int)) q ++ [32, 97, 0] ++ idSeven)).isNone = true := by decide +kernel
theorem bad_len (d : List UInt8) (q : Nat) (hd : d.length ≤ 6) : (badL d q).length ≤ 7 := by
  unfold badL
  match q with
  | 0 | 1 | 2 | 3 | 4 | 5 | 6 => simp; try omega
  | q + 7 => simp
theorem bad_parsed (r q : Nat) (hr : r < 4) (hq : q < 7) : ParsedT (badL (modeL ((1 + r : Nat) : Int)) q ++ [32, 97, 0] ++ idSeven) [] 4 := by
  refine .inr (.inr ⟨?_, rfl, rfl, fun m hm _ e => ?_⟩)
  · have := bad_len (modeL ((1 + r : Nat) : Int)) q (modeL_len _).2
    simp only [List.length_append, List.length_cons, List.length_nil]
    have h2 : idSeven.length = 20 := rfl
    omega
  · exact take_stop (p := []) (fun i hi => by cases hi) (by simp) (Option.isNone_iff_eq_none.1 (bad_none r hr q hq)) m hm (by rw [flat_nil, List.nil_append]; exact e)
theorem built_seven : Tryd.prog.built 28 [(0, .int .u8 7)] = some (Lib.byteCells idSeven).toArray := by kernel_rfl
set_option maxHeartbeats 16000000 in
theorem walk (w : World) (x0 : Int) (lo0 : -9223372036854775808 ≤ x0) (hi0 : x0 ≤ 9223372036854775807) (x1 : Int) (lo1 : -9223372036854775808 ≤ x1) (hi1 : x1 ≤ 9223372036854775807) (tab : QTab w) :
    Calls Tryd.prog 8 #[.int .i64 x0, .int .i64 x1] w fun e w' => e = .returned (.bool true) ∧ Below w.heap.size w w' := by
  obtain ⟨u, hu⟩ : ∃ u, IntKind.u64.wrap x0 = u := ⟨_, rfl⟩
  have hu0 : 0 ≤ u := by rw [← hu, IntKind.wrap_u64]; omega
  obtain ⟨r, hr1⟩ : ∃ r : Nat, u.tmod 4 = (r : Int) := by
    rw [IntWalk.rem_in u _ hu0]
    exact Int.eq_ofNat_of_zero_le (Int.emod_nonneg _ (by omega))
  have hr2 : u % 4 = (r : Int) := by rw [← IntWalk.rem_in u _ hu0]; exact hr1
  have hr3 : r < 4 := by
    have := Int.emod_lt_of_pos u (show 0 < (4 : Int) by omega)
    omega
  have DA := digits_at r hr3
  obtain ⟨dl, hdl⟩ : ∃ dl, modeL ((1 + r : Nat) : Int) = dl := ⟨_, rfl⟩
  have hdn : dl.length ≤ 6 := by rw [← hdl]; exact (modeL_len _).2
  rw [hdl] at DA
  have a1 := fun u => add_lists (P := Tryd.prog) u dl [32, 97, 0] (by simp; omega)
  have SR := Lib.hid (fun u => str_row u (dl ++ [32, 97, 0]) (by simp; omega))
  generalize (⟨(dl ++ [32, 97, 0]).toArray⟩ : ByteArray) = s1 at a1 SR
  obtain ⟨v, hv⟩ : ∃ v, IntKind.u64.wrap x1 = v := ⟨_, rfl⟩
  have hv0 : 0 ≤ v := by rw [← hv, IntKind.wrap_u64]; omega
  obtain ⟨q, hq1⟩ : ∃ q : Nat, v.tmod 7 = (q : Int) := by
    rw [IntWalk.rem_in v _ hv0]
    exact Int.eq_ofNat_of_zero_le (Int.emod_nonneg _ (by omega))
  have hq2 : v % 7 = (q : Int) := by rw [← IntWalk.rem_in v _ hv0]; exact hq1
  have hq3 : q < 7 := by
    have := Int.emod_lt_of_pos v (show 0 < (7 : Int) by omega)
    omega
  have BA := bad_at dl q hq3
  have a2 := fun u => add_lists (P := Tryd.prog) u [48] dl (by simp; omega)
  have a3 := fun u => add_lists (P := Tryd.prog) u dl [48] (by simp; omega)
  have a4 := fun u => add_lists (P := Tryd.prog) u [45] dl (by simp; omega)
  have hbl := bad_len dl q hdn
  obtain ⟨bl, hbl2⟩ : ∃ bl, badL dl q = bl := ⟨_, rfl⟩
  rw [hbl2] at BA hbl
  have a5 := fun u => add_lists (P := Tryd.prog) u bl [32, 97, 0] (by simp; omega)
  have SR2 := Lib.hid (fun u => str_row u (bl ++ [32, 97, 0]) (by simp; omega))
  generalize (⟨([48] ++ dl).toArray⟩ : ByteArray) = sa at BA a2
  generalize (⟨(dl ++ [48]).toArray⟩ : ByteArray) = sb at BA a3
  generalize (⟨([45] ++ dl).toArray⟩ : ByteArray) = sc at BA a4
  generalize (⟨(bl ++ [32, 97, 0]).toArray⟩ : ByteArray) = s2 at a5 SR2
  generalize (⟨bl.toArray⟩ : ByteArray) = sl at BA a5
  generalize (⟨dl.toArray⟩ : ByteArray) = sd at DA a1 a2 a3 a4
  obtain ⟨C, hC⟩ : ∃ C, (Lib.byteCells idSeven).toArray = C := ⟨_, rfl⟩
  have p1 : Tryd.prog.built 28 [(0, .int .u8 7)] = some C := by rw [← hC]; exact built_seven
  have HCS := Lib.hid (show C.size = 20 by rw [← hC]; rfl)
  have HC1 := Lib.hid (show C.all (·.oneCell') = true by rw [← hC]; exact bc_all _)
  obtain ⟨z, hz1, hz2⟩ := z29
  have zv := zero_arr hz1
  have HZS := Lib.hid (show z.size = 20 by rw [hz2]; simp)
  have hzs : z.size = 20 := HZS.out
  have HINF := Lib.hid (show (Tryd.prog.info? 28).map (·.size) = some C.size by rw [HCS.out]; kernel_rfl)
  have HNEW := Lib.hid (show ∀ o, ((w.alloc o).alloc (.cells z 28)).heap[w.heap.size + 1]? = some (.cells z 28 (0, 0)) from fun o => by
    have h := heap_alloc_new (w.alloc o) (.cells z 28)
    rwa [show (w.alloc o).heap.size = w.heap.size + 1 by simp] at h)
  obtain ⟨W1, hW1⟩ : ∃ W1, ((w.alloc (.cells #[.string ⟨#[49, 48, 48, 54, 52, 52]⟩, .string ⟨#[49, 48, 48, 55, 53, 53]⟩, .string ⟨#[49, 50, 48, 48, 48, 48]⟩, .string ⟨#[52, 48, 48, 48, 48]⟩] 9)).alloc (.cells z 28)).setRow (w.heap.size + 1) C = W1 := ⟨_, rfl⟩
  have HI1 := Lib.hid (show W1.heap[w.heap.size + 1]? = some (.cells C 28 (0, 0)) by rw [← hW1]; exact setRow_heap _ _ _ _ _ _ (HNEW.out _))
  have HB1 := Lib.hid (show Below w.heap.size w W1 by
    rw [← hW1]
    exact below_setRow (((Below.refl _ w).alloc (Nat.le_refl _) _).alloc (by simp) _) (by omega) C)
  have TB := Lib.hid tab
  have ec : z.setIfInBounds 0 (.int .u8 7) = C := by rw [← hC, hz2]; rfl
  obtain ⟨d1, hd1⟩ : ∃ d1, dl ++ [32, 97, 0] = d1 := ⟨_, rfl⟩
  obtain ⟨d2, hd2⟩ : ∃ d2, bl ++ [32, 97, 0] = d2 := ⟨_, rfl⟩
  obtain ⟨sv, hsv⟩ : ∃ sv, idSeven = sv := ⟨_, rfl⟩
  have hsl : sv.length = 20 := by rw [← hsv]; rfl
  have HSV := Lib.hid hsv
  have hd1l : d1.length ≤ 9 := by rw [← hd1]; simp; omega
  have hd2l : d2.length ≤ 10 := by rw [← hd2]; simp; omega
  have hgp := good_parsed r hr3
  rw [hdl, hd1, hsv] at hgp
  have HGP := Lib.hid hgp
  have hbp := bad_parsed r q hr3 hq3
  rw [hdl, hbl2, hd2, hsv] at hbp
  have HBP := Lib.hid hbp
  have sr1 := SR.out; have sr2 := SR2.out
  rw [hd1] at sr1
  rw [hd2] at sr2
  have SR1 := Lib.hid sr1; have SR2' := Lib.hid sr2
  rw [hsv] at hC
  have HC := Lib.hid hC
  clear SR SR2 sr1 sr2
  have HSL := Lib.hid hsl; have HD1L := Lib.hid hd1l; have HD2L := Lib.hid hd2l
  obtain ⟨cap1, w2, cv1, b2, row1⟩ := SR1.out W1
  obtain ⟨n1, hn1⟩ : ∃ n1, d1.length = n1 := ⟨_, rfl⟩
  rw [hn1] at cv1
  have B2 := Lib.hid b2; have R1 := Lib.hid row1; have HN1 := Lib.hid hn1
  have HBC := Lib.hid (show BAt w2 (some ⟨w.heap.size + 1, 0, none⟩) sv from (bat_block (by rw [HC.out]; exact HI1.out)).keep b2)
  have HBD := Lib.hid (show BAt W1 (some ⟨w.heap.size + 1, 0, none⟩) sv from (bat_block (by rw [HC.out]; exact HI1.out)))
  have HL1 := Lib.hid (show d1.length + sv.length ≤ 1099511627776 by omega)
  clear b2 row1 hn1
  have HDN := Lib.hid hdn
  clear lo0 hi0 lo1 hi1 hu0 hr2 hdl hdn tab hz1 hz2 hC hgp hbp hv0 hq2 hbl2 hbl hsl hd1l hd2l hd1 hd2 hsv
  go_enter Tryd.func8, Tryd.ntmps8
  go_wp2_with (first
    | (refine wpList_build_one rfl 28 0 _ rfl _ rfl C p1 ?_)
    | (with_reducible refine wpList_store_row rfl 28 (.tmp 6) (.tmp 22) rfl (w.heap.size + 1) C rfl rfl 28 z (HNEW.out _) HINF.out (HZS.out.trans HCS.out.symm) HC1.out ?_)
    | (at_builtin; refine wpList_append_rowX rfl _ _ rfl W1.heap.size cap1 n1 d1 sv HN1.out.symm rfl R1.out (some ⟨w.heap.size + 1, 0, none⟩) 20 20 rfl HBC.out HSL.out.symm (fun h => by cases h) HL1.out ?_)
    | fail)
  intro g3 cap3 w3 row3 gr3 hg3
  have hlt1 : W1.heap.size < w2.heap.size := R1.out.lt
  have hb3 : Below W1.heap.size W1 w3 := B2.out.grown gr3 B2.out.size (fun j hj => by cases hj; exact Nat.le_refl _)
  have B3 := Lib.hid (HB1.out.trans (hb3.mono HB1.out.size))
  have I3 := Lib.hid ((hb3.block (w.heap.size + 1) (lt_of_heap HI1.out)).trans HI1.out)
  obtain ⟨n3, hn3⟩ : ∃ n3, d1.length + sv.length = n3 := ⟨_, rfl⟩
  have C3 := Lib.hid (pParse_is (some ⟨g3, 0, none⟩) n3 cap3 (d1 ++ sv) w3 (hn3.symm.trans (List.length_append).symm) row3.bat (TB.out.below B3.out))
  rw [hn3]
  clear hn3 row3 gr3 hg3 hb3 cv1 B2 R1 HBC HBD hlt1
  go_wp2_with fail
  refine C3.out.mono ?_
  rintro e w4 ⟨v4, p4, e4, rfl, hr4, hp4, b4⟩
  obtain ⟨rfl, rfl⟩ := parsedT_same HGP.out hp4
  obtain ⟨pa, pc, hv4, hi4, _, _, _⟩ := id hr4
  obtain ⟨pb, po, rfl, hpb, hpcells⟩ := hi4 (by simp)
  rw [show [itS r].length = 1 from rfl] at hv4
  subst hv4
  have hb4 := B3.out.trans (b4.mono B3.out.size)
  have i4 := heap_keep I3.out b4
  obtain ⟨W5, hW5⟩ : ∃ W5, w4.alloc (.cells #[.string sa, .string ⟨#[49, 48, 48, 54, 54, 52]⟩, .string ⟨#[49, 54, 48, 48, 48, 48]⟩, .string ⟨#[48, 52, 48, 48, 48, 48]⟩, .string ⟨#[]⟩, .string sb, .string sc] 9) = W5 := ⟨_, rfl⟩
  have qb : W5.cell? ⟨w4.heap.size, q, none⟩ = some (.string sl) := by
    rw [← hW5, Lib.cell_of_heap (heap_alloc_new w4 _), List.getElem?_toArray, List.getElem?_eq_getElem (by simpa using hq3), BA]
  have b5 : Below w4.heap.size w4 W5 := by rw [← hW5]; exact (Below.refl _ w4).alloc (Nat.le_refl _) _
  obtain ⟨cap2, w6, cv2, b6, row6⟩ := SR2'.out W5
  obtain ⟨n2, hn2⟩ : ∃ n2, d2.length = n2 := ⟨_, rfl⟩
  rw [hn2] at cv2
  have i5 := heap_keep i4 b5
  have i6 := heap_keep i5 b6
  have B5 := Lib.hid (hb4.trans (b5.mono hb4.size))
  have B6 := Lib.hid b6; have R6 := Lib.hid row6; have HN2 := Lib.hid hn2; have I5 := Lib.hid i5
  have HB6 := Lib.hid (show BAt w6 (some ⟨w.heap.size + 1, 0, none⟩) sv from bat_block (by rw [HC.out]; exact i6))
  have HL2 := Lib.hid (show d2.length + sv.length ≤ 1099511627776 by have := HD2L.out; have := HSL.out; omega)
  have RI := Lib.hid (fun u (hu : Below w4.heap.size w4 u) => (fun j y hy => (hu.cell (p := ⟨pb, po + j, none⟩) hpb).trans (by have := hpcells 0 (by simp) j y hy; rwa [show po + 0 * 22 + j = po + j by omega] at this) : u.rangeAt pb po (cellsI (itS r))))
  have B45 := Lib.hid b5
  clear hb4 i4 b5 b6 row6 hn2 i5 i6 hr4 hi4 hp4 b4 B3 I3 C3 hpb hpcells
  go_wp2_with (first
    | (at_builtin; refine wpList_append_rowX rfl _ _ rfl W5.heap.size cap2 n2 d2 sv HN2.out.symm rfl R6.out (some ⟨w.heap.size + 1, 0, none⟩) 20 20 rfl HB6.out HSL.out.symm (fun h => by cases h) HL2.out ?_)
    | fail)
  intro g7 cap7 w7 row7 gr7 hg7
  have hlt5 : W5.heap.size < w6.heap.size := R6.out.lt
  have hb7 : Below W5.heap.size W5 w7 := B6.out.grown gr7 B6.out.size (fun j hj => by cases hj; exact Nat.le_refl _)
  have B7 := Lib.hid (B5.out.trans (hb7.mono B5.out.size))
  have I7 := Lib.hid (heap_keep I5.out hb7)
  have B47 := Lib.hid (B45.out.trans (hb7.mono B45.out.size))
  obtain ⟨n7, hn7⟩ : ∃ n7, d2.length + sv.length = n7 := ⟨_, rfl⟩
  have C7 := Lib.hid (pParse_is (some ⟨g7, 0, none⟩) n7 cap7 (d2 ++ sv) w7 (hn7.symm.trans (List.length_append).symm) row7.bat (TB.out.below B7.out))
  rw [hn7]
  clear hn7 row7 gr7 hg7 hb7 cv2 B6 R6 HB6 hlt5
  go_wp2_with fail
  refine C7.out.mono ?_
  rintro e w8 ⟨v8, p8, e8, rfl, hr8, hp8, b8⟩
  obtain ⟨rfl, rfl⟩ := parsedT_same HBP.out hp8
  obtain ⟨qa, qc, hv8, _, _, _, _⟩ := hr8
  rw [show ([] : List Itm).length = 0 from rfl] at hv8
  subst hv8
  have B8 := Lib.hid (B7.out.trans (b8.mono B7.out.size))
  have I8 := Lib.hid (heap_keep I7.out b8)
  have B48 := Lib.hid (B47.out.trans (b8.mono B47.out.size))
  clear hp8 b8 C7 B7 I7 B47
  obtain ⟨cx, hcx⟩ : ∃ cx, cellsI (itS r) = cx := ⟨_, rfl⟩
  obtain ⟨cl, hcl⟩ : ∃ cl, Lib.byteCells sv = cl := ⟨_, rfl⟩
  have hI8 := I8.out
  rw [← HC.out, hcl] at hI8
  have HI8 := Lib.hid (show w8.rangeAt (w.heap.size + 1) 0 cl from fun j y hy => by rw [Nat.zero_add, Lib.cell_of_heap hI8, ← hy]; simp)
  have HR8 := Lib.hid (show w8.rangeAt pb po cx by rw [← hcx]; exact RI.out w8 B48.out)
  have LX := Lib.hid (show (Tryd.prog.info? 30).map (·.size) = some cx.length by rw [← hcx, cellsI_len _ rfl]; exact infoItem)
  have LC := Lib.hid (show (Tryd.prog.info? 28).map (·.size) = some cl.length by rw [← hcl, bc_len, HSL.out]; kernel_rfl)
  have EQ := Lib.hid (show ∀ u, (binOp .eql 30 (.agg cx.toArray) (.agg cx.toArray)).run Tryd.prog u = .ok (.bool true) u from fun u => by
    have := eql_item (itS r) (itS r) rfl rfl u
    rw [eqI_same] at this
    rw [← hcx]
    exact this)
  have BLD := Lib.hid (show Tryd.prog.built 30 [(0, .int .i64 (1 + (r : Int))), (1, .string ⟨#[97]⟩), (2, .agg cl.toArray)] = some cx.toArray by
    rw [← hcl, ← HSV.out, built_itS, ← hcx]
    rfl)
  have SK := Lib.hid (fun u u' (h : u.rangeAt pb po cx ∧ u.rangeAt (w.heap.size + 1) 0 cl ∧ Below w8.heap.size w8 u) (b : Below u.heap.size u u') =>
    (⟨fun j y hy => (b.cell (World.block_lt_of_cell? u _ (h.1 j y hy))).trans (h.1 j y hy), fun j y hy => (b.cell (World.block_lt_of_cell? u _ (h.2.1 j y hy))).trans (h.2.1 j y hy), h.2.2.trans (b.mono h.2.2.size)⟩ : u'.rangeAt pb po cx ∧ u'.rangeAt (w.heap.size + 1) 0 cl ∧ Below w8.heap.size w8 u'))
  have DA8 := Lib.hid (fun u (h : u.rangeAt pb po cx ∧ u.rangeAt (w.heap.size + 1) 0 cl ∧ Below w8.heap.size w8 u) => ((awake_is u (TB.out.below (B8.out.trans (h.2.2.mono B8.out.size)))).mono (fun e u' he => ⟨he.1, SK.out u u' h he.2⟩) : Calls Tryd.prog 10 #[] u fun e u' => e = .returned (.bool true) ∧ (u'.rangeAt pb po cx ∧ u'.rangeAt (w.heap.size + 1) 0 cl ∧ Below w8.heap.size w8 u')))
  clear hI8 hcx hcl
  go_wp2_with fail
  refine wp_region_held_drew (S := fun u => u.rangeAt pb po cx ∧ u.rangeAt (w.heap.size + 1) 0 cl ∧ Below w8.heap.size w8 u) (by kernel_rfl) (SK.out _ _ ⟨HR8.out, HI8.out, Below.refl _ _⟩ (Below.refl _ _).drew) (fun hHeld => ?_)
  refine wpAnyH_ready (rs := [0]) (by kernel_rfl) (by simp) ?_
  refine AllReadyH.cons rfl (fun K hK => ?_) AllReadyH.nil
  go_simp
  refine (DA8.out _ hHeld).mono ?_
  rintro e u1 ⟨rfl, hH⟩
  clear hHeld
  refine hK.out _ _ hH (fun hHeld => ?_)
  clear hK K
  try simp only [Act.put, List.setIfInBounds_toArray, List.set_cons_zero, List.set_cons_succ]
  refine wpAnyH_take (i := 1) (v := ?hv1) rfl (by kernel_rfl) (by kernel_rfl) (by kernel_rfl) (fun _ _ _ h => h) (Or.inl ⟨by kernel_rfl, ?hy1⟩) hHeld ?_
  case hy1 => intro u hu; go_simp; try with_reducible rfl
  try simp only [Act.put, List.setIfInBounds_toArray, List.set_cons_zero, List.set_cons_succ]
  refine wpAnyH_take (i := 2) (v := ?hv2) rfl (by kernel_rfl) (by kernel_rfl) (by kernel_rfl) (fun _ _ _ h => h) (Or.inl ⟨by kernel_rfl, ?hy2⟩) hHeld ?_
  case hy2 => intro u hu; go_simp; try with_reducible rfl
  try simp only [Act.put, List.setIfInBounds_toArray, List.set_cons_zero, List.set_cons_succ]
  refine wpAnyH_take (i := 3) (v := ?hv3) rfl (by kernel_rfl) (by kernel_rfl) (by kernel_rfl) (fun _ _ _ h => h) (Or.inl ⟨by kernel_rfl, ?hy3⟩) hHeld ?_
  case hy3 => intro u hu; go_simp; try with_reducible rfl
  try simp only [Act.put, List.setIfInBounds_toArray, List.set_cons_zero, List.set_cons_succ]
  refine wpAnyH_take (i := 4) (v := ?hv4) rfl (by kernel_rfl) (by kernel_rfl) (by kernel_rfl) (fun _ _ _ h => h) (Or.inl ⟨by kernel_rfl, ?hy4⟩) hHeld ?_
  case hy4 => intro u hu; go_simp; try with_reducible rfl
  try simp only [Act.put, List.setIfInBounds_toArray, List.set_cons_zero, List.set_cons_succ]
  refine wpAnyH_take (i := 5) (v := ?hv5) rfl (by kernel_rfl) (by kernel_rfl) (by kernel_rfl) (fun _ _ _ h => h) (Or.inl ⟨by kernel_rfl, ?hy5⟩) hHeld ?_
  case hy5 => intro u hu; go_simp; try with_reducible rfl
  try simp only [Act.put, List.setIfInBounds_toArray, List.set_cons_zero, List.set_cons_succ]
  refine wpAnyH_take (i := 6) (v := ?hv6) rfl (by kernel_rfl) (by kernel_rfl) (by kernel_rfl) (fun _ _ _ h => h) (Or.inl ⟨by kernel_rfl, ?hy6⟩) hHeld ?_
  case hy6 => intro u hu; go_simp; try with_reducible rfl
  try simp only [Act.put, List.setIfInBounds_toArray, List.set_cons_zero, List.set_cons_succ]
  refine wpAnyH_take (i := 7) (v := ?hv7) rfl (by kernel_rfl) (by kernel_rfl) (by kernel_rfl) (fun _ _ _ h => h) (Or.inl ⟨by kernel_rfl, ?hy7⟩) hHeld ?_
  case hy7 => intro u hu; go_simp; try with_reducible rfl
  try simp only [Act.put, List.setIfInBounds_toArray, List.set_cons_zero, List.set_cons_succ]
  refine wpAnyH_take (i := 8) (v := ?hv8) rfl (by kernel_rfl) (by kernel_rfl) (by kernel_rfl) (fun _ _ _ h => h) (Or.inl ⟨by kernel_rfl, ?hy8⟩) hHeld ?_
  case hy8 => intro u hu; go_simp; try with_reducible rfl
  try simp only [Act.put, List.setIfInBounds_toArray, List.set_cons_zero, List.set_cons_succ]
  refine wpAnyH_take (i := 9) (v := ?hv9) rfl (by kernel_rfl) (by kernel_rfl) (by kernel_rfl) (fun _ _ _ h => h) (Or.inl ⟨by kernel_rfl, ?hy9⟩) hHeld ?_
  case hy9 => intro u hu; go_simp; try with_reducible rfl
  try simp only [Act.put, List.setIfInBounds_toArray, List.set_cons_zero, List.set_cons_succ]
  refine wpAnyH_take (i := 10) (v := ?hv10) rfl (by kernel_rfl) (by kernel_rfl) (by kernel_rfl) (fun _ _ _ h => h) (Or.inl ⟨by kernel_rfl, ?hy10⟩) hHeld ?_
  case hy10 => intro u hu; go_simp; try with_reducible rfl
  try simp only [Act.put, List.setIfInBounds_toArray, List.set_cons_zero, List.set_cons_succ]
  refine wpAnyH_take (i := 11) (v := ?hv11) rfl (by kernel_rfl) (by kernel_rfl) (by kernel_rfl) (fun _ _ _ h => h) (Or.inl ⟨by kernel_rfl, ?hy11⟩) hHeld ?_
  case hy11 => intro u hu; go_simp; try with_reducible rfl
  try simp only [Act.put, List.setIfInBounds_toArray, List.set_cons_zero, List.set_cons_succ]
  refine wpAnyH_take (i := 12) (v := ?hv12) rfl (by kernel_rfl) (by kernel_rfl) (by kernel_rfl) (fun _ _ _ h => h) (Or.inl ⟨by kernel_rfl, ?hy12⟩) hHeld ?_
  case hy12 => intro u hu; go_simp; try with_reducible rfl
  try simp only [Act.put, List.setIfInBounds_toArray, List.set_cons_zero, List.set_cons_succ]
  refine wpAnyH_take (i := 13) rfl (by kernel_rfl) (by kernel_rfl) (by kernel_rfl) (fun _ _ _ h => h) (yieldsIf_load_mid (by kernel_rfl) 30 (.tmp 66) (by kernel_rfl) pb po (by kernel_rfl) cx _ (fun u hu => hu.1) Tryd.underlying30 rfl LX.out) hHeld ?_
  try simp only [Act.put, List.setIfInBounds_toArray, List.set_cons_zero, List.set_cons_succ]
  refine wpAnyH_take (i := 14) (v := ?hv14) rfl (by kernel_rfl) (by kernel_rfl) (by kernel_rfl) (fun _ _ _ h => h) (Or.inl ⟨by kernel_rfl, ?hy14⟩) hHeld ?_
  case hy14 => intro u hu; go_simp; try with_reducible rfl
  try simp only [Act.put, List.setIfInBounds_toArray, List.set_cons_zero, List.set_cons_succ]
  refine wpAnyH_take (i := 15) rfl (by kernel_rfl) (by kernel_rfl) (by kernel_rfl) (fun _ _ _ h => h) (yieldsIf_load_mid (by kernel_rfl) 28 (.tmp 6) (by kernel_rfl) (w.heap.size + 1) 0 (by kernel_rfl) cl _ (fun u hu => hu.2.1) Tryd.underlying28 rfl LC.out) hHeld ?_
  try simp only [Act.put, List.setIfInBounds_toArray, List.set_cons_zero, List.set_cons_succ]
  refine wpAnyH_take (i := 16) rfl (by kernel_rfl) (by kernel_rfl) (by kernel_rfl) (fun _ _ _ h => h) (yields_build3 (by kernel_rfl) 30 0 1 2 (.tmp 68) (.const (.string ⟨#[97]⟩)) (.tmp 69) (by kernel_rfl) _ _ _ (by kernel_rfl) (by kernel_rfl) (by kernel_rfl) cx.toArray BLD.out) hHeld ?_
  try simp only [Act.put, List.setIfInBounds_toArray, List.set_cons_zero, List.set_cons_succ]
  refine wpAnyH_take (i := 17) rfl (by kernel_rfl) (by kernel_rfl) (by kernel_rfl) (fun _ _ _ h => h) (yields_eql (by kernel_rfl) 30 30 (.tmp 67) (.tmp 70) (by kernel_rfl) cx.toArray cx.toArray (by kernel_rfl) (by kernel_rfl) (by kernel_rfl) true EQ.out) hHeld ?_
  try simp only [Act.put, List.setIfInBounds_toArray, List.set_cons_zero, List.set_cons_succ]
  refine wpAnyH_take (i := 18) (v := ?hv18) rfl (by kernel_rfl) (by kernel_rfl) (by kernel_rfl) (fun _ _ _ h => h) (Or.inl ⟨by kernel_rfl, ?hy18⟩) hHeld ?_
  case hy18 => intro u hu; go_simp; try with_reducible rfl
  try simp only [Act.put, List.setIfInBounds_toArray, List.set_cons_zero, List.set_cons_succ]
  refine wpAnyH_take (i := 19) (v := ?hv19) rfl (by kernel_rfl) (by kernel_rfl) (by kernel_rfl) (fun _ _ _ h => h) (Or.inl ⟨by kernel_rfl, ?hy19⟩) hHeld ?_
  case hy19 => intro u hu; go_simp; try with_reducible rfl
  try simp only [Act.put, List.setIfInBounds_toArray, List.set_cons_zero, List.set_cons_succ]
  refine wpAnyH_take (i := 20) (v := ?hv20) rfl (by kernel_rfl) (by kernel_rfl) (by kernel_rfl) (fun _ _ _ h => h) (Or.inl ⟨by kernel_rfl, ?hy20⟩) hHeld ?_
  case hy20 => intro u hu; go_simp; try with_reducible rfl
  try simp only [Act.put, List.setIfInBounds_toArray, List.set_cons_zero, List.set_cons_succ]
  refine wpAnyH_take (i := 21) (v := ?hv21) rfl (by kernel_rfl) (by kernel_rfl) (by kernel_rfl) (fun _ _ _ h => h) (Or.inl ⟨by kernel_rfl, ?hy21⟩) hHeld ?_
  case hy21 => intro u hu; go_simp; try with_reducible rfl
  try simp only [Act.put, List.setIfInBounds_toArray, List.set_cons_zero, List.set_cons_succ]
  refine wpAnyH_take (i := 22) (v := ?hv22) rfl (by kernel_rfl) (by kernel_rfl) (by kernel_rfl) (fun _ _ _ h => h) (Or.inl ⟨by kernel_rfl, ?hy22⟩) hHeld ?_
  case hy22 => intro u hu; go_simp; try with_reducible rfl
  try simp only [Act.put, List.setIfInBounds_toArray, List.set_cons_zero, List.set_cons_succ]
  refine wpAnyH_take (i := 23) (v := ?hv23) rfl (by kernel_rfl) (by kernel_rfl) (by kernel_rfl) (fun _ _ _ h => h) (Or.inl ⟨by kernel_rfl, ?hy23⟩) hHeld ?_
  case hy23 => intro u hu; go_simp; try with_reducible rfl
  try simp only [Act.put, List.setIfInBounds_toArray, List.set_cons_zero, List.set_cons_succ]
  refine wpAnyH_take (i := 24) (v := ?hv24) rfl (by kernel_rfl) (by kernel_rfl) (by kernel_rfl) (fun _ _ _ h => h) (Or.inl ⟨by kernel_rfl, ?hy24⟩) hHeld ?_
  case hy24 => intro u hu; go_simp; try with_reducible rfl
  try simp only [Act.put, List.setIfInBounds_toArray, List.set_cons_zero, List.set_cons_succ]
  refine wpAnyH_take (i := 25) (v := ?hv25) rfl (by kernel_rfl) (by kernel_rfl) (by kernel_rfl) (fun _ _ _ h => h) (Or.inl ⟨by kernel_rfl, ?hy25⟩) hHeld ?_
  case hy25 => intro u hu; go_simp; try with_reducible rfl
  try simp only [Act.put, List.setIfInBounds_toArray, List.set_cons_zero, List.set_cons_succ]
  refine wpAnyH_take (i := 26) (v := ?hv26) rfl (by kernel_rfl) (by kernel_rfl) (by kernel_rfl) (fun _ _ _ h => h) (Or.inl ⟨by kernel_rfl, ?hy26⟩) hHeld ?_
  case hy26 => intro u hu; go_simp; try with_reducible rfl
  try simp only [Act.put, List.setIfInBounds_toArray, List.set_cons_zero, List.set_cons_succ]
  refine wpAnyH_take (i := 27) (v := ?hv27) rfl (by kernel_rfl) (by kernel_rfl) (by kernel_rfl) (fun _ _ _ h => h) (Or.inl ⟨by kernel_rfl, ?hy27⟩) hHeld ?_
  case hy27 => intro u hu; go_simp; try with_reducible rfl
  try simp only [Act.put, List.setIfInBounds_toArray, List.set_cons_zero, List.set_cons_succ]
  refine wpAnyH_take (i := 28) (v := ?hv28) rfl (by kernel_rfl) (by kernel_rfl) (by kernel_rfl) (fun _ _ _ h => h) (Or.inl ⟨by kernel_rfl, ?hy28⟩) hHeld ?_
  case hy28 => intro u hu; go_simp; try with_reducible rfl
  try simp only [Act.put, List.getElem_toArray, List.getElem_cons_succ, List.getElem_cons_zero, List.setIfInBounds_toArray, List.set_cons_zero, List.set_cons_succ]
  refine wpAnyH_done (by kernel_rfl) ?_ _
  have B9 := Lib.hid (B8.out.trans (hHeld.2.2.mono B8.out.size))
  clear hHeld
  go_wp2
  go_ret
  exact ⟨by kernel_rfl, B9.out⟩
end Go.Proofs.YtalmoaofodjehaaDoor.treeModes
