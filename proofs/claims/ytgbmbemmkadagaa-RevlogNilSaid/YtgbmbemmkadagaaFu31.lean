/-
  Texts that belong together, one behind the other.
-/
import Derived.Test.YtgbmbemmkadagaaFu30
/-
  Layer 15, the program: the text that was added last; how long the chain of a text is.
-/
namespace Go.Proofs.Ytgbmbemmkadagaa
set_option maxRecDepth 20000
open Go.RowKit Go.Maps
set_option linter.unusedVariables false
set_option linter.unusedSimpArgs false

theorem lastL_nil {S : Nat → Prop} {w : World} {g : Nat} {E : List Enl} {v : Value} {mb : Option Nat} (h : LogIn S w g [] E v mb) : Calls Try.prog 39 #[.pointer (some ⟨g, 0, none⟩)] w fun e w' => e = .returned .nilIface ∧ w' = w := by
  obtain ⟨a, c, rfl, -⟩ := h.shape
  have hc : w.cell? ⟨g, 0, none⟩ = some (.slice a 0 c) := (h.cells rfl).1
  clear h
  go_enter Try.func39, Try.ntmps39
  go_wp2
  go_ret
  exact ⟨rfl, rfl⟩
set_option maxHeartbeats 16000000 in
theorem lastL_some {S : Nat → Prop} {w : World} {g : Nat} {L : LogV} {E : List Enl} {v : Value} {mb : Option Nat} (h : LogIn S w g L E v mb) {m : Nat} (hm : L.length = m + 1) (hE : m < E.length) :
    Calls Try.prog 39 #[.pointer (some ⟨g, 0, none⟩)] w fun e w' => e = .returned (E[m]).v ∧ Below w.heap.size w w' := by
  have hL : m < L.length := by omega
  have hid := h.ids _ (List.getElem_mem hE)
  have hlook := h.one hE
  have hfield := fun u => field_ent E[m] hid.2.1 hid.2.2 u
  obtain ⟨a, c, hv, hcn, hcm, hrow, -⟩ := h.shape
  have hmax : m + 1 ≤ 2000 := by rw [← hm]; exact h.good.len
  obtain ⟨b, o, rfl, hbl⟩ := hrow.some (by rw [List.length_map]; omega)
  have hr0 := hrow.elem m (by rw [List.length_map]; exact hL)
  rw [List.getElem_map] at hr0
  have hr2 : w.rangeAt b (o + m * 20) (cellsD (E[m]).r.n) := by rw [h.at hE hL]; exact hr0
  have hcell := (h.cells (u := w) rfl).1
  rw [hv, hm] at hcell
  have d0 : ((((m + 1 : Nat) : Int)) == 0) = false := beq_eq_false_iff_ne.2 (by omega)
  have hblk := h.blk
  have HL := Lib.hid (fun u (hu : Below w.heap.size w u) => (show u.cell? ⟨g, 1, none⟩ = some (.map mb) ∧ (Instr.lookup 64 (.map mb) (.agg (cellsD (E[m]).r.n).toArray) false).run Try.prog u = .ok (.agg (arrL E[m])) u from hlook u hu))
  have HC := Lib.hid (fun u (hu : Below w.heap.size w u) => (hu.cell (p := ⟨g, 0, none⟩) (lt_of_heap hblk)).trans hcell)
  have RY := Lib.hid (fun u (hu : Below w.heap.size w u) => (show u.rangeAt b (o + m * 20) (cellsD (E[m]).r.n) from fun j x hx => (hu.cell (p := ⟨b, o + m * 20 + j, none⟩) hbl).trans (hr2 j x hx)))
  have LY := Lib.hid (show (Try.prog.info? 24).map (·.size) = some (cellsD (E[m]).r.n).length by rw [cellsD_len _ hid.1]; exact infoD_n)
  have WM := Lib.hid (show IntKind.i64.wrap (m : Int) = m by rw [IntWalk.i64_in _ (by omega)])
  obtain ⟨V, hV⟩ : ∃ V, (E[m]).v = V := ⟨_, rfl⟩
  obtain ⟨T, x, hTx⟩ := (h.sto _ (List.getElem_mem hE)).iface
  rw [hV] at hTx
  subst hTx
  rw [hV] at hfield ⊢
  obtain ⟨EA, hEA⟩ : ∃ EA, arrL E[m] = EA := ⟨_, rfl⟩
  rw [hEA] at HL hfield
  have FD := Lib.hid hfield
  obtain ⟨cy, hcy⟩ : ∃ cy, cellsD (E[m]).r.n = cy := ⟨_, rfl⟩
  rw [hcy] at HL RY LY
  rw [hm] at hcn
  clear hlook hfield hcm hrow hr0 hr2 hV hEA hcy hid hv hblk h hL hE hm hbl
  go_enter Try.func39, Try.ntmps39
  go_wp2_with fail
  refine rgB _ (fun hHeld => ?_)
  refine tkW 0 rfl hHeld ?_
  refine tkW 1 rfl hHeld ?_
  refine tkW 2 rfl hHeld ?_
  refine tkV 3 rfl (.map mb) (fun u hu => by have q := (HL.out u hu).1; go_simp) hHeld ?_
  refine tkW 4 rfl hHeld ?_
  refine tkW 5 rfl hHeld ?_
  refine tkW 6 rfl hHeld ?_
  refine tkV 7 rfl (.slice (some ⟨b, o, none⟩) (m + 1) c) (fun u hu => by have q := HC.out u hu; go_simp) hHeld ?_
  refine tkW 8 rfl hHeld ?_
  refine tkW 9 rfl hHeld ?_
  refine tkW 10 rfl hHeld ?_
  refine tkV 11 rfl (.slice (some ⟨b, o, none⟩) (m + 1) c) (fun u hu => by have q := HC.out u hu; go_simp) hHeld ?_
  refine tkW 12 rfl hHeld ?_
  refine tkV 13 rfl (.int .i64 m) (fun u hu => by go_simp; exact WM.out) hHeld ?_
  refine tkV 14 rfl (.pointer (some ⟨b, o + m * 20, none⟩)) (fun u hu => by go_simp; intro q; omega) hHeld ?_
  refine tkH 15 rfl (yieldsIf_load_mid (by kernel_rfl) 24 (.tmp 23) (by kernel_rfl) b (o + m * 20) (by kernel_rfl) cy _ (fun u hu => RY.out u hu) Try.underlying24 rfl LY.out) hHeld ?_
  refine tkV 16 rfl (.agg EA) (fun u hu => by have q := (HL.out u hu).2; go_simp) hHeld ?_
  refine tkV 17 rfl (.iface T x) (fun u hu => by have q := FD.out u; go_simp) hHeld ?_
  refine tkW 18 rfl hHeld ?_
  try simp only [Act.put, List.getElem_toArray, List.getElem_cons_succ, List.getElem_cons_zero, lsA, lsZ, lsS]
  refine wpAnyH_done (by kernel_rfl) ?_ _
  have HB := Lib.hid hHeld
  clear hHeld
  go_wp2
  go_ret
  exact ⟨rfl, HB.out⟩
set_option maxHeartbeats 8000000 in
theorem chainN_nil (n : Int) (w : World) : Calls Try.prog 22 #[.pointer none, .int .i64 n] w fun e w' => e = .returned (.int .i64 (-1)) ∧ Below w.heap.size w w' := by
  obtain ⟨z, hz0, hzs, hzv, hzb, hz1⟩ := zId_any
  have CN := Lib.hid (nodeN_nil n w)
  rw [← hz0] at CN
  have Z1 := Lib.hid hz1; have ZS := Lib.hid hzs
  have IZ := Lib.hid (infoD_arr z hzs)
  clear hz0 hzs hzb hz1
  go_enter Try.func22, Try.ntmps22
  go_wp2_with fail
  refine CN.out.mono ?_
  rintro e w2 ⟨rfl, hb⟩
  have HB := Lib.hid (hb.alloc hb.size (.cells z 24))
  have NW := Lib.hid (heap_alloc_new w2 (.cells z 24))
  have ZZ := Lib.hid hb.size
  clear hb CN
  go_wp2_with (first
    | (with_reducible refine wpList_store_all rfl 24 (.tmp 5) (.tmp 11) rfl w2.heap.size z rfl rfl 24 z NW.out IZ.out rfl Z1.out ?_; intro w5 r5 o5 s5)
    | fail)
  have HB5 := Lib.hid (HB.out.trans (o5.below (B := w.heap.size) ZZ.out HB.out.size))
  go_ret
  exact ⟨rfl, HB5.out⟩
/-- How long the chain of a text is; -1: there is no such text. -/
def chainAt (L : LogV) (n : Int) : Int := if 0 ≤ n ∧ n < L.length then ((L.getD n.toNat ⟨idZ, [], [], [], 0⟩).c : Int) else -1
theorem chainAt_in {L : LogV} {k : Nat} (hk : k < L.length) : chainAt L k = (L[k]).c ∧ nodeAt L k = (L[k]).n ∧ isAt L k = true := by
  unfold chainAt nodeAt isAt
  rw [if_pos ⟨by omega, by omega⟩, if_pos ⟨by omega, by omega⟩, Int.toNat_natCast, List.getD_eq_getElem?_getD, List.getElem?_eq_getElem hk]
  exact ⟨rfl, rfl, by simp [hk]⟩
theorem chainAt_out {L : LogV} {n : Int} (h : ¬ (0 ≤ n ∧ n < L.length)) : chainAt L n = -1 ∧ nodeAt L n = idZ ∧ isAt L n = false := by
  unfold chainAt nodeAt isAt
  rw [if_neg h, if_neg h]
  refine ⟨rfl, rfl, ?_⟩
  by_cases h1 : 0 ≤ n
  · rw [decide_eq_true h1, decide_eq_false (fun h2 => h ⟨h1, h2⟩)]; rfl
  · rw [decide_eq_false h1]; rfl
set_option maxHeartbeats 16000000 in
theorem chainN_is {S : Nat → Prop} {w : World} {g : Nat} {L : LogV} (h : LogP S w g L) (n : Int) :
    Calls Try.prog 22 #[.pointer (some ⟨g, 0, none⟩), .int .i64 n] w fun e w' => e = .returned (.int .i64 (chainAt L n)) ∧ Below w.heap.size w w' := by
  obtain ⟨z, hz0, hzs, hzv, hzb, hz1⟩ := zId_any
  have Z1 := Lib.hid hz1; have ZS := Lib.hid hzs
  have IZ := Lib.hid (infoD_arr z hzs)
  have CN := Lib.hid (nodeN_is h n)
  by_cases hin : 0 ≤ n ∧ n < L.length
  · obtain ⟨k, rfl⟩ : ∃ k : Nat, n = k := ⟨n.toNat, by omega⟩
    have hk : k < L.length := by omega
    obtain ⟨hcA, hnA, hiA⟩ := chainAt_in hk
    rw [hnA, hiA] at CN
    rw [hcA]
    obtain ⟨hg, E, v, mb, h2⟩ := h
    have hE : k < E.length := by rw [h2.len]; exact hk
    have hr := h2.at hE hk
    have hid := h2.ids _ (List.getElem_mem hE)
    have hlook := h2.one hE
    have hfield := fun u => field_ent E[k] hid.2.1 hid.2.2 u
    have hsto := h2.sto _ (List.getElem_mem hE)
    have hc8 := (h2.good.few _ (List.getElem_mem hk)).2
    rw [hr] at hsto hlook hid
    obtain ⟨V, hV⟩ : ∃ V, (E[k]).v = V := ⟨_, rfl⟩
    rw [hV] at hsto hfield
    obtain ⟨T, x, hTx⟩ := hsto.iface
    subst hTx
    have CH := Lib.hid (fun u (hu : Below w.heap.size w u) => chain_is (hsto.behind hu) (Nat.le_trans hc8 (by omega)))
    obtain ⟨d, hd⟩ : ∃ d, (L[k]).c = d := ⟨_, rfl⟩
    rw [hd] at CH ⊢
    obtain ⟨EA, hEA⟩ : ∃ EA, arrL E[k] = EA := ⟨_, rfl⟩
    rw [hEA] at hlook hfield
    obtain ⟨y, hy⟩ : ∃ y, (L[k]).n = y := ⟨_, rfl⟩
    rw [hy] at CN hlook hid
    obtain ⟨Y, hY⟩ : ∃ Y, arrD y = Y := ⟨_, rfl⟩
    rw [hY] at CN hlook
    have sY : Y.size = 20 := by rw [← hY]; exact arrD_size y hid.1
    have OY := Lib.hid (show Y.all (·.oneCell') = true by rw [← hY]; exact arrD_one y)
    have IY := Lib.hid (infoD_arr Y sY)
    have LY := Lib.hid (show (Try.prog.info? 24).map (·.size) = some Y.toList.length by rw [Array.length_toList, sY]; exact infoD_n)
    have SYZ := Lib.hid (show Y.size = z.size by rw [sY, ZS.out])
    have HL := Lib.hid hlook; have FD := Lib.hid hfield
    clear hz0 hzs hzb hz1 hin hcA hnA hiA h2 hE hr hid hlook hfield hsto hc8 hV hd hEA hy hY sY hk
    go_enter Try.func22, Try.ntmps22
    go_wp2_with fail
    refine CN.out.mono ?_
    rintro e w2 ⟨rfl, hb⟩
    have B0 := Lib.hid (hb.alloc hb.size (.cells z 24))
    have NW := Lib.hid (heap_alloc_new w2 (.cells z 24))
    have ZZ := Lib.hid hb.size
    clear hb CN
    go_wp2_with (first
      | (with_reducible refine wpList_store_all rfl 24 (.tmp 5) (.tmp 11) rfl w2.heap.size Y rfl rfl 24 z NW.out IY.out SYZ.out OY.out ?_; intro w5 r5 o5 s5; have B5 := Lib.hid (B0.out.trans (o5.below (B := w.heap.size) ZZ.out B0.out.size)); have RY := Lib.hid (fun u (hu : Below w5.heap.size w5 u) => (row_arrD ((hu.block w2.heap.size (lt_of_heap r5)).trans r5))); clear r5 o5 s5)
      | fail)
    have HL5 := Lib.hid (fun u (hu : Below w5.heap.size w5 u) => HL.out u (B5.out.trans (hu.mono B5.out.size)))
    clear HL NW
    refine rgB _ (fun hHeld => ?_)
    refine tkW 0 rfl hHeld ?_
    refine tkW 1 rfl hHeld ?_
    refine tkW 2 rfl hHeld ?_
    refine tkV 3 rfl (.map mb) (fun u hu => by have q := (HL5.out u hu).1; go_simp) hHeld ?_
    refine tkH 4 rfl (yieldsIf_load_mid (by kernel_rfl) 24 (.tmp 5) (by kernel_rfl) w2.heap.size 0 (by kernel_rfl) Y.toList _ (fun u hu => RY.out u hu) Try.underlying24 rfl LY.out) hHeld ?_
    refine tkV 5 rfl (.agg EA) (fun u hu => by have q := (HL5.out u hu).2; go_simp) hHeld ?_
    refine tkV 6 rfl (.iface T x) (fun u hu => by have q := FD.out u; go_simp) hHeld ?_
    refine rdH 7 rfl (fun K hK => ?_)
    go_simp
    refine (CH.out _ (B5.out.trans (hHeld.mono B5.out.size))).mono ?_
    rintro e u2 ⟨rfl, hb2⟩
    have hH := hHeld.trans (hb2.mono hHeld.size)
    clear hHeld hb2
    refine hK.out _ _ hH (fun hHeld => ?_)
    clear hK K
    try simp only [Act.put, List.setIfInBounds_toArray, List.set_cons_zero, List.set_cons_succ]
    refine tkW 8 rfl hHeld ?_
    try simp only [Act.put, List.getElem_toArray, List.getElem_cons_succ, List.getElem_cons_zero, lsA, lsZ, lsS]
    refine wpAnyH_done (by kernel_rfl) ?_ _
    have HB := Lib.hid (B5.out.trans (hHeld.mono B5.out.size))
    clear hHeld
    go_wp2
    go_ret
    exact ⟨rfl, HB.out⟩
  · obtain ⟨hcA, hnA, hiA⟩ := chainAt_out hin
    rw [hnA, hiA, ← hz0] at CN
    rw [hcA]
    clear hz0 hzs hzb hz1 hin hcA hnA hiA h
    go_enter Try.func22, Try.ntmps22
    go_wp2_with fail
    refine CN.out.mono ?_
    rintro e w2 ⟨rfl, hb⟩
    have HB := Lib.hid (hb.alloc hb.size (.cells z 24))
    have NW := Lib.hid (heap_alloc_new w2 (.cells z 24))
    have ZZ := Lib.hid hb.size
    clear hb CN
    go_wp2_with (first
      | (with_reducible refine wpList_store_all rfl 24 (.tmp 5) (.tmp 11) rfl w2.heap.size z rfl rfl 24 z NW.out IZ.out rfl Z1.out ?_; intro w5 r5 o5 s5)
      | fail)
    have HB5 := Lib.hid (HB.out.trans (o5.below (B := w.heap.size) ZZ.out HB.out.size))
    go_ret
    exact ⟨rfl, HB5.out⟩
end Go.Proofs.Ytgbmbemmkadagaa

/-
  Layer 15, the program: Text, Parents.
-/
namespace Go.Proofs.Ytgbmbemmkadagaa
set_option maxRecDepth 20000
open Go.RowKit Go.Maps
set_option linter.unusedVariables false
set_option linter.unusedSimpArgs false

theorem arrL_40 (e : Enl) (hp : e.r.p.length = 20) (hq : e.r.q.length = 20) : (arrL e)[40]? = some e.v := by
  unfold arrL cellsL
  rw [List.getElem?_toArray, List.getElem?_append_right (by rw [List.length_append, cellsD_len _ hp, cellsD_len _ hq]; exact Nat.le_refl _), List.length_append, cellsD_len _ hp, cellsD_len _ hq]
  rfl
theorem rowL_p {w : World} {g : Nat} {T : TypeId} {fr : Nat × Nat} {e : Enl} (h : w.heap[g]? = some (.cells (arrL e) T fr)) (hp : e.r.p.length = 20) (hq : e.r.q.length = 20) : w.rangeAt g 0 (cellsD e.r.p) ∧ w.rangeAt g 20 (cellsD e.r.q) := by
  have k := row_arrD h
  have el : (arrL e).toList = cellsD e.r.p ++ cellsD e.r.q ++ [e.v] := rfl
  rw [el] at k
  constructor
  · intro j v hv
    have hj := (List.getElem?_eq_some_iff.1 hv).1
    refine k j v ?_
    rw [List.append_assoc, List.getElem?_append_left hj]
    exact hv
  · intro j v hv
    have hj := (List.getElem?_eq_some_iff.1 hv).1
    have := k (20 + j) v (by
      rw [List.append_assoc, List.getElem?_append_right (by rw [cellsD_len _ hp]; omega), cellsD_len _ hp, Nat.add_sub_cancel_left, List.getElem?_append_left hj]
      exact hv)
    rw [Nat.zero_add] at this
    exact this
theorem entE_ids {S : Nat → Prop} {w : World} {g : Nat} {L : LogV} {E : List Enl} {v : Value} {mb : Option Nat} (h : LogIn S w g L E v mb) (i : List UInt8) : (entE L E i).r.p.length = 20 ∧ (entE L E i).r.q.length = 20 := by
  cases hk : atLv L i with
  | none => rw [entE_none hk]; exact ⟨rfl, rfl⟩
  | some k =>
    obtain ⟨hl, hm, hr, hn⟩ := h.entE_some hk
    exact (h.ids _ hm).2
set_option maxHeartbeats 8000000 in
theorem textL_err {po : Option Addr} {w : World} (i : List UInt8) (hi : i.length = 20) (er : Int) (he : er = 2 ∨ er = 6) (hf : ∀ u, Below w.heap.size w u → Calls Try.prog 32 #[.pointer po, .agg (arrD i)] u fun e w' => e = .returned (.tuple #[.agg (arrL zEnl), .int .i64 er]) ∧ Below u.heap.size u w') :
    Calls Try.prog 18 #[.pointer po, .agg (arrD i)] w fun e w' => e = .returned (.tuple #[.slice none 0 0, .int .i64 er]) ∧ Below w.heap.size w w' := by
  obtain ⟨Z, hZ, sZ, zr, bZ, oZ⟩ := zEnt_any
  rw [← hZ] at hf
  obtain ⟨A, hA⟩ : ∃ A, arrD i = A := ⟨_, rfl⟩
  have IA := Lib.hid (infoD_arr A (by rw [← hA]; exact arrD_size i hi))
  rw [hA] at hf ⊢
  have b1 := (Below.refl w.heap.size w).alloc (Nat.le_refl _) (.cells A 24)
  have X1 := Lib.hid (heap_alloc_new w (.cells A 24))
  have CF := Lib.hid (hf _ b1)
  have B1 := Lib.hid b1
  have OZ := Lib.hid oZ; have IZ := Lib.hid (infoEnt_arr Z sZ)
  have d0 : (er != 0) = true := bne_iff_ne.2 (by omega)
  clear hZ sZ bZ oZ hA hf b1 hi he
  go_enter Try.func18, Try.ntmps18
  go_wp2_with (first
    | (with_reducible refine wpList_load_all 24 (.tmp 3) rfl (by kernel_rfl) w.heap.size A 24 (0, 0) rfl X1.out _ Try.underlying24 rfl IA.out ?_)
    | fail)
  refine CF.out.mono ?_
  rintro e w2 ⟨rfl, hb2⟩
  have B2 := Lib.hid (B1.out.trans (hb2.mono B1.out.size))
  have B3 := Lib.hid (B2.out.alloc B2.out.size (.cells Z 76))
  have NW := Lib.hid (heap_alloc_new w2 (.cells Z 76))
  have ZZ := Lib.hid B2.out.size
  clear hb2 CF
  go_wp2_with (first
    | (with_reducible refine wpList_store_all rfl 76 (.tmp 6) (.tmp 12) rfl w2.heap.size Z rfl rfl 76 Z NW.out IZ.out rfl OZ.out ?_; intro w5 r5 o5 s5)
    | fail)
  have HB5 := Lib.hid (B3.out.trans (o5.below (B := w.heap.size) ZZ.out B3.out.size))
  go_ret2
  exact ⟨rfl, HB5.out⟩
theorem textL_nil (i : List UInt8) (hi : i.length = 20) (w : World) : Calls Try.prog 18 #[.pointer none, .agg (arrD i)] w fun e w' => e = .returned (.tuple #[.slice none 0 0, .int .i64 2]) ∧ Below w.heap.size w w' :=
  textL_err i hi 2 (.inl rfl) (fun u _ => findL_nil i u)
theorem textL_none {S : Nat → Prop} {w : World} {g : Nat} {L : LogV} (h : LogP S w g L) (i : List UInt8) (hi : i.length = 20) (hk : atLv L i = none) :
    Calls Try.prog 18 #[.pointer (some ⟨g, 0, none⟩), .agg (arrD i)] w fun e w' => e = .returned (.tuple #[.slice none 0 0, .int .i64 6]) ∧ Below w.heap.size w w' := by
  refine textL_err i hi 6 (.inr rfl) (fun u hu => ?_)
  obtain ⟨hg, E, v, mb, h2⟩ := h.below hu
  have := findL_is h2 i hi
  rw [entE_none hk, hk] at this
  exact this
set_option maxHeartbeats 16000000 in
theorem textL_some {S : Nat → Prop} {w : World} {g : Nat} {L : LogV} (h : LogP S w g L) (i : List UInt8) (hi : i.length = 20) {k : Nat} (hk : atLv L i = some k) (hl : k < L.length) :
    Calls Try.prog 18 #[.pointer (some ⟨g, 0, none⟩), .agg (arrD i)] w fun e w' => ∃ v, e = .returned (.tuple #[v, .int .i64 0]) ∧ Row w' v (L[k]).t ∧ (∀ g, foot v = some g → w.heap.size ≤ g) ∧ Below w.heap.size w w' := by
  obtain ⟨Z, hZ, sZ, zr, bZ, oZ⟩ := zEnt_any
  obtain ⟨hg, E, v, mb, h2⟩ := h
  obtain ⟨A, hA⟩ : ∃ A, arrD i = A := ⟨_, rfl⟩
  have IA := Lib.hid (infoD_arr A (by rw [← hA]; exact arrD_size i hi))
  have b1 := (Below.refl w.heap.size w).alloc (Nat.le_refl _) (.cells A 24)
  have X1 := Lib.hid (heap_alloc_new w (.cells A 24))
  have cf := findL_is (h2.keep hg (StayB.of b1)) i hi
  have es := entE_size h2 i
  have eo := entE_one h2 i
  have e40 := arrL_40 (entE L E i) (entE_ids h2 i).1 (entE_ids h2 i).2
  obtain ⟨hl', hm, hr, hn⟩ := h2.entE_some hk
  have hsto := h2.sto _ hm
  rw [hr] at hsto
  have hfew := (h2.good.few _ (List.getElem_mem hl)).1
  rw [hk, hA] at cf
  have B1 := Lib.hid b1
  obtain ⟨V, hV⟩ : ∃ V, (entE L E i).v = V := ⟨_, rfl⟩
  rw [hV] at e40 hsto
  obtain ⟨T, x, f, hT⟩ := hsto.text
  obtain ⟨rfl, m, na, eg, CT⟩ := hT
  have CT := Lib.hid CT
  obtain ⟨EA, hEA⟩ : ∃ EA, arrL (entE L E i) = EA := ⟨_, rfl⟩
  rw [hEA] at cf es eo e40
  have CF := Lib.hid cf
  obtain ⟨t, ht⟩ : ∃ t, (L[k]).t = t := ⟨_, rfl⟩
  rw [ht] at CT hfew ⊢
  have HFEW := Lib.hid hfew
  have EO := Lib.hid eo; have SEZ := Lib.hid (show EA.size = Z.size by rw [es, sZ]); have IE := Lib.hid (infoEnt_arr EA es); have E40 := Lib.hid e40
  rw [hA]
  clear hZ sZ bZ oZ hA hi b1 cf es eo e40 hm hr hn hsto hfew hV hEA ht h2
  go_enter Try.func18, Try.ntmps18
  go_wp2_with (first
    | (with_reducible refine wpList_load_all 24 (.tmp 3) rfl (by kernel_rfl) w.heap.size A 24 (0, 0) rfl X1.out _ Try.underlying24 rfl IA.out ?_)
    | fail)
  refine CF.out.mono ?_
  rintro e w2 ⟨rfl, hb2⟩
  have B2 := Lib.hid (B1.out.trans (hb2.mono B1.out.size))
  have B3 := Lib.hid (B2.out.alloc B2.out.size (.cells Z 76))
  have NW := Lib.hid (heap_alloc_new w2 (.cells Z 76))
  have ZZ := Lib.hid B2.out.size
  clear hb2 CF
  go_wp2_with (first
    | (with_reducible refine wpList_store_all rfl 76 (.tmp 6) (.tmp 12) rfl w2.heap.size EA rfl rfl 76 Z NW.out IE.out SEZ.out EO.out ?_; intro w5 r5 o5 s5; have x5 := (cell_of_row w5 w2.heap.size 40 _ _ _ r5).trans E40.out; have B5 := Lib.hid (B3.out.trans (o5.below (B := w.heap.size) ZZ.out B3.out.size)); clear r5 o5 s5)
    | fail)
  refine (CT.out _ B5.out).mono ?_
  rintro e w6 ⟨b6, d6, rfl, hr6, hb6⟩
  have B6 := Lib.hid (B5.out.trans (hb6.mono B5.out.size))
  have RD := Lib.hid (redP hr6)
  have CC := Lib.hid (bClone_any t w6 b6 t.length d6 RD.out.2.1 rfl RD.out.2.2.1 (Nat.le_trans HFEW.out (by omega)))
  clear hr6 hb6 x5 CT
  go_wp2_with fail
  refine CC.out.mono ?_
  rintro e w7 ⟨v7, rfl, hr7, hf7, hb7⟩
  have FIN := Lib.hid (And.intro hr7 (And.intro (fun q hq => Nat.le_trans B6.out.size (hf7 q hq)) (B6.out.trans (hb7.mono B6.out.size))))
  clear hr7 hf7 hb7 CC
  go_wp2
  go_ret2
  exact ⟨_, rfl, FIN.out⟩
end Go.Proofs.Ytgbmbemmkadagaa
