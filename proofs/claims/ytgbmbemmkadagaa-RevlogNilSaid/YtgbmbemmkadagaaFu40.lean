/-
  Texts that belong together, one behind the other.
-/
import Derived.Test.YtgbmbemmkadagaaFu39
/-
  Layer 15, the program: a text whose node is not there (keep).
-/
namespace Go.Proofs.Ytgbmbemmkadagaa
set_option maxRecDepth 20000
open Go.RowKit Go.Maps
set_option linter.unusedVariables false
set_option linter.unusedSimpArgs false

theorem built_ent40 (b0 b1 b2 b3 b4 b5 b6 b7 b8 b9 b10 b11 b12 b13 b14 b15 b16 b17 b18 b19 c0 c1 c2 c3 c4 c5 c6 c7 c8 c9 c10 c11 c12 c13 c14 c15 c16 c17 c18 c19 : UInt8) (n t : List UInt8) (k : Nat) (T : TypeId) (x : Value) :
    Try.prog.built 76 [(0, .agg (arrD [b0, b1, b2, b3, b4, b5, b6, b7, b8, b9, b10, b11, b12, b13, b14, b15, b16, b17, b18, b19])), (1, .agg (arrD [c0, c1, c2, c3, c4, c5, c6, c7, c8, c9, c10, c11, c12, c13, c14, c15, c16, c17, c18, c19])), (2, .iface T x)] = some (arrL ⟨⟨n, [b0, b1, b2, b3, b4, b5, b6, b7, b8, b9, b10, b11, b12, b13, b14, b15, b16, b17, b18, b19], [c0, c1, c2, c3, c4, c5, c6, c7, c8, c9, c10, c11, c12, c13, c14, c15, c16, c17, c18, c19], t, k⟩, .iface T x⟩) := by kernel_rfl
theorem built_ent (n p q t : List UInt8) (k : Nat) (hp : p.length = 20) (hq : q.length = 20) (T : TypeId) (x : Value) : Try.prog.built 76 [(0, .agg (arrD p)), (1, .agg (arrD q)), (2, .iface T x)] = some (arrL ⟨⟨n, p, q, t, k⟩, .iface T x⟩) := by
  match p, hp, q, hq with
  | [b0, b1, b2, b3, b4, b5, b6, b7, b8, b9, b10, b11, b12, b13, b14, b15, b16, b17, b18, b19], _, [c0, c1, c2, c3, c4, c5, c6, c7, c8, c9, c10, c11, c12, c13, c14, c15, c16, c17, c18, c19], _ => exact built_ent40 b0 b1 b2 b3 b4 b5 b6 b7 b8 b9 b10 b11 b12 b13 b14 b15 b16 b17 b18 b19 c0 c1 c2 c3 c4 c5 c6 c7 c8 c9 c10 c11 c12 c13 c14 c15 c16 c17 c18 c19 n t k T x
theorem eql_mapNL (w : World) : (binOp .eql 64 (.map none) (.map none)).run Try.prog w = .ok (.bool true) w := by kernel_rfl
theorem eql_mapSL (b : Nat) (w : World) : (binOp .eql 64 (.map (some b)) (.map none)).run Try.prog w = .ok (.bool false) w := by kernel_rfl
/-- Bytes stay where a cell that holds a map is stored into. -/
theorem bat_setMap {u : World} {a : Option Addr} {t : List UInt8} {p : Addr} {mb : Option Nat} (h : BAt u a t) (hc : u.cell? p = some (.map mb)) (x : Value) : BAt (u.setCell p x) a t := fun hp => by
  obtain ⟨b, o, e, hb, hcell⟩ := h hp
  refine ⟨b, o, e, by simpa using hb, fun i hi => ?_⟩
  rw [World.cell?_setCell_other _ _ _ _ (fun q => ?_)]
  · exact hcell i hi
  · have := hcell i hi
    rw [← q, hc] at this
    cases this
set_option maxHeartbeats 32000000 in
theorem keepL_new {S : Nat → Prop} {w : World} {g : Nat} {L : LogV} (h : LogP S w g L) (hSB : ∀ k, S k → k < w.heap.size) (i : List UInt8) (hi : i.length = 20) (hk : atLv L i = none) (hfew : ∀ r ∈ L, r.t.length ≤ 30000)
    (a : Option Addr) (n c : Nat) (t p q : List UInt8) (hb : BAt w a t) (hn : n = t.length) (hno : a = none → n = 0 ∧ c = 0) (hcn : n ≤ c) (hl : t.length ≤ 30000) (hp : p.length = 20) (hq : q.length = 20)
    (hL : L.length < 2000) (hG : GoodV (L ++ [⟨i, p, q, t, chainV L t⟩])) :
    Calls Try.prog 27 #[.pointer (some ⟨g, 0, none⟩), .agg (arrD i), .slice a n c, .agg (arrD p), .agg (arrD q)] w fun e w' =>
      e = .returned (.int .i64 0) ∧ LogP (fun j => S j ∨ (w.heap.size ≤ j ∧ j < w'.heap.size)) w' g (L ++ [⟨i, p, q, t, chainV L t⟩]) ∧ Chg S w w' := by
  obtain ⟨hg, E, v, mb, h2⟩ := h
  obtain ⟨Z, hZ, sZ, zr, bZ, oZ⟩ := zEnt_any
  have hlk := h2.look hi
  have eZ := entE_none (E := E) hk
  rw [hk, eZ, ← hZ] at hlk
  have NEW := Lib.hid (show ∀ m ∈ celL E, m.1 ≠ .agg (arrD i) from fun m hm he => by
    obtain ⟨x, hx, rfl⟩ := List.mem_map.1 hm
    exact atLv_none.1 hk x.r (by rw [← h2.ens]; exact List.mem_map_of_mem hx) (arrD_inj (Value.agg.inj he)))
  have KEY := Lib.hid (key_idL i hi)
  have BE := Lib.hid (fun T x => built_ent i p q t (chainV L t) hp hq T x)
  have SE := Lib.hid (fun T x => arrL_size ⟨⟨i, p, q, t, chainV L t⟩, .iface T x⟩ hp hq)
  have ROWI := Lib.hid (fun (u : World) (y : Nat) (h : u.heap[y]? = some (.cells (arrD i) 24 (0, 0))) => rowR_one (R := rowI) (x := i) goodI h)
  obtain ⟨d, hd⟩ : ∃ d, chainV L t = d := ⟨_, rfl⟩
  have LS := Lib.hid (fun (u : World) (mb' : Option Nat) (hu : LogIn (fun j => S j ∨ w.heap.size ≤ j) u g L E v mb') (hbu : BAt u a t) => (hd ▸ last_store hu (.inl hg) hfew a n c t hbu hn hno hcn hl))
  rw [hd] at BE SE hG ⊢
  obtain ⟨R, hR⟩ : ∃ R : Rvl, (⟨i, p, q, t, d⟩ : Rvl) = R := ⟨_, rfl⟩
  have hRn : R.n = i := by rw [← hR]
  have hRt : R.t = t ∧ R.c = d := by rw [← hR]; exact ⟨rfl, rfl⟩
  rw [hR] at BE SE hG ⊢
  have HRN := Lib.hid hRn; have HRT := Lib.hid hRt
  obtain ⟨Ai, hAi⟩ : ∃ A, arrD i = A := ⟨_, rfl⟩
  obtain ⟨Ap, hAp⟩ : ∃ A, arrD p = A := ⟨_, rfl⟩
  obtain ⟨Aq, hAq⟩ : ∃ A, arrD q = A := ⟨_, rfl⟩
  have si : Ai.size = 20 := by rw [← hAi]; exact arrD_size i hi
  have sp : Ap.size = 20 := by rw [← hAp]; exact arrD_size p hp
  have sq : Aq.size = 20 := by rw [← hAq]; exact arrD_size q hq
  have SI := Lib.hid si
  have LI := Lib.hid (show (Try.prog.info? 24).map (·.size) = some Ai.toList.length from by rw [Array.length_toList, si]; exact infoD_n)
  have LPx := Lib.hid (show (Try.prog.info? 24).map (·.size) = some Ap.toList.length from by rw [Array.length_toList, sp]; exact infoD_n)
  have LQx := Lib.hid (show (Try.prog.info? 24).map (·.size) = some Aq.toList.length from by rw [Array.length_toList, sq]; exact infoD_n)
  rw [hAi] at hlk NEW KEY ROWI ⊢
  rw [hAp] at BE ⊢
  rw [hAq] at BE ⊢
  obtain ⟨w1, hw1⟩ : ∃ w1, ((w.alloc (.cells Ai 24)).alloc (.cells Ap 24)).alloc (.cells Aq 24) = w1 := ⟨_, rfl⟩
  obtain ⟨b1, z1, k1, k2, k3⟩ := three_new w Ai Ap Aq _ _ _ w1 hw1
  have W1 := Lib.hid hw1; have HB1 := Lib.hid b1; have Z1 := Lib.hid z1; have K1 := Lib.hid k1; have K2 := Lib.hid k2; have K3 := Lib.hid k3
  have HL := Lib.hid (fun u (hu : Below w1.heap.size w1 u) => hlk u (b1.trans (hu.mono b1.size)))
  have RA := Lib.hid (fun u (hu : Below w1.heap.size w1 u) => (row_arrD ((hu.block w.heap.size (lt_of_heap k1)).trans k1)))
  have SZ := Lib.hid sZ; have OZ := Lib.hid oZ; have IZ := Lib.hid (infoEnt_arr Z sZ)
  have LIN := Lib.hid (fun u (hu : Below w.heap.size w u) => (h2.mono (S' := fun j => S j ∨ w.heap.size ≤ j) (fun k _ hk => .inl hk)).keep (.inl hg) ⟨hu.size, fun k hk hl => hu.block k hl⟩)
  have BT := Lib.hid (fun u (hu : Below w.heap.size w u) => hb.keep hu)
  have HAI := Lib.hid hAi; have HG := Lib.hid hG; have HGG := Lib.hid hg; have HS := Lib.hid hSB; have HLL := Lib.hid hL; have HIL := Lib.hid hi
  have HMB := Lib.hid (show ∀ b, mb = some b → S b from fun b hb => (h2.map b hb).1)
  have HOW := Lib.hid (show ∀ k, v.ownBlock = some k → S k from fun k hk => (h2.ownS k hk).1)
  have qm := @run_makeMap Try.prog
  have qn := eql_mapNL
  have qs := eql_mapSL
  clear hlk eZ hR hRn hRt hAi hAp hAq si sp sq hw1 b1 z1 k1 k2 k3 hZ sZ bZ oZ h2 hb hn hno hcn hl hp hq hd hG hfew hk hL hi hg hSB
  go_enter Try.func27, Try.ntmps27
  go_wp2_with fail
  rw [W1.out]
  refine rgB _ (fun hHeld => ?_)
  refine tkW 0 rfl hHeld ?_
  refine tkW 1 rfl hHeld ?_
  refine tkW 2 rfl hHeld ?_
  refine tkV 3 rfl (.map mb) (fun u hu => by have q := (HL.out u hu).1; go_simp) hHeld ?_
  refine tkH 4 rfl (yieldsIf_load_mid (by kernel_rfl) 24 (.tmp 6) (by kernel_rfl) w.heap.size 0 (by kernel_rfl) Ai.toList _ (fun u hu => RA.out u hu) Try.underlying24 rfl LI.out) hHeld ?_
  refine tkV 5 rfl (.tuple #[.agg Z, .bool false]) (fun u hu => by have q := (HL.out u hu).2; go_simp) hHeld ?_
  refine tkW 6 rfl hHeld ?_
  refine tkW 7 rfl hHeld ?_
  refine tkW 8 rfl hHeld ?_
  refine rdH 9 rfl (fun K hK => ?_)
  go_simp
  have hH := ((Below.refl w1.heap.size w1).alloc (Nat.le_refl _) (.cells Z 76)).drew
  have x9 := (show ((w1.alloc (.cells Z 76)).drew).heap[w1.heap.size]? = some (.cells Z 76 (0, 0)) from heap_alloc_new w1 _)
  obtain ⟨u9, hu9⟩ : ∃ u9, (w1.alloc (.cells Z 76)).drew = u9 := ⟨_, rfl⟩
  rw [hu9] at hH x9 ⊢
  have X9 := Lib.hid x9
  clear hHeld x9 hu9
  refine hK.out _ _ hH (fun hHeld => ?_)
  clear hK K
  try simp only [Act.put, List.setIfInBounds_toArray, List.set_cons_zero, List.set_cons_succ]
  refine rdH 10 rfl (fun K hK => ?_)
  refine stepW rfl (wp_store_all 76 (.tmp 11) (.tmp 20) rfl w1.heap.size Z (by kernel_rfl) (by kernel_rfl) 76 Z X9.out IZ.out rfl OZ.out (fun u10 r10 o10 s10 => ?_))
  have hH := hHeld.trans (o10.below (Nat.le_refl _) hHeld.size)
  clear hHeld r10 o10 s10 X9
  refine hK.out _ _ hH (fun hHeld => ?_)
  clear hK K
  refine tkW 11 rfl hHeld ?_
  try simp only [Act.put, List.getElem_toArray, List.getElem_cons_succ, List.getElem_cons_zero, lsA, lsZ, lsS]
  refine wpAnyH_done (by kernel_rfl) ?_ _
  have HB := Lib.hid (HB1.out.trans (hHeld.mono HB1.out.size))
  have X1 := Lib.hid ((hHeld.block _ (lt_of_heap K1.out)).trans K1.out)
  have X2 := Lib.hid ((hHeld.block _ (lt_of_heap K2.out)).trans K2.out)
  have X3 := Lib.hid ((hHeld.block _ (lt_of_heap K3.out)).trans K3.out)
  have Z10 := Lib.hid (show w.heap.size + 3 ≤ u10.heap.size by rw [← Z1.out]; exact hHeld.size)
  clear hHeld HL RA
  have IN0 := LIN.out u10 HB.out
  obtain ⟨va, vc, hv, hle, -⟩ := IN0.shape
  obtain ⟨N, hN⟩ : ∃ N, L.length = N := ⟨_, rfl⟩
  have nlt : N < 2000 := by rw [← hN]; exact HLL.out
  have dN : decide ((N : Int) ≥ 2000) = false := decide_eq_false (by omega)
  rw [hN] at hv hle
  have HV := Lib.hid hv; have HNN := Lib.hid hN; have NLT := Lib.hid nlt
  obtain ⟨c0, c1, c2⟩ := IN0.cells (u := u10) rfl
  rw [hv] at c0
  have fz := c2 1
  have fz0 := c2 0
  clear c2 hN nlt hle hv
  rcases mb with _ | b
  case' none =>
    have bm := (Below.refl u10.heap.size u10).alloc (Nat.le_refl _) (.map #[] 0)
    obtain ⟨d0, d1, d2⟩ := IN0.cells (u := u10.alloc (.map #[] 0)) (bm.block g (lt_of_heap IN0.blk))
    have fa := d2 1
    rw [HV.out] at d0
    have I1 := Lib.hid (IN0.made (.inl HGG.out) (.inr HB.out.size))
    have b1 := HB.out.alloc HB.out.size (.map #[] 0)
    have C1 := Lib.hid (((Chg.of_below (S := S) b1).setCell ⟨g, 1, none⟩ (fun _ => HGG.out) (.map (some u10.heap.size))))
    have gl := HS.out g HGG.out
    have bl : ∀ k, k ≠ g → k < u10.heap.size → ((u10.alloc (.map #[] 0)).setCell ⟨g, 1, none⟩ (.map (some u10.heap.size))).heap[k]? = u10.heap[k]? := fun k hk hl => by
      rw [heap_setCell_other _ _ _ _ hk]
      exact Below.heap_alloc _ _ _ hl
    have Y1 := Lib.hid ((bl w.heap.size (by omega) (by have := Z10.out; omega)).trans X1.out)
    have Y2 := Lib.hid ((bl (w.heap.size + 1) (by omega) (by have := Z10.out; omega)).trans X2.out)
    have Y3 := Lib.hid ((bl (w.heap.size + 2) (by omega) (by have := Z10.out; omega)).trans X3.out)
    have T1 := Lib.hid (bat_setMap ((BT.out u10 HB.out).keep bm) d1 (.map (some u10.heap.size)))
    have BS := Lib.hid (show ∀ k, k < w.heap.size → k = u10.heap.size → S k from fun k h1 h2 => by have := Z10.out; omega)
    obtain ⟨wm, hwm⟩ : ∃ wm, u10.alloc (.map #[] 0) = wm := ⟨_, rfl⟩
    rw [hwm] at d0 d1 fa I1 C1 Y1 Y2 Y3 T1
    obtain ⟨b, hb⟩ : ∃ b, u10.heap.size = b := ⟨_, rfl⟩
    rw [hb] at I1 C1 Y1 Y2 Y3 T1 BS
    clear IN0 bm d2 b1 gl bl fz0
    go_wp2_with fail
    obtain ⟨w2, hw2⟩ : ∃ w2, wm.setCell ⟨g, 1, none⟩ (.map (some b)) = w2 := ⟨_, rfl⟩
    rw [hw2] at I1 C1 Y1 Y2 Y3 T1 ⊢
  case' some =>
    have I1 := Lib.hid IN0
    have C1 := Lib.hid (Chg.of_below (S := S) HB.out)
    have Y1 := Lib.hid X1.out
    have Y2 := Lib.hid X2.out
    have Y3 := Lib.hid X3.out
    have T1 := Lib.hid (BT.out u10 HB.out)
    have BS := Lib.hid (show ∀ k, k < w.heap.size → k = b → S k from fun k h1 h2 => by rw [h2]; exact HMB.out b rfl)
    clear IN0 fz0
    go_wp2_with fail
    obtain ⟨w2, hw2⟩ : ∃ w2, u10 = w2 := ⟨_, rfl⟩
    rw [hw2] at I1 C1 Y1 Y2 Y3 T1 ⊢
  all_goals
    clear c0 c1 fz HMB LIN BT X1 X2 X3
    obtain ⟨vl, hlast, hstore⟩ := LS.out w2 (some b) I1.out T1.out
    have CLA := Lib.hid hlast; have CST := Lib.hid hstore
    have OWN1 := Lib.hid I1.out.own
    have LOOK := Lib.hid (fun u (hu : Below w2.heap.size w2 u) => I1.out.cells (hu.block g (lt_of_heap I1.out.blk)))
    have RA1 := Lib.hid (fun u (hu : Below w2.heap.size w2 u) => row_arrD ((hu.block _ (lt_of_heap Y1.out)).trans Y1.out))
    have RA2 := Lib.hid (fun u (hu : Below w2.heap.size w2 u) => row_arrD ((hu.block _ (lt_of_heap Y2.out)).trans Y2.out))
    have RA3 := Lib.hid (fun u (hu : Below w2.heap.size w2 u) => row_arrD ((hu.block _ (lt_of_heap Y3.out)).trans Y3.out))
    have PU := Lib.hid (fun u (hu : Below w2.heap.size w2 u) (x : Value) => (by
      obtain ⟨m1, m2, m3, m4⟩ := I1.out.map b rfl
      have q := (m4.keep (hu.block b m4.lt)).put (v := x) idKeyed Try.underlying64 (celL_keys I1.out) KEY.out NEW.out (by rw [celL_len, I1.out.len, HNN.out]; unfold maxLen; have := NLT.out; omega)
      exact q : ∃ w', (Instr.mapUpdate 64 (.map (some b)) (.agg Ai) x).run Try.prog u = .ok () w' ∧ MapAt w' b (celL E ++ [(.agg Ai, x)]) ∧ u.grownBy w' (some b) ∧ w'.heap.size = u.heap.size))
    clear hlast hstore LS NEW
    refine wp_regionX (S := fun u => Below w2.heap.size w2 u) (fun j => j == 12) (by kernel_rfl) (Below.refl _ _).drew (fun hHeld => ?_)
    refine tkXW 0 rfl hHeld ?_
    refine tkXW 1 rfl hHeld ?_
    refine tkXW 2 rfl hHeld ?_
    refine tkXV 3 rfl (.map (some b)) (fun u hu => by have q := (LOOK.out u hu).2.1; go_simp) hHeld ?_
    refine tkX 4 rfl (yieldsIf_load_mid (by kernel_rfl) 24 (.tmp 6) (by kernel_rfl) w.heap.size 0 (by kernel_rfl) Ai.toList _ (fun u hu => RA1.out u hu) Try.underlying24 rfl LI.out) hHeld ?_
    refine tkX 5 rfl (yieldsIf_load_mid (by kernel_rfl) 24 (.tmp 8) (by kernel_rfl) (w.heap.size + 1) 0 (by kernel_rfl) Ap.toList _ (fun u hu => RA2.out u hu) Try.underlying24 rfl LPx.out) hHeld ?_
    refine tkX 6 rfl (yieldsIf_load_mid (by kernel_rfl) 24 (.tmp 9) (by kernel_rfl) (w.heap.size + 2) 0 (by kernel_rfl) Aq.toList _ (fun u hu => RA3.out u hu) Try.underlying24 rfl LQx.out) hHeld ?_
    refine tkXW 7 rfl hHeld ?_
    refine tkXW 8 rfl hHeld ?_
    refine rdX 9 rfl (fun K hK => ?_)
    go_simp
    refine (CLA.out _ hHeld).mono ?_
    rintro e u12 ⟨rfl, hb12⟩
    have hH := hHeld.trans (hb12.mono hHeld.size)
    clear hHeld hb12
    refine hK.out _ _ (.inl hH) (fun _ => ?_)
    have hHeld := hH
    clear hK K
    try simp only [Act.put, List.setIfInBounds_toArray, List.set_cons_zero, List.set_cons_succ]
    refine rdX 10 rfl (fun K hK => ?_)
    go_simp
    refine (CST.out _ hHeld).mono ?_
    rintro e u13 ⟨T, x, rfl, hs13, hb13⟩
    have hH := hHeld.trans (hb13.mono hHeld.size)
    have STO := Lib.hid hs13
    obtain ⟨EN, hEN⟩ : ∃ EN, arrL ⟨R, .iface T x⟩ = EN := ⟨_, rfl⟩
    have BN := Lib.hid (show Try.prog.built 76 [(0, .agg Ap), (1, .agg Aq), (2, .iface T x)] = some EN by rw [← hEN]; exact BE.out T x)
    have HEN := Lib.hid hEN
    clear hHeld hb13 hs13 hEN
    refine hK.out _ _ (.inl hH) (fun _ => ?_)
    have hHeld := hH
    clear hK K
    try simp only [Act.put, List.setIfInBounds_toArray, List.set_cons_zero, List.set_cons_succ]
    refine tkX 11 rfl (yields_build3 (by kernel_rfl) 76 0 1 2 (.tmp 61) (.tmp 62) (.tmp 66) rfl (.agg Ap) (.agg Aq) (.iface T x) (by kernel_rfl) (by kernel_rfl) (by kernel_rfl) EN BN.out) hHeld ?_
    obtain ⟨u14, hrun, hm14, hg14, hs14⟩ : ∃ u14, (Instr.mapUpdate 64 (.map (some b)) (.agg Ai) (.agg EN)).run Try.prog u13 = .ok () u14 ∧ MapAt u14 b (celL E ++ [(.agg Ai, .agg EN)]) ∧ u13.grownBy u14 (some b) ∧ u14.heap.size = u13.heap.size := PU.out u13 hHeld (.agg EN)
    have HM := Lib.hid hm14
    have HGR := Lib.hid hg14
    have HU := Lib.hid hHeld
    clear hm14 hg14 hs14 hHeld
    refine rdX 12 rfl (fun K hK => ?_)
    go_simp
    refine hK.out _ _ (.inr rfl) (fun _ => ?_)
    clear hK K
    try simp only [Act.put, List.getElem_toArray, List.getElem_cons_succ, List.getElem_cons_zero, lsA, lsZ, lsS]
    refine wpAnyX_done (by kernel_rfl) ?_ _
    have c2 := ((Chg.of_below (S := fun k => k = b) HU.out).grown HGR.out (fun k hk _ => by cases hk; rfl))
    have MB := Lib.hid (I1.out.map b rfl)
    have NBw : w.heap.size ≠ b := fun e => by
      obtain ⟨es, clock, hh, -⟩ := (MB.out.2.2.2)
      rw [← e, Y1.out] at hh
      cases hh
    have X2 := Lib.hid ((c2.block w.heap.size (lt_of_heap Y1.out) NBw).trans Y1.out)
    have G2 := Lib.hid ((c2.block g (lt_of_heap I1.out.blk) (fun e => MB.out.2.1 e.symm)).trans I1.out.blk)
    have O2 := Lib.hid (ownR_same OWN1.out (fun k hk => c2.block k (ownR_lt OWN1.out k hk).2 (fun e => MB.out.2.2.1 (by rw [hk, e]))))
    rw [HV.out] at O2
    have GOB := Lib.hid (show (Value.slice va N vc).ownBlock ≠ some g from fun e => (I1.out.ownS g (by rw [HV.out]; exact e)).2 rfl)
    have VLT := Lib.hid (show ∀ k, (Value.slice va N vc).ownBlock = some k → k < w.heap.size from fun k hk => HS.out k (HOW.out k (by rw [HV.out]; exact hk)))
    have XOB := Lib.hid (show (Value.slice va N vc).ownBlock ≠ some w.heap.size from fun e => Nat.lt_irrefl _ (VLT.out _ e))
    have FINF := Lib.hid (fun (u3 u4 : World) (v' : Value) h3 h4 ho hat => I1.out.put (.inl HGG.out) ⟨R, .iface T x⟩ HG.out (by rw [show (⟨R, .iface T x⟩ : Enl).r.t = t from HRT.out.1, show (⟨R, .iface T x⟩ : Enl).r.c = d from HRT.out.2]; exact STO.out.mono (fun k _ hk => hk.imp id (fun hk => hk))) HU.out HGR.out (by rw [show arrD (⟨R, .iface T x⟩ : Enl).r.n = Ai by rw [← HAI.out, ← HRN.out], HEN.out]; exact HM.out) (u3 := u3) (u4 := u4) (v' := v') h3 h4 ho hat)
    have LG := Lib.hid (fun u (hu : Chg (fun k => (Value.slice va N vc).ownBlock = some k) u14 u) => (by
      rw [Lib.cell_of_heap ((hu.block g (lt_of_heap G2.out) GOB.out).trans G2.out), ← HV.out]
      rfl : u.cell? ⟨g, 0, none⟩ = some (.slice va N vc)))
    have RN := Lib.hid (fun u (hu : Chg (fun k => (Value.slice va N vc).ownBlock = some k) u14 u) => row_arrD ((hu.block w.heap.size (lt_of_heap X2.out) XOB.out).trans X2.out))
    have SI2 := Lib.hid (show Ai.size = rowI.size from SI.out)
    have IDS := Lib.hid (show ∀ x ∈ L.map Rvl.n, rowI.ok x from fun x hx => by
      obtain ⟨r, hr, rfl⟩ := List.mem_map.1 hx
      exact I1.out.good.nlen r hr)
    have IDI := Lib.hid (show ∀ x ∈ [i], rowI.ok x from fun x hx => by rw [List.mem_singleton.1 hx]; exact HIL.out)
    have LLE := Lib.hid (show (L.map Rvl.n).length + [i].length ≤ 1000000000 by rw [List.length_map, HNN.out]; simp only [List.length_cons, List.length_nil]; have := NLT.out; omega)
    clear c2 NBw HU HGR HM LOOK RA1 RA2 RA3 PU MB CLA CST
    go_wp2_with fail
    refine wp_regionX (S := fun u => Chg (fun k => (Value.slice va N vc).ownBlock = some k) u14 u) (fun j => j == 8 || j == 9 || j == 10) (by kernel_rfl) (Chg.refl _ _).drew (fun hHeld => ?_)
    have hZ := heap_alloc_new u14.drew (.cells Ai 24)
    have O3 := Lib.hid (ownR_below O2.out ((Below.refl u14.heap.size u14).drew.alloc (Nat.le_refl _) (.cells Ai 24)))
    have h3 := Lib.hid ((Below.refl u14.heap.size u14).drew.alloc (Nat.le_refl _) (.cells Ai 24))
    have hH6 := hHeld.alloc (.cells Ai 24)
    have RO := Lib.hid (ROWI.out _ _ hZ)
    clear hZ
    refine tkXW 0 rfl hHeld ?_
    refine tkXW 1 rfl hHeld ?_
    refine tkXW 2 rfl hHeld ?_
    refine tkXW 3 rfl hHeld ?_
    refine tkXV 4 rfl (.slice va N vc) (fun u hu => by have q := LG.out u hu; go_simp) hHeld ?_
    refine tkX 5 rfl (yieldsIf_load_mid (by kernel_rfl) 24 (.tmp 6) (by kernel_rfl) w.heap.size 0 (by kernel_rfl) Ai.toList _ (fun u hu => RN.out u hu) Try.underlying24 rfl LI.out) hHeld ?_
    refine rdX 6 rfl (fun K hK => ?_)
    refine stepW rfl (wp_build_oneR goodI (.tmp 73) rfl Ai SI2.out rfl ?_)
    refine hK.out _ _ (.inl hH6) (fun _ => ?_)
    clear hK K
    refine rdX 7 rfl (fun K hK => ?_)
    refine stepW rfl (wp_append_atR goodI (.tmp 72) (.tmp 74) rfl 0 (.slice va N vc) (L.map Rvl.n) [i] (some ⟨u14.heap.size, 0, none⟩) 1 1 (by kernel_rfl) (by kernel_rfl) rfl RO.out IDI.out IDS.out O3.out LLE.out (Nat.zero_le _) (fun v' u17 ho4 hg4 hat => ?_))
    have hH7 := hH6.grown hg4 (fun k hk _ => hk)
    refine hK.out _ _ (.inl hH7) (fun _ => ?_)
    clear hK K
    refine tkXP 8 rfl ?_
    refine tkXP 9 rfl ?_
    have FIN := Lib.hid (FINF.out _ u17 _ h3.out (by rw [HV.out]; exact hg4) (by rw [List.map_append, List.map_singleton, HRN.out]; exact ho4) (by rw [HV.out]; exact hat))
    have q0 := LG.out _ hH7
    have q1 := not_frozen ((hH7.block g (lt_of_heap G2.out) GOB.out).trans G2.out) 0
    obtain ⟨a4, c4, hv4, -⟩ := ownR_shape goodI ho4 (fun x hx => by rcases List.mem_append.1 hx with hx | hx; exact IDS.out x hx; exact IDI.out x hx)
    generalize (L.map Rvl.n ++ [i]).length = n4 at hv4
    subst hv4
    clear ho4 hg4 hat hH7 hH6 hHeld O3 h3 RO
    refine rdX 10 rfl (fun K hK => ?_)
    go_simp
    refine hK.out _ _ (.inr rfl) (fun _ => ?_)
    clear hK K
    try simp only [Act.put, List.getElem_toArray, List.getElem_cons_succ, List.getElem_cons_zero, lsA, lsZ, lsS]
    refine wpAnyX_done (by kernel_rfl) ?_ _
    clear q0 q1
    have FIN2 := FIN.out
    rw [HV.out] at FIN2
    have FIN2 := Lib.hid FIN2
    clear FIN FINF STO
    go_wp2
    go_ret
    refine ⟨rfl, ⟨.inl HGG.out, _, _, _, FIN2.out.1.mono (fun k hk h => ?_)⟩, C1.out.more FIN2.out.2 (fun i hi h => ?_)⟩
    · have := C1.out.size
      simp only [World.size_setCell] at hk ⊢
      rcases h with h | h
      · rcases h with h | h
        · exact .inl h
        · exact .inr ⟨h, hk⟩
      · exact .inr ⟨by omega, hk⟩
    · rcases h with h | h | h
      · exact BS.out i hi h
      · exact HOW.out i (by rw [HV.out]; exact h)
      · rw [h]; exact HGG.out
end Go.Proofs.Ytgbmbemmkadagaa
