/-
  Texts that belong together, one behind the other.
-/
import Derived.Test.YtgbmbemmkadagaaFu40
/-
  Layer 15, the program: keep in a log that is full; keep, whatever is there.
-/
namespace Go.Proofs.Ytgbmbemmkadagaa
set_option maxRecDepth 20000
open Go.RowKit Go.Maps
set_option linter.unusedVariables false
set_option linter.unusedSimpArgs false

set_option maxHeartbeats 32000000 in
theorem keepL_full {S : Nat → Prop} {w : World} {g : Nat} {L : LogV} {E : List Enl} {v : Value} {mb : Option Nat} (h2 : LogIn S w g L E v mb) (i : List UInt8) (hi : i.length = 20) (hk : atLv L i = none) (hL : 2000 ≤ L.length)
    (a : Option Addr) (n c : Nat) (p q : List UInt8) :
    Calls Try.prog 27 #[.pointer (some ⟨g, 0, none⟩), .agg (arrD i), .slice a n c, .agg (arrD p), .agg (arrD q)] w fun e w' => e = .returned (.int .i64 5) ∧ Below w.heap.size w w' := by
  obtain ⟨Z, hZ, sZ, zr, bZ, oZ⟩ := zEnt_any
  have hlk := h2.look hi
  rw [hk, entE_none (E := E) hk, ← hZ] at hlk
  obtain ⟨va, vc, hv, hle, -⟩ := h2.shape
  have hblk := h2.blk
  rw [hv] at hblk
  obtain ⟨N, hN⟩ : ∃ N, L.length = N := ⟨_, rfl⟩
  rw [hN] at hblk hL
  have dN : decide ((N : Int) ≥ 2000) = true := decide_eq_true (by omega)
  have HC := Lib.hid (fun u (hu : Below w.heap.size w u) => (show u.cell? ⟨g, 0, none⟩ = some (.slice va N vc) from (cell_of_row u g 0 _ _ _ ((hu.block g (lt_of_heap hblk)).trans hblk)).trans rfl))
  obtain ⟨Ai, hAi⟩ : ∃ A, arrD i = A := ⟨_, rfl⟩
  have si : Ai.size = 20 := by rw [← hAi]; exact arrD_size i hi
  have LI := Lib.hid (show (Try.prog.info? 24).map (·.size) = some Ai.toList.length from by rw [Array.length_toList, si]; exact infoD_n)
  rw [hAi] at hlk ⊢
  obtain ⟨Ap, hAp⟩ : ∃ A, arrD p = A := ⟨_, rfl⟩
  obtain ⟨Aq, hAq⟩ : ∃ A, arrD q = A := ⟨_, rfl⟩
  rw [hAp, hAq]
  obtain ⟨w1, hw1⟩ : ∃ w1, ((w.alloc (.cells Ai 24)).alloc (.cells Ap 24)).alloc (.cells Aq 24) = w1 := ⟨_, rfl⟩
  obtain ⟨b1, z1, k1, k2, k3⟩ := three_new w Ai Ap Aq _ _ _ w1 hw1
  have W1 := Lib.hid hw1; have HB1 := Lib.hid b1
  have HL := Lib.hid (fun u (hu : Below w1.heap.size w1 u) => hlk u (b1.trans (hu.mono b1.size)))
  have RA := Lib.hid (fun u (hu : Below w1.heap.size w1 u) => (row_arrD ((hu.block w.heap.size (lt_of_heap k1)).trans k1)))
  have OZ := Lib.hid oZ; have IZ := Lib.hid (infoEnt_arr Z sZ)
  clear hlk hv hle hblk hN hL hAi si hAp hAq hw1 b1 z1 k1 k2 k3 hZ sZ bZ oZ h2 hi hk
  go_enter Try.func27, Try.ntmps27
  go_wp2_with fail
  rw [W1.out]
  refine rgB _ (fun hHeld => ?_)
  refine tkW 0 rfl hHeld ?_
  refine tkW 1 rfl hHeld ?_
  refine tkW 2 rfl hHeld ?_
  refine tkV 3 rfl (.map mb) (fun u hu => by have q := (HL.out u hu).1; go_simp) hHeld ?_
  refine tkH 4 rfl (yieldsIf_load_mid (by kernel_rfl) 24 (.tmp 6) (by kernel_rfl) w.heap.size 0 (by kernel_rfl) Ai.toList _ (fun u hu => RA.out u hu) Try.underlying24 rfl LI.out) hHeld ?_
  refine tkV 5 rfl (.tuple #[.agg Z, .bool false]) (fun u hu => by have q := (HL.out u hu).2; go_simp) hHeld ?_
  refine tkW 6 rfl hHeld ?_
  refine tkW 7 rfl hHeld ?_
  refine tkW 8 rfl hHeld ?_
  refine rdH 9 rfl (fun K hK => ?_)
  go_simp
  have hH := ((Below.refl w1.heap.size w1).alloc (Nat.le_refl _) (.cells Z 76)).drew
  have x9 := (show ((w1.alloc (.cells Z 76)).drew).heap[w1.heap.size]? = some (.cells Z 76 (0, 0)) from heap_alloc_new w1 _)
  obtain ⟨u9, hu9⟩ : ∃ u9, (w1.alloc (.cells Z 76)).drew = u9 := ⟨_, rfl⟩
  rw [hu9] at hH x9 ⊢
  have X9 := Lib.hid x9
  clear hHeld x9 hu9
  refine hK.out _ _ hH (fun hHeld => ?_)
  clear hK K
  try simp only [Act.put, List.setIfInBounds_toArray, List.set_cons_zero, List.set_cons_succ]
  refine rdH 10 rfl (fun K hK => ?_)
  refine stepW rfl (wp_store_all 76 (.tmp 11) (.tmp 20) rfl w1.heap.size Z (by kernel_rfl) (by kernel_rfl) 76 Z X9.out IZ.out rfl OZ.out (fun u10 r10 o10 s10 => ?_))
  have hH := hHeld.trans (o10.below (Nat.le_refl _) hHeld.size)
  clear hHeld r10 o10 s10 X9
  refine hK.out _ _ hH (fun hHeld => ?_)
  clear hK K
  refine tkW 11 rfl hHeld ?_
  try simp only [Act.put, List.getElem_toArray, List.getElem_cons_succ, List.getElem_cons_zero, lsA, lsZ, lsS]
  refine wpAnyH_done (by kernel_rfl) ?_ _
  have HB := Lib.hid (HB1.out.trans (hHeld.mono HB1.out.size))
  have c0 := HC.out _ HB.out
  clear hHeld
  go_wp2
  go_ret
  exact ⟨rfl, HB.out⟩
/-- keep, whatever is there. -/
theorem keepL_any {S : Nat → Prop} {w : World} {g : Nat} {L : LogV} (h : LogP S w g L) (hSB : ∀ k, S k → k < w.heap.size) (hfew : ∀ r ∈ L, r.t.length ≤ 30000)
    (a : Option Addr) (n c : Nat) (t p q : List UInt8) (hb : BAt w a t) (hn : n = t.length) (hno : a = none → n = 0 ∧ c = 0) (hcn : n ≤ c) (hl : t.length ≤ 30000) (hp : p.length = 20) (hq : q.length = 20) (hm : (mayV L p && mayV L q) = true) :
    Calls Try.prog 27 #[.pointer (some ⟨g, 0, none⟩), .agg (arrD (nodeV t p q)), .slice a n c, .agg (arrD p), .agg (arrD q)] w fun e w' =>
      e = .returned (.int .i64 (errV L t p q : Nat)) ∧ LogP (fun j => S j ∨ (w.heap.size ≤ j ∧ j < w'.heap.size)) w' g (addV L t p q) ∧ Chg S w w' := by
  have hlen : ¬ 65536 < t.length := by omega
  have hGa := h.good.add t p q hp hq
  cases hk : atLv L (nodeV t p q) with
  | some k =>
    obtain ⟨hl2, hn2⟩ := atLv_some hk
    have hadd : addV L t p q = L := by
      unfold addV
      rw [if_neg (fun e => by rw [hk] at e; cases e.2)]
    have herr : ((errV L t p q : Nat) : Int) = (bif eqD (L[k]).p p && eqD (L[k]).q q && (L[k]).t == t then 0 else 7) := by
      unfold errV
      rw [if_neg hlen, if_neg (by rw [hm]; decide), hk]
      simp only
      rw [List.getD_eq_getElem?_getD, List.getElem?_eq_getElem hl2]
      simp only [Option.getD_some]
      by_cases h1 : (L[k]).t = t ∧ (L[k]).p = p ∧ (L[k]).q = q
      · rw [if_pos h1, (eqD_iff _ _).2 h1.2.1, (eqD_iff _ _).2 h1.2.2, h1.1]
        simp
      · rw [if_neg h1]
        have : (eqD (L[k]).p p && eqD (L[k]).q q && (L[k]).t == t) = false := by
          rw [Bool.eq_false_iff]
          intro e
          simp only [Bool.and_eq_true, beq_iff_eq] at e
          exact h1 ⟨e.2, (eqD_iff _ _).1 e.1.1, (eqD_iff _ _).1 e.1.2⟩
        rw [this]
        rfl
    obtain ⟨hg, E, v, mb, h2⟩ := h
    rw [hadd, herr]
    refine (keepL_there h2 _ (nodeV_len t p q) hk hl2 a n c t p q hb hn hp hq).mono ?_
    rintro e w' ⟨rfl, hb'⟩
    exact ⟨rfl, ((show LogP S w g L from ⟨hg, E, v, mb, h2⟩).below hb').mono (fun j _ hj => .inl hj), Chg.of_below hb'⟩
  | none =>
    by_cases hL : 2000 ≤ L.length
    · have herr : errV L t p q = 5 := by
        unfold errV
        rw [if_neg hlen, if_neg (by rw [hm]; decide), hk]
        simp only
        rw [if_pos hL]
      have hadd : addV L t p q = L := by
        unfold addV
        rw [if_neg (fun e => by rw [herr] at e; cases e.1)]
      obtain ⟨hg, E, v, mb, h2⟩ := h
      rw [hadd, herr]
      refine (keepL_full h2 _ (nodeV_len t p q) hk hL a n c p q).mono ?_
      rintro e w' ⟨rfl, hb'⟩
      exact ⟨rfl, ((show LogP S w g L from ⟨hg, E, v, mb, h2⟩).below hb').mono (fun j _ hj => .inl hj), Chg.of_below hb'⟩
    · have herr : errV L t p q = 0 := by
        unfold errV
        rw [if_neg hlen, if_neg (by rw [hm]; decide), hk]
        simp only
        rw [if_neg hL]
      have hadd : addV L t p q = L ++ [⟨nodeV t p q, p, q, t, chainV L t⟩] := by
        unfold addV
        rw [if_pos ⟨herr, hk⟩]
      rw [hadd] at hGa
      rw [hadd, herr]
      exact keepL_new h hSB _ (nodeV_len t p q) hk hfew a n c t p q hb hn hno hcn hl hp hq (by omega) hGa
end Go.Proofs.Ytgbmbemmkadagaa

/-
  Layer 15, the program: Add.
-/
namespace Go.Proofs.Ytgbmbemmkadagaa
set_option maxRecDepth 20000
open Go.RowKit Go.Maps
set_option linter.unusedVariables false
set_option linter.unusedSimpArgs false

set_option maxHeartbeats 8000000 in
theorem addL_nil (a : Option Addr) (n c : Nat) (p q : List UInt8) (w : World) :
    Calls Try.prog 11 #[.pointer none, .slice a n c, .agg (arrD p), .agg (arrD q)] w fun e w' => e = .returned (.tuple #[.agg (arrD idZ), .int .i64 2]) ∧ Below w.heap.size w w' := by
  obtain ⟨z, hz0, hzs, hzv, hzb, hz1⟩ := zId_any
  obtain ⟨Ap, hAp⟩ : ∃ A, arrD p = A := ⟨_, rfl⟩
  obtain ⟨Aq, hAq⟩ : ∃ A, arrD q = A := ⟨_, rfl⟩
  rw [hAp, hAq, ← hz0]
  obtain ⟨b1, z1, k1, k2, k3⟩ := three_new w Ap Aq z 24 24 24 _ rfl
  have HB := Lib.hid b1; have K3 := Lib.hid k3
  have ZB := Lib.hid hzb; have Z1 := Lib.hid hz1; have ZS := Lib.hid hzs; have IZ := Lib.hid (infoD_arr z hzs)
  clear b1 z1 k1 k2 k3 hz0 hzs hzb hz1 hAp hAq
  go_enter Try.func11, Try.ntmps11
  go_wp2_with (first
    | (refine wpList_build_none rfl 24 rfl z ZB.out ?_)
    | (with_reducible refine wpList_store_all rfl 24 (.tmp 8) (.tmp 15) rfl (w.heap.size + 2) z rfl rfl 24 z K3.out IZ.out rfl Z1.out ?_; intro w5 r5 o5 s5)
    | fail)
  have HB5 := Lib.hid (HB.out.trans (o5.below (B := w.heap.size) (by omega) HB.out.size))
  exact bodyPost_ret (results_id9 Try.results11 _ _ (w.heap.size + 2) z (0, 0) _ rfl rfl r5 ZS.out) rfl ⟨rfl, HB5.out⟩
set_option maxHeartbeats 32000000 in
theorem addL_is {S : Nat → Prop} {w : World} {g : Nat} {L : LogV} (h : LogP S w g L) (hSB : ∀ k, S k → k < w.heap.size) (hfew : ∀ r ∈ L, r.t.length ≤ 30000)
    (a : Option Addr) (n c : Nat) (t p q : List UInt8) (hb : BAt w a t) (hn : n = t.length) (hno : a = none → n = 0 ∧ c = 0) (hcn : n ≤ c) (hl : t.length ≤ 30000) (hp : p.length = 20) (hq : q.length = 20) :
    Calls Try.prog 11 #[.pointer (some ⟨g, 0, none⟩), .slice a n c, .agg (arrD p), .agg (arrD q)] w fun e w' =>
      e = .returned (.tuple #[.agg (arrD (toldV L t p q)), .int .i64 (errV L t p q : Nat)]) ∧ LogP (fun j => S j ∨ (w.heap.size ≤ j ∧ j < w'.heap.size)) w' g (addV L t p q) ∧ Chg S w w' := by
  obtain ⟨z, hz0, hzs, hzv, hzb, hz1⟩ := zId_any
  obtain ⟨ANS, hANS⟩ : ∃ A, arrD (toldV L t p q) = A := ⟨_, rfl⟩
  obtain ⟨er, her⟩ : ∃ er, errV L t p q = er := ⟨_, rfl⟩
  have TOLD := Lib.hid (show er ≠ 0 → ANS = z from fun e => by rw [← hANS, hz0]; unfold toldV; rw [her, if_neg e]; rfl)
  have TOLDN := Lib.hid (show er = 0 → ANS = arrD (nodeV t p q) from fun e => by rw [← hANS]; unfold toldV; rw [her, if_pos e])
  have BAD := Lib.hid (show (mayV L p && mayV L q) = false → er = 6 ∧ addV L t p q = L from fun e => by
    have h6 : errV L t p q = 6 := by
      unfold errV
      rw [if_neg (by omega), if_pos e]
    refine ⟨by rw [← her]; exact h6, ?_⟩
    unfold addV
    rw [if_neg (fun e => by rw [h6] at e; cases e.1)])
  have CM := Lib.hid (fun u (hu : Below w.heap.size w u) => mayP_is (h.below hu) p hp)
  have CQ := Lib.hid (fun u (hu : Below w.heap.size w u) => mayP_is (h.below hu) q hq)
  have CN := Lib.hid (fun u (hu : Below w.heap.size w u) => nodeF_is a n c t p q u (hb.keep hu) hn hno hcn (Nat.le_trans hl (by omega)) hp hq)
  have CK := Lib.hid (fun u (hu : Below w.heap.size w u) (hm : (mayV L p && mayV L q) = true) => keepL_any (h.below hu) (fun k hk => Nat.lt_of_lt_of_le (hSB k hk) hu.size) hfew a n c t p q (hb.keep hu) hn hno hcn hl hp hq hm)
  have hnl := nodeV_len t p q
  rw [her] at CK
  have dn : decide ((n : Int) > 65536) = false := decide_eq_false (by omega)
  rw [hANS, her]
  obtain ⟨M1, hM1⟩ : ∃ M, mayV L p = M := ⟨_, rfl⟩
  obtain ⟨M2, hM2⟩ : ∃ M, mayV L q = M := ⟨_, rfl⟩
  rw [hM1] at CM
  rw [hM2] at CQ
  rw [hM1, hM2] at BAD CK
  obtain ⟨Ap, hAp⟩ : ∃ A, arrD p = A := ⟨_, rfl⟩
  obtain ⟨Aq, hAq⟩ : ∃ A, arrD q = A := ⟨_, rfl⟩
  obtain ⟨N, hN⟩ : ∃ A, arrD (nodeV t p q) = A := ⟨_, rfl⟩
  have sN : N.size = 20 := by rw [← hN]; exact arrD_size _ hnl
  have SN := Lib.hid sN; have ON := Lib.hid (show N.all (·.oneCell') = true by rw [← hN]; exact arrD_one _); have IN := Lib.hid (infoD_arr N sN)
  have SNZ := Lib.hid (show N.size = z.size by rw [sN, hzs])
  have IP := Lib.hid (infoD_arr Ap (by rw [← hAp]; exact arrD_size p hp)); have IQ := Lib.hid (infoD_arr Aq (by rw [← hAq]; exact arrD_size q hq))
  rw [hN] at TOLDN CN CK
  rw [hAp] at CM CN CK ⊢
  rw [hAq] at CQ CN CK ⊢
  obtain ⟨w1, hw1⟩ : ∃ w1, ((w.alloc (.cells Ap 24)).alloc (.cells Aq 24)).alloc (.cells z 24) = w1 := ⟨_, rfl⟩
  obtain ⟨b1, z1, k1, k2, k3⟩ := three_new w Ap Aq z _ _ _ w1 hw1
  have W1 := Lib.hid hw1; have HB1 := Lib.hid b1; have Z1 := Lib.hid z1; have K1 := Lib.hid k1; have K2 := Lib.hid k2; have K3 := Lib.hid k3
  have K1r := Lib.hid (show (((w.alloc (.cells Ap 24)).alloc (.cells Aq 24)).alloc (.cells z 24)).heap[w.heap.size]? = some (.cells Ap 24 (0, 0)) by rw [hw1]; exact k1)
  have ZB := Lib.hid hzb; have ZO := Lib.hid hz1; have ZS := Lib.hid hzs; have IZ := Lib.hid (infoD_arr z hzs)
  have HLP := Lib.hid h
  have HSB := Lib.hid hSB
  clear hz0 hzs hzb hz1 hANS her hnl hM1 hM2 hAp hAq hN sN hw1 b1 z1 k1 k2 k3 h hSB hfew hb hn hno hcn hl hp hq
  go_enter Try.func11, Try.ntmps11
  go_wp2_with (first
    | (with_reducible refine wpList_load_all 24 (.tmp 6) rfl (by kernel_rfl) w.heap.size Ap 24 (0, 0) rfl K1r.out _ Try.underlying24 rfl IP.out ?_)
    | fail)
  rw [W1.out]
  refine (CM.out _ HB1.out).mono ?_
  rintro e w2 ⟨rfl, hb2⟩
  have B2 := Lib.hid (HB1.out.trans (hb2.mono HB1.out.size))
  have X1 := Lib.hid ((hb2.block _ (lt_of_heap K1.out)).trans K1.out); have X2 := Lib.hid ((hb2.block _ (lt_of_heap K2.out)).trans K2.out); have X3 := Lib.hid ((hb2.block _ (lt_of_heap K3.out)).trans K3.out)
  clear hb2 CM K1r
  cases M1 with
  | false =>
    obtain ⟨rfl, hadd⟩ := BAD.out rfl
    have e0 := TOLD.out (by decide)
    subst e0
    have HADD := Lib.hid hadd
    clear hadd BAD TOLD TOLDN
    go_wp2_with (first
      | (refine wpList_build_none rfl 24 rfl ANS ZB.out ?_)
      | (with_reducible refine wpList_store_all rfl 24 (.tmp 8) (.tmp 32) rfl (w.heap.size + 2) ANS rfl rfl 24 ANS X3.out IZ.out rfl ZO.out ?_; intro w5 r5 o5 s5)
      | fail)
    have HB5 := Lib.hid (B2.out.trans (o5.below (B := w.heap.size) (by omega) B2.out.size))
    exact bodyPost_ret (results_id9 Try.results11 _ _ (w.heap.size + 2) ANS (0, 0) _ rfl rfl r5 ZS.out) rfl ⟨rfl, by rw [HADD.out]; exact (HLP.out.below HB5.out).mono (fun j _ hj => .inl hj), Chg.of_below HB5.out⟩
  | true =>
    go_wp2_with (first
      | (with_reducible refine wpList_load_all 24 (.tmp 7) rfl (by kernel_rfl) (w.heap.size + 1) Aq 24 (0, 0) rfl X2.out _ Try.underlying24 rfl IQ.out ?_)
      | fail)
    refine (CQ.out _ B2.out).mono ?_
    rintro e w3 ⟨rfl, hb3⟩
    have B3 := Lib.hid (B2.out.trans (hb3.mono B2.out.size))
    have Y1 := Lib.hid ((hb3.block _ (lt_of_heap X1.out)).trans X1.out); have Y2 := Lib.hid ((hb3.block _ (lt_of_heap X2.out)).trans X2.out); have Y3 := Lib.hid ((hb3.block _ (lt_of_heap X3.out)).trans X3.out)
    clear hb3 CQ X1 X2 X3
    cases M2 with
    | false =>
      obtain ⟨rfl, hadd⟩ := BAD.out rfl
      have e0 := TOLD.out (by decide)
      subst e0
      have HADD := Lib.hid hadd
      clear hadd BAD TOLD TOLDN
      go_wp2_with (first
        | (refine wpList_build_none rfl 24 rfl ANS ZB.out ?_)
        | (with_reducible refine wpList_store_all rfl 24 (.tmp 8) (.tmp 32) rfl (w.heap.size + 2) ANS rfl rfl 24 ANS Y3.out IZ.out rfl ZO.out ?_; intro w5 r5 o5 s5)
        | fail)
      have HB5 := Lib.hid (B3.out.trans (o5.below (B := w.heap.size) (by omega) B3.out.size))
      exact bodyPost_ret (results_id9 Try.results11 _ _ (w.heap.size + 2) ANS (0, 0) _ rfl rfl r5 ZS.out) rfl ⟨rfl, by rw [HADD.out]; exact (HLP.out.below HB5.out).mono (fun j _ hj => .inl hj), Chg.of_below HB5.out⟩
    | true =>
      go_wp2_with (first
        | (with_reducible refine wpList_load_all 24 (.tmp 6) rfl (by kernel_rfl) w.heap.size Ap 24 (0, 0) rfl Y1.out _ Try.underlying24 rfl IP.out ?_)
        | (with_reducible refine wpList_load_all 24 (.tmp 7) rfl (by kernel_rfl) (w.heap.size + 1) Aq 24 (0, 0) rfl Y2.out _ Try.underlying24 rfl IQ.out ?_)
        | fail)
      refine (CN.out _ B3.out).mono ?_
      rintro e w4 ⟨rfl, hb4⟩
      have B4 := Lib.hid (B3.out.trans (hb4.mono B3.out.size))
      have B4a := Lib.hid (B4.out.alloc B4.out.size (.cells z 24))
      have NW := Lib.hid (heap_alloc_new w4 (.cells z 24))
      have e41 : (w4.alloc (.cells z 24)).heap.size = w4.heap.size + 1 := by simp
      have al : ∀ k, k < w4.heap.size → (w4.alloc (.cells z 24)).heap[k]? = w4.heap[k]? := fun k hk => Below.heap_alloc _ _ _ hk
      have V1 := Lib.hid ((al _ (Nat.lt_of_lt_of_le (lt_of_heap Y1.out) hb4.size)).trans ((hb4.block _ (lt_of_heap Y1.out)).trans Y1.out))
      have V2 := Lib.hid ((al _ (Nat.lt_of_lt_of_le (lt_of_heap Y2.out) hb4.size)).trans ((hb4.block _ (lt_of_heap Y2.out)).trans Y2.out))
      have V3 := Lib.hid ((al _ (Nat.lt_of_lt_of_le (lt_of_heap Y3.out) hb4.size)).trans ((hb4.block _ (lt_of_heap Y3.out)).trans Y3.out))
      have S4 := Lib.hid (show w.heap.size + 3 ≤ w4.heap.size by have := lt_of_heap Y3.out; have := hb4.size; omega)
      have E41 := Lib.hid e41
      clear hb4 al CN Y1 Y2 Y3 e41
      go_wp2_with (first
        | (with_reducible refine wpList_store_all rfl 24 (.tmp 10) (.tmp 36) rfl w4.heap.size N rfl rfl 24 z NW.out IN.out SNZ.out ON.out ?_; intro w5 r5 o5 s5; have R5 := Lib.hid r5; have U1 := Lib.hid ((o5.block w.heap.size (by rw [E41.out]; have := S4.out; omega) (by have := S4.out; omega)).trans V1.out); have U2 := Lib.hid ((o5.block (w.heap.size + 1) (by rw [E41.out]; have := S4.out; omega) (by have := S4.out; omega)).trans V2.out); have U3 := Lib.hid ((o5.block (w.heap.size + 2) (by rw [E41.out]; have := S4.out; omega) (by have := S4.out; omega)).trans V3.out); have B5 := Lib.hid (B4a.out.trans (o5.below (B := w.heap.size) B4.out.size B4a.out.size)); clear r5 o5 s5)
        | (with_reducible refine wpList_load_all 24 (.tmp 10) rfl (by kernel_rfl) w4.heap.size N 24 (0, 0) rfl R5.out _ Try.underlying24 rfl IN.out ?_)
        | (with_reducible refine wpList_load_all 24 (.tmp 6) rfl (by kernel_rfl) w.heap.size Ap 24 (0, 0) rfl U1.out _ Try.underlying24 rfl IP.out ?_)
        | (with_reducible refine wpList_load_all 24 (.tmp 7) rfl (by kernel_rfl) (w.heap.size + 1) Aq 24 (0, 0) rfl U2.out _ Try.underlying24 rfl IQ.out ?_)
        | fail)
      refine (CK.out _ B5.out rfl).mono ?_
      rintro e w6 ⟨rfl, hlp, hc6⟩
      have s56 := hc6.size
      have s5 := B5.out.size
      have HSw := HSB.out
      have R6 := Lib.hid ((hc6.block _ (lt_of_heap R5.out) (fun hS => by have := HSw _ hS; have := S4.out; omega)).trans R5.out)
      have Q3 := Lib.hid ((hc6.block _ (lt_of_heap U3.out) (fun hS => by have := HSw _ hS; omega)).trans U3.out)
      have S5 := Lib.hid (show w4.heap.size < w5.heap.size from lt_of_heap R5.out)
      have LP6 := Lib.hid hlp
      have C6 := Lib.hid ((Chg.of_below (S := S) B5.out).trans hc6)
      clear hlp hc6 CK U1 U2 U3 R5 V1 V2 V3 NW HSw
      by_cases h0 : er = 0
      · have d0 : ((er : Int) != 0) = false := by rw [h0]; rfl
        have e0 := (TOLDN.out h0)
        subst e0
        have H0 := Lib.hid h0
        clear h0 TOLD TOLDN BAD
        go_wp2_with (first
          | (with_reducible refine wpList_load_all 24 (.tmp 10) rfl (by kernel_rfl) w4.heap.size ANS 24 (0, 0) rfl R6.out _ Try.underlying24 rfl IN.out ?_)
          | (with_reducible refine wpList_store_all rfl 24 (.tmp 8) (.tmp 47) rfl (w.heap.size + 2) ANS rfl rfl 24 z Q3.out IN.out SNZ.out ON.out ?_; intro w7 r7 o7 s7)
          | fail)
        have c7 : Chg (fun k => k = w.heap.size + 2) w6 w7 := ⟨o7.os, o7.tape, o7.output, o7.size, fun k hk hn => o7.block k hk hn⟩
        have FIN := Lib.hid (show LogP (fun j => S j ∨ (w.heap.size ≤ j ∧ j < w7.heap.size)) w7 g (addV L t p q) ∧ Chg S w w7 from
          ⟨(LP6.out.keep ⟨o7.size, fun k hk hl => o7.block k hl (fun e => by
            rcases hk with hk | hk
            · have := HSB.out k hk; omega
            · have := S4.out; have := S5.out; omega)⟩).mono (fun k hk h => by
              rcases h with h | h
              · exact .inl h
              · exact .inr ⟨by omega, hk⟩), C6.out.more c7 (fun k hk e => by omega)⟩)
        clear o7 s7 c7
        exact bodyPost_ret (results_id9 Try.results11 _ _ (w.heap.size + 2) ANS (0, 0) _ rfl rfl r7 SN.out) rfl ⟨by rw [H0.out]; rfl, FIN.out⟩
      · have d0 : ((er : Int) != 0) = true := bne_iff_ne.2 (by omega)
        have e0 := (TOLD.out h0)
        subst e0
        clear h0 TOLD TOLDN BAD
        go_wp2_with (first
          | (refine wpList_build_none rfl 24 rfl ANS ZB.out ?_)
          | (with_reducible refine wpList_store_all rfl 24 (.tmp 8) (.tmp 45) rfl (w.heap.size + 2) ANS rfl rfl 24 ANS Q3.out IZ.out rfl ZO.out ?_; intro w7 r7 o7 s7)
          | fail)
        have c7 : Chg (fun k => k = w.heap.size + 2) w6 w7 := ⟨o7.os, o7.tape, o7.output, o7.size, fun k hk hn => o7.block k hk hn⟩
        have FIN := Lib.hid (show LogP (fun j => S j ∨ (w.heap.size ≤ j ∧ j < w7.heap.size)) w7 g (addV L t p q) ∧ Chg S w w7 from
          ⟨(LP6.out.keep ⟨o7.size, fun k hk hl => o7.block k hl (fun e => by
            rcases hk with hk | hk
            · have := HSB.out k hk; omega
            · have := S4.out; have := S5.out; omega)⟩).mono (fun k hk h => by
              rcases h with h | h
              · exact .inl h
              · exact .inr ⟨by omega, hk⟩), C6.out.more c7 (fun k hk e => by omega)⟩)
        clear o7 s7 c7
        exact bodyPost_ret (results_id9 Try.results11 _ _ (w.heap.size + 2) ANS (0, 0) _ rfl rfl r7 ZS.out) rfl ⟨rfl, FIN.out⟩
end Go.Proofs.Ytgbmbemmkadagaa
