/-
  The law GraphPlays: its walk.
-/
import Derived.Test.YtajmgjhknmkfpaaRfz
namespace Go.Proofs.Ytajmgjhknmkfpaa.graphPlays
set_option maxRecDepth 20000
open Go.RowKit
set_option linter.unusedVariables false
set_option linter.unusedSimpArgs false

theorem yields_one {P : Program} {ops : Array Oper} {S : World → Prop} {o : Oper} {a : Act} (hw : Region.wanted o (yielded ops a.tmps) = true) (t : TypeId) (x : Operand) (ho : o.op = .build t #[(0, x)])
    (v : Value) (h0 : a.eval x = v) (cells : Array Value) (hb : P.built t [(0, v)] = some cells) : YieldsIf P ops S o (.agg cells) a :=
  .inl ⟨hw, fun u _ => by
    have hp : P.built t (#[(0, x)].map fun (i, x) => (i, a.eval x)).toList = some cells := by simp [h0, hb]
    unfold execOp
    simp only [ho, Sem.run_bind, run_build u t _ cells hp, Result.andThen_ok, Sem.run_pure]⟩
theorem par_each {L L' : List Gn} (G : GoodG L) {i : List UInt8} (hi : i.length = 20) (ps : List (List UInt8)) (h : L' = (addG L i ps).2) : ∀ x ∈ parG L' i, x.length = 20 := by
  subst h
  have G' := addG_good G hi ps
  unfold parG
  cases atG (addG L i ps).2 i with
  | none => intro x hx; cases hx
  | some k => exact psOf_each G' k
theorem par_few {L : List Gn} {i : List UInt8} (h : ∀ k, (plAt L k).length ≤ 10) : (parG L i).length ≤ 10 := by
  unfold parG
  cases atG L i with
  | none => exact Nat.zero_le _
  | some k => simp only; rw [psOf_len]; exact h k
set_option maxRecDepth 100000 in
set_option maxHeartbeats 16000000 in
theorem walk (w : World) (a0 : Option Addr) (n c0 : Nat) (l : List Ln) (hl : n = l.length) (hr : RowAt rowL w a0 l) (hno : a0 = none → n = 0 ∧ c0 = 0) (hc : n ≤ c0 ∧ c0 ≤ maxLen) (he : ∀ e ∈ l, LnIn w e)
    (a1 : Option Addr) (n1 c1 : Nat) (ask : List (List UInt8)) (hl1 : n1 = ask.length) (hr1 : IdsAt w a1 ask) (hno1 : a1 = none → n1 = 0 ∧ c1 = 0) (hc1 : n1 ≤ c1 ∧ c1 ≤ maxLen) (he1 : ∀ i ∈ ask, i.length = 20) :
    Calls Try.prog 3 #[.slice a0 n c0, .slice a1 n1 c1] w fun e w' => e = .returned (.bool true) ∧ Below w.heap.size w w' := by
  have HL := Lib.hid hl; have HR := Lib.hid hr; have HE := Lib.hid he
  have HL1 := Lib.hid hl1; have HR1 := Lib.hid hr1; have HE1 := Lib.hid he1
  have hnc := hc.1
  have hnc1 := hc1.1
  clear hl hr he hno hc hl1 hr1 he1 hno1 hc1
  have CN := Lib.hid (newP_is w)
  have G0 := GraphP.new (fun k => k = w.heap.size) w rfl
  have b0 := (Below.refl w.heap.size w).alloc (Nat.le_refl _) (.cells #[.slice none 0 0, .map none] 57)
  obtain ⟨w0, hw0⟩ : ∃ w0, w.alloc (.cells #[.slice none 0 0, .map none] 57) = w0 := ⟨_, rfl⟩
  rw [hw0] at CN G0 b0
  have hg0 := G0.lt
  have R0 := GraphR.new (fun k => k = w0.heap.size) w0 rfl
  have b1 := (Below.refl w0.heap.size w0).alloc (Nat.le_refl _) (.cells #[.slice none 0 0] 29)
  obtain ⟨w1, hw1⟩ : ∃ w1, w0.alloc (.cells #[.slice none 0 0] 29) = w1 := ⟨_, rfl⟩
  rw [hw1] at R0 b1
  have BG1 := Lib.hid (show BothG w w1 w.heap.size w0.heap.size [] [] (fun k => k = w.heap.size) (fun k => k = w0.heap.size) from
    ⟨G0.below b1, R0, b0.trans (b1.mono b0.size), fun k hk => by rw [hk]; exact ⟨Nat.le_refl _, Nat.lt_of_lt_of_le hg0 b1.size⟩, fun k hk => by rw [hk]; exact ⟨b0.size, R0.lt⟩, fun k hk hq => by rw [hk] at hq; exact absurd hq (Nat.ne_of_lt hg0)⟩)
  have W1 := Lib.hid hw1
  obtain ⟨g, hg⟩ : ∃ g, w.heap.size = g := ⟨_, rfl⟩
  obtain ⟨q, hq⟩ : ∃ q, w0.heap.size = q := ⟨_, rfl⟩
  have bg := BG1.out
  rw [hg, hq] at bg
  rw [hg] at CN
  have HW := Lib.hid hg; have HQ := Lib.hid hq
  obtain ⟨Sg, hSg⟩ : ∃ S : Nat → Prop, (fun k => k = g) = S := ⟨_, rfl⟩
  obtain ⟨Sq, hSq⟩ : ∃ S : Nat → Prop, (fun k => k = q) = S := ⟨_, rfl⟩
  rw [hSg, hSq] at bg
  have BG := Lib.hid bg
  clear G0 b0 hg0 R0 b1 hw0 hw1 bg hg hq hSg hSq BG1
  have CA := Lib.hid (fun u => awake12 u)
  go_enter Try.func3, Try.ntmps3
  go_wp2_with fail
  refine CN.out.mono ?_
  rintro e wx ⟨rfl, rfl⟩
  clear CN
  go_wp2_with fail
  rw [W1.out, HQ.out]
  refine (CA.out w1).mono ?_
  rintro e w2 ⟨rfl, hb2⟩
  have BG2 := Lib.hid (BG.out.keep hb2)
  clear hb2 BG
  by_cases h10 : n1 ≤ 10
  · go_wp2_with fail
    go_loopw [7] (fun v7 wr => ∃ (k : Nat) (L : List Gn) (Sg Sq : Nat → Prop), k ≤ n ∧ k ≤ 40 ∧ v7 = .int .i64 k ∧ BothG w wr g q L L Sg Sq ∧ L.length ≤ k ∧ (∀ j, (plAt L j).length ≤ 10)) (fun v7 _ => 40 - (intOf v7).toNat)
    case atStart => exact ⟨0, [], _, _, Nat.zero_le _, Nat.zero_le _, rfl, BG2.out, Nat.le_refl _, fun j => by simp [plAt]⟩
    case round =>
      clear BG2 Sg Sq
      obtain ⟨k, L, Sg, Sq, hkn, hk40, rfl, hbg, hLk, hfew⟩ := hrel
      have BG := Lib.hid hbg; have FEW := Lib.hid hfew
      clear hbg hfew
      by_cases hlt : k < n ∧ k < 40
      · have hkl : k < l.length := by rw [← HL.out]; exact hlt.1
        obtain ⟨b, o, rfl, hbl⟩ := HR.out.some (by omega)
        obtain ⟨e, hee⟩ : ∃ e, l[k] = e := ⟨_, rfl⟩
        have hin := HE.out e (by rw [← hee]; exact List.getElem_mem _)
        have re := HR.out.elem k hkl
        rw [hee] at re
        have re : w.rangeAt b (o + k * 21) (cellsL e) := re
        have RE := Lib.hid (fun u (hu : Below w.heap.size w u) => (show u.rangeAt b (o + k * 21) (cellsL e) from fun j v hv => (hu.cell (p := ⟨b, o + k * 21 + j, none⟩) hbl).trans (re j v hv)))
        obtain ⟨pa, pc, hev, hpr, hpn, hpc1, hpc2, -⟩ := hin.red
        have RV := Lib.hid (fun u (hu : Below w.heap.size w u) => (show u.cell? ⟨b, o + k * 21 + 20, none⟩ = some (.slice pa e.ps.length pc) by have q := nodeL_v hin.ok (RE.out u hu); rw [hev] at q; exact q))
        have PR := Lib.hid hpr; have EACH := Lib.hid hin.each; have HID := Lib.hid hin.ok.1; have HPN := Lib.hid hpn
        obtain ⟨np, hnp⟩ : ∃ np, e.ps.length = np := ⟨_, rfl⟩
        rw [hnp] at RV hpc1 HPN
        have NP := Lib.hid hnp
        have d0 := RV.out wr BG.out.bel
        obtain ⟨hk1, hk2⟩ := hlt
        clear re hin hev hpr hpn hpc2 hnp hee hbl hkl
        by_cases hfp : np ≤ 10
        · have BF := Lib.hid (show Try.prog.built 32 [(0, .int .u8 71)] = some (arrD (idB 71)) from built_idB 71)
          have COW := OwnIds_any pa np pc e.ps (idB 71) wr (PR.out.keep BG.out.bel) HPN.out NP.out.symm (by omega) EACH.out (idB_len 71)
          obtain ⟨F, hF⟩ : ∃ F, arrD (idB 71) = F := ⟨_, rfl⟩
          rw [hF] at BF COW
          have COW := Lib.hid COW; have HF := Lib.hid hF
          clear hF
          go_wp2_with (first
            | (refine wpList_build_W 32 0 _ rfl (by kernel_rfl) (.int .u8 71) rfl F BF.out ?_)
            | fail)
          refine COW.out.mono ?_
          rintro e8 w8 ⟨rfl, how8, hb8⟩
          have B8 := Lib.hid (BG.out.keep hb8)
          have PIN := Lib.hid (fun j (hj : Sg j ∨ Sq j) => (show w.heap.size ≤ j ∧ j < wr.heap.size from hj.elim (BG.out.pin j) (BG.out.rin j)))
          obtain ⟨gi, hgi⟩ : ∃ gi, wr.heap.size + 1 = gi := ⟨_, rfl⟩
          rw [hgi] at how8 ⊢
          have OW8 := Lib.hid how8
          have GI := Lib.hid (fun j (hj : Sg j ∨ Sq j) => (show gi ≠ j by have := (PIN.out j hj).2; omega))
          have D8 := Lib.hid (B8.out.keep (Below.refl w8.heap.size w8).drew)
          have UB := Lib.hid (fun u (hu : Chg (fun j => Sg j ∨ Sq j) w8 u) => B8.out.bel.trans (hu.below B8.out.bel.size (fun j _ hj => (PIN.out j hj).1)))
          obtain ⟨er, her⟩ : ∃ er, (addG L e.id e.ps).1 = er := ⟨_, rfl⟩
          obtain ⟨L', hL'⟩ : ∃ L', (addG L e.id e.ps).2 = L' := ⟨_, rfl⟩
          have LEN := Lib.hid (show L'.length ≤ k + 1 by rw [← hL']; have := (addG_len L e.id e.ps).2; omega)
          have FEW' := Lib.hid (show ∀ j, (plAt L' j).length ≤ 10 by rw [← hL']; exact addG_few FEW.out (by rw [NP.out]; exact hfp))
          have hL1 : L'.length ≤ 1000 := by have := LEN.out; omega
          have hf1 : ∀ j, (plAt L' j).length ≤ 1000 := fun j => Nat.le_trans (FEW'.out j) (by decide)
          have hL0 : L.length ≤ 1000 := by omega
          have hf0 : ∀ j, (plAt L j).length ≤ 1000 := fun j => Nat.le_trans (FEW.out j) (by decide)
          have cap := addP_is D8.out.p (fun j hj => (D8.out.pin j hj).2) e.id HID.out (some ⟨gi, 0, none⟩) np (np + 3) e.ps ((how8.front EACH.out (idB_len 71)).keep (Below.refl w8.heap.size w8).drew) NP.out.symm (by omega) EACH.out hL0 hf0
          have car : ∀ S1 S2 u, BothG w u g q L' L S1 S2 → Calls Try.prog 11 #[.pointer (some ⟨q, 0, none⟩), .agg (arrD e.id), .slice pa np pc] u fun x u' => x = .returned (.int .i64 (addG L e.id e.ps).1) ∧ GraphR (fun j => S2 j ∨ (u.heap.size ≤ j ∧ j < u'.heap.size)) u' q (addG L e.id e.ps).2 ∧ Chg S2 u u' := fun S1 S2 u h =>
            addR_is h.r (fun j hj => (h.rin j hj).2) e.id HID.out pa np pc e.ps (PR.out.keep h.bel) NP.out.symm (by omega) hpc1 EACH.out hL0 hf0
          have ckp : ∀ u, Below w.heap.size w u → OwnIds u gi e.ps (idB 71) → Calls Try.prog 12 #[.slice (some ⟨gi, 0, none⟩) np (np + 3), .slice pa np pc, .agg (arrD (idB 71))] u fun x u' => x = .returned (.bool true) ∧ Below u.heap.size u u' := fun u hu ho =>
            KeptIds_any gi np pc pa e.ps (idB 71) u ho (PR.out.keep hu) NP.out.symm (by omega) EACH.out (idB_len 71)
          have chp : ∀ S1 S2 u, BothG w u g q L' L' S1 S2 → Calls Try.prog 13 #[.pointer (some ⟨g, 0, none⟩), .agg (arrD e.id)] u fun x u' => x = .returned (.bool (atG L' e.id).isSome) ∧ Below u.heap.size u u' := fun S1 S2 u h => hasP_is h.p e.id HID.out
          have chr : ∀ S1 S2 u, BothG w u g q L' L' S1 S2 → Calls Try.prog 14 #[.pointer (some ⟨q, 0, none⟩), .agg (arrD e.id)] u fun x u' => x = .returned (.bool (atG L' e.id).isSome) ∧ Below u.heap.size u u' := fun S1 S2 u h => by
            obtain ⟨xa, xc, xE, lk⟩ := h.r.look
            exact hasR_is lk (Nat.le_trans hL1 (by decide)) e.id HID.out
          have cpp : ∀ S1 S2 u, BothG w u g q L' L' S1 S2 → Calls Try.prog 16 #[.pointer (some ⟨g, 0, none⟩), .agg (arrD e.id)] u fun x u' => ∃ v, x = .returned v ∧ OwnD u.heap.size v (parG L' e.id) u' ∧ Below u.heap.size u u' := fun S1 S2 u h => parentsP_is h.p (Nat.le_trans hL1 (by decide)) hf1 e.id HID.out
          have cpr : ∀ S1 S2 u, BothG w u g q L' L' S1 S2 → Calls Try.prog 17 #[.pointer (some ⟨q, 0, none⟩), .agg (arrD e.id)] u fun x u' => ∃ ya yc, x = .returned (.slice ya (parG L' e.id).length yc) ∧ IdsAt u' ya (parG L' e.id) ∧ Below u.heap.size u u' := fun S1 S2 u h => by
            obtain ⟨xa, xc, xE, lk⟩ := h.r.look
            exact parentsR_is lk (Nat.le_trans hL1 (by decide)) e.id HID.out
          have PGE := Lib.hid (par_each (BG.out.p.good) HID.out e.ps (show L' = (addG L e.id e.ps).2 from hL'.symm))
          have PGF := Lib.hid (par_few (i := e.id) FEW'.out)
          obtain ⟨A, hA⟩ : ∃ A, arrD e.id = A := ⟨_, rfl⟩
          obtain ⟨bh, hbh⟩ : ∃ bh, (atG L' e.id).isSome = bh := ⟨_, rfl⟩
          rw [her, hL', hA] at cap
          rw [her, hL', hA] at car
          rw [hA] at chp chr cpp cpr
          rw [hbh] at chp chr
          rw [HF.out] at ckp
          have CAP := Lib.hid cap; have CAR := Lib.hid car; have CKP := Lib.hid ckp; have CHP := Lib.hid chp; have CHR := Lib.hid chr; have CPP := Lib.hid cpp; have CPR := Lib.hid cpr
          have RI := Lib.hid (fun u (hu : Chg (fun j => Sg j ∨ Sq j) w8 u) => nodeL_id (RE.out u (UB.out u hu)))
          have RW := Lib.hid (fun u (hu : Chg (fun j => Sg j ∨ Sq j) w8 u) => RV.out u (UB.out u hu))
          have LI := Lib.hid (show (Try.prog.info? 32).map (·.size) = some (cellsD e.id).length by rw [cellsD_len _ HID.out]; exact infoD_n)
          have EA := Lib.hid (show (cellsD e.id).toArray = A from hA)
          clear cap car ckp chp chr cpp cpr her hL' hA hbh hL1 hf1 hL0 hf0 how8 hb8 hgi d0 BG
          generalize cellsD e.id = ce at *
          generalize parG L' e.id = pg at *
          obtain ⟨npg, hnpg⟩ : ∃ m, pg.length = m := ⟨_, rfl⟩
          rw [hnpg] at CPR PGF
          have HNPG := Lib.hid hnpg
          have PF := PGF.out
          clear hnpg
          go_wp2_with fail
          simp only [List.append_eq, List.cons_append, List.nil_append]
          refine wp_region_held_drew (S := fun u => Chg (fun j => Sg j ∨ Sq j) w8 u) (by kernel_rfl) (Chg.refl _ _).drew (fun hHeld => ?_)
          refine tkW 0 rfl hHeld ?_
          refine tkW 1 rfl hHeld ?_
          refine tkW 2 rfl hHeld ?_
          refine tkW 3 rfl hHeld ?_
          refine tkW 4 rfl hHeld ?_
          refine tkH 5 rfl (yieldsIf_load_mid (by kernel_rfl) 32 (.tmp 58) (by kernel_rfl) b (o + k * 21) (by kernel_rfl) ce _ (fun u hu => RI.out u hu) Try.underlying32 rfl LI.out) hHeld ?_
          refine tkW 6 rfl hHeld ?_
          refine tkW 8 rfl hHeld ?_
          refine tkW 9 rfl hHeld ?_
          refine tkW 10 rfl hHeld ?_
          refine tkW 11 rfl hHeld ?_
          refine tkW 12 rfl hHeld ?_
          refine tkH 13 rfl (yieldsIf_load_mid (by kernel_rfl) 32 (.tmp 66) (by kernel_rfl) b (o + k * 21) (by kernel_rfl) ce _ (fun u hu => RI.out u hu) Try.underlying32 rfl LI.out) hHeld ?_
          refine tkW 14 rfl hHeld ?_
          refine tkW 15 rfl hHeld ?_
          refine tkW 16 rfl hHeld ?_
          refine tkW 17 rfl hHeld ?_
          refine tkV 18 rfl (.slice pa np pc) (fun u hu => by have q := RW.out u hu; go_simp) hHeld ?_
          refine rdH 7 rfl (fun K hK => ?_)
          go_simp
          try rw [EA.out]
          refine CAP.out.mono ?_
          rintro x u1 ⟨rfl, hg1, hc1⟩
          have B9 := Lib.hid (D8.out.addP hg1 hc1)
          have hH := hHeld.trans (hc1.weak (fun _ _ h => Or.inl h))
          clear hHeld hg1 hc1
          refine hK.out _ _ hH (fun hHeld => ?_)
          clear hK K
          try simp only [Act.put, List.setIfInBounds_toArray, List.set_cons_zero, List.set_cons_succ]
          refine rdH 19 rfl (fun K hK => ?_)
          go_simp
          try rw [EA.out]
          refine (CAR.out _ _ u1 B9.out).mono ?_
          rintro x u2 ⟨rfl, hg2, hc2⟩
          have B10 := Lib.hid (B9.out.addR hg2 hc2)
          have hH := hHeld.trans (hc2.weak (fun _ _ h => Or.inr h))
          have O10 := Lib.hid (show OwnIds u2 gi e.ps (idB 71) from own_sameD OW8.out (hH.block gi OW8.out.lt (fun hj => GI.out gi hj rfl)))
          clear hHeld hg2 hc2
          refine hK.out _ _ hH (fun hHeld => ?_)
          clear hK K
          try simp only [Act.put, List.setIfInBounds_toArray, List.set_cons_zero, List.set_cons_succ]
          refine tkV 20 rfl (.bool false) (fun u hu => by go_simp) hHeld ?_
          refine tkW 21 rfl hHeld ?_
          refine tkW 22 rfl hHeld ?_
          refine tkW 23 rfl hHeld ?_
          refine tkW 24 rfl hHeld ?_
          refine tkW 25 rfl hHeld ?_
          refine tkW 26 rfl hHeld ?_
          refine tkV 27 rfl (.slice pa np pc) (fun u hu => by have q := RW.out u hu; go_simp) hHeld ?_
          refine tkH 28 rfl (yields_one (by kernel_rfl) 32 _ rfl (.int .u8 71) rfl F BF.out) hHeld ?_
          refine rdH 29 rfl (fun K hK => ?_)
          go_simp
          refine (CKP.out u2 B10.out.bel O10.out).mono ?_
          rintro x u3 ⟨rfl, hb⟩
          have B11 := Lib.hid (B10.out.keep hb)
          have hH := hHeld.trans (Chg.of_below (S := fun j => Sg j ∨ Sq j) hb)
          clear hHeld hb
          refine hK.out _ _ hH (fun hHeld => ?_)
          clear hK K
          try simp only [Act.put, List.setIfInBounds_toArray, List.set_cons_zero, List.set_cons_succ]
          refine tkW 30 rfl hHeld ?_
          refine tkW 31 rfl hHeld ?_
          refine tkW 32 rfl hHeld ?_
          refine tkW 33 rfl hHeld ?_
          refine tkW 34 rfl hHeld ?_
          refine tkW 35 rfl hHeld ?_
          refine tkW 36 rfl hHeld ?_
          refine tkW 37 rfl hHeld ?_
          refine tkH 38 rfl (yieldsIf_load_mid (by kernel_rfl) 32 (.tmp 91) (by kernel_rfl) b (o + k * 21) (by kernel_rfl) ce _ (fun u hu => RI.out u hu) Try.underlying32 rfl LI.out) hHeld ?_
          refine tkW 40 rfl hHeld ?_
          refine tkW 41 rfl hHeld ?_
          refine tkW 42 rfl hHeld ?_
          refine tkW 43 rfl hHeld ?_
          refine tkW 44 rfl hHeld ?_
          refine tkH 45 rfl (yieldsIf_load_mid (by kernel_rfl) 32 (.tmp 98) (by kernel_rfl) b (o + k * 21) (by kernel_rfl) ce _ (fun u hu => RI.out u hu) Try.underlying32 rfl LI.out) hHeld ?_
          refine rdH 39 rfl (fun K hK => ?_)
          go_simp
          try rw [EA.out]
          refine (CHP.out _ _ u3 B11.out).mono ?_
          rintro x u4 ⟨rfl, hb⟩
          have B12 := Lib.hid (B11.out.keep hb)
          have hH := hHeld.trans (Chg.of_below (S := fun j => Sg j ∨ Sq j) hb)
          clear hHeld hb
          refine hK.out _ _ hH (fun hHeld => ?_)
          clear hK K
          try simp only [Act.put, List.setIfInBounds_toArray, List.set_cons_zero, List.set_cons_succ]
          refine rdH 46 rfl (fun K hK => ?_)
          go_simp
          try rw [EA.out]
          refine (CHR.out _ _ u4 B12.out).mono ?_
          rintro x u5 ⟨rfl, hb⟩
          have B13 := Lib.hid (B12.out.keep hb)
          have hH := hHeld.trans (Chg.of_below (S := fun j => Sg j ∨ Sq j) hb)
          clear hHeld hb
          refine hK.out _ _ hH (fun hHeld => ?_)
          clear hK K
          try simp only [Act.put, List.setIfInBounds_toArray, List.set_cons_zero, List.set_cons_succ]
          refine tkV 47 rfl (.bool false) (fun u hu => by go_simp) hHeld ?_
          refine tkW 48 rfl hHeld ?_
          refine tkW 49 rfl hHeld ?_
          refine tkW 50 rfl hHeld ?_
          refine tkW 51 rfl hHeld ?_
          refine tkW 52 rfl hHeld ?_
          refine tkW 53 rfl hHeld ?_
          refine tkW 54 rfl hHeld ?_
          refine tkH 55 rfl (yieldsIf_load_mid (by kernel_rfl) 32 (.tmp 108) (by kernel_rfl) b (o + k * 21) (by kernel_rfl) ce _ (fun u hu => RI.out u hu) Try.underlying32 rfl LI.out) hHeld ?_
          refine tkW 57 rfl hHeld ?_
          refine tkW 58 rfl hHeld ?_
          refine tkW 59 rfl hHeld ?_
          refine tkW 60 rfl hHeld ?_
          refine tkW 61 rfl hHeld ?_
          refine tkH 62 rfl (yieldsIf_load_mid (by kernel_rfl) 32 (.tmp 115) (by kernel_rfl) b (o + k * 21) (by kernel_rfl) ce _ (fun u hu => RI.out u hu) Try.underlying32 rfl LI.out) hHeld ?_
          refine rdH 56 rfl (fun K hK => ?_)
          go_simp
          try rw [EA.out]
          refine (CPP.out _ _ u5 B13.out).mono ?_
          rintro x u6 ⟨v6, rfl, hv6, hb⟩
          obtain ⟨a6, c6, rfl, -, -, hr6, -⟩ := ownD_ids hv6 PGE.out
          rw [HNPG.out]
          have R6 := Lib.hid hr6
          have B14 := Lib.hid (B13.out.keep hb)
          have hH := hHeld.trans (Chg.of_below (S := fun j => Sg j ∨ Sq j) hb)
          clear hHeld hb hv6 hr6
          refine hK.out _ _ hH (fun hHeld => ?_)
          clear hK K
          try simp only [Act.put, List.setIfInBounds_toArray, List.set_cons_zero, List.set_cons_succ]
          refine rdH 63 rfl (fun K hK => ?_)
          go_simp
          try rw [EA.out]
          refine (CPR.out _ _ u6 B14.out).mono ?_
          rintro x u7 ⟨a7, c7, rfl, hr7, hb⟩
          have C8 := Lib.hid (PlainIds_any a6 a7 npg c6 c7 pg u7 (R6.out.keep hb) hr7 HNPG.out.symm (by omega) PGE.out)
          have B15 := Lib.hid (B14.out.keep hb)
          have hH := hHeld.trans (Chg.of_below (S := fun j => Sg j ∨ Sq j) hb)
          clear hHeld hb hr7
          refine hK.out _ _ hH (fun hHeld => ?_)
          clear hK K
          try simp only [Act.put, List.setIfInBounds_toArray, List.set_cons_zero, List.set_cons_succ]
          refine rdH 64 rfl (fun K hK => ?_)
          go_simp
          refine C8.out.mono ?_
          rintro x u8 ⟨rfl, hb⟩
          have B16 := Lib.hid (B15.out.keep hb)
          have hH := hHeld.trans (Chg.of_below (S := fun j => Sg j ∨ Sq j) hb)
          clear hHeld hb
          refine hK.out _ _ hH (fun hHeld => ?_)
          clear hK K
          try simp only [Act.put, List.setIfInBounds_toArray, List.set_cons_zero, List.set_cons_succ]
          refine tkW 65 rfl hHeld ?_
          refine tkW 66 rfl hHeld ?_
          try simp only [Act.put, List.getElem_toArray, List.getElem_cons_succ, List.getElem_cons_zero, lsA, lsZ, lsS]
          refine wpAnyH_done (by kernel_rfl) ?_ _
          clear hHeld
          go_wp2_with fail
          go_roundw
          case rel => exact ⟨k + 1, L', _, _, by omega, by omega, by go_num, B16.out, LEN.out, FEW'.out⟩
          case measure => simp [intOf]; omega
        · go_wp2_with fail
          go_roundw
          case rel => exact ⟨k + 1, L, Sg, Sq, by omega, by omega, by go_num, BG.out, by omega, FEW.out⟩
          case measure => simp [intOf]; omega
      · rcases (show ¬ k < n ∨ (k < n ∧ k = 40) by omega) with h1 | ⟨h1, h2⟩
        all_goals
          have hL1 : L.length ≤ 1000 := by omega
          have hf1 : ∀ j, (plAt L j).length ≤ 1000 := fun j => Nat.le_trans (FEW.out j) (by decide)
          have GD := BG.out.p.good
          have IDE := Lib.hid (idsG_each GD); have HDE := Lib.hid (heads_each GD); have CLE := Lib.hid (clo_each (ids := ask) GD)
          have IDF := Lib.hid (show (idsG L).length ≤ 1000000 by rw [idsG_len]; omega)
          have HDF := Lib.hid (heads_few (L := L) (by omega))
          have CLF := Lib.hid (clo_few (ids := ask) hL1)
          have cip : ∀ u, Below wr.heap.size wr u → Calls Try.prog 18 #[.pointer (some ⟨g, 0, none⟩)] u fun x u' => ∃ v, x = .returned v ∧ OwnD u.heap.size v (idsG L) u' ∧ Below u.heap.size u u' := fun u hu => idsP_is (BG.out.keep hu).p (by omega)
          have cir : ∀ u, Below wr.heap.size wr u → Calls Try.prog 19 #[.pointer (some ⟨q, 0, none⟩)] u fun x u' => ∃ v, x = .returned v ∧ OwnD u.heap.size v (idsG L) u' ∧ Below u.heap.size u u' := fun u hu => by
            obtain ⟨xa, xc, xE, lk⟩ := (BG.out.keep hu).r.look
            exact idsR_is lk (by omega)
          have chp : ∀ u, Below wr.heap.size wr u → Calls Try.prog 20 #[.pointer (some ⟨g, 0, none⟩)] u fun x u' => ∃ v, x = .returned v ∧ OwnD u.heap.size v (headsG L) u' ∧ Below u.heap.size u u' := fun u hu => headsP_is (BG.out.keep hu).p hL1 hf1
          have chr : ∀ u, Below wr.heap.size wr u → Calls Try.prog 21 #[.pointer (some ⟨q, 0, none⟩)] u fun x u' => ∃ v, x = .returned v ∧ OwnD u.heap.size v (headsG L) u' ∧ Below u.heap.size u u' := fun u hu => by
            obtain ⟨xa, xc, xE, lk⟩ := (BG.out.keep hu).r.look
            exact headsR_is lk (by omega) hf1
          have ccp : ∀ u, Below wr.heap.size wr u → Calls Try.prog 22 #[.pointer (some ⟨g, 0, none⟩), .slice a1 n1 c1] u fun x u' => ∃ v, x = .returned v ∧ OwnD u.heap.size v (cloG L ask) u' ∧ Below u.heap.size u u' := fun u hu => closureP_any (GOps.of (BG.out.keep hu).p hL1 hf1) a1 n1 c1 ask (rowI_ids.2 (HR1.out.keep (BG.out.keep hu).bel)) HL1.out (by omega) HE1.out
          have ccr : ∀ u, Below wr.heap.size wr u → Calls Try.prog 23 #[.pointer (some ⟨q, 0, none⟩), .slice a1 n1 c1] u fun x u' => ∃ v, x = .returned v ∧ OwnD u.heap.size v (cloG L ask) u' ∧ Below u.heap.size u u' := fun u hu => by
            obtain ⟨xa, xc, xE, lk⟩ := (BG.out.keep hu).r.look
            exact closureR_is lk hL1 hf1 a1 n1 c1 ask (HR1.out.keep (BG.out.keep hu).bel) HL1.out (by omega) HE1.out
          have cma : ∀ u, Below wr.heap.size wr u → Calls Try.prog 24 #[.pointer (some ⟨g, 0, none⟩), .nilFunc, .slice a1 n1 c1] u fun x u' => ∃ v, x = .returned v ∧ OwnD u.heap.size v (cloG L ask) u' ∧ Below u.heap.size u u' := fun u hu => missingP_all (GOps.of (BG.out.keep hu).p hL1 hf1) a1 n1 c1 ask (rowI_ids.2 (HR1.out.keep (BG.out.keep hu).bel)) HL1.out (by omega) HE1.out
          have cms : ∀ u, Below wr.heap.size wr u → Calls Try.prog 24 #[.pointer (some ⟨g, 0, none⟩), .func (.func 25) #[] #[], .slice a1 n1 c1] u fun x u' => ∃ v, x = .returned v ∧ OwnD u.heap.size v (missG L hvG ask) u' ∧ Below u.heap.size u u' := fun u hu => missingP_some (GOps.of (BG.out.keep hu).p hL1 hf1) a1 n1 c1 ask (rowI_ids.2 (HR1.out.keep (BG.out.keep hu).bel)) HL1.out (by omega) HE1.out 25 #[] hvG (fun _ _ => rfl) (fun u i hi => by simpa using haveP_is u i hi)
          have cop : ∀ x y : List UInt8, x.length = 20 → y.length = 20 → ∀ u, Below wr.heap.size wr u → Calls Try.prog 26 #[.pointer (some ⟨g, 0, none⟩), .agg (arrD x), .agg (arrD y)] u fun z u' => z = .returned (.bool (comesG L x y)) ∧ Below u.heap.size u u' := fun x y hx hy u hu => comesP_is (BG.out.keep hu).p hL1 hf1 x y hx hy
          have cor : ∀ x y : List UInt8, x.length = 20 → y.length = 20 → ∀ u, Below wr.heap.size wr u → Calls Try.prog 27 #[.pointer (some ⟨q, 0, none⟩), .agg (arrD x), .agg (arrD y)] u fun z u' => z = .returned (.bool (comesG L x y)) ∧ Below u.heap.size u u' := fun x y hx hy u hu => by
            obtain ⟨xa, xc, xE, lk⟩ := (BG.out.keep hu).r.look
            exact comesR_is lk hL1 hf1 x y hx hy
          have CIP := Lib.hid cip; have CIR := Lib.hid cir; have CHP := Lib.hid chp; have CHR := Lib.hid chr; have CCP := Lib.hid ccp; have CCR := Lib.hid ccr; have CMA := Lib.hid cma; have CMS := Lib.hid cms; have COP := Lib.hid cop; have COR := Lib.hid cor
          have BW := Lib.hid BG.out.bel
          clear cip cir chp chr ccp ccr cma cms cop cor hL1 hf1 GD BG
          have E0 := Lib.hid (Below.refl wr.heap.size wr)
          go_wp2_with fail
          refine (CIP.out wr E0.out).mono ?_
          rintro x u1 ⟨v1, rfl, h1v, hb⟩
          have V1 := Lib.hid h1v
          have E1 := Lib.hid (E0.out.trans (hb.mono E0.out.size))
          clear hb h1v
          go_wp2_with fail
          refine (CIR.out u1 E1.out).mono ?_
          rintro x u2 ⟨v2, rfl, h2v, hb⟩
          have P2 := Lib.hid (plain_two V1.out hb h2v IDE.out IDF.out)
          have E2 := Lib.hid (E1.out.trans (hb.mono E1.out.size))
          clear hb h2v V1
          go_wp2_with fail
          refine P2.out.mono ?_
          rintro x u3 ⟨rfl, hb⟩
          have E3 := Lib.hid (E2.out.trans (hb.mono E2.out.size))
          clear hb P2
          go_wp2_with fail
          refine (CHP.out u3 E3.out).mono ?_
          rintro x u4 ⟨v4, rfl, h4v, hb⟩
          have V4 := Lib.hid h4v
          have E4 := Lib.hid (E3.out.trans (hb.mono E3.out.size))
          clear hb h4v
          go_wp2_with fail
          refine (CHR.out u4 E4.out).mono ?_
          rintro x u5 ⟨v5, rfl, h5v, hb⟩
          have P5 := Lib.hid (plain_two V4.out hb h5v HDE.out HDF.out)
          have E5 := Lib.hid (E4.out.trans (hb.mono E4.out.size))
          clear hb h5v V4
          go_wp2_with fail
          refine P5.out.mono ?_
          rintro x u6 ⟨rfl, hb⟩
          have E6 := Lib.hid (E5.out.trans (hb.mono E5.out.size))
          clear hb P5
          go_wp2_with fail
          refine (CCP.out u6 E6.out).mono ?_
          rintro x u7 ⟨v7, rfl, h7v, hb⟩
          have V7 := Lib.hid h7v
          have E7 := Lib.hid (E6.out.trans (hb.mono E6.out.size))
          clear hb h7v
          go_wp2_with fail
          refine (CCR.out u7 E7.out).mono ?_
          rintro x u8 ⟨v8, rfl, h8v, hb⟩
          have P8 := Lib.hid (plain_two V7.out hb h8v CLE.out (Nat.le_trans CLF.out (by decide)))
          have E8 := Lib.hid (E7.out.trans (hb.mono E7.out.size))
          clear hb h8v V7
          go_wp2_with fail
          refine P8.out.mono ?_
          rintro x u9 ⟨rfl, hb⟩
          have E9 := Lib.hid (E8.out.trans (hb.mono E8.out.size))
          clear hb P8
          go_wp2_with fail
          refine (CMA.out u9 E9.out).mono ?_
          rintro x u10 ⟨v10, rfl, h10v, hb⟩
          have V10 := Lib.hid h10v
          have E10 := Lib.hid (E9.out.trans (hb.mono E9.out.size))
          clear hb h10v
          go_wp2_with fail
          refine (CCR.out u10 E10.out).mono ?_
          rintro x u11 ⟨v11, rfl, h11v, hb⟩
          have P11 := Lib.hid (plain_two V10.out hb h11v CLE.out (Nat.le_trans CLF.out (by decide)))
          have E11 := Lib.hid (E10.out.trans (hb.mono E10.out.size))
          clear hb h11v V10
          go_wp2_with fail
          refine P11.out.mono ?_
          rintro x u12 ⟨rfl, hb⟩
          have E12 := Lib.hid (E11.out.trans (hb.mono E11.out.size))
          clear hb P11 E0 E1 E2 E3 E4 E5 E6 E7 E8 E9 E10 E11
          go_wp2_with fail
          refine (CCR.out u12 E12.out).mono ?_
          rintro x u13 ⟨v13, rfl, h13v, hb⟩
          obtain ⟨a13, c13, rfl, h13c, -, h13r, -⟩ := ownD_ids h13v CLE.out
          obtain ⟨ca, hca⟩ : ∃ ca, cloG L ask = ca := ⟨_, rfl⟩
          have HCA := Lib.hid (show missG L hvG ask = ca.filter (fun x => !hvG x) by unfold missG; rw [hca])
          rw [hca] at h13r h13c CLE CLF ⊢
          obtain ⟨m, hm⟩ : ∃ m, ca.length = m := ⟨_, rfl⟩
          have hm3 : m ≤ 1000 := by rw [← hm]; exact CLF.out
          rw [hm] at h13c ⊢
          have HM := Lib.hid hm; have R13 := Lib.hid (rowI_ids.2 h13r)
          have E13 := Lib.hid (E12.out.trans (hb.mono E12.out.size))
          clear hb h13v h13r hca hm E12
          obtain ⟨B6, hB6⟩ : ∃ B6, u13.heap.size = B6 := ⟨_, rfl⟩
          have HB6 := Lib.hid hB6
          clear hB6
          go_wp2_with fail
          go_loopw [10, 12] (fun v t wi => ∃ i : Nat, i ≤ m ∧ t = .int .i64 i ∧ OwnD B6 v ((ca.take i).filter (fun x => !hvG x)) wi ∧ Below u13.heap.size u13 wi) (fun _ t _ => m - (intOf t).toNat)
          case atStart => exact ⟨0, Nat.zero_le _, rfl, ownD_nil _ _, Below.refl _ _⟩
          case round =>
            obtain ⟨i, hi, rfl, how, hbi⟩ := hrel
            have HO := Lib.hid how; have BI := Lib.hid hbi
            clear how hbi
            rename World => wi
            by_cases hlt2 : i < m
            · have hil : i < ca.length := by rw [HM.out]; exact hlt2
              obtain ⟨b3, o3, rfl, hb3⟩ := R13.out.some (by omega)
              have rx := R13.out.elem i hil
              obtain ⟨x, hx⟩ : ∃ x, ca[i] = x := ⟨_, rfl⟩
              rw [hx] at rx
              have hx20 := CLE.out x (by rw [← hx]; exact List.getElem_mem _)
              have rx : u13.rangeAt b3 (o3 + i * 20) (cellsD x) := rx
              have RX := Lib.hid (fun u (hu : Below u13.heap.size u13 u) => (show u.rangeAt b3 (o3 + i * 20) (cellsD x) from fun j v hv => (hu.cell (p := ⟨b3, o3 + i * 20 + j, none⟩) hb3).trans (rx j v hv)))
              have STP := Lib.hid (show (ca.take (i + 1)).filter (fun x => !hvG x) = (ca.take i).filter (fun x => !hvG x) ++ (if hvG x then [] else [x]) by
                rw [← List.take_append_getElem hil, hx, List.filter_append]
                congr 1
                cases h : hvG x <;> simp [h])
              have ch := haveP_is wi x hx20
              obtain ⟨X, hX⟩ : ∃ X, arrD x = X := ⟨_, rfl⟩
              have HX := Lib.hid hX
              have HXS := Lib.hid (show X.size = 20 by rw [← hX]; exact arrD_size x hx20)
              have HX20 := Lib.hid hx20
              have LX := Lib.hid (show (Try.prog.info? 32).map (·.size) = some (cellsD x).length by rw [cellsD_len x hx20]; exact infoD_n)
              have EX := Lib.hid (show (cellsD x).toArray = X from hX)
              obtain ⟨hv, hhv⟩ : ∃ hv, hvG x = hv := ⟨_, rfl⟩
              rw [hX, hhv] at ch
              rw [hhv] at STP
              have CHV := Lib.hid ch
              have rxi : wi.rangeAt b3 (o3 + i * 20) (cellsD x) := RX.out wi BI.out
              have RXI := Lib.hid rxi
              have LL := Lib.hid (show ((ca.take i).filter (fun x => !hvG x)).length ≤ 1000000000 by
                have := List.length_filter_le (fun x => !hvG x) (ca.take i)
                rw [List.length_take] at this
                omega)
              clear rx hx hx20 hX hhv ch rxi
              generalize cellsD x = cx at *
              go_wp2_with (first
                | (with_reducible refine wpList_load_midD 32 (.tmp 167) rfl (by kernel_rfl) b3 (o3 + i * 20) rfl cx _ RXI.out Try.underlying32 rfl LX.out ?_; rw [EX.out])
                | fail)
              refine CHV.out.mono ?_
              rintro e2 ux ⟨rfl, hb2⟩
              have HO2 := Lib.hid (ownD_below HO.out hb2)
              have BI2 := Lib.hid (BI.out.trans (hb2.mono BI.out.size))
              have rx2 : ux.rangeAt b3 (o3 + i * 20) cx := RX.out ux BI2.out
              have RX2 := Lib.hid rx2
              clear hb2 rx2
              cases hv with
              | true =>
                go_wp2_with fail
                go_roundw
                case rel => exact ⟨i + 1, by omega, by go_num, by rw [STP.out]; simpa using HO2.out, BI2.out⟩
                case measure => simp [intOf]; omega
              | false =>
                have b4 := (Below.refl ux.heap.size ux).alloc (Nat.le_refl _) (.cells X 32)
                have HO4 := Lib.hid (ownD_below HO2.out b4)
                have B4 := Lib.hid (BI2.out.trans (b4.mono BI2.out.size))
                have S4 := Lib.hid (show B6 ≤ (ux.alloc (.cells X 32)).heap.size by rw [← HB6.out]; exact B4.out.size)
                clear b4
                go_wp2_with (first
                  | (with_reducible refine wpList_load_midD 32 (.tmp 174) rfl (by kernel_rfl) b3 (o3 + i * 20) rfl cx _ RX2.out Try.underlying32 rfl LX.out ?_; rw [EX.out])
                  | (with_reducible refine wpList_build_idD rfl (.tmp 175) rfl X HXS.out rfl ?_)
                  | (at_builtin; refine wpList_append_idD rfl _ _ rfl B6 _ ((ca.take i).filter (fun x => !hvG x)) x ux.heap.size X HX.out.symm rfl rfl (heap_alloc_new ux _) HX20.out HO4.out LL.out S4.out ?_)
                  | fail)
                intro v6 w6 o6 g6
                have HB7 := Lib.hid (B4.out.trans ((Below.refl u13.heap.size _).grown g6 (by rw [HB6.out]; exact S4.out) (fun j hj => by rw [HB6.out]; exact (HO4.out.lt j hj).1)))
                have HW6 := Lib.hid (show OwnD B6 v6 ((ca.take (i + 1)).filter (fun x => !hvG x)) w6 by rw [STP.out]; simpa using o6)
                clear o6 g6
                go_wp2_with fail
                go_roundw
                case rel => exact ⟨i + 1, by omega, by go_num, HW6.out, HB7.out⟩
                case measure => simp [intOf]; omega
            · obtain rfl : i = m := by omega
              have HW := Lib.hid (show OwnD B6 _ (missG L hvG ask) wi by
                rw [HCA.out]
                have z := HO.out
                rwa [List.take_of_length_le (by rw [HM.out]; exact Nat.le_refl _)] at z)
              have E14 := Lib.hid (E13.out.trans (BI.out.mono E13.out.size))
              have MSE := Lib.hid (show ∀ x ∈ missG L hvG ask, x.length = 20 by rw [HCA.out]; exact fun x hx => CLE.out x (List.mem_filter.1 hx).1)
              have MSF := Lib.hid (show (missG L hvG ask).length ≤ 1000000 by rw [HCA.out]; exact Nat.le_trans (List.length_filter_le _ _) (Nat.le_trans CLF.out (by decide)))
              clear HO
              go_wp2_with fail
              refine (CMS.out wi E14.out).mono ?_
              rintro x u14 ⟨v14, rfl, h14v, hb⟩
              have P14 := Lib.hid (plain_two h14v (Below.refl _ _) (ownD_below HW.out hb) MSE.out MSF.out)
              have E15 := Lib.hid (E14.out.trans (hb.mono E14.out.size))
              clear hb h14v
              go_wp2_with fail
              refine P14.out.mono ?_
              rintro x u15 ⟨rfl, hb⟩
              have E16 := Lib.hid (E15.out.trans (hb.mono E15.out.size))
              clear hb P14 HW E13 E14 E15
              go_wp2_with fail
              go_loopw [13] (fun v13 wi => ∃ i : Nat, i ≤ n1 ∧ v13 = .int .i64 i ∧ Below wr.heap.size wr wi) (fun v13 _ => n1 - (intOf v13).toNat)
              case atStart => exact ⟨0, Nat.zero_le _, rfl, E16.out⟩
              case round =>
                obtain ⟨s, hs, rfl, hbs⟩ := hrel
                have ES := Lib.hid hbs
                clear hbs E16
                rename World => ws
                by_cases hs1 : s < n1
                · have hsl : s < ask.length := by rw [← HL1.out]; exact hs1
                  obtain ⟨b5, o5, rfl, hb5⟩ := (rowI_ids.2 HR1.out).some (by omega)
                  have rx := (rowI_ids.2 HR1.out).elem s hsl
                  obtain ⟨x, hx⟩ : ∃ x, ask[s] = x := ⟨_, rfl⟩
                  rw [hx] at rx
                  have hx20 := HE1.out x (by rw [← hx]; exact List.getElem_mem _)
                  have rx : w.rangeAt b5 (o5 + s * 20) (cellsD x) := rx
                  have RX := Lib.hid (fun u (hu : Below wr.heap.size wr u) => (show u.rangeAt b5 (o5 + s * 20) (cellsD x) from fun j v hv => ((BW.out.trans (hu.mono BW.out.size)).cell (p := ⟨b5, o5 + s * 20 + j, none⟩) hb5).trans (rx j v hv)))
                  have LX := Lib.hid (show (Try.prog.info? 32).map (·.size) = some (cellsD x).length by rw [cellsD_len x hx20]; exact infoD_n)
                  obtain ⟨X, hX⟩ : ∃ X, arrD x = X := ⟨_, rfl⟩
                  have EX := Lib.hid (show (cellsD x).toArray = X from hX)
                  have HX := Lib.hid hX
                  have HX20 := Lib.hid hx20
                  clear rx hx hx20 hX
                  generalize cellsD x = cx at *
                  go_wp2_with fail
                  go_loopw [14] (fun v14 wi => ∃ i : Nat, i ≤ n1 ∧ v14 = .int .i64 i ∧ Below wr.heap.size wr wi) (fun v14 _ => n1 - (intOf v14).toNat)
                  case atStart => exact ⟨0, Nat.zero_le _, rfl, ES.out⟩
                  case round =>
                    obtain ⟨t, ht, rfl, hbt⟩ := hrel
                    have ET := Lib.hid hbt
                    clear hbt ES
                    rename World => wt
                    by_cases ht1 : t < n1
                    · have htl : t < ask.length := by rw [← HL1.out]; exact ht1
                      have ry := (rowI_ids.2 HR1.out).elem t htl
                      obtain ⟨y, hy⟩ : ∃ y, ask[t] = y := ⟨_, rfl⟩
                      rw [hy] at ry
                      have hy20 := HE1.out y (by rw [← hy]; exact List.getElem_mem _)
                      have ry : w.rangeAt b5 (o5 + t * 20) (cellsD y) := ry
                      have RY := Lib.hid (fun u (hu : Below wt.heap.size wt u) => (show u.rangeAt b5 (o5 + t * 20) (cellsD y) from fun j v hv => ((BW.out.trans ((ET.out.trans (hu.mono ET.out.size)).mono BW.out.size)).cell (p := ⟨b5, o5 + t * 20 + j, none⟩) hb5).trans (ry j v hv)))
                      have RXT := Lib.hid (fun u (hu : Below wt.heap.size wt u) => RX.out u (ET.out.trans (hu.mono ET.out.size)))
                      have LY := Lib.hid (show (Try.prog.info? 32).map (·.size) = some (cellsD y).length by rw [cellsD_len y hy20]; exact infoD_n)
                      have cp := fun u (hu : Below wt.heap.size wt u) => COP.out x y HX20.out hy20 u (ET.out.trans (hu.mono ET.out.size))
                      have cr := fun u (hu : Below wt.heap.size wt u) => COR.out x y HX20.out hy20 u (ET.out.trans (hu.mono ET.out.size))
                      obtain ⟨Y, hY⟩ : ∃ Y, arrD y = Y := ⟨_, rfl⟩
                      have EY := Lib.hid (show (cellsD y).toArray = Y from hY)
                      obtain ⟨cb, hcb⟩ : ∃ cb, comesG L x y = cb := ⟨_, rfl⟩
                      rw [HX.out, hY, hcb] at cp cr
                      have CP := Lib.hid cp; have CR := Lib.hid cr
                      clear ry hy hy20 hY hcb cp cr
                      generalize cellsD y = cy at *
                      go_wp2_with fail
                      refine rgB _ (fun hHeld => ?_)
                      refine tkW 0 rfl hHeld ?_
                      refine tkW 1 rfl hHeld ?_
                      refine tkW 2 rfl hHeld ?_
                      refine tkW 3 rfl hHeld ?_
                      refine tkH 4 rfl (yieldsIf_load_mid (by kernel_rfl) 32 (.tmp 200) (by kernel_rfl) b5 (o5 + s * 20) (by kernel_rfl) cx _ (fun u hu => RXT.out u hu) Try.underlying32 rfl LX.out) hHeld ?_
                      refine tkW 5 rfl hHeld ?_
                      refine tkW 6 rfl hHeld ?_
                      refine tkW 7 rfl hHeld ?_
                      refine tkH 8 rfl (yieldsIf_load_mid (by kernel_rfl) 32 (.tmp 204) (by kernel_rfl) b5 (o5 + t * 20) (by kernel_rfl) cy _ (fun u hu => RY.out u hu) Try.underlying32 rfl LY.out) hHeld ?_
                      refine tkW 10 rfl hHeld ?_
                      refine tkW 11 rfl hHeld ?_
                      refine tkW 12 rfl hHeld ?_
                      refine tkW 13 rfl hHeld ?_
                      refine tkH 14 rfl (yieldsIf_load_mid (by kernel_rfl) 32 (.tmp 210) (by kernel_rfl) b5 (o5 + s * 20) (by kernel_rfl) cx _ (fun u hu => RXT.out u hu) Try.underlying32 rfl LX.out) hHeld ?_
                      refine tkW 15 rfl hHeld ?_
                      refine tkW 16 rfl hHeld ?_
                      refine tkW 17 rfl hHeld ?_
                      refine tkH 18 rfl (yieldsIf_load_mid (by kernel_rfl) 32 (.tmp 214) (by kernel_rfl) b5 (o5 + t * 20) (by kernel_rfl) cy _ (fun u hu => RY.out u hu) Try.underlying32 rfl LY.out) hHeld ?_
                      refine rdH 9 rfl (fun K hK => ?_)
                      go_simp
                      try rw [EX.out, EY.out]
                      refine (CP.out _ hHeld).mono ?_
                      rintro e1 ux1 ⟨rfl, h1⟩
                      have hH := hHeld.trans (h1.mono hHeld.size)
                      clear hHeld h1
                      refine hK.out _ _ hH (fun hHeld => ?_)
                      clear hK K
                      try simp only [Act.put, List.setIfInBounds_toArray, List.set_cons_zero, List.set_cons_succ]
                      refine rdH 19 rfl (fun K hK => ?_)
                      go_simp
                      try rw [EX.out, EY.out]
                      refine (CR.out _ hHeld).mono ?_
                      rintro e2 ux2 ⟨rfl, h1⟩
                      have hH := hHeld.trans (h1.mono hHeld.size)
                      clear hHeld h1
                      refine hK.out _ _ hH (fun hHeld => ?_)
                      clear hK K
                      try simp only [Act.put, List.setIfInBounds_toArray, List.set_cons_zero, List.set_cons_succ]
                      refine tkV 20 rfl (.bool false) (fun u hu => by go_simp) hHeld ?_
                      try simp only [Act.put, List.getElem_toArray, List.getElem_cons_succ, List.getElem_cons_zero, lsA, lsZ, lsS]
                      refine wpAnyH_done (by kernel_rfl) ?_ _
                      have EF := Lib.hid (ET.out.trans (hHeld.mono ET.out.size))
                      clear hHeld
                      go_wp2_with fail
                      go_roundw
                      case rel => exact ⟨t + 1, by omega, by go_num, EF.out⟩
                      case measure => simp [intOf]; omega
                    · obtain rfl : t = n1 := by omega
                      go_wp2_with fail
                      go_roundw
                      case rel => exact ⟨s + 1, by omega, by go_num, ET.out⟩
                      case measure => simp [intOf]; omega
                · obtain rfl : s = n1 := by omega
                  have FIN := Lib.hid (BW.out.trans (ES.out.mono BW.out.size))
                  go_wp2_with fail
                  go_ret
                  exact ⟨rfl, FIN.out⟩
  · have CB := Lib.hid (CA.out w2)
    go_wp2_with fail
    refine CB.out.mono ?_
    rintro e w3 ⟨rfl, hb3⟩
    have BX := Lib.hid ((BG2.out.keep hb3).bel)
    clear hb3
    go_wp2_with fail
    go_ret
    exact ⟨rfl, BX.out⟩
end Go.Proofs.Ytajmgjhknmkfpaa.graphPlays
