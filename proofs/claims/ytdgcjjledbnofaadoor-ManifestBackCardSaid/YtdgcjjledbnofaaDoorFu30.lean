/-
  Texts that belong together, one behind the other.
-/
import Derived.Test.YtdgcjjledbnofaaDoorFu01
import Derived.Deep.QuietTactic
import Derived.BigQuiet
import Derived.IntWalk
import Derived.WalkSmall
import Derived.OwnWalk
import Derived.Laws.OwnMore
import Derived.Laws.CopyOwn
import Derived.Test.YtdgcjjledbnofaaDoorFu19
import Derived.Test.YtdgcjjledbnofaaDoorFu28
import Derived.Test.YtdgcjjledbnofaaDoorFu29
/-
  The helper Bytes of the statements.
-/
namespace Go.Proofs.YtdgcjjledbnofaaDoor
open Go.RowKit
set_option linter.unusedVariables false

set_option maxHeartbeats 400000 in
theorem Bytes_any (a1 a2 : Option Addr) (n1 n2 c1 c2 : Nat) (l1 l2 : List UInt8) (w : World) (h1 : BAt w a1 l1) (h2 : BAt w a2 l2) (e1 : n1 = l1.length) (e2 : n2 = l2.length) :
    Calls Tryd.prog 13 #[.slice a1 n1 c1, .slice a2 n2 c2] w fun e w' => e = .returned (.bool (l1 == l2)) ∧ w = w' := by
  subst e1; subst e2
  have g1 := h1.conv (P := Tryd.prog) c1 23 5 Tryd.underlying23 Tryd.underlying5 9 Tryd.underlying9
  have g2 := h2.conv (P := Tryd.prog) c2 23 5 Tryd.underlying23 Tryd.underlying5 9 Tryd.underlying9
  clear h1 h2
  go_enter Tryd.func13, Tryd.ntmps13
  go_wp2
  go_ret
  exact ⟨rfl, rfl⟩

theorem Bytes_same (a1 a2 : Option Addr) (n1 n2 c1 c2 : Nat) (l : List UInt8) (w : World) (h1 : BAt w a1 l) (h2 : BAt w a2 l) (e1 : n1 = l.length) (e2 : n2 = l.length) :
    Calls Tryd.prog 13 #[.slice a1 n1 c1, .slice a2 n2 c2] w fun e w' => e = .returned (.bool true) ∧ w = w' := by
  have h := Bytes_any a1 a2 n1 n2 c1 c2 l l w h1 h2 e1 e2
  rwa [show (l == l) = true by simp] at h

end Go.Proofs.YtdgcjjledbnofaaDoor

/-
  Cut of Rvg: a store of a whole struct, as one step.
-/
namespace Go.Proofs.YtdgcjjledbnofaaDoor
set_option maxRecDepth 20000
open Go.RowKit Go.Maps
set_option linter.unusedVariables false
set_option linter.unusedSimpArgs false

/-- A store into all of a block, as one step. -/
theorem wp_store_all {o : Oper} {a : Act} {w : World} {K : Act → World → Prop} {Q : Exit → Act → World → Prop} (ty : TypeId) (x y : Operand) (ho : o.op = .store ty x y) (g : Nat) (cells : Array Value)
    (hx : a.eval x = .pointer (some ⟨g, 0, none⟩)) (hy : a.eval y = .agg cells) (T : TypeId) (cur : Array Value) (hg : w.heap[g]? = some (.cells cur T (0, 0))) (hi : (Tryd.prog.info? ty).map (·.size) = some cells.size) (hfit : cells.size = cur.size)
    (h1 : cells.all (·.oneCell') = true)
    (h : ∀ w', w'.heap[g]? = some (.cells cells T (0, 0)) → Off g w w' → w'.heap.size = w.heap.size → K (a.put o.dst undef) w') : o.wp Tryd.prog a w K Q := by
  obtain ⟨ie, hie, hsz⟩ : ∃ ie, Tryd.prog.info? ty = some ie ∧ ie.size = cells.size := by
    cases e : Tryd.prog.info? ty with
    | none => rw [e] at hi; cases hi
    | some ie => rw [e] at hi; exact ⟨ie, rfl, Option.some.inj hi⟩
  have hst := run_storeCells_at Tryd.prog g 0 T cells.toList 0 cur w hg (by rw [Array.length_toList]; omega) (fun v hv => (Array.all_eq_true_iff_forall_mem.1 h1) v (by simpa using hv))
  have hrow : (cur.toList.take 0 ++ cells.toList ++ cur.toList.drop (0 + cells.size)).toArray = cells := by
    rw [List.take_zero, List.nil_append, Nat.zero_add, hfit, List.drop_of_length_le (by simp), List.append_nil]
  unfold Oper.wp execOp
  simp only [ho, hx, hy, Instr.storeAt, Instr.sureAddr, Sem.run_bind, Sem.run_pure, Result.andThen_ok]
  have hrun : (storeVar ty ⟨g, 0, none⟩ (.agg cells)).run Tryd.prog w = .ok () (w.setRow g cells) := by
    simp only [Nat.add_zero, Array.length_toList] at hst
    rw [hrow] at hst
    simp [storeVar, sizeOf, typeInfo, hie, hsz, Value.cells, hst]
  rw [hrun]
  have b := below_setRow (B := g) (Below.refl g w) (Nat.le_refl _) cells
  refine h _ (setRow_heap w g cur _ T (0, 0) hg) ⟨b.os, b.tape, b.output, b.size, fun k _ hk => ?_⟩ (by simp [World.setRow])
  have hkg : ¬ g = k := fun e => hk e.symm
  simp [World.setRow, Array.getElem?_modify, hkg]
end Go.Proofs.YtdgcjjledbnofaaDoor

/-
  Layer 16, the document: Parse.
-/
namespace Go.Proofs.YtdgcjjledbnofaaDoor
set_option maxRecDepth 20000
open Go.RowKit
set_option linter.unusedVariables false
set_option linter.unusedSimpArgs false

set_option maxHeartbeats 32000000 in
theorem rmParse_is (a : Option Addr) (n c : Nat) (bs : List UInt8) (w : World) (hn : n = bs.length) (hb : BAt w a bs) (hl6 : bs.length ≤ 65536) (tab : QTab w) :
    Calls Tryd.prog 12 #[.slice a n c] w fun e w' => ∃ v, e = .returned (.tuple #[v, .int .i64 (parseM bs).2]) ∧ RedM w' v (parseM bs).1 ∧ Below w.heap.size w w' := by
  have cv := hb.conv (P := Tryd.prog) c 23 5 Tryd.underlying23 Tryd.underlying5 9 Tryd.underlying9
  rw [← hn] at cv
  obtain ⟨z, hz, hzs, hzv, hzb, hz1⟩ := zFile_any
  obtain ⟨zd, hzd, hzds, hzdv, hzdb, hzd1⟩ := zId_any
  have HZS := Lib.hid hzs; have HZD := Lib.hid hzds; have HZI := Lib.hid (show arrD idZ = zd from hzd.symm)
  have IZD := Lib.hid (show (Tryd.prog.info? 26).map (·.size) = some zd.size by rw [hzds]; exact infoD_n); have OZD := Lib.hid hzd1
  have HL6 := Lib.hid hl6; have TB := Lib.hid tab; have HN := Lib.hid hn; have HB := Lib.hid hb
  have NONE := Lib.hid (fun h => @parseM_none bs h)
  have SOME := Lib.hid (fun p h => @parseM_some bs p hl6 h)
  obtain ⟨R, hR⟩ : ∃ R, parseM bs = R := ⟨_, rfl⟩
  rw [hR] at NONE SOME ⊢
  have ST := Lib.hid (AtM.start bs)
  clear hn hb tab hz hzs hzb hz1 hzd hzds hzdb hzd1 hR hl6
  go_enter Tryd.func12, Tryd.ntmps12
  go_wp2_with fail
  go_loopw [4, 5] (fun v4 v5 wr => ∃ (x : List UInt8) (p : List Fil), v4 = .string ⟨x.toArray⟩ ∧ AtM bs x p ∧ OwnR rowF w.heap.size v5 p wr ∧ Below w.heap.size w wr) (fun v4 _ _ => strSz v4)
  case atStart => exact ⟨bs, [], rfl, ST.out, ownR_nil _ _, Below.refl _ _⟩
  case round =>
    clear ST
    obtain ⟨x, p, rfl, hat, hown, hbr⟩ := hrel
    have HAT := Lib.hid hat; have HOWN := Lib.hid hown; have HBR := Lib.hid hbr
    have hxl := hat.ne
    have HXL := Lib.hid (show x.length ≤ 65536 by have := HL6.out; omega)
    clear hat hown hbr hxl
    by_cases hx : x = []
    · subst hx
      have hids : ∀ f ∈ p, f.id.length = 20 := fun f hf => (HAT.out.2.2 f hf).1
      obtain ⟨a5, c5, hv, hl5, hm5, hr5, -, -⟩ := ownR_shape goodF HOWN.out hids
      have CR := rmPrint_is a5 p.length c5 p wr rfl (by have := HAT.out.2.1; have := HL6.out; omega) hr5 hids (fun f hf => by have := (HAT.out.2.2 f hf).2; have := HL6.out; omega) (TB.out.below HBR.out)
      have HRM := Lib.hid (redM_of HOWN.out hids)
      have SO := Lib.hid (SOME.out p HAT.out.fin)
      have TX := Lib.hid ((filesM_some _ bs p (Nat.le_refl _) HAT.out.fin).1)
      subst hv
      cases hrr : rightM p with
      | false =>
        rw [printM_no hrr] at CR
        have e := SO.out
        rw [if_neg (by rw [hrr]; decide)] at e
        subst e
        have CR := Lib.hid CR
        clear hids hl5 hm5 hr5 hrr SO SOME NONE
        go_wp2_with fail
        refine CR.out.mono ?_
        rintro e u ⟨v, rfl, -, b1⟩
        have B1 := Lib.hid (HBR.out.trans (b1.mono HBR.out.size))
        clear b1 CR
        go_wp2
        go_ret2
        exact ⟨_, rfl, RedM.none _, B1.out⟩
      | true =>
        rw [printM_yes hrr, TX.out, if_neg (by have := HL6.out; omega)] at CR
        have e := SO.out
        rw [if_pos hrr] at e
        subst e
        have CR := Lib.hid CR
        clear hids hl5 hm5 hr5 hrr SO SOME NONE
        go_wp2_with fail
        refine CR.out.mono ?_
        rintro e u ⟨v, rfl, ⟨ar, cr, rfl, hba, -, -, -⟩, b1⟩
        have B1 := Lib.hid (HBR.out.trans (b1.mono HBR.out.size))
        have CB := Lib.hid (Bytes_same ar a bs.length n cr c bs u hba (HB.out.keep B1.out) rfl HN.out)
        have R1 := Lib.hid (HRM.out.keep b1)
        clear b1 CR hba
        go_wp2_with fail
        refine CB.out.mono ?_
        rintro e u2 ⟨rfl, rfl⟩
        clear CB
        go_wp2
        go_ret2
        exact ⟨_, rfl, R1.out, B1.out⟩
    · have q0 := emptyB x hx
      have CE := Lib.hid (fun u => Find_byte 10 x 0 (by have := HXL.out; omega) (Nat.zero_le _) u)
      have CZ := Lib.hid (fun u => Find_byte 0 x 0 (by have := HXL.out; omega) (Nat.zero_le _) u)
      rw [findB_zero] at CE CZ
      by_cases hE : idxB 10 x < x.length
      · rw [if_pos hE] at CE
        have NOF := Lib.hid (fun (h : fileM (x.take (idxB 10 x)) = none) => NONE.out (HAT.out.noFile hx hE h))
        have hne := idx_ne x hE
        by_cases hZ : idxB 10 x ≤ idxB 0 x
        · have e := NOF.out (line_noz hE hZ)
          subst e
          obtain ⟨E, hEe⟩ : ∃ E, idxB 10 x = E := ⟨_, rfl⟩
          rw [hEe] at CE hE hZ hne
          obtain ⟨Z, hZe⟩ : ∃ Z, idxB 0 x = Z := ⟨_, rfl⟩
          rw [hZe] at CZ hZ hne
          have g1 : ¬ (E : Int) < 0 := by omega
          obtain ⟨sx, hsx⟩ : ∃ sx : ByteArray, ⟨x.toArray⟩ = sx := ⟨_, rfl⟩
          rw [hsx] at CE CZ q0 ⊢
          clear hsx NOF NONE SOME hx hEe hZe
          by_cases hZl : Z < x.length
          · rw [if_pos hZl] at CZ
            have g2 : ¬ (Z : Int) < 0 := by omega
            have g3 : (Z : Int) > (E : Int) := by omega
            clear hZl hne hZ hE
            go_wp2_with fail
            refine (CE.out _).mono ?_
            rintro e u ⟨rfl, rfl⟩
            go_wp2_with fail
            refine (CZ.out _).mono ?_
            rintro e u ⟨rfl, rfl⟩
            go_wp2
            go_ret2
            exact ⟨_, rfl, RedM.none _, HBR.out⟩
          · rw [if_neg hZl] at CZ
            clear hZl hne hZ hE
            go_wp2_with fail
            refine (CE.out _).mono ?_
            rintro e u ⟨rfl, rfl⟩
            go_wp2_with fail
            refine (CZ.out _).mono ?_
            rintro e u ⟨rfl, rfl⟩
            go_wp2
            go_ret2
            exact ⟨_, rfl, RedM.none _, HBR.out⟩
        · have hZE : idxB 0 x < idxB 10 x := by omega
          rw [if_pos (by omega)] at CZ
          have SH := Lib.hid (fun h => NOF.out (line_short hE hZE h))
          have LO := Lib.hid (fun h => NOF.out (line_long hE hZE h))
          have GO := Lib.hid (fun h => line_good hE hZE h)
          have NX := Lib.hid (fun f (h : fileM (x.take (idxB 10 x)) = some f) => HAT.out.next hx hE h)
          have NFN := NOF
          obtain ⟨L, hL⟩ : ∃ L, x.length = L := ⟨_, rfl⟩
          have szx := size_toArray x
          rw [hL] at hE szx
          have hL6 : L ≤ 65536 := by rw [← hL]; exact HXL.out
          have ex := fun a b => ext_list x a b
          have ex2 := fun a => ext_drop x a
          rw [hL] at ex2
          have XD := Lib.hid (fun k => (show (x.drop (k + 1)).length = L - (k + 1) by rw [List.length_drop, hL]))
          have XT := Lib.hid (fun k (h : k + 41 ≤ L) => (show ((x.drop (k + 1)).take 40).length = 40 by rw [List.length_take, List.length_drop, hL]; omega))
          obtain ⟨E, hEe⟩ : ∃ E, idxB 10 x = E := ⟨_, rfl⟩
          rw [hEe] at CE hE hZE SH LO GO NX NFN
          obtain ⟨Z, hZe⟩ : ∃ Z, idxB 0 x = Z := ⟨_, rfl⟩
          rw [hZe] at CZ hZE SH LO GO
          obtain ⟨D, hD⟩ : ∃ D, E - Z = D := ⟨_, rfl⟩
          rw [hD] at SH LO GO
          have g1 : ¬ (E : Int) < 0 := by omega
          have g2 : ¬ (Z : Int) < 0 := by omega
          have g3 : ¬ (Z : Int) > (E : Int) := by omega
          have hw : IntKind.i64.wrap ((E : Int) - (Z : Int)) = (D : Int) := by rw [IntWalk.i64_in _ (by omega)]; omega
          have HSX := Lib.hid (show strSz (.string ⟨x.toArray⟩) = L by rw [strSz_mk, hL])
          by_cases h41 : D < 41
          · have e := SH.out h41
            subst e
            have g4 : (D : Int) < 41 := by omega
            obtain ⟨sx, hsx⟩ : ∃ sx : ByteArray, ⟨x.toArray⟩ = sx := ⟨_, rfl⟩
            rw [hsx] at CE CZ q0 szx ⊢
            clear hsx NOF NFN NONE SOME SH LO GO NX hx hEe hZe ex ex2 XD XT HSX hL hD hZE hE hZ hne h41
            go_wp2_with fail
            refine (CE.out _).mono ?_
            rintro e u ⟨rfl, rfl⟩
            go_wp2_with fail
            refine (CZ.out _).mono ?_
            rintro e u ⟨rfl, rfl⟩
            go_wp2
            go_ret2
            exact ⟨_, rfl, RedM.none _, HBR.out⟩
          · by_cases h42 : 42 < D
            · have e := LO.out h42
              subst e
              have g4 : ¬ (D : Int) < 41 := by omega
              have g5 : (D : Int) > 42 := by omega
              obtain ⟨sx, hsx⟩ : ∃ sx : ByteArray, ⟨x.toArray⟩ = sx := ⟨_, rfl⟩
              rw [hsx] at CE CZ q0 szx ⊢
              clear hsx NOF NFN NONE SOME SH LO GO NX hx hEe hZe ex ex2 XD XT HSX hL hD hZE hE hZ hne h41 h42
              go_wp2_with fail
              refine (CE.out _).mono ?_
              rintro e u ⟨rfl, rfl⟩
              go_wp2_with fail
              refine (CZ.out _).mono ?_
              rintro e u ⟨rfl, rfl⟩
              go_wp2
              go_ret2
              exact ⟨_, rfl, RedM.none _, HBR.out⟩
            · have GO1 := Lib.hid (GO.out h41)
              have g4 : ¬ (D : Int) < 41 := by omega
              have g5 : ¬ (D : Int) > 42 := by omega
              have hZL : Z + 41 ≤ E := by omega
              have e1 := ex (Z + 1) (Z + 41)
              have e2 := ex 0 Z
              have e3 := ex (Z + 41) E
              have e4 := ex2 (E + 1)
              rw [show Z + 41 - (Z + 1) = 40 by omega] at e1
              rw [Nat.sub_zero, List.drop_zero] at e2
              have hw1 : IntKind.i64.wrap ((Z : Int) + 1) = (Z : Int) + 1 := IntWalk.i64_in _ (by omega)
              have hw2 : IntKind.i64.wrap ((Z : Int) + 41) = (Z : Int) + 41 := IntWalk.i64_in _ (by omega)
              have hw3 : IntKind.i64.wrap ((E : Int) + 1) = (E : Int) + 1 := IntWalk.i64_in _ (by omega)
              have j1 : (Z : Int) + 1 ≤ (Z : Int) + 41 := by omega
              have j2 : (Z : Int) + 41 ≤ (L : Int) := by omega
              have j3 : (Z : Int) + 41 ≤ (E : Int) := by omega
              have j4 : (E : Int) ≤ (L : Int) := by omega
              have j5 : (E : Int) + 1 ≤ (L : Int) := by omega
              have j6 : (Z : Int) ≤ (L : Int) := by omega
              have HDL := Lib.hid (show (x.drop (E + 1)).length < L by rw [XD.out]; omega)
              have h40 := XT.out Z (by omega)
              obtain ⟨y, hy⟩ : ∃ y, x.drop (E + 1) = y := ⟨_, rfl⟩
              rw [hy] at e4 HDL NX
              obtain ⟨dg, hdg⟩ : ∃ dg, (x.drop (Z + 1)).take 40 = dg := ⟨_, rfl⟩
              rw [hdg] at e1 GO1 h40
              obtain ⟨fl, hfl⟩ : ∃ fl, (x.drop (Z + 41)).take (E - (Z + 41)) = fl := ⟨_, rfl⟩
              rw [hfl] at e3 GO1
              obtain ⟨pa, hpa⟩ : ∃ pa, x.take Z = pa := ⟨_, rfl⟩
              rw [hpa] at e2 GO1
              have CN := Lib.hid (fun u (h : unhexL dg = none) => rId_none ⟨dg.toArray⟩ u (by rw [size_toArray]; omega) h)
              have CG := Lib.hid (fun u d (h : unhexL dg = some d) => rId_good ⟨dg.toArray⟩ d u (by rw [size_toArray]; omega) h (unhex_40 h40 h))
              have LD := Lib.hid (fun d (h : unhexL dg = some d) => unhex_40 h40 h)
              obtain ⟨sx, hsx⟩ : ∃ sx : ByteArray, ⟨x.toArray⟩ = sx := ⟨_, rfl⟩
              rw [hsx] at CE CZ q0 szx e1 e2 e3 e4 HSX ⊢
              clear hsx NOF NONE SOME SH LO GO hx hEe hZe ex ex2 XD XT hL hD hZE hE hZ hne h41 h42 hy hdg hfl hpa
              generalize (⟨dg.toArray⟩ : ByteArray) = sdg at e1 CN CG
              cases hu : unhexL dg with
              | none =>
                rw [hu] at GO1
                have e := NFN.out GO1.out
                subst e
                have CI := Lib.hid (fun u => CN.out u hu)
                rw [show idv (List.replicate 20 0) = .agg (arrD idZ) from rfl, HZI.out] at CI
                clear GO1 NFN CN CG LD NX hu e2 e3 e4
                go_wp2_with fail
                refine (CE.out _).mono ?_
                rintro e u ⟨rfl, rfl⟩
                go_wp2_with fail
                refine (CZ.out _).mono ?_
                rintro e u ⟨rfl, rfl⟩
                go_wp2_with fail
                refine (CI.out _).mono ?_
                rintro e u2 ⟨rfl, b2⟩
                have B2 := Lib.hid (HBR.out.trans (b2.mono HBR.out.size))
                clear b2
                go_wp2_with (first
                  | (with_reducible refine wpList_store_all rfl 26 (.tmp 8) (.tmp 52) rfl u2.heap.size zd rfl rfl 26 zd (heap_alloc_new _ _) IZD.out rfl OZD.out ?_)
                  | fail)
                intro w4 r4 off4 sz4
                have B4 := Lib.hid ((B2.out.trans (((Below.refl u2.heap.size u2).alloc (Nat.le_refl _) (.cells zd 26)).mono B2.out.size)).trans (off4.below (B := w.heap.size) B2.out.size (by simp; have := B2.out.size; omega)))
                clear r4 off4 sz4
                go_wp2
                go_ret2
                exact ⟨_, rfl, RedM.none _, B4.out⟩
              | some d =>
                have hd := LD.out d hu
                have CI := Lib.hid (fun u => CG.out u d hu)
                rw [hu] at GO1
                obtain ⟨A, hA⟩ : ∃ A, arrD d = A := ⟨_, rfl⟩
                rw [show idv d = .agg (arrD d) from rfl, hA] at CI
                have SA := Lib.hid (show A.size = 20 by rw [← hA]; exact arrD_size d hd); have OA := Lib.hid (show A.all (·.oneCell') = true by rw [← hA]; exact arrD_one d)
                have IA := Lib.hid (show (Tryd.prog.info? 26).map (·.size) = some A.size by rw [SA.out]; exact infoD_n)
                have EZ := Lib.hid (SA.out.trans HZD.out.symm)
                have LA := Lib.hid (show (Tryd.prog.info? 26).map (·.size) = some A.toList.length by rw [Array.length_toList]; exact IA.out)
                have BF := Lib.hid (show Tryd.prog.built 28 [(0, .string ⟨pa.toArray⟩), (2, .agg A), (1, .int .i64 1)] = some (arrF ⟨pa, 1, d⟩) by rw [← hA]; exact built_fil2 1 ⟨pa.toArray⟩ d hd)
                have SF := Lib.hid (fun m => arrF_size ⟨pa, m, d⟩ hd); have OF := Lib.hid (fun m => arrF_one ⟨pa, m, d⟩)
                have AM := Lib.hid (fun m => arrF_mode pa d 1 m)
                have C1 := Lib.hid (show (arrF ⟨pa, 1, d⟩)[1]? = some (.int .i64 1) from rfl)
                have RW1 := Lib.hid (fun (u : World) (q : Nat) (m : Int) (h : u.heap[q]? = some (.cells (arrF ⟨pa, m, d⟩) rowF.ty (0, 0))) => rowR_one (x := (⟨pa, m, d⟩ : Fil)) goodF h)
                have OKF := Lib.hid (fun m => (show ∀ y ∈ [(⟨pa, m, d⟩ : Fil)], rowF.ok y from fun y hy => by rw [List.mem_singleton.1 hy]; exact hd))
                have OKP := Lib.hid (show ∀ y ∈ p, rowF.ok y from fun y hy => (HAT.out.2.2 y hy).1)
                have PLE := Lib.hid (fun (f : Fil) => (show p.length + [f].length ≤ 1000000000 by have := HAT.out.2.1; have := HL6.out; simp; omega))
                obtain ⟨AF, hAF⟩ : ∃ AF : Int → Array Value, ∀ m, arrF ⟨pa, m, d⟩ = AF m := ⟨_, fun _ => rfl⟩
                simp only [hAF] at BF SF OF AM C1 RW1
                generalize (⟨pa.toArray⟩ : ByteArray) = spa at e2 BF
                clear hu CN CG LD hd hA hAF
                go_wp2_with fail
                refine (CE.out _).mono ?_
                rintro e u ⟨rfl, rfl⟩
                go_wp2_with fail
                refine (CZ.out _).mono ?_
                rintro e u ⟨rfl, rfl⟩
                go_wp2_with fail
                refine (CI.out _).mono ?_
                rintro e u2 ⟨rfl, b2⟩
                have B2 := Lib.hid (HBR.out.trans (b2.mono HBR.out.size))
                have O2 := Lib.hid (ownR_below HOWN.out b2)
                clear b2
                go_wp2_with (first
                  | (with_reducible refine wpList_store_all rfl 26 (.tmp 8) (.tmp 52) rfl u2.heap.size A rfl rfl 26 zd (heap_alloc_new _ _) IA.out EZ.out OA.out ?_)
                  | fail)
                intro w4 r4 off4 sz4
                have b4 : Below u2.heap.size u2 w4 := ((Below.refl u2.heap.size u2).alloc (Nat.le_refl _) (.cells zd 26)).trans (off4.below (Nat.le_refl _) (by simp))
                have B4 := Lib.hid (B2.out.trans (b4.mono B2.out.size))
                have O4 := Lib.hid (ownR_below O2.out b4)
                have R4 := Lib.hid (row_arrD r4); have LT4 := Lib.hid (lt_of_heap r4)
                clear r4 off4 sz4 b4 CE CZ CI
                go_wp2_with fail
                refine wp_region_held_drew (S := fun u => Below w4.heap.size w4 u) (by kernel_rfl) (Below.refl _ _).drew (fun hHeld => ?_)
                refine tkW 0 rfl hHeld ?_
                refine tkW 1 rfl hHeld ?_
                refine tkW 2 rfl hHeld ?_
                refine tkH 3 rfl (yieldsIf_load_mid (by kernel_rfl) 26 (.tmp 8) (by kernel_rfl) u2.heap.size 0 (by kernel_rfl) A.toList _ (fun u hu => row_keepD R4.out LT4.out hu) Tryd.underlying26 rfl LA.out) hHeld ?_
                refine tkH 4 rfl (yields_build3 (by kernel_rfl) 28 0 2 1 (.tmp 58) (.tmp 59) (.const (.int .i64 1)) (by kernel_rfl) (.string spa) (.agg A) (.int .i64 1) (by kernel_rfl) (by kernel_rfl) (by kernel_rfl) (AF 1) BF.out) hHeld ?_
                refine rdH 5 rfl (fun K hK => ?_)
                go_simp
                have hH := ((Below.refl w4.heap.size w4).alloc (Nat.le_refl _) (.cells z 28)).drew
                have x9 := (show ((w4.alloc (.cells z 28)).drew).heap[w4.heap.size]? = some (.cells z 28 (0, 0)) from heap_alloc_new w4 _)
                obtain ⟨v9, hv9⟩ : ∃ v9, (w4.alloc (.cells z 28)).drew = v9 := ⟨_, rfl⟩
                rw [hv9] at hH x9 ⊢
                have X9 := Lib.hid x9
                clear hHeld hv9 x9
                refine hK.out _ _ hH (fun hHeld => ?_)
                clear hK K
                try simp only [Act.put, List.getElem_toArray, List.getElem_cons_succ, List.getElem_cons_zero, lsA, lsZ, lsS]
                have IF := Lib.hid (fun m => (show (Tryd.prog.info? 28).map (·.size) = some (AF m).size by rw [SF.out m]; exact infoFile))
                have EF := Lib.hid (fun m => (SF.out m).trans HZS.out.symm)
                have SFR := Lib.hid (fun m => (show (AF m).size = rowF.size from SF.out m))
                refine rdH 6 rfl (fun K hK => ?_)
                refine stepW rfl (wp_store_all 28 (.tmp 10) (.tmp 60) rfl w4.heap.size (AF 1) (by kernel_rfl) (by kernel_rfl) 28 z X9.out (IF.out 1) (EF.out 1) (OF.out 1) (fun u11 r11 o11 s11 => ?_))
                have hH := hHeld.trans (o11.below (Nat.le_refl _) hHeld.size)
                have R11 := Lib.hid r11
                clear hHeld r11 o11 s11 X9
                refine hK.out _ _ hH (fun hHeld => ?_)
                clear hK K
                try simp only [Act.put, List.getElem_toArray, List.getElem_cons_succ, List.getElem_cons_zero, lsA, lsZ, lsS]
                refine wpAnyH_done (by kernel_rfl) ?_ _
                have B11 := Lib.hid (B4.out.trans (hHeld.mono B4.out.size))
                have O11 := Lib.hid (ownR_below O4.out hHeld)
                have VNE := Lib.hid (show u5.ownBlock ≠ some w4.heap.size from fun e => Nat.lt_irrefl _ (ownR_lt O4.out _ e).2)
                obtain ⟨g, hg⟩ : ∃ g, w4.heap.size = g := ⟨_, rfl⟩
                have HGB := Lib.hid (show w.heap.size ≤ g by rw [← hg]; exact B4.out.size)
                have HGG := Lib.hid hg
                rw [hg] at R11 VNE
                clear hHeld hH hg B4 O4
                rw [HGG.out]
                by_cases hf1 : fl = []
                · subst hf1
                  have hm : modeM [] = some 1 := by decide
                  have gq := GO1.out
                  simp only [hm] at gq
                  have NX1 := Lib.hid (NX.out _ gq)
                  have R12 := Lib.hid (show (u11).heap[g]? = some (.cells (AF 1) 28 (0, 0)) from R11.out)
                  have B12 := Lib.hid (show Below w.heap.size w u11 from B11.out)
                  have O12 := Lib.hid (show OwnR rowF w.heap.size u5 p u11 from O11.out)
                  have b5 := (Below.refl (u11).heap.size u11).alloc (Nat.le_refl _) (.cells (AF 1) rowF.ty)
                  have B5 := Lib.hid (B12.out.trans (b5.mono B12.out.size))
                  have O5 := Lib.hid (ownR_below O12.out b5)
                  have W5 := Lib.hid (RW1.out _ _ 1 (heap_alloc_new u11 (.cells (AF 1) rowF.ty)))
                  obtain ⟨w5, hw5⟩ : ∃ w5, (u11).alloc (.cells (AF 1) rowF.ty) = w5 := ⟨_, rfl⟩
                  rw [hw5] at B5 O5 W5
                  have HW5 := Lib.hid hw5
                  have HM := Lib.hid hm
                  clear hw5 b5 gq hm NX NFN GO1
                  go_wp2_with (first
                    | (with_reducible refine wpList_load_all 28 (.tmp 10) rfl (by kernel_rfl) g (AF 1) 28 (0, 0) rfl R12.out _ Tryd.underlying28 rfl (IF.out 1) ?_)
                    | (with_reducible refine wpList_build_oneR goodF rfl (.tmp 75) rfl (AF 1) (SFR.out 1) rfl ?_; rw [HW5.out])
                    | (at_builtin; refine wpList_append_anyR goodF rfl (.tmp 74) (.tmp 76) rfl w.heap.size _ p [⟨pa, 1, d⟩] (some ⟨(u11).heap.size, 0, none⟩) 1 1 rfl rfl rfl W5.out (OKF.out 1) OKP.out O5.out (PLE.out _) B5.out.size ?_)
                    | fail)
                  intro v6 w6 ow6 gw6
                  have B6 := Lib.hid (B5.out.grown gw6 B5.out.size (fun j hj => (ownR_lt O5.out j hj).1))
                  have O6 := Lib.hid ow6
                  clear ow6 gw6
                  go_wp2
                  go_roundw
                  case rel => exact ⟨y, p ++ [⟨pa, 1, d⟩], by go_num, NX1.out, O6.out, B6.out⟩
                  case measure => rw [HSX.out, strSz_mk]; exact HDL.out
                by_cases hf2 : fl = [120]
                · subst hf2
                  have hm : modeM [120] = some 2 := by decide
                  have gq := GO1.out
                  simp only [hm] at gq
                  have NX1 := Lib.hid (NX.out _ gq)
                  have c1 : u11.cell? ⟨g, 1, none⟩ = some (.int .i64 1) := by rw [Lib.cell_of_heap R11.out]; exact C1.out
                  have z1 : u11.frozen? ⟨g, 1, none⟩ = false := not_frozen R11.out 1
                  have R12 := Lib.hid (show ((u11.setCell ⟨g, 1, none⟩ (.int .i64 2))).heap[g]? = some (.cells (AF 2) 28 (0, 0)) from by have q := heap_set R11.out 1 (.int .i64 2); rw [AM.out] at q; exact q)
                  have B12 := Lib.hid (show Below w.heap.size w (u11.setCell ⟨g, 1, none⟩ (.int .i64 2)) from B11.out.setCell (p := ⟨g, 1, none⟩) HGB.out _)
                  have O12 := Lib.hid (show OwnR rowF w.heap.size u5 p (u11.setCell ⟨g, 1, none⟩ (.int .i64 2)) from ownR_same O11.out (fun k hk => heap_setCell_other _ _ _ _ (fun e => VNE.out (by rw [hk]; exact congrArg some (by simpa using e)))))
                  have b5 := (Below.refl ((u11.setCell ⟨g, 1, none⟩ (.int .i64 2))).heap.size (u11.setCell ⟨g, 1, none⟩ (.int .i64 2))).alloc (Nat.le_refl _) (.cells (AF 2) rowF.ty)
                  have B5 := Lib.hid (B12.out.trans (b5.mono B12.out.size))
                  have O5 := Lib.hid (ownR_below O12.out b5)
                  have W5 := Lib.hid (RW1.out _ _ 2 (heap_alloc_new (u11.setCell ⟨g, 1, none⟩ (.int .i64 2)) (.cells (AF 2) rowF.ty)))
                  obtain ⟨w5, hw5⟩ : ∃ w5, ((u11.setCell ⟨g, 1, none⟩ (.int .i64 2))).alloc (.cells (AF 2) rowF.ty) = w5 := ⟨_, rfl⟩
                  rw [hw5] at B5 O5 W5
                  have HW5 := Lib.hid hw5
                  have HM := Lib.hid hm
                  clear hw5 b5 gq hm NX NFN GO1
                  go_wp2_with (first
                    | (with_reducible refine wpList_load_all 28 (.tmp 10) rfl (by kernel_rfl) g (AF 2) 28 (0, 0) rfl R12.out _ Tryd.underlying28 rfl (IF.out 2) ?_)
                    | (with_reducible refine wpList_build_oneR goodF rfl (.tmp 75) rfl (AF 2) (SFR.out 2) rfl ?_; rw [HW5.out])
                    | (at_builtin; refine wpList_append_anyR goodF rfl (.tmp 74) (.tmp 76) rfl w.heap.size _ p [⟨pa, 2, d⟩] (some ⟨((u11.setCell ⟨g, 1, none⟩ (.int .i64 2))).heap.size, 0, none⟩) 1 1 rfl rfl rfl W5.out (OKF.out 2) OKP.out O5.out (PLE.out _) B5.out.size ?_)
                    | fail)
                  intro v6 w6 ow6 gw6
                  have B6 := Lib.hid (B5.out.grown gw6 B5.out.size (fun j hj => (ownR_lt O5.out j hj).1))
                  have O6 := Lib.hid ow6
                  clear ow6 gw6
                  go_wp2
                  go_roundw
                  case rel => exact ⟨y, p ++ [⟨pa, 2, d⟩], by go_num, NX1.out, O6.out, B6.out⟩
                  case measure => rw [HSX.out, strSz_mk]; exact HDL.out
                by_cases hf3 : fl = [108]
                · subst hf3
                  have hm : modeM [108] = some 3 := by decide
                  have gq := GO1.out
                  simp only [hm] at gq
                  have NX1 := Lib.hid (NX.out _ gq)
                  have c1 : u11.cell? ⟨g, 1, none⟩ = some (.int .i64 1) := by rw [Lib.cell_of_heap R11.out]; exact C1.out
                  have z1 : u11.frozen? ⟨g, 1, none⟩ = false := not_frozen R11.out 1
                  have R12 := Lib.hid (show ((u11.setCell ⟨g, 1, none⟩ (.int .i64 3))).heap[g]? = some (.cells (AF 3) 28 (0, 0)) from by have q := heap_set R11.out 1 (.int .i64 3); rw [AM.out] at q; exact q)
                  have B12 := Lib.hid (show Below w.heap.size w (u11.setCell ⟨g, 1, none⟩ (.int .i64 3)) from B11.out.setCell (p := ⟨g, 1, none⟩) HGB.out _)
                  have O12 := Lib.hid (show OwnR rowF w.heap.size u5 p (u11.setCell ⟨g, 1, none⟩ (.int .i64 3)) from ownR_same O11.out (fun k hk => heap_setCell_other _ _ _ _ (fun e => VNE.out (by rw [hk]; exact congrArg some (by simpa using e)))))
                  have b5 := (Below.refl ((u11.setCell ⟨g, 1, none⟩ (.int .i64 3))).heap.size (u11.setCell ⟨g, 1, none⟩ (.int .i64 3))).alloc (Nat.le_refl _) (.cells (AF 3) rowF.ty)
                  have B5 := Lib.hid (B12.out.trans (b5.mono B12.out.size))
                  have O5 := Lib.hid (ownR_below O12.out b5)
                  have W5 := Lib.hid (RW1.out _ _ 3 (heap_alloc_new (u11.setCell ⟨g, 1, none⟩ (.int .i64 3)) (.cells (AF 3) rowF.ty)))
                  obtain ⟨w5, hw5⟩ : ∃ w5, ((u11.setCell ⟨g, 1, none⟩ (.int .i64 3))).alloc (.cells (AF 3) rowF.ty) = w5 := ⟨_, rfl⟩
                  rw [hw5] at B5 O5 W5
                  have HW5 := Lib.hid hw5
                  have HM := Lib.hid hm
                  clear hw5 b5 gq hm NX NFN GO1
                  go_wp2_with (first
                    | (with_reducible refine wpList_load_all 28 (.tmp 10) rfl (by kernel_rfl) g (AF 3) 28 (0, 0) rfl R12.out _ Tryd.underlying28 rfl (IF.out 3) ?_)
                    | (with_reducible refine wpList_build_oneR goodF rfl (.tmp 75) rfl (AF 3) (SFR.out 3) rfl ?_; rw [HW5.out])
                    | (at_builtin; refine wpList_append_anyR goodF rfl (.tmp 74) (.tmp 76) rfl w.heap.size _ p [⟨pa, 3, d⟩] (some ⟨((u11.setCell ⟨g, 1, none⟩ (.int .i64 3))).heap.size, 0, none⟩) 1 1 rfl rfl rfl W5.out (OKF.out 3) OKP.out O5.out (PLE.out _) B5.out.size ?_)
                    | fail)
                  intro v6 w6 ow6 gw6
                  have B6 := Lib.hid (B5.out.grown gw6 B5.out.size (fun j hj => (ownR_lt O5.out j hj).1))
                  have O6 := Lib.hid ow6
                  clear ow6 gw6
                  go_wp2
                  go_roundw
                  case rel => exact ⟨y, p ++ [⟨pa, 3, d⟩], by go_num, NX1.out, O6.out, B6.out⟩
                  case measure => rw [HSX.out, strSz_mk]; exact HDL.out
                have hm : modeM fl = none := by unfold modeM; rw [if_neg hf1, if_neg hf2, if_neg hf3]
                have q1 : (⟨fl.toArray⟩ : ByteArray).toList.isEmpty = false := emptyB fl hf1
                have q2 : ((⟨fl.toArray⟩ : ByteArray).toList == [120]) = false := by rw [toList_mk, beq_eq_false_iff_ne]; exact hf2
                have q3 : ((⟨fl.toArray⟩ : ByteArray).toList == [108]) = false := by rw [toList_mk, beq_eq_false_iff_ne]; exact hf3
                have gq := GO1.out
                simp only [hm] at gq
                have e := NFN.out gq
                subst e
                clear hf1 hf2 hf3 hm gq NX NFN GO1
                generalize (⟨fl.toArray⟩ : ByteArray) = sfl at e3 q1 q2 q3
                go_wp2
                go_ret2
                exact ⟨_, rfl, RedM.none _, B11.out⟩
      · rw [if_neg hE] at CE
        have e := NONE.out (HAT.out.noLine hx hE)
        subst e
        obtain ⟨Z, hZ⟩ : ∃ Z : Int, (if idxB 0 x < x.length then (idxB 0 x : Int) else -1) = Z := ⟨_, rfl⟩
        rw [hZ] at CZ
        obtain ⟨sx, hsx⟩ : ∃ sx : ByteArray, ⟨x.toArray⟩ = sx := ⟨_, rfl⟩
        rw [hsx] at CE CZ q0 ⊢
        clear hsx hZ hx hE NONE SOME
        go_wp2_with fail
        refine (CE.out _).mono ?_
        rintro e u ⟨rfl, rfl⟩
        go_wp2_with fail
        refine (CZ.out _).mono ?_
        rintro e u ⟨rfl, rfl⟩
        go_wp2
        go_ret2
        exact ⟨_, rfl, RedM.none _, HBR.out⟩
end Go.Proofs.YtdgcjjledbnofaaDoor
