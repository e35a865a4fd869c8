/-
  Layer 7: Parse of the document's answers.
-/
import Derived.Test.YtbcbbkdfdfgnfaaDoorNe
namespace Go.Proofs.YtbcbbkdfdfgnfaaDoor
open Go.RowKit
set_option linter.unusedVariables false
set_option linter.unusedSimpArgs false

/-- An object that tells nothing. -/
def ob0 : Array Value := #[.int .i64 0, .slice none 0 0]
set_option maxHeartbeats 16000000 in
set_option maxRecDepth 100000 in
theorem roParse_is (a : Option Addr) (n c : Nat) (l : List UInt8) (w : World) (hn : n = l.length) (hb : BAt w a l) (hno : a = none → n = 0 ∧ c = 0) (hc : n ≤ c) (hm : c ≤ maxLen) (hl : n ≤ 1000000) :
    Calls Tryd.prog 12 #[.slice a n c] w fun e w' => ∃ kk v body err, e = .returned (.tuple #[.agg #[.int .i64 kk, v], .int .i64 err]) ∧ Red w' v body ∧ ParsedO l kk body err ∧ Below w.heap.size w w' := by
  have HB := Lib.hid hb; have HN := Lib.hid hn; have HNO := Lib.hid hno
  have CVU := Lib.hid (fun (u : World) (hu : BAt u a l) => hu.conv (P := Tryd.prog) c 22 5 Tryd.underlying22 Tryd.underlying5 9 Tryd.underlying9)
  rw [← hn] at CVU
  have HBE := Lib.hid (fun k w => Begins_is l (wordO k ++ [32]) (by omega) (by have := wordO_len k; simp; omega) w)
  have HFI := Lib.hid (fun w => Find_zero l (by omega) w)
  generalize (⟨l.toArray⟩ : ByteArray) = ls at CVU HBE HFI
  obtain ⟨R, hR⟩ : ∃ R : Value → List UInt8 → Int → Int → World → Prop, R = fun v body kk err w' => Red w' v body ∧ ParsedO l kk body err ∧ Below w.heap.size w w' := ⟨_, rfl⟩
  have HR := Lib.hid hR
  have hpost : (fun (e : Ending) (w' : World) => ∃ kk v body err, e = .returned (.tuple #[.agg #[.int .i64 kk, v], .int .i64 err]) ∧ Red w' v body ∧ ParsedO l kk body err ∧ Below w.heap.size w w') = (fun e w' => ∃ kk v body err, e = .returned (.tuple #[.agg #[.int .i64 kk, v], .int .i64 err]) ∧ R v body kk err w') := by rw [hR]
  rw [hpost]
  clear hR hpost hb hn hno
  go_enter Tryd.func12, Tryd.ntmps12
  go_wp2_with fail
  go_loopw [4] (fun v4 wr => ∃ k : Nat, 1 ≤ k ∧ k ≤ 4 ∧ v4 = .int .i64 k ∧ NotYet l k ∧ wr.heap[w.heap.size]? = some (.cells #[.int .i64 0, .slice none 0 0] 24 (0, 0)) ∧ Below w.heap.size w wr) (fun v4 _ => 4 - (intOf v4).toNat)
  case atStart => exact ⟨1, Nat.le_refl _, by omega, rfl, notyet_one l, heap_alloc_new w _, (Below.refl _ w).alloc (Nat.le_refl _) _⟩
  case round =>
    obtain ⟨k, hk1, hk4, rfl, hny, h0, hbl⟩ := hrel
    have HNY := Lib.hid hny
    clear hny
    by_cases hk3 : k ≤ 3
    · have hkk : kindO (k : Int) := by unfold kindO; omega
      have HKK := Lib.hid hkk
      have HBL := Lib.hid hbl; have H0 := Lib.hid h0
      have hbe := HBE.out (k : Int)
      have hwd := fun u => roWord_is (k : Int) u
      have hbo := fun b => begins_obj (k : Int) l b
      have hwl := wordO_len (k : Int)
      have ad := add_lists (P := Tryd.prog) wr (wordO (k : Int)) [32] (by simp; omega)
      generalize wordO (k : Int) = wd at hbe hwd hbo hwl ad
      have cv := CVU.out wr (HB.out.keep hbl)
      generalize (⟨(wd ++ [32]).toArray⟩ : ByteArray) = s1 at hbe ad
      obtain ⟨r, hr⟩ : ∃ r, (l.take (wd ++ [32]).length == wd ++ [32]) = r := ⟨_, rfl⟩
      rw [hr] at hbe hbo
      clear hr
      clear hkk hbl h0
      go_wp2_with fail
      refine (hwd _).mono ?_
      rintro e w1 ⟨rfl, rfl⟩
      go_wp2_with fail
      refine (hbe _).mono ?_
      rintro e w1 ⟨rfl, rfl⟩
      cases r with
      | false =>
        go_wp2
        go_round
        case rel =>
          exact ⟨k + 1, by omega, by omega, by go_num, notyet_more HNY.out (fun b hb e => by have := hbo b e; cases this), H0.out, HBL.out⟩
        case measure => simp [intOf]; omega
      | true =>
        go_wp2_with fail
        refine (HFI.out _).mono ?_
        rintro e w1 ⟨rfl, rfl⟩
        by_cases hz : l.findIdx (· == 0) < l.length
        · obtain ⟨i, hi⟩ : ∃ i, l.findIdx (· == 0) = i := ⟨_, rfl⟩
          have hza : zeroAt l = (i : Int) := by unfold zeroAt; rw [if_pos hz, hi]
          have hil : i < n := by rw [HN.out, ← hi]; exact hz
          rw [hza]
          have HZA := Lib.hid hza
          clear hz hi hza
          obtain ⟨a', hts, hbt, hna⟩ := sl_tail a n c (i + 1) l HN.out (by omega) hc
          have ts := fun u => hts ((i : Int) + 1) u (by omega)
          have hane : a' = none → n - (i + 1) = 0 ∧ c - (i + 1) = 0 := fun h => by have := (HNO.out (hna h)).1; omega
          have hbt2 := hbt wr (HB.out.keep HBL.out)
          obtain ⟨bd, hbd⟩ : ∃ bd, l.drop (i + 1) = bd := ⟨_, rfl⟩
          rw [hbd] at hbt2
          have hbl : n - (i + 1) = bd.length := by rw [← hbd, List.length_drop, HN.out]
          have HBD := Lib.hid hbd
          have C2 := Lib.hid (CopyBytes_any bd wr a' (n - (i + 1)) (c - (i + 1)) hbt2 hbl hane (by omega))
          have HBLN := Lib.hid hbl
          obtain ⟨m, hm1⟩ : ∃ m, n - (i + 1) = m := ⟨_, rfl⟩
          obtain ⟨mc, hmc⟩ : ∃ mc, c - (i + 1) = mc := ⟨_, rfl⟩
          rw [hm1, hmc] at C2 ts
          rw [hm1] at HBLN
          have hw1 : IntKind.i64.wrap ((i : Int) + 1) = (i : Int) + 1 := IntWalk.i64_in _ (by omega)
          clear hts hbt hna hane hbt2 hbd hbl hm1 hmc
          go_wp2_with fail
          refine C2.out.mono ?_
          rintro e w1 ⟨v1, rfl, hr1, hf1, hb1⟩
          have HR1 := Lib.hid hr1; have HF1 := Lib.hid hf1
          obtain ⟨pa, pc, rfl, hple, hpm, hpb, hpn⟩ := hr1.shape
          obtain ⟨pl, hpl⟩ : ∃ pl, bd.length = pl := ⟨_, rfl⟩
          rw [hpl] at HR1 HF1 hple
          rw [hpl]
          have HPL := Lib.hid hpl
          have HPB := Lib.hid hpb; have HPN := Lib.hid hpn
          have HB1 := Lib.hid hb1
          clear C2 hr1 hf1 hpb hpn hpl hb1
          go_wp2_with (first
            | (with_reducible refine wpList_store_obj rfl (.tmp 7) (.tmp 33) rfl w1.heap.size _ _ _ _ rfl rfl (heap_alloc_new w1 _) (one_obj _ _ _ _) ?_)
            | fail)
          intro w2 h2 hb2 hk2 hs2
          have b1 := HBL.out.trans (HB1.out.mono HBL.out.size)
          have b2 := hb2 _ _ b1.size (b1.alloc b1.size _)
          have b12 := hb2 _ _ (Nat.le_refl _) ((Below.refl _ w1).alloc (Nat.le_refl _) _)
          have hlt : w.heap.size < wr.heap.size := (Array.getElem?_eq_some_iff.1 H0.out).1
          have hlt1 : w.heap.size < w1.heap.size := Nat.lt_of_lt_of_le hlt HB1.out.size
          have h02 := (b12.block _ hlt1).trans ((HB1.out.block _ hlt).trans H0.out)
          have HLT := Lib.hid hlt; have HLT1 := Lib.hid hlt1
          have HB2 := Lib.hid b2; have HB12 := Lib.hid b12; have H02 := Lib.hid h02; have H2 := Lib.hid h2
          obtain ⟨q0, q1⟩ := cells2 h2
          have HS2 := Lib.hid (show w1.heap.size < w2.heap.size by rw [hs2]; simp)
          clear b1 b2 b12 hlt hlt1 h02 h2 hb2 hk2 hs2
          go_wp2_with fail
          by_cases hfit : bd.length ≤ 65536
          · have CP := roPrint_any (k : Int) pa pl pc bd w2 HPL.out.symm (HPB.out.keep HB12.out) (fun h => by rw [← HPL.out]; exact HPN.out h) hple hpm
            rw [printO_ok _ _ HKK.out hfit] at CP
            have HFIT := Lib.hid hfit
            clear hfit
            refine CP.mono ?_
            rintro e w3 ⟨v3, rfl, ⟨qa, qc, rfl, hqb, hqn, hqc, hqm⟩, hb3⟩
            obtain ⟨ql, hql⟩ : ∃ ql, (objO (k : Int) bd).length = ql := ⟨_, rfl⟩
            have b3 := HB2.out.trans (hb3.mono HB2.out.size)
            have HBY := Lib.hid (Bytes_any qa a ql n qc c (objO (k : Int) bd) l w3 hqb (HB.out.keep b3) hql.symm HN.out)
            rw [hql]
            obtain ⟨r2, hr2⟩ : ∃ r2, (objO (k : Int) bd == l) = r2 := ⟨_, rfl⟩
            rw [hr2] at HBY
            have HR2 := Lib.hid hr2
            have h3 := (hb3.block _ HS2.out).trans H2.out
            have h03 := (hb3.block _ (Nat.lt_trans HLT1.out HS2.out)).trans H02.out
            obtain ⟨q30, q31⟩ := cells2 h3
            have HB3 := Lib.hid b3; have HH3 := Lib.hid h3; have H03 := Lib.hid h03; have HB23 := Lib.hid hb3
            clear CP hqb hqn hqc hqm hql hr2 b3 h3 h03 hb3
            go_wp2_with fail
            refine HBY.out.mono ?_
            rintro e w4 ⟨rfl, rfl⟩
            cases r2 with
            | false =>
              go_wp2
              go_round
              case rel =>
                exact ⟨k + 1, by omega, by omega, by go_num, notyet_more HNY.out (fun b hb e => by
                  have e2 := body_at HZA.out e
                  rw [HBD.out] at e2
                  subst e2
                  have := HR2.out
                  rw [e] at this
                  simp at this), H03.out, HB3.out⟩
              case measure => simp [intOf]; omega
            | true =>
              go_wp2_with (first
                | (with_reducible refine wpList_store_obj rfl (.tmp 2) (.tmp 46) rfl w.heap.size _ _ _ _ rfl rfl H03.out (one_obj _ _ _ _) ?_)
                | fail)
              intro w5 h5 hb5 hk5 hs5
              have hrow : Row w5 (.slice pa pl pc) bd := HR1.out.keep fun g hg => by
                have g1 := HR1.out.lt g hg
                have g0 := HF1.out g hg
                have := HLT.out
                exact (hk5 g (by omega)).trans ((HB23.out.block g (Nat.lt_trans g1 HS2.out)).trans (HB12.out.block g g1))
              have HX := Lib.hid (And.intro h5 (And.intro hrow (hb5 _ _ (Nat.le_refl _) HB3.out)))
              clear h5 hb5 hk5 hs5 hrow
              go_wp2
              refine bodyPost_ret (results_obj Tryd.results12 _ _ w.heap.size _ (0, 0) _ rfl rfl HX.out.1 rfl) rfl ?_
              exact ⟨k, _, bd, 0, rfl, by rw [HR.out]; exact ⟨HX.out.2.1.red, parsed_some HKK.out HFIT.out (eq_of_beq HR2.out), HX.out.2.2⟩⟩
          · have CP := roPrint_any (k : Int) pa pl pc bd w2 HPL.out.symm (HPB.out.keep HB12.out) (fun h => by rw [← HPL.out]; exact HPN.out h) hple hpm
            rw [printO_limit _ _ HKK.out (by omega)] at CP
            have HFIT := Lib.hid hfit
            clear hfit
            refine CP.mono ?_
            rintro e w3 ⟨v3, rfl, ⟨qa, qc, rfl, hqb, hqn, hqc, hqm⟩, hb3⟩
            have b3 := HB2.out.trans (hb3.mono HB2.out.size)
            have h03 := (hb3.block _ (Nat.lt_trans HLT1.out HS2.out)).trans H02.out
            have HB3 := Lib.hid b3; have H03 := Lib.hid h03
            clear CP hqb hqn hqc hqm b3 h03 hb3
            go_wp2
            go_round
            case rel =>
              exact ⟨k + 1, by omega, by omega, by go_num, notyet_more HNY.out (fun b hb e => by
                have e2 := body_at HZA.out e
                rw [HBD.out] at e2
                subst e2
                exact HFIT.out hb), H03.out, HB3.out⟩
            case measure => simp [intOf]; omega
        · have hza : zeroAt l = -1 := by unfold zeroAt; rw [if_neg hz]
          have ht : takeO l = none := take_nozero (fun c hc e => hz (List.findIdx_lt_length.2 ⟨c, hc, by rw [e]; rfl⟩))
          have HT := Lib.hid ht
          rw [hza]
          clear hz hza ht
          go_wp2_with (first
            | (with_reducible refine wpList_store_obj rfl (.tmp 2) (.tmp 47) rfl w.heap.size _ _ _ _ rfl rfl H0.out (one_obj _ _ _ _) ?_)
            | fail)
          intro w2 h2 hb2 _ _
          have HX := Lib.hid (And.intro h2 (hb2 _ _ (Nat.le_refl _) HBL.out))
          clear h2 hb2
          go_wp2
          refine bodyPost_ret (results_obj Tryd.results12 _ _ w.heap.size _ (0, 0) _ rfl rfl HX.out.1 rfl) rfl ?_
          exact ⟨0, _, [], 4, rfl, by rw [HR.out]; exact ⟨Red.none _, parsed_none HT.out, HX.out.2⟩⟩
    · have hk : k = 4 := by omega
      subst hk
      have ht := notyet_all HNY.out
      have HT := Lib.hid ht
      have HBL := Lib.hid hbl; have H0 := Lib.hid h0
      clear ht hbl h0
      go_wp2_with (first
        | (with_reducible refine wpList_store_obj rfl (.tmp 2) (.tmp 47) rfl w.heap.size _ _ _ _ rfl rfl H0.out (one_obj _ _ _ _) ?_)
        | fail)
      intro w2 h2 hb2 _ _
      have HX := Lib.hid (And.intro h2 (hb2 _ _ (Nat.le_refl _) HBL.out))
      clear h2 hb2
      go_wp2
      refine bodyPost_ret (results_obj Tryd.results12 _ _ w.heap.size _ (0, 0) _ rfl rfl HX.out.1 rfl) rfl ?_
      exact ⟨0, _, [], 4, rfl, by rw [HR.out]; exact ⟨Red.none _, parsed_none HT.out, HX.out.2⟩⟩
end Go.Proofs.YtbcbbkdfdfgnfaaDoor
