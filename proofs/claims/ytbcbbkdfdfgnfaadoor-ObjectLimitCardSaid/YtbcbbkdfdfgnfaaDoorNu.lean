/-
  Layer 7: Parse of the program.
-/
import Derived.Test.YtbcbbkdfdfgnfaaDoorNs
import Derived.Test.YtbcbbkdfdfgnfaaDoorNt
import Derived.Test.YtbcbbkdfdfgnfaaDoorFb
import Derived.Test.YtbcbbkdfdfgnfaaDoorNf
namespace Go.Proofs.YtbcbbkdfdfgnfaaDoor
set_option maxRecDepth 20000
open Go.RowKit
set_option linter.unusedVariables false
set_option linter.unusedSimpArgs false

/-- Where the body begins: behind the first zero. -/
def endO (l : List UInt8) : Nat := (zeroAt l + 1).toNat
theorem endO_is (l : List UInt8) : zeroAt l + 1 = (endO l : Int) ∧ endO l ≤ l.length := by
  unfold endO zeroAt
  split <;> omega
theorem endO_of {k : Int} {b l : List UInt8} (h : objO k b = l) : b = l.drop (endO l) ∧ headO k b.length ++ [0] = l.take (endO l) := by
  obtain ⟨h1, h2⟩ := body_of h
  have e : endO l = (headO k b.length).length + 1 := by unfold endO; omega
  rw [e]
  refine ⟨h2, ?_⟩
  subst h
  have e2 : objO k b = (headO k b.length ++ [0]) ++ b := by unfold objO; simp
  rw [e2]
  have e3 : (headO k b.length).length + 1 = (headO k b.length ++ [0]).length := by simp
  rw [e3, List.take_left]
theorem endO_back {k : Int} {l : List UInt8} (h : headO k (l.drop (endO l)).length ++ [0] = l.take (endO l)) : objO k (l.drop (endO l)) = l := by
  have e2 : objO k (l.drop (endO l)) = (headO k (l.drop (endO l)).length ++ [0]) ++ l.drop (endO l) := by unfold objO; simp
  rw [e2, h, List.take_append_drop]
theorem BAt.take {w : World} {a : Option Addr} {l : List UInt8} (h : BAt w a l) (n : Nat) : BAt w a (l.take n) := fun hp => by
  have hp2 : 0 < l.length := by rw [List.length_take] at hp; omega
  obtain ⟨b, o, h1, h2, h3⟩ := h hp2
  refine ⟨b, o, h1, h2, fun i hi => ?_⟩
  rw [List.length_take] at hi
  rw [h3 i (by omega), List.getElem_take]

/-- What stands while Parse goes on: what it will tell, the kinds, the object it holds against the bytes. -/
def PS (w : World) (g : Nat) (k : Int) (v : Value) (u : World) : Prop :=
  u.heap[w.heap.size]? = some (.cells #[.int .i64 0, .slice none 0 0] 24 (0, 0)) ∧ u.heap[w.heap.size + 1]? = some (.cells #[.int .i64 1, .int .i64 2, .int .i64 3] 3 (0, 0)) ∧
  u.heap[g]? = some (.cells #[.int .i64 k, v] 24 (0, 0)) ∧ Below w.heap.size w u
theorem PS.keep {w u u' : World} {g : Nat} {k : Int} {v : Value} (h : PS w g k v u) (b : Below u.heap.size u u') : PS w g k v u' := by
  obtain ⟨h1, h2, h3, h4⟩ := h
  exact ⟨(b.block _ (Array.getElem?_eq_some_iff.1 h1).1).trans h1, (b.block _ (Array.getElem?_eq_some_iff.1 h2).1).trans h2, (b.block _ (Array.getElem?_eq_some_iff.1 h3).1).trans h3, h4.trans (b.mono h4.size)⟩
set_option maxHeartbeats 16000000 in
theorem Parse_is (a : Option Addr) (n c : Nat) (l : List UInt8) (w : World) (hn : n = l.length) (hb : BAt w a l) (hno : a = none → n = 0 ∧ c = 0) (hc : n ≤ c) (hm : c ≤ maxLen) (hl : n ≤ 1000000) (tab : Tab w) :
    Calls Tryd.prog 11 #[.slice a n c] w fun e w' => ∃ kk v body err, e = .returned (.tuple #[.agg #[.int .i64 kk, v], .int .i64 err]) ∧ Row w' v body ∧ (∀ g, foot v = some g → w.heap.size ≤ g) ∧ ParsedO l kk body err ∧ Below w.heap.size w w' := by
  obtain ⟨he1, he2⟩ := endO_is l
  obtain ⟨z, hz⟩ : ∃ z, zeroAt l = z := ⟨_, rfl⟩
  have CI := fun w h => IndexZero a n c l w hn h
  rw [hz] at CI he1
  have hw1 : IntKind.i64.wrap (z + 1) = (endO l : Int) := by rw [he1]; exact IntWalk.i64_in _ (by omega)
  obtain ⟨en, hen⟩ : ∃ en, endO l = en := ⟨_, rfl⟩
  have HEN := Lib.hid hen
  rw [hen] at hw1 he2
  obtain ⟨a', hts, hbt, hna⟩ := sl_tail a n c en l hn (by omega) hc
  have ts := fun u => hts (en : Int) u rfl
  have th := fun u => slice_head a n c en (en : Int) rfl (by omega) u
  have HANE := Lib.hid (fun (h : a' = none) => (show n - en = 0 ∧ c - en = 0 by have := hno (hna h); omega))
  obtain ⟨bd, hbd⟩ : ∃ bd, l.drop en = bd := ⟨_, rfl⟩
  obtain ⟨hp, hhp⟩ : ∃ hp, l.take en = hp := ⟨_, rfl⟩
  have HBT := Lib.hid (fun (u : World) (h : BAt u a l) => (show BAt u a' bd ∧ BAt u a hp from ⟨hbd ▸ hbt u h, hhp ▸ h.take en⟩))
  have HBN := Lib.hid (show n - en = bd.length by rw [← hbd, List.length_drop, hn])
  have HHPL := Lib.hid (show en = hp.length by rw [← hhp, List.length_take]; omega)
  have HMM := Lib.hid (show n - en ≤ c - en ∧ c - en ≤ maxLen ∧ n - en ≤ 1000000 by omega)
  have HBD := Lib.hid hbd; have HHP := Lib.hid hhp
  obtain ⟨m, hm1⟩ : ∃ m, n - en = m := ⟨_, rfl⟩
  obtain ⟨mc, hmc⟩ : ∃ mc, c - en = mc := ⟨_, rfl⟩
  rw [hm1, hmc] at ts HANE HMM
  rw [hm1] at HBN
  have HB := Lib.hid hb
  have ci := CI (w.alloc (.cells #[.int .i64 0, .slice none 0 0] 24)) (hb.keep ((Below.refl _ w).alloc (Nat.le_refl _) _))
  have TB := Lib.hid tab
  obtain ⟨R, hR⟩ : ∃ R : Value → List UInt8 → Int → Int → World → Prop, R = fun v body kk err w' => Row w' v body ∧ (∀ g, foot v = some g → w.heap.size ≤ g) ∧ ParsedO l kk body err ∧ Below w.heap.size w w' := ⟨_, rfl⟩
  have HR := Lib.hid hR
  have hpost : (fun (e : Ending) (w' : World) => ∃ kk v body err, e = .returned (.tuple #[.agg #[.int .i64 kk, v], .int .i64 err]) ∧ Row w' v body ∧ (∀ g, foot v = some g → w.heap.size ≤ g) ∧ ParsedO l kk body err ∧ Below w.heap.size w w') = (fun e w' => ∃ kk v body err, e = .returned (.tuple #[.agg #[.int .i64 kk, v], .int .i64 err]) ∧ R v body kk err w') := by rw [hR]
  rw [hpost]
  have B0 := Lib.hid ((Below.refl w.heap.size w).alloc (Nat.le_refl _) (.cells #[.int .i64 0, .slice none 0 0] 24))
  have H0 := Lib.hid (heap_alloc_new w (.cells #[.int .i64 0, .slice none 0 0] 24))
  clear hR hpost hb hno hn hc hm hl he1 hz CI hen hts hbt hna hbd hhp hm1 hmc tab he2
  go_enter Tryd.func11, Tryd.ntmps11
  go_wp2_with fail
  refine ci.mono ?_
  rintro e w1 ⟨rfl, rfl⟩
  clear ci
  go_wp2_with fail
  have B1 := Lib.hid (B0.out.alloc B0.out.size (.cells #[.int .i64 1, .int .i64 2, .int .i64 3] 3))
  have HA := Lib.hid (heap_alloc_new (w.alloc (.cells #[.int .i64 0, .slice none 0 0] 24)) (.cells #[.int .i64 1, .int .i64 2, .int .i64 3] 3))
  have HO := Lib.hid ((((Below.refl _ _).alloc (Nat.le_refl _) (.cells #[.int .i64 1, .int .i64 2, .int .i64 3] 3) : Below (w.alloc (.cells #[.int .i64 0, .slice none 0 0] 24)).heap.size _ _).block w.heap.size (by simp)).trans H0.out)
  rw [show (w.alloc (.cells #[.int .i64 0, .slice none 0 0] 24)).heap.size = w.heap.size + 1 by simp] at HA
  clear B0 H0
  go_loopw [15] (fun v15 wr => ∃ i : Nat, i ≤ 3 ∧ v15 = .int .i64 i ∧ NotYet l (i + 1) ∧ wr.heap[w.heap.size]? = some (.cells #[.int .i64 0, .slice none 0 0] 24 (0, 0)) ∧ wr.heap[w.heap.size + 1]? = some (.cells #[.int .i64 1, .int .i64 2, .int .i64 3] 3 (0, 0)) ∧ Below w.heap.size w wr) (fun v15 _ => 3 - (intOf v15).toNat)
  case atStart => exact ⟨0, by omega, rfl, notyet_one l, HO.out, HA.out, B1.out⟩
  case round =>
    obtain ⟨i, hi3, rfl, hny, ho, ha, hbl⟩ := hrel
    have HNY := Lib.hid hny
    have HOr := Lib.hid ho; have HAr := Lib.hid ha; have HBL := Lib.hid hbl
    clear hny ho ha hbl B1 HA HO
    by_cases hi : i < 3
    · have hkk : kindO ((i + 1 : Nat) : Int) := by unfold kindO; omega
      have q0 : wr.cell? ⟨w.heap.size + 1, i, none⟩ = some (.int .i64 ((i + 1 : Nat) : Int)) := by
        rw [Lib.cell_of_heap HAr.out]
        have : i = 0 ∨ i = 1 ∨ i = 2 := by omega
        rcases this with rfl | rfl | rfl <;> rfl
      obtain ⟨k, hk⟩ : ∃ k : Int, ((i + 1 : Nat) : Int) = k := ⟨_, rfl⟩
      rw [hk] at hkk q0
      have HK := Lib.hid hk; have HKK := Lib.hid hkk
      have c1 := fun w => typed_is k a' m mc w
      clear hk hkk
      go_wp2_with (first
        | (with_reducible refine wpList_store_obj rfl (.tmp 7) (.tmp 23) rfl wr.heap.size _ _ _ _ rfl rfl (heap_alloc_new wr _) (one_obj _ _ _ _) ?_)
        | fail)
      intro w2 h2 hb2 hk2 hs2
      have b02 := hb2 _ _ HBL.out.size (HBL.out.alloc HBL.out.size _)
      have b12 := hb2 _ _ (Nat.le_refl _) ((Below.refl _ wr).alloc (Nat.le_refl _) _)
      have P2 : PS w wr.heap.size k (.slice a' m mc) w2 := ⟨(b12.block _ (Array.getElem?_eq_some_iff.1 HOr.out).1).trans HOr.out, (b12.block _ (Array.getElem?_eq_some_iff.1 HAr.out).1).trans HAr.out, h2, b02⟩
      have HG := Lib.hid (show w.heap.size + 1 < wr.heap.size from (Array.getElem?_eq_some_iff.1 HAr.out).1)
      generalize wr.heap.size = g7 at P2 HG h2 ⊢
      obtain ⟨q0', q1'⟩ := cells2 P2.2.2.1
      have HP2 := Lib.hid P2
      clear h2 hb2 hk2 hs2 b02 b12 P2 HOr HAr HBL q0
      go_wp2_with fail
      refine (c1 _).mono ?_
      rintro e w3 ⟨rfl, b3⟩
      have HP3 := Lib.hid (HP2.out.keep b3)
      clear b3 q0' q1'
      by_cases hfit : m ≤ 65536
      · have c2 := head_is k HKK.out a' m mc hfit w3 (TB.out.keep HP3.out.2.2.2)
        have HFIT := Lib.hid hfit
        obtain ⟨hd, hhd⟩ : ∃ hd, headO k m ++ [0] = hd := ⟨_, rfl⟩
        have HHD := Lib.hid hhd
        rw [hhd] at c2
        obtain ⟨hl2, hhl⟩ : ∃ hl2, hd.length = hl2 := ⟨_, rfl⟩
        have HHL := Lib.hid hhl
        rw [hhl] at c2
        generalize thingV k (.slice a' m mc) = tv at c2 ⊢
        clear hfit hhd hhl
        go_wp2_with fail
        refine c2.mono ?_
        rintro e w4 ⟨g, cap, rfl, r4, hg4, b4⟩
        have P4 := HP3.out.keep b4
        have HP4 := Lib.hid P4
        obtain ⟨q0', q1'⟩ := cells2 P4.2.2.1
        have c3 := bEqual_any (some ⟨g, 0, none⟩) a hl2 en cap c hd hp w4 r4.bat (HBT.out w4 (HB.out.keep P4.2.2.2)).2 HHL.out.symm HHPL.out
        obtain ⟨r, hr⟩ : ∃ r, (hd == hp) = r := ⟨_, rfl⟩
        rw [hr] at c3
        have HRR := Lib.hid hr
        clear r4 hg4 b4 P4 c2 hr
        go_wp2_with fail
        refine c3.mono ?_
        rintro e w5 ⟨rfl, rfl⟩
        clear c3
        cases r with
        | false =>
          go_wp2
          go_round
          case rel =>
            refine ⟨i + 1, by omega, by go_num, notyet_more HNY.out (fun b hb e => ?_), HP4.out.1, HP4.out.2.1, HP4.out.2.2.2⟩
            rw [HK.out] at e
            obtain ⟨e1, e2⟩ := endO_of e
            rw [HEN.out] at e1 e2
            rw [HBD.out] at e1
            rw [HHP.out] at e2
            subst e1
            rw [← HBN.out, HHD.out] at e2
            have := HRR.out
            rw [e2] at this
            simp at this
          case measure => simp [intOf]; omega
        | true =>
          have c4 := bClone_any bd w4 a' m mc (HBT.out w4 (HB.out.keep HP4.out.2.2.2)).1 HBN.out HANE.out (by have := HMM.out; have := HBN.out; omega)
          have HC4 := Lib.hid c4
          clear c4
          go_wp2_with fail
          refine HC4.out.mono ?_
          rintro e w5 ⟨v5, rfl, r5, f5, b5⟩
          obtain ⟨va, vc, hv, _, _, _, _⟩ := r5.shape
          obtain ⟨vl, hvl⟩ : ∃ vl, bd.length = vl := ⟨_, rfl⟩
          rw [hvl] at hv
          subst hv
          have P5 := HP4.out.keep b5
          have q5 : w5.cell? ⟨g7, 1, none⟩ = some (.slice a' m mc) := (cells2 P5.2.2.1).2
          have z5 : w5.frozen? ⟨g7, 1, none⟩ = false := not_frozen P5.2.2.1 1
          have hg5 : g7 < w4.heap.size := (Array.getElem?_eq_some_iff.1 HP4.out.2.2.1).1
          have hgl := HG.out
          have P6 : PS w g7 k (.slice va vl vc) (w5.setCell ⟨g7, 1, none⟩ (.slice va vl vc)) :=
            ⟨(heap_setCell_other _ _ _ _ (by show w.heap.size ≠ g7; omega)).trans P5.1, (heap_setCell_other _ _ _ _ (by show w.heap.size + 1 ≠ g7; omega)).trans P5.2.1, (heap_set P5.2.2.1 1 _).trans rfl, P5.2.2.2.setCell (by show w.heap.size ≤ g7; omega) _⟩
          have hrow : ∀ u, (∀ j, j ≠ w.heap.size → u.heap[j]? = (w5.setCell ⟨g7, 1, none⟩ (.slice va vl vc)).heap[j]?) → Row u (.slice va vl vc) bd := fun u hu => r5.keep fun j hj => by
            have := f5 j hj
            rw [hu j (by omega), heap_setCell_other _ _ _ _ (by show j ≠ g7; omega)]
          have hft : ∀ j, foot (.slice va vl vc) = some j → w.heap.size ≤ j := fun j hj => by
            have := f5 j hj
            omega
          obtain ⟨q6, q7⟩ := cells2 P6.2.2.1
          have X0 := Lib.hid P6.1; have HP6 := Lib.hid P6; have HROW := Lib.hid hrow; have HFT := Lib.hid hft
          clear HC4 r5 f5 b5 hvl P5 P6 hrow hft hg5 hgl q0' q1'
          go_wp2_with (first
            | (with_reducible refine wpList_store_obj rfl (.tmp 2) (.tmp 43) rfl w.heap.size _ _ _ _ rfl rfl X0.out (one_obj _ _ _ _) ?_)
            | fail)
          intro w7 h7 hb7 hk7 hs7
          have HX := Lib.hid (And.intro h7 (And.intro (HROW.out w7 hk7) (hb7 _ _ (Nat.le_refl _) HP6.out.2.2.2)))
          clear h7 hb7 hk7 hs7
          go_wp2
          refine bodyPost_ret (results_obj Tryd.results11 _ _ w.heap.size _ (0, 0) _ rfl rfl HX.out.1 rfl) rfl ?_
          refine ⟨k, _, bd, 0, rfl, ?_⟩
          rw [HR.out]
          refine ⟨HX.out.2.1, HFT.out, parsed_some HKK.out (by have := HFIT.out; have := HBN.out; omega) ?_, HX.out.2.2⟩
          have e := eq_of_beq HRR.out
          rw [← HHD.out, HBN.out, ← HHP.out, ← HBD.out, ← HEN.out] at e
          have := endO_back e
          rw [HEN.out, HBD.out] at this
          exact this
      · have c2 := head_long k HKK.out a' m mc (by omega) (by have := HMM.out; omega) w3
        have HFIT := Lib.hid hfit
        generalize thingV k (.slice a' m mc) = tv at c2 ⊢
        clear hfit
        go_wp2_with fail
        refine c2.mono ?_
        rintro e w4 ⟨rfl, b4⟩
        have HP4 := Lib.hid (HP3.out.keep b4)
        clear b4 c2
        go_wp2
        go_round
        case rel =>
          refine ⟨i + 1, by omega, by go_num, notyet_more HNY.out (fun b hb e => ?_), HP4.out.1, HP4.out.2.1, HP4.out.2.2.2⟩
          rw [HK.out] at e
          obtain ⟨e1, e2⟩ := endO_of e
          rw [HEN.out, HBD.out] at e1
          subst e1
          exact HFIT.out (by rw [HBN.out]; exact hb)
        case measure => simp [intOf]; omega
    · have hi3' : i = 3 := by omega
      subst hi3'
      have ht := notyet_all HNY.out
      have HT := Lib.hid ht
      clear ht
      go_wp2_with (first
        | (with_reducible refine wpList_store_obj rfl (.tmp 2) (.tmp 45) rfl w.heap.size _ _ _ _ rfl rfl HOr.out (one_obj _ _ _ _) ?_)
        | fail)
      intro w2 h2 hb2 _ _
      have HX := Lib.hid (And.intro h2 (hb2 _ _ (Nat.le_refl _) HBL.out))
      clear h2 hb2
      go_wp2
      refine bodyPost_ret (results_obj Tryd.results11 _ _ w.heap.size _ (0, 0) _ rfl rfl HX.out.1 rfl) rfl ?_
      refine ⟨0, _, [], 4, rfl, ?_⟩
      rw [HR.out]
      exact ⟨Row.nil _ _, (fun g hg => by cases hg), parsed_none HT.out, HX.out.2⟩
end Go.Proofs.YtbcbbkdfdfgnfaaDoor
