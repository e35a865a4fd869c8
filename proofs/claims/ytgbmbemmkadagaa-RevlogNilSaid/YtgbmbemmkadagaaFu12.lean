/-
  Texts that belong together, one behind the other.
-/
import Derived.Test.YtgbmbemmkadagaaFu11
/-
  Layer 14, the program: the edit between two texts.
-/
namespace Go.Proofs.Ytgbmbemmkadagaa
set_option maxRecDepth 20000
open Go.RowKit
set_option linter.unusedVariables false
set_option linter.unusedSimpArgs false

theorem zEdit_any : ∃ z : Array Value, z = arrDl 0 0 (.slice none 0 0) ∧ z.size = 3 ∧ (∀ w, (zeroValue 93).run Try.prog w = .ok (.agg z) w) ∧ Try.prog.built 93 [] = some z ∧ z.all (·.oneCell') = true :=
  ⟨arrDl 0 0 (.slice none 0 0), rfl, rfl, zero_arr zEdit, builtEdit0, arrDl_one _ _ _ _ _⟩
theorem info_edit (z : Array Value) (h : z.size = 3) : (Try.prog.info? 93).map (·.size) = some z.size := by rw [h]; exact infoEdit
set_option maxHeartbeats 8000000 in
theorem diff_same (a1 a2 : Option Addr) (n1 n2 c1 c2 : Nat) (l : List UInt8) (w : World) (h1 : BAt w a1 l) (h2 : BAt w a2 l) (e1 : n1 = l.length) (e2 : n2 = l.length) (m1 : n1 ≤ 1000000) :
    Calls Try.prog 49 #[.slice a1 n1 c1, .slice a2 n2 c2] w fun e w' => e = .returned (.tuple #[.agg (arrDl 0 0 (.slice none 0 0)), .bool false]) ∧ Below w.heap.size w w' := by
  obtain ⟨z, hz, hzs, hzv, hzb, hz1⟩ := zEdit_any
  rw [← hz]
  have b1 := (Below.refl w.heap.size w).alloc (Nat.le_refl _) (.cells z 93)
  have C := cStart_is a1 a2 n1 n2 c1 c2 l l _ (h1.keep b1) (h2.keep b1) e1 e2 m1 (by omega)
  rw [(comL_all.1 rfl).1, ← e1] at C
  have CS := Lib.hid C
  have N0 := Lib.hid (heap_alloc_new w (.cells z 93))
  have ZB := Lib.hid hzb; have ZS := Lib.hid hzs; have Z1 := Lib.hid hz1; have IZ := Lib.hid (info_edit z hzs)
  have B1 := Lib.hid b1
  have e12 : n2 = n1 := by omega
  subst e12
  clear h1 h2 e1 e2 C b1 hz hzs hzb hz1
  go_enter Try.func49, Try.ntmps49
  go_wp2_with fail
  refine CS.out.mono ?_
  rintro e w1 ⟨rfl, hb⟩
  have N1 := Lib.hid ((hb.block _ (lt_of_heap N0.out)).trans N0.out)
  have B2 := Lib.hid (B1.out.trans (hb.mono B1.out.size))
  clear hb CS N0 B1
  go_wp2_with (first
    | (refine wpList_build_none rfl 93 rfl z ZB.out ?_)
    | (with_reducible refine wpList_store_all rfl 93 (.tmp 4) (.tmp 21) rfl w.heap.size z rfl rfl 93 z N1.out IZ.out rfl Z1.out ?_; intro w2 hg2 ho2 hs2)
    | fail)
  have FIN := Lib.hid (B2.out.trans (ho2.below (B := w.heap.size) (Nat.le_refl _) B2.out.size))
  refine bodyPost_ret (results_edit Try.results49 _ _ w.heap.size z (0, 0) _ rfl rfl hg2 ZS.out) rfl ⟨rfl, FIN.out⟩
set_option maxHeartbeats 16000000 in
theorem diff_other (a1 a2 : Option Addr) (n1 n2 c1 c2 : Nat) (l1 l2 : List UInt8) (w : World) (h1 : BAt w a1 l1) (h2 : BAt w a2 l2) (e1 : n1 = l1.length) (e2 : n2 = l2.length) (m1 : n1 ≤ 1000000) (m2 : n2 ≤ 1000000)
    (q1 : n1 ≤ c1) (q2 : n2 ≤ c2) (hno2 : a2 = none → n2 = 0 ∧ c2 = 0) (hne : l1 ≠ l2) :
    Calls Try.prog 49 #[.slice a1 n1 c1, .slice a2 n2 c2] w fun e w' => ∃ a c, e = .returned (.tuple #[.agg (arrDl (fromL l1 l2) ((n1 - tailL l1 l2 : Nat) : Int) (.slice a (putL l1 l2).length c)), .bool true]) ∧
      Row w' (.slice a (putL l1 l2).length c) (putL l1 l2) ∧ (∀ g, foot (.slice a (putL l1 l2).length c) = some g → w.heap.size ≤ g) ∧ Below w.heap.size w w' := by
  obtain ⟨z, hz, hzs, hzv, hzb, hz1⟩ := zEdit_any
  have b1 := (Below.refl w.heap.size w).alloc (Nat.le_refl _) (.cells z 93)
  have C := cStart_is a1 a2 n1 n2 c1 c2 l1 l2 _ (h1.keep b1) (h2.keep b1) e1 e2 m1 m2
  have htl := tail_le l1 l2
  have hpl := putL_len l1 l2
  obtain ⟨F, hF⟩ : ∃ F, fromL l1 l2 = F := ⟨_, rfl⟩
  obtain ⟨T, hT⟩ : ∃ T, tailL l1 l2 = T := ⟨_, rfl⟩
  rw [show comL l1 l2 = F from hF] at C
  have hnf : ¬ (F = n1 ∧ F = n2) := fun h => hne (comL_all.2 ⟨by rw [← e1, ← h.1]; exact hF, by rw [← e2, ← h.2]; exact hF⟩)
  obtain ⟨A1, hA1⟩ : ∃ A, (if c1 = F then a1 else a1.map (·.add F)) = A := ⟨_, rfl⟩
  obtain ⟨A2, hA2⟩ : ∃ A, (if c2 = F then a2 else a2.map (·.add F)) = A := ⟨_, rfl⟩
  rw [hF, hT, ← e1, ← e2] at htl
  rw [hF, hT, ← e2] at hpl
  have k1 : ∀ u, Below w.heap.size w u → BAt u A1 (l1.drop F) := fun u hu => by rw [← hA1]; exact bat_drop (h1.keep hu) c1 F (by omega) (by omega)
  have k2 : ∀ u, Below w.heap.size w u → BAt u A2 (l2.drop F) := fun u hu => by rw [← hA2]; exact bat_drop (h2.keep hu) c2 F (by omega) (by omega)
  have CE := fun u (hu : Below w.heap.size w u) => cEnd_is A1 A2 (n1 - F) (n2 - F) (c1 - F) (c2 - F) (l1.drop F) (l2.drop F) u (k1 u hu) (k2 u hu) (by rw [List.length_drop]; omega) (by rw [List.length_drop]; omega) (by omega) (by omega)
  rw [show endL (l1.drop F) (l2.drop F) = T by rw [← hF]; exact hT] at CE
  have k3 : ∀ u, Below w.heap.size w u → BAt u A2 (putL l1 l2) := fun u hu => by
    unfold putL
    rw [hF, hT, ← hA2]
    exact bat_mid (h2.keep hu) c2 F (l2.length - T) (by omega) (by omega) (by omega)
  have CC := fun u (hu : Below w.heap.size w u) => bClone_any (putL l1 l2) u A2 (n2 - T - F) (c2 - F) (k3 u hu) (by omega) (fun h => no_mid (m := n2 - T) hno2 (by omega) (by omega) (by rw [hA2]; exact h)) (by omega)
  have s1 := fun u => slice_u8_l u a1 n1 c1 F (by omega) F rfl
  have s2 := fun u => slice_u8_l u a2 n2 c2 F (by omega) F rfl
  have s3 := fun u => slice_u8_lh u a2 n2 c2 F (n2 - T) (by omega) (by omega) F ((n2 - T : Nat) : Int) rfl rfl
  rw [hA1] at s1
  rw [hA2] at s2 s3
  have CS := Lib.hid C; have HCE := Lib.hid CE; have HCC := Lib.hid CC; have HPL := Lib.hid hpl
  have N0 := Lib.hid (heap_alloc_new w (.cells z 93))
  have ZB := Lib.hid hzb; have ZS := Lib.hid hzs; have Z1 := Lib.hid hz1
  have B1 := Lib.hid b1
  have i1 : (n1 : Int) - T = ((n1 - T : Nat) : Int) := by omega
  have i2 : (n2 : Int) - T = ((n2 - T : Nat) : Int) := by omega
  have x1 : T ≤ n1 := by omega
  have x2 : T ≤ n2 := by omega
  rw [hF, hT]
  generalize putL l1 l2 = B at *
  have HNF := Lib.hid hnf; have HA := Lib.hid (And.intro hA1 hA2); have HTL := Lib.hid htl
  clear h1 h2 e1 e2 C CE CC b1 hz hzs hzb hz1 hne hA1 hA2 k1 k2 k3 hF hT hpl hno2 hnf
  have hc : (((F : Int) == (n1 : Int)) = false) ∨ (((F : Int) == (n1 : Int)) = true ∧ ((F : Int) == (n2 : Int)) = false) := by
    have := HNF.out
    by_cases h : F = n1
    · right
      subst h
      exact ⟨by simp, by rw [beq_eq_false_iff_ne]; omega⟩
    · left
      rw [beq_eq_false_iff_ne]; omega
  rcases hc with hc | ⟨hc, hc2⟩
  all_goals
    clear htl
    go_enter Try.func49, Try.ntmps49
    go_wp2_with fail
    refine CS.out.mono ?_
    rintro e w1 ⟨rfl, hb⟩
    have K0 : KeepD w.heap.size z 93 w w1 := ⟨B1.out.trans (hb.mono B1.out.size), (hb.block _ (lt_of_heap N0.out)).trans N0.out⟩
    have K1 := K0.drew
    have HK1 := Lib.hid K1
    clear hb K0
    have DE := Lib.hid (fun u (hu : KeepD w.heap.size z 93 w u) => ((HCE.out u hu.1).mono (fun e u' ⟨he, hb⟩ => ⟨he, hu.keep hb⟩) : Calls Try.prog 55 #[.slice A1 (n1 - F) (c1 - F), .slice A2 (n2 - F) (c2 - F)] u fun e u' => e = .returned (.int .i64 (T : Int)) ∧ KeepD w.heap.size z 93 w u'))
    go_wp2_with fail
    go_region_held3 (fun u => KeepD w.heap.size z 93 w u) (assumption)
      (first | (go_at_call 55; refine (DE.out _ (by assumption)).mono ?_; rintro e w' ⟨rfl, hS⟩))
    have K2 := Lib.hid hS
    have CC2 := Lib.hid (HCC.out _ hS.1)
    clear hS K1 DE CS N0 s1 s2
    go_wp2_with fail
    refine CC2.out.mono ?_
    rintro e w3 ⟨v, rfl, hr, hf, hb⟩
    have K3 := Lib.hid (K2.out.keep hb)
    obtain ⟨av, cv, hv, -⟩ := hr.shape
    subst hv
    have HR := Lib.hid hr; have HF := Lib.hid (fun g hg => Nat.lt_of_lt_of_le (lt_of_heap K2.out.2) (hf g hg))
    obtain ⟨E, hE⟩ : ∃ E, arrDl (F : Int) ((n1 - T : Nat) : Int) (.slice av B.length cv) = E := ⟨_, rfl⟩
    have E1 := Lib.hid (show E.all (·.oneCell') = true by rw [← hE]; exact arrDl_one _ _ _ _ _)
    have E3 := Lib.hid (show E.size = 3 by rw [← hE]; rfl)
    have IE := Lib.hid (info_edit E E3.out)
    have HE := Lib.hid hE
    have G3 := Lib.hid K3.out.2
    have SZ := Lib.hid (show E.size = z.size by rw [E3.out, ZS.out])
    clear hr hf hb hE CC2 hzv
    go_wp2_with (first
      | (refine wpList_build_edit rfl (.tmp 29) (.tmp 33) (.tmp 41) rfl (F : Int) ((n1 - T : Nat) : Int) av B.length cv rfl rfl rfl E HE.out ?_)
      | (with_reducible refine wpList_store_all rfl 93 (.tmp 4) (.tmp 42) rfl w.heap.size E rfl rfl 93 z G3.out IE.out SZ.out E1.out ?_; intro w4 hg4 ho4 hs4)
      | fail)
    have R4 := Lib.hid (HR.out.keep fun g hg => ho4.block g (HR.out.lt g hg) (fun e => absurd (HF.out g hg) (by rw [e]; exact Nat.lt_irrefl _)))
    have FIN := Lib.hid (K3.out.1.trans (ho4.below (B := w.heap.size) (Nat.le_refl _) K3.out.1.size))
    refine bodyPost_ret (results_edit Try.results49 _ _ w.heap.size E (0, 0) _ rfl rfl hg4 E3.out) rfl ⟨av, cv, by rw [HE.out]; rfl, R4.out, fun g hg => Nat.le_of_lt (HF.out g hg), FIN.out⟩
end Go.Proofs.Ytgbmbemmkadagaa

/-
  Layer 14, the program: Make.
-/
namespace Go.Proofs.Ytgbmbemmkadagaa
set_option maxRecDepth 20000
open Go.RowKit
set_option linter.unusedVariables false
set_option linter.unusedSimpArgs false

/-- The edits that make one text of another; their bytes lie at a. -/
def madeL (l1 l2 : List UInt8) (a : Option Addr) (c : Nat) : List Edc :=
  if l1 = l2 then [] else [⟨fromL l1 l2, ((l1.length - tailL l1 l2 : Nat) : Int), .slice a (putL l1 l2).length c, putL l1 l2⟩]
set_option maxHeartbeats 8000000 in
theorem make_same (a1 a2 : Option Addr) (n1 n2 c1 c2 : Nat) (l : List UInt8) (w : World) (h1 : BAt w a1 l) (h2 : BAt w a2 l) (e1 : n1 = l.length) (e2 : n2 = l.length) (m1 : n1 ≤ 1000000) :
    Calls Try.prog 46 #[.slice a1 n1 c1, .slice a2 n2 c2] w fun e w' => e = .returned (.slice none 0 0) ∧ Below w.heap.size w w' := by
  have C := Lib.hid (diff_same a1 a2 n1 n2 c1 c2 l w h1 h2 e1 e2 m1)
  obtain ⟨z, hz, hzs, hzv, hzb, hz1⟩ := zEdit_any
  rw [← hz] at C
  have ZS := Lib.hid hzs; have Z1 := Lib.hid hz1; have IZ := Lib.hid (info_edit z hzs)
  clear h1 h2 e1 e2 m1 hz hzs hzb hz1
  go_enter Try.func46, Try.ntmps46
  go_wp2_with fail
  refine C.out.mono ?_
  rintro e w1 ⟨rfl, hb⟩
  have N1 := Lib.hid (heap_alloc_new w1 (.cells z 93))
  have B1 := Lib.hid (hb.alloc hb.size (.cells z 93))
  have G1 := Lib.hid hb.size
  clear hb C
  go_wp2_with (first
    | (with_reducible refine wpList_store_all rfl 93 (.tmp 5) (.tmp 11) rfl w1.heap.size z rfl rfl 93 z N1.out IZ.out rfl Z1.out ?_; intro w2 hg2 ho2 hs2)
    | fail)
  go_ret
  exact ⟨rfl, B1.out.trans (ho2.below (B := w.heap.size) G1.out B1.out.size)⟩
set_option maxHeartbeats 8000000 in
theorem make_other (a1 a2 : Option Addr) (n1 n2 c1 c2 : Nat) (l1 l2 : List UInt8) (w : World) (h1 : BAt w a1 l1) (h2 : BAt w a2 l2) (e1 : n1 = l1.length) (e2 : n2 = l2.length) (m1 : n1 ≤ 1000000) (m2 : n2 ≤ 1000000)
    (q1 : n1 ≤ c1) (q2 : n2 ≤ c2) (hno2 : a2 = none → n2 = 0 ∧ c2 = 0) (hne : l1 ≠ l2) :
    Calls Try.prog 46 #[.slice a1 n1 c1, .slice a2 n2 c2] w fun e w' => ∃ g a c, e = .returned (.slice (some ⟨g, 0, none⟩) 1 1) ∧
      EdAt w' (some ⟨g, 0, none⟩) (madeL l1 l2 a c) ∧ (w.heap.size ≤ g ∧ Row w' (.slice a (putL l1 l2).length c) (putL l1 l2) ∧ ∀ k, foot (.slice a (putL l1 l2).length c) = some k → w.heap.size ≤ k) ∧ Below w.heap.size w w' := by
  have ML := Lib.hid (show ∀ a c, madeL l1 l2 a c = [⟨fromL l1 l2, ((n1 - tailL l1 l2 : Nat) : Int), .slice a (putL l1 l2).length c, putL l1 l2⟩] from fun a c => by unfold madeL; rw [if_neg hne, e1])
  have C := Lib.hid (diff_other a1 a2 n1 n2 c1 c2 l1 l2 w h1 h2 e1 e2 m1 m2 q1 q2 hno2 hne)
  obtain ⟨z, hz, hzs, hzv, hzb, hz1⟩ := zEdit_any
  have ZS := Lib.hid hzs
  clear h1 h2 e1 e2 m1 m2 q1 q2 hno2 hne hz hzb hz1 hzs
  generalize fromL l1 l2 = F at *
  generalize n1 - tailL l1 l2 = T at *
  generalize putL l1 l2 = B at *
  go_enter Try.func46, Try.ntmps46
  go_wp2_with fail
  refine C.out.mono ?_
  rintro e w1 ⟨av, cv, rfl, hr, hf, hb⟩
  obtain ⟨E, hE⟩ : ∃ E, arrDl (F : Int) (T : Int) (.slice av B.length cv) = E := ⟨_, rfl⟩
  rw [hE]
  have E1 := Lib.hid (show E.all (·.oneCell') = true by rw [← hE]; exact arrDl_one _ _ _ _ _)
  have E3 := Lib.hid (show E.size = 3 by rw [← hE]; rfl)
  have IE := Lib.hid (info_edit E E3.out)
  have SZ := Lib.hid (show E.size = z.size by rw [E3.out, ZS.out])
  have HE := Lib.hid hE
  have N1 := Lib.hid (heap_alloc_new w1 (.cells z 93))
  have B1 := Lib.hid (hb.alloc hb.size (.cells z 93))
  have HR := Lib.hid (hr.red.below ((Below.refl w1.heap.size w1).alloc (Nat.le_refl _) (.cells z 93)) (Nat.le_refl _))
  have G1 := Lib.hid hb.size
  have H1 := Lib.hid hr.red
  have H1r := Lib.hid hr; have HFt := Lib.hid hf
  clear hb hr hf hE C
  go_wp2_with (first
    | (with_reducible refine wpList_store_all rfl 93 (.tmp 5) (.tmp 11) rfl w1.heap.size E rfl rfl 93 z N1.out IE.out SZ.out E1.out ?_; intro w2 hg2 ho2 hs2; have N2 := Lib.hid hg2; clear hg2 hzv)
    | (with_reducible refine wpList_load_all 93 (.tmp 5) rfl (by kernel_rfl) w1.heap.size E 93 (0, 0) rfl N2.out _ Try.underlying93 rfl IE.out ?_)
    | (with_reducible refine wpList_build_oneE rfl (.tmp 15) rfl E E3.out rfl ?_)
    | fail)
  go_ret
  have B2 := B1.out.trans (ho2.below (B := w.heap.size) G1.out B1.out.size)
  have B3 := B2.alloc B2.size (.cells E 93)
  have RB : Below w1.heap.size w1 (w2.alloc (.cells E 93)) := by
    have q := ((Below.refl w1.heap.size w1).alloc (Nat.le_refl _) (.cells z 93)).trans (ho2.below (B := w1.heap.size) (Nat.le_refl _) (by simp))
    exact q.alloc q.size _
  have e2 : w2.heap.size = w1.heap.size + 1 := by rw [hs2]; simp
  refine ⟨w1.heap.size + 1, av, cv, rfl, ?_, ⟨by have := G1.out; omega, H1r.out.chg (S := fun _ => False) (Chg.of_below RB) (fun _ _ h => h), HFt.out⟩, B3⟩
  rw [ML.out, ← e2]
  refine ⟨rowR_one (R := rowDl) (P := Try.prog) goodDl (t := 93) (fr := (0, 0)) ?_, fun e he => ?_⟩
  · rw [heap_alloc_new, ← HE.out]; rfl
  · obtain rfl : e = _ := by simpa using he
    exact H1.out.below RB (Nat.le_refl _)
theorem Make_is (a1 a2 : Option Addr) (n1 n2 c1 c2 : Nat) (l1 l2 : List UInt8) (w : World) (h1 : BAt w a1 l1) (h2 : BAt w a2 l2) (e1 : n1 = l1.length) (e2 : n2 = l2.length) (m1 : n1 ≤ 1000000) (m2 : n2 ≤ 1000000)
    (q1 : n1 ≤ c1) (q2 : n2 ≤ c2) (hno2 : a2 = none → n2 = 0 ∧ c2 = 0) :
    Calls Try.prog 46 #[.slice a1 n1 c1, .slice a2 n2 c2] w fun e w' => ∃ ao k a c, e = .returned (.slice ao k k) ∧ k = (madeL l1 l2 a c).length ∧ (ao = none → k = 0) ∧ EdAt w' ao (madeL l1 l2 a c) ∧ Below w.heap.size w w' := by
  by_cases h : l1 = l2
  · subst h
    refine (make_same a1 a2 n1 n2 c1 c2 l1 w h1 h2 e1 e2 m1).mono ?_
    rintro e w' ⟨rfl, hb⟩
    have hm : madeL l1 l1 none 0 = [] := by unfold madeL; rw [if_pos rfl]
    exact ⟨none, 0, none, 0, rfl, by rw [hm]; rfl, fun _ => rfl, by rw [hm]; exact ⟨RowAt.nil _ _, fun e he => by cases he⟩, hb⟩
  · refine (make_other a1 a2 n1 n2 c1 c2 l1 l2 w h1 h2 e1 e2 m1 m2 q1 q2 hno2 h).mono ?_
    rintro e w' ⟨g, a, c, rfl, he, -, hb⟩
    exact ⟨_, 1, a, c, rfl, by unfold madeL; rw [if_neg h]; rfl, fun h => (by cases h), he, hb⟩
end Go.Proofs.Ytgbmbemmkadagaa
