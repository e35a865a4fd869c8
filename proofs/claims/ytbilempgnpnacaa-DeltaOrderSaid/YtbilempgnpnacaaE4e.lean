/-
  Layer 14, the program: Make.
-/
import Derived.Test.YtbilempgnpnacaaE4d
namespace Go.Proofs.Ytbilempgnpnacaa
set_option maxRecDepth 20000
open Go.RowKit
set_option linter.unusedVariables false
set_option linter.unusedSimpArgs false

/-- The edits that make one text of another; their bytes lie at a. -/
def madeL (l1 l2 : List UInt8) (a : Option Addr) (c : Nat) : List Edc :=
  if l1 = l2 then [] else [⟨fromL l1 l2, ((l1.length - tailL l1 l2 : Nat) : Int), .slice a (putL l1 l2).length c, putL l1 l2⟩]
set_option maxHeartbeats 8000000 in
theorem make_same (a1 a2 : Option Addr) (n1 n2 c1 c2 : Nat) (l : List UInt8) (w : World) (h1 : BAt w a1 l) (h2 : BAt w a2 l) (e1 : n1 = l.length) (e2 : n2 = l.length) (m1 : n1 ≤ 1000000) :
    Calls Try.prog 15 #[.slice a1 n1 c1, .slice a2 n2 c2] w fun e w' => e = .returned (.slice none 0 0) ∧ Below w.heap.size w w' := by
  have C := Lib.hid (diff_same a1 a2 n1 n2 c1 c2 l w h1 h2 e1 e2 m1)
  obtain ⟨z, hz, hzs, hzv, hzb, hz1⟩ := zEdit_any
  rw [← hz] at C
  have ZS := Lib.hid hzs; have Z1 := Lib.hid hz1; have IZ := Lib.hid (info_edit z hzs)
  clear h1 h2 e1 e2 m1 hz hzs hzb hz1
  go_enter Try.func15, Try.ntmps15
  go_wp2_with fail
  refine C.out.mono ?_
  rintro e w1 ⟨rfl, hb⟩
  have N1 := Lib.hid (heap_alloc_new w1 (.cells z 34))
  have B1 := Lib.hid (hb.alloc hb.size (.cells z 34))
  have G1 := Lib.hid hb.size
  clear hb C
  go_wp2_with (first
    | (with_reducible refine wpList_store_all rfl 34 (.tmp 5) (.tmp 11) rfl w1.heap.size z rfl rfl 34 z N1.out IZ.out rfl Z1.out ?_; intro w2 hg2 ho2 hs2)
    | fail)
  go_ret
  exact ⟨rfl, B1.out.trans (ho2.below (B := w.heap.size) G1.out B1.out.size)⟩
set_option maxHeartbeats 8000000 in
theorem make_other (a1 a2 : Option Addr) (n1 n2 c1 c2 : Nat) (l1 l2 : List UInt8) (w : World) (h1 : BAt w a1 l1) (h2 : BAt w a2 l2) (e1 : n1 = l1.length) (e2 : n2 = l2.length) (m1 : n1 ≤ 1000000) (m2 : n2 ≤ 1000000)
    (q1 : n1 ≤ c1) (q2 : n2 ≤ c2) (hno2 : a2 = none → n2 = 0 ∧ c2 = 0) (hne : l1 ≠ l2) :
    Calls Try.prog 15 #[.slice a1 n1 c1, .slice a2 n2 c2] w fun e w' => ∃ g a c, e = .returned (.slice (some ⟨g, 0, none⟩) 1 1) ∧
      EdAt w' (some ⟨g, 0, none⟩) (madeL l1 l2 a c) ∧ Below w.heap.size w w' := by
  have ML := Lib.hid (show ∀ a c, madeL l1 l2 a c = [⟨fromL l1 l2, ((n1 - tailL l1 l2 : Nat) : Int), .slice a (putL l1 l2).length c, putL l1 l2⟩] from fun a c => by unfold madeL; rw [if_neg hne, e1])
  have C := Lib.hid (diff_other a1 a2 n1 n2 c1 c2 l1 l2 w h1 h2 e1 e2 m1 m2 q1 q2 hno2 hne)
  obtain ⟨z, hz, hzs, hzv, hzb, hz1⟩ := zEdit_any
  have ZS := Lib.hid hzs
  clear h1 h2 e1 e2 m1 m2 q1 q2 hno2 hne hz hzb hz1 hzs
  generalize fromL l1 l2 = F at *
  generalize n1 - tailL l1 l2 = T at *
  generalize putL l1 l2 = B at *
  go_enter Try.func15, Try.ntmps15
  go_wp2_with fail
  refine C.out.mono ?_
  rintro e w1 ⟨av, cv, rfl, hr, hf, hb⟩
  obtain ⟨E, hE⟩ : ∃ E, arrDl (F : Int) (T : Int) (.slice av B.length cv) = E := ⟨_, rfl⟩
  rw [hE]
  have E1 := Lib.hid (show E.all (·.oneCell') = true by rw [← hE]; exact arrDl_one _ _ _ _ _)
  have E3 := Lib.hid (show E.size = 3 by rw [← hE]; rfl)
  have IE := Lib.hid (info_edit E E3.out)
  have SZ := Lib.hid (show E.size = z.size by rw [E3.out, ZS.out])
  have HE := Lib.hid hE
  have N1 := Lib.hid (heap_alloc_new w1 (.cells z 34))
  have B1 := Lib.hid (hb.alloc hb.size (.cells z 34))
  have HR := Lib.hid (hr.red.below ((Below.refl w1.heap.size w1).alloc (Nat.le_refl _) (.cells z 34)) (Nat.le_refl _))
  have G1 := Lib.hid hb.size
  have H1 := Lib.hid hr.red
  clear hb hr hf hE C
  go_wp2_with (first
    | (with_reducible refine wpList_store_all rfl 34 (.tmp 5) (.tmp 11) rfl w1.heap.size E rfl rfl 34 z N1.out IE.out SZ.out E1.out ?_; intro w2 hg2 ho2 hs2; have N2 := Lib.hid hg2; clear hg2 hzv)
    | (with_reducible refine wpList_load_all 34 (.tmp 5) rfl (by kernel_rfl) w1.heap.size E 34 (0, 0) rfl N2.out _ Try.underlying34 rfl IE.out ?_)
    | (with_reducible refine wpList_build_oneE rfl (.tmp 15) rfl E E3.out rfl ?_)
    | fail)
  go_ret
  have B2 := B1.out.trans (ho2.below (B := w.heap.size) G1.out B1.out.size)
  have B3 := B2.alloc B2.size (.cells E 34)
  have RB : Below w1.heap.size w1 (w2.alloc (.cells E 34)) := by
    have q := ((Below.refl w1.heap.size w1).alloc (Nat.le_refl _) (.cells z 34)).trans (ho2.below (B := w1.heap.size) (Nat.le_refl _) (by simp))
    exact q.alloc q.size _
  have e2 : w2.heap.size = w1.heap.size + 1 := by rw [hs2]; simp
  refine ⟨w1.heap.size + 1, av, cv, rfl, ?_, B3⟩
  rw [ML.out, ← e2]
  refine ⟨rowR_one (R := rowDl) (P := Try.prog) goodDl (t := 34) (fr := (0, 0)) ?_, fun e he => ?_⟩
  · rw [heap_alloc_new, ← HE.out]; rfl
  · obtain rfl : e = _ := by simpa using he
    exact H1.out.below RB (Nat.le_refl _)
theorem Make_is (a1 a2 : Option Addr) (n1 n2 c1 c2 : Nat) (l1 l2 : List UInt8) (w : World) (h1 : BAt w a1 l1) (h2 : BAt w a2 l2) (e1 : n1 = l1.length) (e2 : n2 = l2.length) (m1 : n1 ≤ 1000000) (m2 : n2 ≤ 1000000)
    (q1 : n1 ≤ c1) (q2 : n2 ≤ c2) (hno2 : a2 = none → n2 = 0 ∧ c2 = 0) :
    Calls Try.prog 15 #[.slice a1 n1 c1, .slice a2 n2 c2] w fun e w' => ∃ ao k a c, e = .returned (.slice ao k k) ∧ k = (madeL l1 l2 a c).length ∧ (ao = none → k = 0) ∧ EdAt w' ao (madeL l1 l2 a c) ∧ Below w.heap.size w w' := by
  by_cases h : l1 = l2
  · subst h
    refine (make_same a1 a2 n1 n2 c1 c2 l1 w h1 h2 e1 e2 m1).mono ?_
    rintro e w' ⟨rfl, hb⟩
    have hm : madeL l1 l1 none 0 = [] := by unfold madeL; rw [if_pos rfl]
    exact ⟨none, 0, none, 0, rfl, by rw [hm]; rfl, fun _ => rfl, by rw [hm]; exact ⟨RowAt.nil _ _, fun e he => by cases he⟩, hb⟩
  · refine (make_other a1 a2 n1 n2 c1 c2 l1 l2 w h1 h2 e1 e2 m1 m2 q1 q2 hno2 h).mono ?_
    rintro e w' ⟨g, a, c, rfl, he, hb⟩
    exact ⟨_, 1, a, c, rfl, by unfold madeL; rw [if_neg h]; rfl, fun h => (by cases h), he, hb⟩
end Go.Proofs.Ytbilempgnpnacaa
