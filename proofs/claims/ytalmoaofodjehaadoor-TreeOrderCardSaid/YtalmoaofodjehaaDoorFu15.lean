/-
  Texts that belong together, one behind the other.
-/
import Derived.Test.YtalmoaofodjehaaDoorFu14
import Derived.Test.YtalmoaofodjehaaDoorFu12
import Derived.Test.YtalmoaofodjehaaDoorFu02
import Derived.OwnWalk
import Derived.WalkSmall
import Derived.IntWalk
import Derived.Test.YtalmoaofodjehaaDoorFu13
/-
  Layer 8: Right of the document's answers, whatever comes.
-/
namespace Go.Proofs.YtalmoaofodjehaaDoor
set_option maxRecDepth 20000
open Go.RowKit
set_option linter.unusedVariables false
set_option linter.unusedSimpArgs false

set_option maxHeartbeats 2000000 in
theorem rRight_is (a : Option Addr) (n c : Nat) (l : List Itm) (w : World) (hn : n = l.length) (hm : n ≤ maxLen) (hit : ItemsAt w a l) (hid : ∀ i ∈ l, i.id.length = 20) (hnm : ∀ i ∈ l, i.name.length ≤ 1000000) (tab : QTab w) :
    Calls Tryd.prog 18 #[.slice a n c] w fun e w' => e = .returned (.bool (rightI l)) ∧ Below w.heap.size w w' := by
  unfold maxLen at hm
  by_cases h1 : n < 1
  · have hR := right_no_len l (.inl (by omega))
    rw [hR]
    have g1 : (n : Int) < 1 := by omega
    clear hn hm hit hid hnm tab hR h1
    go_enter Tryd.func18, Tryd.ntmps18
    go_wp2
    go_ret
    exact ⟨rfl, Below.refl _ _⟩
  · by_cases h5 : 500 < n
    · have hR := right_no_len l (.inr (by omega))
      rw [hR]
      have g1 : ¬ (n : Int) < 1 := by omega
      have g2 : (n : Int) > 500 := by omega
      clear hn hit hid hnm tab hR h1 h5
      go_enter Tryd.func18, Tryd.ntmps18
      go_wp2
      go_ret
      exact ⟨rfl, Below.refl _ _⟩
    · obtain ⟨b, o, rfl, hb, hc⟩ := hit (by omega)
      exact rRight_some b o n c l w hn (by omega) (by omega) hb hc hid hnm tab
end Go.Proofs.YtalmoaofodjehaaDoor

/-
  Layer 8: Print of the document's answers.
-/
namespace Go.Proofs.YtalmoaofodjehaaDoor
set_option maxRecDepth 20000
open Go.RowKit
set_option linter.unusedVariables false
set_option linter.unusedSimpArgs false

set_option maxHeartbeats 16000000 in
theorem rPrint_some (b o n c : Nat) (l : List Itm) (w : World) (hn : n = l.length) (h1 : 1 ≤ n) (hm : n ≤ maxLen) (hbl : b < w.heap.size)
    (hc : ∀ k (h : k < l.length) j v, (cellsI l[k])[j]? = some v → w.cell? ⟨b, o + k * 22 + j, none⟩ = some v) (hid : ∀ i ∈ l, i.id.length = 20) (hnm : ∀ i ∈ l, i.name.length ≤ 1000000) (tab : QTab w) :
    Calls Tryd.prog 14 #[.slice (some ⟨b, o, none⟩) n c] w fun e w' => ∃ v, e = .returned (.tuple #[v, .int .i64 (printT l).2]) ∧ Red w' v (printT l).1 ∧ Below w.heap.size w w' := by
  have cR := rRight_is (some ⟨b, o, none⟩) n c l w hn hm (fun _ => ⟨b, o, rfl, hbl, hc⟩) hid hnm tab
  have g1 : (n : Int) > 0 := by omega
  have HN := Lib.hid hn; have HC := Lib.hid hc; have HID := Lib.hid hid
  obtain ⟨P, hP⟩ : ∃ P, printT l = P := ⟨_, rfl⟩
  have HP := Lib.hid hP
  rw [hP]
  cases hr : rightI l with
  | false =>
    rw [hr] at cR
    have hp := (HP.out.symm.trans (printT_bad (by omega) hr))
    subst hp
    clear hn hc hid hnm tab hP hr
    go_enter Tryd.func14, Tryd.ntmps14
    go_wp2_with fail
    refine cR.mono ?_
    rintro e w1 ⟨rfl, b1⟩
    have B1 := Lib.hid b1
    clear b1
    go_wp2
    go_ret2
    exact ⟨_, rfl, Red.none _, B1.out⟩
  | true =>
    rw [hr] at cR
    have h5 := ((right_iff l).1 hr).2.1
    have HP2 := Lib.hid (HP.out.symm.trans (printT_good (.inr hr)))
    have HONE := Lib.hid (right_one hr)
    have hn5 : n ≤ 500 := by omega
    clear hn hc hid hnm tab hP hr h5
    go_enter Tryd.func14, Tryd.ntmps14
    go_wp2_with fail
    refine cR.mono ?_
    rintro e w1 ⟨rfl, b1⟩
    have B1 := Lib.hid b1
    clear b1 cR
    go_wp2_with fail
    go_loopw [4, 5] (fun v4 v17 wr => ∃ i : Nat, i ≤ n ∧ v17 = .int .i64 i ∧ OwnF w.heap.size v4 (flatI (l.take i)) wr ∧ Below w.heap.size w wr) (fun _ v17 _ => n - (intOf v17).toNat)
    case atStart => exact ⟨0, Nat.zero_le _, rfl, World.ownsRowF_nil w1 _ _ _, B1.out⟩
    case round =>
      obtain ⟨i, hi, rfl, hown, hbr⟩ := hrel
      have HOWN := Lib.hid hown
      have HBR := Lib.hid hbr
      clear hown hbr
      by_cases hlt : i < n
      · have hil : i < l.length := by rw [← HN.out]; exact hlt
        obtain ⟨x, hx2⟩ : ∃ x, l[i] = x := ⟨_, rfl⟩
        have hxm : x ∈ l := by rw [← hx2]; exact List.getElem_mem _
        have hidx := HID.out x hxm
        obtain ⟨o1, o2, o3⟩ := one_parts (HONE.out x hxm)
        have rx : ∀ u, Below w.heap.size w u → u.rangeAt b (o + i * 22) (cellsI x) := fun u hu j v hv => (hu.cell (p := ⟨b, o + i * 22 + j, none⟩) hbl).trans (HC.out i hil j v (by rw [hx2]; exact hv))
        have q0 : wr.cell? ⟨b, o + i * 22, none⟩ = some (.int .i64 x.mode) := rx wr HBR.out 0 _ rfl
        have q1 : wr.cell? ⟨b, o + i * 22 + 1, none⟩ = some (.string ⟨x.name.toArray⟩) := rx wr HBR.out 1 _ rfl
        have HFN := Lib.hid (show flatI (l.take (i + 1)) = flatI (l.take i) ++ (wordI x.mode ++ [32] ++ x.name ++ [0]) ++ x.id by rw [flat_next l i hil, hx2, print_cut x ⟨o2, o3⟩]; simp only [List.append_assoc])
        have fle : (flatI (l.take i)).length ≤ 430 * 500 := by
          have := flat_le (l := l.take i) (fun j hj => HONE.out j (List.mem_of_mem_take hj)) (fun j hj => HID.out j (List.mem_of_mem_take hj))
          rw [List.length_take] at this; omega
        have RX := Lib.hid rx
        have hwy := word_yes x.mode ⟨o2, o3⟩
        have cW : ∀ u, Calls Tryd.prog 28 #[.int .i64 x.mode] u fun e u' => e = .returned (.string ⟨(wordI x.mode).toArray⟩) ∧ u' = u := fun u => by
          rw [hwy]; exact (mode_is x.mode u).mono fun e u' h => ⟨h.1, h.2.symm⟩
        have hwl : (wordI x.mode).length ≤ 6 := by rw [word_yes _ ⟨o2, o3⟩]; exact (modeL_len _).2
        have a1 := fun u => add_lists (P := Tryd.prog) u (wordI x.mode) [32] (by simp; omega)
        have a2 := fun u => add_lists (P := Tryd.prog) u (wordI x.mode ++ [32]) x.name (by simp; omega)
        have a3 := fun u => add_lists (P := Tryd.prog) u (wordI x.mode ++ [32] ++ x.name) [0] (by simp; omega)
        obtain ⟨pre, hpre⟩ : ∃ pre, wordI x.mode ++ [32] ++ x.name ++ [0] = pre := ⟨_, rfl⟩
        have hpl : pre.length ≤ 410 := by rw [← hpre]; simp; omega
        rw [hpre] at a3 HFN
        have HPL := Lib.hid hpl
        have FLE := Lib.hid fle
        have HIDX := Lib.hid hidx
        have HPRE := Lib.hid hpre
        generalize (⟨(wordI x.mode ++ [32] ++ x.name).toArray⟩ : ByteArray) = s3 at a2 a3
        generalize (⟨(wordI x.mode ++ [32]).toArray⟩ : ByteArray) = s2 at a1 a2
        generalize (⟨(wordI x.mode).toArray⟩ : ByteArray) = s1 at a1 cW
        generalize (⟨x.name.toArray⟩ : ByteArray) = sn at q1 a2
        obtain ⟨sp, hsp⟩ : ∃ sp : ByteArray, ⟨pre.toArray⟩ = sp := ⟨_, rfl⟩
        rw [hsp] at a3
        have HSP := Lib.hid hsp
        clear rx hxm hx2 hil fle hidx hpre hpl hsp hwl hwy
        go_wp2_with fail
        have HOD := Lib.hid (ownF_below HOWN.out (Below.refl _ _).drew)
        go_still_tail 15, (by kernel_rfl)
        still_call (cW _)
        repeat still_step
        refine wpStill_nil ?_
        change wpList _ _ _ _ _ wr.drew
        go_wp2_with (first
          | (at_builtin; refine wpList_append_str rfl _ _ rfl w.heap.size _ (flatI (l.take i)) pre _ rfl rfl HSP.out.symm HOD.out (by have := FLE.out; have := HPL.out; omega) HBR.out.size ?_)
          | fail)
        intro v2 w2 ow2 gw2
        have hb2 := HBR.out.drew.grown gw2 HBR.out.size (fun j hj => (HOD.out.lt j hj).1)
        have hci : ∀ j u, (Lib.byteCells x.id)[j]? = some u → w2.cell? ((⟨b, o + i * 22 + 2, none⟩ : Addr).add j) = some u := fun j u hu => by
          have := RX.out w2 hb2 (j + 2) u hu
          rw [show (⟨b, o + i * 22 + 2, none⟩ : Addr).add j = ⟨b, o + i * 22 + 2 + j, none⟩ by unfold Addr.add; split <;> simp_all]
          rwa [show o + i * 22 + (j + 2) = o + i * 22 + 2 + j by omega] at this
        have HCI := Lib.hid hci
        have HO2 := Lib.hid ow2
        have HB2 := Lib.hid hb2
        have sl := fun u => slice20_all u b (o + i * 22 + 2)
        clear hb2 hci ow2 gw2
        go_wp2_with (first
          | (at_builtin; refine wpList_append_cells rfl _ _ rfl w.heap.size _ (flatI (l.take i) ++ pre) x.id _ 20 20 rfl rfl HIDX.out.symm HCI.out HO2.out (by have := FLE.out; have := HPL.out; have := HIDX.out; rw [List.length_append]; omega) HB2.out.size ?_)
          | fail)
        intro v3 w3 ow3 gw3
        have HB3 := Lib.hid (HB2.out.grown gw3 HB2.out.size (fun j hj => (HO2.out.lt j hj).1))
        have HO3 := Lib.hid ow3
        clear ow3 gw3
        go_wp2
        go_roundw
        case rel => exact ⟨i + 1, by omega, by go_num, by rw [HFN.out, List.append_assoc]; exact HO3.out, HB3.out⟩
        case measure => simp [intOf]; omega
      · have hin : i = l.length := by rw [← HN.out]; omega
        have hfl : l.take i = l := by rw [hin, List.take_length]
        have hown := HOWN.out
        rw [hfl] at hown
        obtain ⟨a', c', hv, hl', hm', hb'⟩ := ownF_shape hown
        have HRD := Lib.hid (ownF_red hown)
        subst hv
        have HFL := Lib.hid (show (flatI l).length ≤ 430 * 500 by
          have := flat_le HONE.out HID.out
          have := HN.out
          omega)
        have hfl2 := HFL.out
        have hp := HP2.out
        obtain ⟨fl, hfl3⟩ : ∃ fl, flatI l = fl := ⟨_, rfl⟩
        rw [hfl3] at hp hfl2 ⊢
        have hrd := HRD.out
        rw [hfl3] at hrd
        have HRE := Lib.hid hrd
        clear hin hfl hown hl' hm' hb' HOWN HRD HFL hrd
        by_cases h64 : 65536 < fl.length
        · rw [if_pos h64] at hp
          subst hp
          have g6 : (fl.length : Int) > 65536 := by omega
          clear h64 hfl3
          go_wp2
          go_ret2
          exact ⟨_, rfl, Red.none _, HBR.out⟩
        · rw [if_neg h64] at hp
          subst hp
          have g6 : ¬ (fl.length : Int) > 65536 := by omega
          clear h64 hfl3
          go_wp2
          go_ret2
          exact ⟨_, rfl, HRE.out, HBR.out⟩

set_option maxHeartbeats 4000000 in
theorem rPrint_is (a : Option Addr) (n c : Nat) (l : List Itm) (w : World) (hn : n = l.length) (hm : n ≤ maxLen) (hit : ItemsAt w a l) (hid : ∀ i ∈ l, i.id.length = 20) (hnm : ∀ i ∈ l, i.name.length ≤ 1000000) (tab : QTab w) :
    Calls Tryd.prog 14 #[.slice a n c] w fun e w' => ∃ v, e = .returned (.tuple #[v, .int .i64 (printT l).2]) ∧ Red w' v (printT l).1 ∧ Below w.heap.size w w' := by
  by_cases h1 : n = 0
  · obtain rfl : l = [] := List.eq_nil_of_length_eq_zero (by omega)
    have hp : printT [] = ([], 0) := by rw [printT_good (.inl rfl)]; rfl
    rw [hp]
    subst h1
    clear hn hm hit hid hnm tab hp
    go_enter Tryd.func14, Tryd.ntmps14
    go_wp2_with fail
    refine wp_loop_rounds 1 ?_
    rw [rounds_succ]
    go_wp2
    go_ret2
    exact ⟨_, rfl, Red.none _, Below.refl _ _⟩
  · obtain ⟨b, o, rfl, hb, hc⟩ := hit (by omega)
    exact rPrint_some b o n c l w hn (by omega) hm hb hc hid hnm tab
end Go.Proofs.YtalmoaofodjehaaDoor

/-
  Helpers of the statements: Begins; Find of a byte 0.
-/
namespace Go.Proofs.YtalmoaofodjehaaDoor
open Go.RowKit
set_option linter.unusedVariables false
set_option linter.unusedSimpArgs false

theorem cutt_list (l : List UInt8) (a b : Nat) : (⟨l.toArray⟩ : ByteArray).extract a b = ⟨((l.drop a).take (b - a)).toArray⟩ := by
  apply ByteArray.ext
  simp [List.drop_take]
set_option maxHeartbeats 1000000 in
theorem Begins_is (s t : List UInt8) (hs : s.length ≤ 1000000) (ht : t.length ≤ 1000000) (w : World) :
    Calls Tryd.prog 30 #[.string ⟨s.toArray⟩, .string ⟨t.toArray⟩] w fun e w' => e = .returned (.bool (s.take t.length == t)) ∧ w = w' := by
  have ex := cutt_list s 0 t.length
  rw [List.drop_zero, Nat.sub_zero] at ex
  have z1 := size_toArray s
  have z2 := size_toArray t
  by_cases h : t.length ≤ s.length
  · obtain ⟨r, hr⟩ : ∃ r, (s.take t.length == t) = r := ⟨_, rfl⟩
    rw [hr]
    generalize (⟨s.toArray⟩ : ByteArray) = S at *
    obtain ⟨x, hx⟩ : ∃ x, s.take t.length = x := ⟨_, rfl⟩
    rw [hx] at ex hr
    clear hx
    go_enter Tryd.func30, Tryd.ntmps30
    go_wp2
    go_ret
    exact ⟨rfl, rfl⟩
  · have hr : (s.take t.length == t) = false := by
      rw [beq_eq_false_iff_ne]
      intro e
      have := congrArg List.length e
      rw [List.length_take] at this
      omega
    rw [hr]
    clear hr ex
    generalize (⟨s.toArray⟩ : ByteArray) = S at *
    generalize (⟨t.toArray⟩ : ByteArray) = T at *
    go_enter Tryd.func30, Tryd.ntmps30
    go_wp2
    go_ret
    exact ⟨rfl, rfl⟩

/-- Where the first zero stands; -1. -/
def zeroAt (s : List UInt8) : Int := if s.findIdx (· == 0) < s.length then s.findIdx (· == 0) else -1
theorem zero_at (s : List UInt8) (i : Nat) (hi : i < s.length) (h : s.getD i 1 = 0) (hn : ∀ j, j < i → s.getD j 1 ≠ 0) : s.findIdx (· == 0) = i := by
  rw [List.getD_eq_getElem?_getD, List.getElem?_eq_getElem hi] at h
  simp only [Option.getD_some] at h
  rw [List.findIdx_eq hi]
  refine ⟨by rw [h]; rfl, fun j hj => ?_⟩
  have := hn j hj
  rw [List.getD_eq_getElem?_getD, List.getElem?_eq_getElem (by omega)] at this
  simp only [Option.getD_some] at this
  exact beq_false_of_ne this
theorem zero_no (s : List UInt8) (hn : ∀ j, j < s.length → s.getD j 1 ≠ 0) : ∀ c ∈ s, c ≠ 0 := by
  intro c hc
  obtain ⟨i, hi, rfl⟩ := List.mem_iff_getElem.1 hc
  have := hn i hi
  rw [List.getD_eq_getElem?_getD, List.getElem?_eq_getElem hi] at this
  exact this
theorem zeroAt_here (s : List UInt8) (i : Nat) (hi : i < s.length) (h : s.getD i 1 = 0) (hn : ∀ j, j < i → s.getD j 1 ≠ 0) : zeroAt s = i := by
  unfold zeroAt; rw [zero_at s i hi h hn, if_pos hi]
theorem zeroAt_none (s : List UInt8) (hn : ∀ j, j < s.length → s.getD j 1 ≠ 0) : zeroAt s = -1 := by
  unfold zeroAt
  rw [if_neg]
  have h := zero_no s hn
  have : s.findIdx (· == 0) = s.length := List.findIdx_eq_length.2 (fun c hc => beq_false_of_ne (h c hc))
  omega
theorem cut_one0 (s : List UInt8) (i : Nat) (hi : i < s.length) : (⟨s.toArray⟩ : ByteArray).extract i (i + 1) = ⟨[s.getD i 1].toArray⟩ := by
  rw [cutt_list, Nat.add_sub_cancel_left, List.getD_eq_getElem?_getD, List.getElem?_eq_getElem hi]
  rw [List.drop_eq_getElem_cons hi]
  rfl

set_option maxHeartbeats 4000000 in
theorem Find_zero (s : List UInt8) (hs : s.length ≤ 1000000) (w : World) :
    Calls Tryd.prog 31 #[.string ⟨s.toArray⟩, .string ⟨#[0]⟩, .int .i64 0] w fun e w' => e = .returned (.int .i64 (zeroAt s)) ∧ w = w' := by
  have z1 := size_toArray s
  have CO := Lib.hid (fun i hi => cut_one0 s i hi)
  obtain ⟨R, hR⟩ : ∃ R, zeroAt s = R := ⟨_, rfl⟩
  rw [hR]
  have HR := Lib.hid hR
  clear hR
  generalize (⟨s.toArray⟩ : ByteArray) = S at *
  go_enter Tryd.func31, Tryd.ntmps31
  go_wp2_with fail
  go_loop [7] (fun v => ∃ i : Nat, i ≤ s.length ∧ v = .int .i64 i ∧ ∀ j, j < i → s.getD j 1 ≠ 0) (fun v => s.length - (intOf v).toNat)
  case atStart => exact ⟨0, Nat.zero_le _, rfl, fun j hj => absurd hj (Nat.not_lt_zero j)⟩
  case round =>
    obtain ⟨i, hi, rfl, hno⟩ := hrel
    have HNO := Lib.hid hno
    clear hno
    by_cases hlt : i < s.length
    · have ex := CO.out i hlt
      by_cases h0 : s.getD i 1 = 0
      · rw [h0] at ex
        have hz := zeroAt_here s i hlt h0 HNO.out
        rw [HR.out] at hz
        subst hz
        clear h0
        go_wp2
        go_ret
        exact ⟨rfl, rfl⟩
      · have hb2 : (s.getD i 1 == (0 : UInt8)) = false := beq_false_of_ne h0
        have H0 := Lib.hid h0
        clear h0
        generalize hg : s.getD i 1 = c at ex hb2
        have HG := Lib.hid hg
        clear hg
        go_wp2
        go_round
        case rel =>
          refine ⟨i + 1, by omega, by go_num, fun j hj => ?_⟩
          by_cases h : j < i
          · exact HNO.out j h
          · obtain rfl : j = i := by omega
            exact H0.out
        case measure => simp [intOf]; omega
    · have hi2 : i = s.length := by omega
      have hz := zeroAt_none s (fun j hj => HNO.out j (by omega))
      rw [HR.out] at hz
      subst hz
      go_wp2
      go_ret
      exact ⟨rfl, rfl⟩
end Go.Proofs.YtalmoaofodjehaaDoor

/-
  Layer 8: what Parse of the document's answers leans on: an item's cells written one by one; where an item lies in bytes.
-/
namespace Go.Proofs.YtalmoaofodjehaaDoor
set_option maxRecDepth 20000
open Go.RowKit
set_option linter.unusedVariables false
set_option linter.unusedSimpArgs false

theorem arr_mode (a m : Int) (s d : List UInt8) : (arrI ⟨a, s, d⟩).setIfInBounds 0 (.int .i64 m) = arrI ⟨m, s, d⟩ := by
  unfold arrI cellsI
  rw [List.setIfInBounds_toArray]
  rfl
theorem arr_name (a : Int) (s t d : List UInt8) : (arrI ⟨a, s, d⟩).setIfInBounds 1 (.string ⟨t.toArray⟩) = arrI ⟨a, t, d⟩ := by
  unfold arrI cellsI
  rw [List.setIfInBounds_toArray]
  rfl
/-- The first bytes of an id, the others zero. -/
def headId (y : List UInt8) (i : Nat) : List UInt8 := y.take i ++ List.replicate (20 - i) 0
theorem headId_zero (y : List UInt8) : headId y 0 = zeroId := rfl
theorem headId_all (y : List UInt8) : headId y 20 = y.take 20 := by simp [headId]
theorem headId_len (y : List UInt8) (i : Nat) (hi : i ≤ 20) (hy : 20 ≤ y.length) : (headId y i).length = 20 := by simp [headId]; omega
theorem headId_next (y : List UInt8) (i : Nat) (hi : i < 20) (hy : 20 ≤ y.length) : (headId y i).set i (y.getD i 0) = headId y (i + 1) := by
  unfold headId
  rw [List.set_append_right _ _ (by rw [List.length_take]; omega), List.length_take, show i - min i y.length = 0 by omega]
  obtain ⟨k, hk⟩ : ∃ k, 20 - i = k + 1 := ⟨19 - i, by omega⟩
  have e : y.getD i 0 = y[i]'(by omega) := by rw [List.getD_eq_getElem?_getD, List.getElem?_eq_getElem (show i < y.length by omega)]; rfl
  rw [hk, show 20 - (i + 1) = k by omega, List.replicate_succ, List.set_cons_zero, List.take_add_one, List.getElem?_eq_getElem (show i < y.length by omega), e, List.append_assoc]
  rfl
theorem arr_id (a : Int) (s y : List UInt8) (i : Nat) (hi : i < 20) (hy : 20 ≤ y.length) : (arrI ⟨a, s, headId y i⟩).setIfInBounds (2 + i) (.int .u8 (y.getD i 0).toNat) = arrI ⟨a, s, headId y (i + 1)⟩ := by
  have e : (Lib.byteCells (headId y i)).set i (.int .u8 (y.getD i 0).toNat) = Lib.byteCells (headId y (i + 1)) := by
    rw [← headId_next y i hi hy]
    unfold Lib.byteCells
    rw [List.map_set]
  unfold arrI cellsI
  rw [List.setIfInBounds_toArray, ← e, show 2 + i = (i + 1) + 1 by omega, List.set_cons_succ, List.set_cons_succ]
theorem prefix_take (s t : List UInt8) : (s.take t.length == t) = t.isPrefixOf s := by
  rw [Bool.eq_iff_iff, beq_iff_eq, List.isPrefixOf_iff_prefix, List.prefix_iff_eq_take]
  exact eq_comm
theorem pre_apart {b : List UInt8} {m m' : Int} (h : 1 ≤ m ∧ m ≤ 4) (h' : 1 ≤ m' ∧ m' ≤ 4) (e : (modeL m ++ [32]).isPrefixOf b = true) (e' : (modeL m' ++ [32]).isPrefixOf b = true) : m = m' := by
  obtain ⟨t, ht⟩ := List.isPrefixOf_iff_prefix.1 e
  obtain ⟨t', ht'⟩ := List.isPrefixOf_iff_prefix.1 e'
  rw [← ht'] at ht
  simp only [List.append_assoc, List.singleton_append] at ht
  exact (mode_apart h h' ht).1
/-- What the search for a mode knows so far. -/
def ModeSo (r : List UInt8) (m : Nat) (mm : Int) : Prop := (mm = 0 ∧ ∀ q : Int, 1 ≤ q → q < m → (modeL q ++ [32]).isPrefixOf r = false) ∨ (1 ≤ mm ∧ mm < m ∧ (modeL mm ++ [32]).isPrefixOf r = true)
theorem modeSo_start (r : List UInt8) : ModeSo r 1 0 := .inl ⟨rfl, fun q h1 h2 => absurd h2 (by omega)⟩
theorem modeSo_no {r : List UInt8} {m : Nat} {mm : Int} (h : ModeSo r m mm) (hn : (modeL (m : Int) ++ [32]).isPrefixOf r = false) : ModeSo r (m + 1) mm := by
  rcases h with ⟨h1, h2⟩ | ⟨h1, h2, h3⟩
  · refine .inl ⟨h1, fun q q1 q2 => ?_⟩
    by_cases e : q < (m : Int)
    · exact h2 q q1 e
    · obtain rfl : q = (m : Int) := by omega
      exact hn
  · exact .inr ⟨h1, by omega, h3⟩
theorem modeSo_yes {r : List UInt8} {m : Nat} (h1 : 1 ≤ m) (hn : (modeL (m : Int) ++ [32]).isPrefixOf r = true) : ModeSo r (m + 1) (m : Int) := .inr ⟨by omega, by omega, hn⟩
theorem modeSo_none {r : List UInt8} (h : ModeSo r 5 0) : modeAt r = none := by
  rcases h with ⟨_, h2⟩ | ⟨h1, _⟩
  · unfold modeAt; exact find_none (fun m h1 h4 => h2 m h1 (by omega))
  · exact absurd h1 (by decide)
theorem modeSo_some {r : List UInt8} {mm : Int} (h : ModeSo r 5 mm) (h0 : mm ≠ 0) : modeAt r = some mm := by
  rcases h with ⟨h1, _⟩ | ⟨h1, h2, h3⟩
  · exact absurd h1 h0
  · refine modeAt_first h1 (by omega) (fun m m1 m2 => ?_) h3
    cases e : (modeL m ++ [32]).isPrefixOf r with
    | false => rfl
    | true => have := pre_apart ⟨m1, by omega⟩ ⟨h1, by omega⟩ e h3; omega
theorem takeI_none {r : List UInt8} (h : modeAt r = none) : takeI r = none := by rw [takeI_mode, h]
theorem takeI_short {r : List UInt8} {m : Int} {k : Nat} (h : modeAt r = some m) (hk : (modeL m).length + 1 = k) (hl : (r.drop k).length < (r.drop k).findIdx (· == 0) + 21) : takeI r = none := by
  rw [takeI_mode, h]
  simp only
  rw [hk, if_pos hl]
theorem takeI_whole {r : List UInt8} {m : Int} {k : Nat} (h : modeAt r = some m) (hk : (modeL m).length + 1 = k) (hl : ¬ (r.drop k).length < (r.drop k).findIdx (· == 0) + 21) :
    takeI r = some (⟨m, (r.drop k).take ((r.drop k).findIdx (· == 0)), ((r.drop k).drop ((r.drop k).findIdx (· == 0) + 1)).take 20⟩, (r.drop k).drop ((r.drop k).findIdx (· == 0) + 21)) := by
  rw [takeI_mode, h]
  simp only
  rw [hk, if_neg hl]
/-- 'b[k:m]'. -/
theorem bs_mid (a : Option Addr) (n c k m : Nat) (l : List UInt8) (hn : n = l.length) (hk : k ≤ m) (hm : m ≤ n) (hc : n ≤ c) :
    ∃ a', (∀ (x y : Int) (u : World), x = k → y = m → (Instr.sliceAt 23 (.slice a n c) (some (.int .i64 x)) (some (.int .i64 y)) none).run Tryd.prog u = .ok (.slice a' (m - k) (c - k)) u) ∧
      ∀ w, BAt w a l → BAt w a' ((l.drop k).take (m - k)) := by
  obtain ⟨i, hi, hz, hs, hby⟩ := info_parts info_byte
  have e : Tryd.prog.elem 23 = 5 := by kernel_rfl
  refine ⟨if c = k then a else a.map (·.add (k * 1)), fun x y u hx hy => ?_, fun w hb => ?_⟩
  · subst hx; subst hy
    rw [run_sliceAt_slice (h := elem_b), run_slice_lh (ht := elem_b) (h0 := by omega) (h1 := by omega) (h2 := by omega)]
    rw [e]
    simp [sizeOf, typeInfo, hi, hs, Result.andThen, sliced]
  · subst hn
    intro hp
    rw [List.length_take, List.length_drop] at hp
    rw [if_neg (by omega)]
    obtain ⟨b, o, rfl, h1, h2⟩ := hb (by omega)
    refine ⟨b, o + k, ?_, h1, fun j hj => ?_⟩
    · simp [Addr.add]
    · rw [List.length_take, List.length_drop] at hj
      rw [show o + k + j = o + (k + j) by omega, h2 (k + j) (by omega), List.getElem_take, List.getElem_drop]
end Go.Proofs.YtalmoaofodjehaaDoor
