/-
  Texts that belong together, one behind the other.
-/
import Derived.Test.YtnohonjjfjppoaaGreatDoorFu36
import Derived.Test.YtnohonjjfjppoaaGreatDoorFu25
/-
  Layer 8: Right of the document's answers, whatever comes.
-/
namespace Go.Proofs.YtnohonjjfjppoaaGreatDoor
set_option maxRecDepth 20000
open Go.RowKit
set_option linter.unusedVariables false
set_option linter.unusedSimpArgs false
set_option maxHeartbeats 2000000 in
theorem rtRight_is (a : Option Addr) (n c : Nat) (l : List Itm) (w : World) (hn : n = l.length) (hm : n ≤ maxLen) (hit : ItemsAt w a l) (hid : ∀ i ∈ l, i.id.length = 20) (hnm : ∀ i ∈ l, i.name.length ≤ 1000000) (tab : QTab w) :
    Calls Tryz.prog 51 #[.slice a n c] w fun e w' => e = .returned (.bool (rightIt l)) ∧ Below w.heap.size w w' := by
  unfold maxLen at hm
  by_cases h1 : n < 1
  · have hR := right_no_len l (.inl (by omega))
    rw [hR]
    have g1 : (n : Int) < 1 := by omega
    clear hn hm hit hid hnm tab hR h1
    go_enter Tryz.func51, Tryz.ntmps51
    go_wp2
    go_ret
    exact ⟨rfl, Below.refl _ _⟩
  · by_cases h5 : 500 < n
    · have hR := right_no_len l (.inr (by omega))
      rw [hR]
      have g1 : ¬ (n : Int) < 1 := by omega
      have g2 : (n : Int) > 500 := by omega
      clear hn hit hid hnm tab hR h1 h5
      go_enter Tryz.func51, Tryz.ntmps51
      go_wp2
      go_ret
      exact ⟨rfl, Below.refl _ _⟩
    · obtain ⟨b, o, rfl, hb, hc⟩ := hit (by omega)
      exact rRight_some b o n c l w hn (by omega) (by omega) hb hc hid hnm tab
end Go.Proofs.YtnohonjjfjppoaaGreatDoor

/-
  Layer 8: Print of the document's answers.
-/
namespace Go.Proofs.YtnohonjjfjppoaaGreatDoor
set_option maxRecDepth 20000
open Go.RowKit
set_option linter.unusedVariables false
set_option linter.unusedSimpArgs false
set_option maxHeartbeats 16000000 in
theorem rPrint_some (b o n c : Nat) (l : List Itm) (w : World) (hn : n = l.length) (h1 : 1 ≤ n) (hm : n ≤ maxLen) (hbl : b < w.heap.size)
    (hc : ∀ k (h : k < l.length) j v, (cellsI l[k])[j]? = some v → w.cell? ⟨b, o + k * 22 + j, none⟩ = some v) (hid : ∀ i ∈ l, i.id.length = 20) (hnm : ∀ i ∈ l, i.name.length ≤ 1000000) (tab : QTab w) :
    Calls Tryz.prog 25 #[.slice (some ⟨b, o, none⟩) n c] w fun e w' => ∃ v, e = .returned (.tuple #[v, .int .i64 (printT l).2]) ∧ Red w' v (printT l).1 ∧ Below w.heap.size w w' := by
  have cR := rtRight_is (some ⟨b, o, none⟩) n c l w hn hm (fun _ => ⟨b, o, rfl, hbl, hc⟩) hid hnm tab
  have g1 : (n : Int) > 0 := by omega
  have HN := Lib.hid hn; have HC := Lib.hid hc; have HID := Lib.hid hid
  obtain ⟨P, hP⟩ : ∃ P, printT l = P := ⟨_, rfl⟩
  have HP := Lib.hid hP
  rw [hP]
  cases hr : rightIt l with
  | false =>
    rw [hr] at cR
    have hp := (HP.out.symm.trans (printT_bad (by omega) hr))
    subst hp
    clear hn hc hid hnm tab hP hr
    go_enter Tryz.func25, Tryz.ntmps25
    go_wp2_with fail
    refine cR.mono ?_
    rintro e w1 ⟨rfl, b1⟩
    have B1 := Lib.hid b1
    clear b1
    go_wp2
    go_ret2
    exact ⟨_, rfl, Red.none _, B1.out⟩
  | true =>
    rw [hr] at cR
    have h5 := ((rightIt_iff l).1 hr).2.1
    have HP2 := Lib.hid (HP.out.symm.trans (printT_good (.inr hr)))
    have HONE := Lib.hid (right_one hr)
    have hn5 : n ≤ 500 := by omega
    clear hn hc hid hnm tab hP hr h5
    go_enter Tryz.func25, Tryz.ntmps25
    go_wp2_with fail
    refine cR.mono ?_
    rintro e w1 ⟨rfl, b1⟩
    have B1 := Lib.hid b1
    clear b1 cR
    go_wp2_with fail
    go_loopw [4, 5] (fun v4 v17 wr => ∃ i : Nat, i ≤ n ∧ v17 = .int .i64 i ∧ OwnF w.heap.size v4 (flatI (l.take i)) wr ∧ Below w.heap.size w wr) (fun _ v17 _ => n - (intOf v17).toNat)
    case atStart => exact ⟨0, Nat.zero_le _, rfl, World.ownsRowF_nil w1 _ _ _, B1.out⟩
    case round =>
      obtain ⟨i, hi, rfl, hown, hbr⟩ := hrel
      have HOWN := Lib.hid hown
      have HBR := Lib.hid hbr
      clear hown hbr
      by_cases hlt : i < n
      · have hil : i < l.length := by rw [← HN.out]; exact hlt
        obtain ⟨x, hx2⟩ : ∃ x, l[i] = x := ⟨_, rfl⟩
        have hxm : x ∈ l := by rw [← hx2]; exact List.getElem_mem _
        have hidx := HID.out x hxm
        obtain ⟨o1, o2, o3⟩ := one_parts (HONE.out x hxm)
        have rx : ∀ u, Below w.heap.size w u → u.rangeAt b (o + i * 22) (cellsI x) := fun u hu j v hv => (hu.cell (p := ⟨b, o + i * 22 + j, none⟩) hbl).trans (HC.out i hil j v (by rw [hx2]; exact hv))
        have q0 : wr.cell? ⟨b, o + i * 22, none⟩ = some (.int .i64 x.mode) := rx wr HBR.out 0 _ rfl
        have q1 : wr.cell? ⟨b, o + i * 22 + 1, none⟩ = some (.string ⟨x.name.toArray⟩) := rx wr HBR.out 1 _ rfl
        have HFN := Lib.hid (show flatI (l.take (i + 1)) = flatI (l.take i) ++ (wordI x.mode ++ [32] ++ x.name ++ [0]) ++ x.id by rw [flat_next l i hil, hx2, print_cut x ⟨o2, o3⟩]; simp only [List.append_assoc])
        have fle : (flatI (l.take i)).length ≤ 430 * 500 := by
          have := flat_le (l := l.take i) (fun j hj => HONE.out j (List.mem_of_mem_take hj)) (fun j hj => HID.out j (List.mem_of_mem_take hj))
          rw [List.length_take] at this; omega
        have RX := Lib.hid rx
        have hwy := word_yes x.mode ⟨o2, o3⟩
        have cW : ∀ u, Calls Tryz.prog 52 #[.int .i64 x.mode] u fun e u' => e = .returned (.string ⟨(wordI x.mode).toArray⟩) ∧ u' = u := fun u => by
          rw [hwy]; exact (mode_is x.mode u).mono fun e u' h => ⟨h.1, h.2.symm⟩
        have hwl : (wordI x.mode).length ≤ 6 := by rw [word_yes _ ⟨o2, o3⟩]; exact (modeL_len _).2
        have a1 := fun u => add_lists (P := Tryz.prog) u (wordI x.mode) [32] (by simp; omega)
        have a2 := fun u => add_lists (P := Tryz.prog) u (wordI x.mode ++ [32]) x.name (by simp; omega)
        have a3 := fun u => add_lists (P := Tryz.prog) u (wordI x.mode ++ [32] ++ x.name) [0] (by simp; omega)
        obtain ⟨pre, hpre⟩ : ∃ pre, wordI x.mode ++ [32] ++ x.name ++ [0] = pre := ⟨_, rfl⟩
        have hpl : pre.length ≤ 410 := by rw [← hpre]; simp; omega
        rw [hpre] at a3 HFN
        have HPL := Lib.hid hpl
        have FLE := Lib.hid fle
        have HIDX := Lib.hid hidx
        have HPRE := Lib.hid hpre
        generalize (⟨(wordI x.mode ++ [32] ++ x.name).toArray⟩ : ByteArray) = s3 at a2 a3
        generalize (⟨(wordI x.mode ++ [32]).toArray⟩ : ByteArray) = s2 at a1 a2
        generalize (⟨(wordI x.mode).toArray⟩ : ByteArray) = s1 at a1 cW
        generalize (⟨x.name.toArray⟩ : ByteArray) = sn at q1 a2
        obtain ⟨sp, hsp⟩ : ∃ sp : ByteArray, ⟨pre.toArray⟩ = sp := ⟨_, rfl⟩
        rw [hsp] at a3
        have HSP := Lib.hid hsp
        clear rx hxm hx2 hil fle hidx hpre hpl hsp hwl hwy
        go_wp2_with fail
        have HOD := Lib.hid (ownF_below HOWN.out (Below.refl _ _).drew)
        go_still_tail 15, (by kernel_rfl)
        still_call (cW _)
        repeat still_step
        refine wpStill_nil ?_
        change wpList _ _ _ _ _ wr.drew
        go_wp2_with (first
          | (at_builtin; refine wpList_append_str rfl _ _ rfl w.heap.size _ (flatI (l.take i)) pre _ rfl rfl HSP.out.symm HOD.out (by have := FLE.out; have := HPL.out; omega) HBR.out.size ?_)
          | fail)
        intro v2 w2 ow2 gw2
        have hb2 := HBR.out.drew.grown gw2 HBR.out.size (fun j hj => (HOD.out.lt j hj).1)
        have hci : ∀ j u, (Lib.byteCells x.id)[j]? = some u → w2.cell? ((⟨b, o + i * 22 + 2, none⟩ : Addr).add j) = some u := fun j u hu => by
          have := RX.out w2 hb2 (j + 2) u hu
          rw [show (⟨b, o + i * 22 + 2, none⟩ : Addr).add j = ⟨b, o + i * 22 + 2 + j, none⟩ by unfold Addr.add; split <;> simp_all]
          rwa [show o + i * 22 + (j + 2) = o + i * 22 + 2 + j by omega] at this
        have HCI := Lib.hid hci
        have HO2 := Lib.hid ow2
        have HB2 := Lib.hid hb2
        have sl := fun u => slice20_all u b (o + i * 22 + 2)
        clear hb2 hci ow2 gw2
        go_wp2_with (first
          | (at_builtin; refine wpList_append_cells rfl _ _ rfl w.heap.size _ (flatI (l.take i) ++ pre) x.id _ 20 20 rfl rfl HIDX.out.symm HCI.out HO2.out (by have := FLE.out; have := HPL.out; have := HIDX.out; rw [List.length_append]; omega) HB2.out.size ?_)
          | fail)
        intro v3 w3 ow3 gw3
        have HB3 := Lib.hid (HB2.out.grown gw3 HB2.out.size (fun j hj => (HO2.out.lt j hj).1))
        have HO3 := Lib.hid ow3
        clear ow3 gw3
        go_wp2
        go_roundw
        case rel => exact ⟨i + 1, by omega, by go_num, by rw [HFN.out, List.append_assoc]; exact HO3.out, HB3.out⟩
        case measure => simp [intOf]; omega
      · have hin : i = l.length := by rw [← HN.out]; omega
        have hfl : l.take i = l := by rw [hin, List.take_length]
        have hown := HOWN.out
        rw [hfl] at hown
        obtain ⟨a', c', hv, hl', hm', hb'⟩ := ownF_shape hown
        have HRD := Lib.hid (ownF_red hown)
        subst hv
        have HFL := Lib.hid (show (flatI l).length ≤ 430 * 500 by
          have := flat_le HONE.out HID.out
          have := HN.out
          omega)
        have hfl2 := HFL.out
        have hp := HP2.out
        obtain ⟨fl, hfl3⟩ : ∃ fl, flatI l = fl := ⟨_, rfl⟩
        rw [hfl3] at hp hfl2 ⊢
        have hrd := HRD.out
        rw [hfl3] at hrd
        have HRE := Lib.hid hrd
        clear hin hfl hown hl' hm' hb' HOWN HRD HFL hrd
        by_cases h64 : 65536 < fl.length
        · rw [if_pos h64] at hp
          subst hp
          have g6 : (fl.length : Int) > 65536 := by omega
          clear h64 hfl3
          go_wp2
          go_ret2
          exact ⟨_, rfl, Red.none _, HBR.out⟩
        · rw [if_neg h64] at hp
          subst hp
          have g6 : ¬ (fl.length : Int) > 65536 := by omega
          clear h64 hfl3
          go_wp2
          go_ret2
          exact ⟨_, rfl, HRE.out, HBR.out⟩
set_option maxHeartbeats 4000000 in
theorem rtPrint_is (a : Option Addr) (n c : Nat) (l : List Itm) (w : World) (hn : n = l.length) (hm : n ≤ maxLen) (hit : ItemsAt w a l) (hid : ∀ i ∈ l, i.id.length = 20) (hnm : ∀ i ∈ l, i.name.length ≤ 1000000) (tab : QTab w) :
    Calls Tryz.prog 25 #[.slice a n c] w fun e w' => ∃ v, e = .returned (.tuple #[v, .int .i64 (printT l).2]) ∧ Red w' v (printT l).1 ∧ Below w.heap.size w w' := by
  by_cases h1 : n = 0
  · obtain rfl : l = [] := List.eq_nil_of_length_eq_zero (by omega)
    have hp : printT [] = ([], 0) := by rw [printT_good (.inl rfl)]; rfl
    rw [hp]
    subst h1
    clear hn hm hit hid hnm tab hp
    go_enter Tryz.func25, Tryz.ntmps25
    go_wp2_with fail
    refine wp_loop_rounds 1 ?_
    rw [rounds_succ]
    go_wp2
    go_ret2
    exact ⟨_, rfl, Red.none _, Below.refl _ _⟩
  · obtain ⟨b, o, rfl, hb, hc⟩ := hit (by omega)
    exact rPrint_some b o n c l w hn (by omega) hm hb hc hid hnm tab
end Go.Proofs.YtnohonjjfjppoaaGreatDoor
