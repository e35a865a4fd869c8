/-
  The walk of FrameLimit, over the contracts.
-/
import Derived.Test.YtjlgihdlcfanbaaFz
namespace Go.Proofs.Ytjlgihdlcfanbaa.frameLimit
open Go.RowKit
set_option linter.unusedVariables false
set_option linter.unusedSimpArgs false

theorem zeros_bat {w : World} {g n : Nat} (h : w.ownsRow g 5 1 (.slice (some ⟨g, 0, none⟩) n n) n (madeCells #[Value.int .u8 0] n).toList) : BAt w (some ⟨g, 0, none⟩) (List.replicate n 0) := by
  have e : (madeCells #[Value.int .u8 0] n).toList = Lib.byteCells (List.replicate n 0) := by
    rw [toList_madeCells_one]; simp [Lib.byteCells]
  rw [e] at h
  have hl : (List.replicate n (0 : UInt8)).length = n := List.length_replicate
  exact own_bat (l := List.replicate n 0) (cap := n) (by rw [hl]; exact h)
set_option maxHeartbeats 8000000 in
theorem walk (w : World) (x0 : Bool) :
    Calls Try.prog 6 #[.bool x0] w fun e w' => e = .returned (.bool true) ∧ Below w.heap.size w w' := by
  obtain ⟨i0, hi, hz0, hz1, hz2⟩ := info_parts info5
  cases x0 with
  | true =>
    obtain ⟨N, hN⟩ : ∃ N : Nat, N = 131173 := ⟨_, rfl⟩
    have hb2 : i0.bytes * N ≤ 281474976710656 := by rw [hz2]; omega
    have hb3 : N ≤ maxLen := by unfold maxLen; omega
    have HC := Lib.hid (show (131173 : Int) = (N : Int) by omega)
    have HNN := Lib.hid hN
    have hn1 : 131172 ≤ N := by omega
    have hn2 : N ≤ 131173 := by omega
    clear hN
    go_enter Try.func6, Try.ntmps6
    go_wp2_with (at_make; refine wpList_make_full _ rfl _ _ 22 rfl w.heap.size 5 i0 (.int .u8 0) 1 Try.underlying22 hi hz0 hz1 _ _ _ _ N rfl rfl HC.out HC.out hb2 hb3 (Nat.le_refl _) ?_)
    intro w0 hown0 hgr0
    have hb0 : Below w.heap.size w w0 := (Below.refl _ w).grown hgr0 (Nat.le_refl _) (fun k h => by cases h)
    have hbat := zeros_bat hown0
    have hlen : N = (List.replicate N (0 : UInt8)).length := List.length_replicate.symm
    have C := Lib.hid (Pack_any 2 (some ⟨w.heap.size, 0, none⟩) N N (List.replicate N 0) w0 hlen hbat (fun h => by cases h) (Nat.le_refl _) hb3)
    have he : packE 2 N = 5 := by unfold packE; rw [if_neg (by decide), if_pos (by rw [HNN.out]; decide)]
    have hr : packR 2 (List.replicate N 0) = [] := by unfold packR; rw [← hlen, he, if_neg (by decide)]
    rw [he, hr] at C
    clear hown0 hgr0 hbat hlen he hr hb2 hb3
    go_wp2_with fail
    refine C.out.mono ?_
    rintro e w1 ⟨v, rfl, hr1, _, hb1⟩
    obtain ⟨a, c, rfl, _, _, _, _⟩ := hr1.shape
    have hb01 := hb0.trans (hb1.mono hb0.size)
    clear C hr1 hb1 hb0
    go_wp2_with fail
    refine (awake5 _).mono ?_
    rintro e w2 ⟨rfl, hb2⟩
    have hb02 := hb01.trans (hb2.mono hb01.size)
    clear hb01 hb2
    go_wp2
    go_ret
    exact ⟨rfl, hb02⟩
  | false =>
    obtain ⟨N, hN⟩ : ∃ N : Nat, N = 131172 := ⟨_, rfl⟩
    have hb2 : i0.bytes * N ≤ 281474976710656 := by rw [hz2]; omega
    have hb3 : N ≤ maxLen := by unfold maxLen; omega
    have HC := Lib.hid (show (131172 : Int) = (N : Int) by omega)
    have HNN := Lib.hid hN
    have hn1 : 131172 ≤ N := by omega
    have hn2 : N ≤ 131173 := by omega
    clear hN
    go_enter Try.func6, Try.ntmps6
    go_wp2_with (at_make; refine wpList_make_full _ rfl _ _ 22 rfl w.heap.size 5 i0 (.int .u8 0) 1 Try.underlying22 hi hz0 hz1 _ _ _ _ N rfl rfl HC.out HC.out hb2 hb3 (Nat.le_refl _) ?_)
    intro w0 hown0 hgr0
    have hb0 : Below w.heap.size w w0 := (Below.refl _ w).grown hgr0 (Nat.le_refl _) (fun k h => by cases h)
    have hbat := zeros_bat hown0
    obtain ⟨l, hl⟩ : ∃ l, l = List.replicate N (0 : UInt8) := ⟨_, rfl⟩
    rw [← hl] at hbat
    have hlen : N = l.length := by rw [hl]; exact List.length_replicate.symm
    have C := Lib.hid (Pack_ok 2 (some ⟨w.heap.size, 0, none⟩) N N l w0 (by decide) hlen hbat (fun h => by cases h) (Nat.le_refl _) (by rw [HNN.out]; decide))
    have ht := take_pack 2 l [] (by decide) (by rw [← hlen, HNN.out]; decide)
    have hpl := packL_len 2 l
    rw [List.append_nil] at ht
    generalize packL 2 l = P at C ht hpl
    have HT := Lib.hid ht
    have hP14 : P.length = N + 14 := by rw [hpl, ← hlen]
    have HLN := Lib.hid hlen
    clear hown0 hgr0 hbat hlen hb2 hb3 ht hpl hl
    go_wp2_with fail
    refine C.out.mono ?_
    rintro e w1 ⟨v, rfl, hr1, _, hb1⟩
    obtain ⟨a, c, rfl, hlc, hcm, hbat1, _⟩ := hr1.shape
    have hb01 := hb0.trans (hb1.mono hb0.size)
    have D := Lib.hid (Take_any a P.length c P w1 rfl hbat1 hlc hcm)
    rw [HT.out.1, HT.out.2.1, HT.out.2.2.1, HT.out.2.2.2, ← HLN.out] at D
    rw [hP14] at D ⊢
    have E1 := Lib.hid (show ((N + 14 : Nat) : Int) = (N : Int) + 14 by omega)
    clear C hr1 hb1 hb0 hbat1 hlc hcm
    go_wp2_with fail
    refine D.out.mono ?_
    rintro e w2 ⟨v2, rfl, hr2, _, hb2⟩
    obtain ⟨a2, c2, rfl, _, _, _, _⟩ := hr2.shape
    have hb02 := hb01.trans (hb2.mono hb01.size)
    clear D hr2 hb2 hb01
    rw [← HLN.out]
    go_wp2_with fail
    refine (awake5 _).mono ?_
    rintro e w3 ⟨rfl, hb3⟩
    have hb03 := hb02.trans (hb3.mono hb02.size)
    clear hb02 hb3
    have hNN : (N : Int) = 131172 := HC.out.symm
    go_wp2
    go_ret
    exact ⟨rfl, hb03⟩
end Go.Proofs.Ytjlgihdlcfanbaa.frameLimit
