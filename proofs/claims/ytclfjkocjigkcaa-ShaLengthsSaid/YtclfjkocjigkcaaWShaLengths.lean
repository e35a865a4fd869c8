/-
  The walk of ShaLengths, over the contracts.
-/
import Derived.Test.YtclfjkocjigkcaaEq
namespace Go.Proofs.Ytclfjkocjigkcaa.shaLengths
open Go.RowKit
set_option linter.unusedVariables false
set_option linter.unusedSimpArgs false

set_option maxHeartbeats 4000000 in
theorem walk (w : World) (x : Int) (x0 : -9223372036854775808 ≤ x) (x1 : x ≤ 9223372036854775807) (b : UInt8) :
    Calls Try.prog 4 #[.int .i64 x, .int .u8 b.toNat] w fun e w' => e = .returned (.bool true) ∧ Below w.heap.size w w' := by
  obtain ⟨i0, hi, hz0, hz1, hz2⟩ := info_parts info5
  obtain ⟨u, hu⟩ : ∃ u, IntKind.u64.wrap x = u := ⟨_, rfl⟩
  have hu0 : 0 ≤ u := by rw [← hu, IntKind.wrap_u64]; omega
  obtain ⟨k, hk⟩ : ∃ k, u.tmod 260 = k := ⟨_, rfl⟩
  have hk0 : 0 ≤ k := by rw [← hk, IntWalk.rem_in u 260 hu0]; omega
  have hk1 : k < 260 := by rw [← hk, IntWalk.rem_in u 260 hu0]; omega
  obtain ⟨m, hm⟩ := Int.eq_ofNat_of_zero_le hk0
  have hm1 : m < 260 := by omega
  have hk2 : u.tmod 260 = (m : Int) := by rw [hk, hm]
  have hk3 : u % 260 = (m : Int) := by rw [← IntWalk.rem_in u 260 hu0]; exact hk2
  clear hk hm hk0 hk1 k
  obtain ⟨c, hc⟩ : ∃ c : Int, c = b.toNat := ⟨_, rfl⟩
  have hc0 : 0 ≤ c := by rw [hc]; omega
  have HC := Lib.hid hc
  rw [← hc]
  clear hc
  go_enter Try.func4, Try.ntmps4
  go_wp2_with (at_make; refine wpList_make_full _ rfl _ _ 22 rfl w.heap.size 5 i0 (.int .u8 0) 1 Try.underlying22 hi hz0 hz1 _ _ _ _ m rfl rfl (by omega) (by omega) ?b2 ?b3 (Nat.le_refl _) ?_)
  case b2 => rw [hz2]; omega
  case b3 => unfold maxLen; omega
  intro w0 hown0 hgrow0
  have hb0 : Below w.heap.size w w0 := (Below.refl _ _).grown hgrow0 (Nat.le_refl _) (fun k h => by cases h)
  generalize (madeCells #[Value.int .u8 0] m).toList = ys0 at hown0
  go_wp2_with fail
  go_loopw [14] (fun i wr => ∃ (k : Nat) (ys : List Value), k ≤ m ∧ i = .int .i64 k ∧ wr.ownsRow w.heap.size 5 1 (.slice (some ⟨w.heap.size, 0, none⟩) m m) m ys ∧ (∀ j, j < k → ys[j]? = some (.int .u8 c)) ∧ Below w.heap.size w wr) (fun i _ => m - (intOf i).toNat)
  case atStart => exact ⟨0, ys0, Nat.zero_le _, rfl, hown0, fun j hj => absurd hj (Nat.not_lt_zero _), hb0⟩
  case round =>
    clear hown0 hb0 hgrow0
    obtain ⟨k, ys, hk, rfl, hown, hys, hbr⟩ := hrel
    have HYS := Lib.hid hys; clear hys
    by_cases hlt : k < m
    · obtain ⟨y, hy⟩ := own_cell hown k hlt
      have hfz := hown.frozenAt k
      obtain ⟨hst, hgs⟩ := hown.stored k (.int .u8 c)
      have HL := Lib.hid (own_len hown)
      have HS := Lib.hid hst; have HG := Lib.hid hgs; clear hst hgs
      go_wp2
      go_roundw
      case rel =>
        refine ⟨k + 1, _, by omega, by go_num, HS.out, fun j hj => ?_, hbr.grown HG.out hbr.size (fun i hi => by cases hi; exact Nat.le_refl _)⟩
        rw [List.getElem?_set]
        split
        · rename_i e; rw [if_pos (by have := HL.out; omega)]
        · exact HYS.out j (by omega)
      case measure => simp [intOf]; omega
    · obtain rfl : k = m := by omega
      obtain ⟨l, hl⟩ : ∃ l : List UInt8, l = List.replicate k b := ⟨_, rfl⟩
      have hll : l.length = k := by rw [hl]; simp
      have hcl : ∀ j, j < k → wr.cell? ⟨w.heap.size, j, none⟩ = some (.int .u8 (l.getD j 0).toNat) := fun j hj => by
        rw [hown.cellAt j (by omega), HYS.out j hj, HC.out, hl]
        simp [hj]
      have hgl := own_lt hown
      obtain ⟨arr, hia, haa⟩ := idv_cells (sumL l)
      have heql := fun u => eql_ids u (sumL l) (digest_len _) arr haa
      have C1 := Lib.hid (fun u A n c (ps : Parts u A n l) (hn : n ≤ 1000000) => hia ▸ Sum_any u A n c l (by omega) hn ps)
      have C2 := Lib.hid (fun u A n c (hn : n = l.length) (hb : BAt u A l) (hno : A = none → l.length = 0 ∧ c = 0) => hia ▸ rSum_n u A n c l hn (by omega) hb hno)
      have HCL := Lib.hid hcl; have HLL := Lib.hid hll
      clear hown HYS hl hia haa hcl hll hu hk2 hk3
      go_wp2_with fail
      refine (awake_any _).mono ?_
      rintro e w1 ⟨rfl, hb1⟩
      have hb01 := hbr.trans (hb1.mono hbr.size)
      have hgl1 : w.heap.size < w1.heap.size := Nat.lt_of_lt_of_le hgl hb1.size
      have HCL1 := Lib.hid (fun j (hj : j < k) => (hb1.cell (p := ⟨w.heap.size, j, none⟩) hgl).trans (HCL.out j hj))
      clear HCL hb1 hbr hgl
      go_wp2_with fail
      obtain ⟨ps⟩ := one_slice (w := w1) (b := w.heap.size) (n := k) (c := k) (l := l) HLL.out.symm (Nat.le_refl _) hgl1 HCL1.out
      refine (C1.out _ _ 1 1 ps (by decide)).mono ?_
      rintro e w2 ⟨rfl, hb2⟩
      have hb02 := (hb01.alloc hb01.size (.cells #[Value.slice (some ⟨w.heap.size, 0, none⟩) k k] 22)).trans (hb2.mono (by have := hb01.size; simp; omega))
      have hbt : BAt w2 (some ⟨w.heap.size, 0, none⟩) l := bat_cells (by have := hb2.size; simp at this; omega) (fun j hj => by
        rw [hb2.cell (p := ⟨w.heap.size, j, none⟩) (by simp; omega), World.cell?_alloc_lt w1 _ ⟨w.heap.size, j, none⟩ hgl1]
        exact HCL1.out j (by rw [← HLL.out]; exact hj))
      have C3 := Lib.hid (C2.out w2 (some ⟨w.heap.size, 0, none⟩) k k HLL.out.symm hbt (fun h => by cases h))
      clear ps hb2 hbt hb01 C1 C2
      go_wp2_with fail
      refine C3.out.mono ?_
      rintro e w3 ⟨rfl, hb3⟩
      have hb03 := hb02.trans (hb3.mono hb02.size)
      go_wp2_with fail
      go_ret
      exact ⟨rfl, hb03⟩
end Go.Proofs.Ytclfjkocjigkcaa.shaLengths
