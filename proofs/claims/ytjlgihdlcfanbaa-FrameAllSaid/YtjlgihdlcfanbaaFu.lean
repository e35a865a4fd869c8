/-
  Layer 5: Take of the document's answers.
-/
import Derived.Test.YtjlgihdlcfanbaaFt
import Derived.Test.YtjlgihdlcfanbaaFr5
namespace Go.Proofs.Ytjlgihdlcfanbaa
open Go.RowKit
set_option linter.unusedVariables false
set_option linter.unusedSimpArgs false

set_option maxHeartbeats 4000000 in
theorem rTake_0 (a : Option Addr) (c : Nat) (w : World) :
    Calls Try.prog 13 #[.slice a 0 c] w fun e w' => e = .returned (.tuple #[.int .i64 0, .slice none 0 0, .int .i64 0, .int .i64 3]) ∧ w = w' := by
  go_enter Try.func13, Try.ntmps13
  go_wp2_with fail
  refine bodyPost_ret (results_tmp4 rfl _ _ _) rfl ⟨rfl, rfl⟩
set_option maxHeartbeats 4000000 in
theorem rTake_mark (b o n c : Nat) (x : Int) (w : World) (h0 : 0 < n) (hm : n ≤ maxLen) (hx : w.cell? ⟨b, o, none⟩ = some (.int .u8 x)) (hne : x ≠ 254) :
    Calls Try.prog 13 #[.slice (some ⟨b, o, none⟩) n c] w fun e w' => e = .returned (.tuple #[.int .i64 0, .slice none 0 0, .int .i64 0, .int .i64 4]) ∧ w = w' := by
  unfold maxLen at hm
  go_enter Try.func13, Try.ntmps13
  go_wp2_with fail
  refine bodyPost_ret (results_tmp4 rfl _ _ _) rfl ⟨rfl, rfl⟩
set_option maxHeartbeats 4000000 in
theorem rTake_short (b o n c : Nat) (w : World) (h0 : 0 < n) (h6 : n < 6) (hx : w.cell? ⟨b, o, none⟩ = some (.int .u8 254)) :
    Calls Try.prog 13 #[.slice (some ⟨b, o, none⟩) n c] w fun e w' => e = .returned (.tuple #[.int .i64 0, .slice none 0 0, .int .i64 0, .int .i64 3]) ∧ w = w' := by
  go_enter Try.func13, Try.ntmps13
  go_wp2_with fail
  refine bodyPost_ret (results_tmp4 rfl _ _ _) rfl ⟨rfl, rfl⟩
theorem word64 {x2 x3 x4 x5 : Int} (h2 : 0 ≤ x2 ∧ x2 < 256) (h3 : 0 ≤ x3 ∧ x3 < 256) (h4 : 0 ≤ x4 ∧ x4 < 256) (h5 : 0 ≤ x5 ∧ x5 < 256) :
    bits .or .i64 (bits .or .i64 (bits .or .i64 (x2 * 16777216) (x3 * 65536)) (x4 * 256)) x5 = x2 * 16777216 + x3 * 65536 + x4 * 256 + x5 := word_or .i64 63 (by decide) (by decide) wraps_i64 _ _ _ _ h2 h3 h4 h5
set_option maxHeartbeats 16000000 in
theorem rTake_big (b o n c : Nat) (l : List UInt8) (N : Nat) (x1 x2 x3 x4 x5 : Int) (w : World) (h6 : 6 ≤ n) (hc : n ≤ c) (hm : c ≤ maxLen) (hn : n = l.length) (hbat : BAt w (some ⟨b, o, none⟩) l) (hh : HeadAt w b o x1 x2 x3 x4 x5)
    (hN : x2 * 16777216 + x3 * 65536 + x4 * 256 + x5 = (N : Int)) (E : Int) (ok : Bool) (hok : bigOk l N = ok) (hE : ((bigE n N ok : Nat) : Int) = E) (hbad : E ≠ 0) :
    Calls Try.prog 13 #[.slice (some ⟨b, o, none⟩) n c] w fun e w' => e = .returned (.tuple #[.int .i64 0, .slice none 0 0, .int .i64 0, .int .i64 E]) ∧ Below w.heap.size w w' := by
  unfold maxLen at hm
  obtain ⟨z, hz, hze⟩ := z29
  have hzv := zero_arr hz
  have hzs : z.size = 20 := by rw [hze]; simp
  have HZS := Lib.hid hzs
  have HBA := Lib.hid hbat; have HLN := Lib.hid hn
  obtain ⟨hlt, c0, c1, c2, c3, c4, c5, r1, r2, r3, r4, r5⟩ := hh
  have hw := word64 r2 r3 r4 r5
  rw [hN] at hw
  have hN2 : N < 4294967296 := by omega
  have HN2 := Lib.hid hN2
  obtain ⟨r10, r11⟩ := r1; obtain ⟨r20, r21⟩ := r2; obtain ⟨r30, r31⟩ := r3; obtain ⟨r40, r41⟩ := r4; obtain ⟨r50, r51⟩ := r5
  have HN := Lib.hid hN; have HOK := Lib.hid hok; have HE := Lib.hid hE; have HBAD := Lib.hid hbad
  clear hN hz hze hzs hbat hn hok hE hbad hN2
  go_enter Try.func13, Try.ntmps13
  go_wp2_with fail
  go_quiet (fail)
  have hbq : Below w.heap.size w (w.drewN nq) := below_drewN (Below.refl _ w) _
  generalize hwq : w.drewN nq = wq at hbq
  clear hwq c0 c1 c2 c3 c4 c5
  by_cases hl : 131172 < N
  · have he : bigE n N ok = 5 := by unfold bigE; rw [if_pos hl]
    have he2 : E = 5 := by rw [← HE.out, he]; rfl
    subst he2
    have hl2 : (131172 : Int) < (N : Int) := by omega
    clear HE HBAD
    go_wp2_with fail
    refine bodyPost_ret (results_tmp4 rfl _ _ _) rfl ⟨rfl, hbq⟩
  · by_cases hs : n < 14 + N
    · have he : bigE n N ok = 3 := by unfold bigE; rw [if_neg hl, if_pos hs]
      have he2 : E = 3 := by rw [← HE.out, he]; rfl
      subst he2
      have hl2 : ¬ ((131172 : Int) < (N : Int)) := by omega
      have hs2 : (n : Int) < 14 + (N : Int) := by omega
      clear HE HBAD
      go_wp2_with fail
      refine bodyPost_ret (results_tmp4 rfl _ _ _) rfl ⟨rfl, hbq⟩
    · have hl2 : ¬ ((131172 : Int) < (N : Int)) := by omega
      have hs2 : ¬ ((n : Int) < 14 + (N : Int)) := by omega
      obtain ⟨M, hM⟩ : ∃ M : Nat, 6 + N = M := ⟨_, rfl⟩
      obtain ⟨Z, hZ⟩ : ∃ Z : Nat, 14 + N = Z := ⟨_, rfl⟩
      have hM2 : 6 + (N : Int) = (M : Int) := by omega
      have hZ2 : 14 + (N : Int) = (Z : Int) := by omega
      have hZn : Z ≤ n := by omega
      have hMZ : M + 8 = Z := by omega
      rw [hZ2] at hs2
      have HM := Lib.hid hM; have HZ := Lib.hid hMZ
      have hslA := fun u => slice_head (some ⟨b, o, none⟩) n c M M rfl (by omega) u
      have hslB := fun u => slice_u8_lh u (some ⟨b, o, none⟩) n c M Z (by omega) (by omega) M Z rfl rfl
      have hslC := fun u => slice_u8_lh u (some ⟨b, o, none⟩) n c 6 M (by omega) (by omega) 6 M rfl rfl
      rw [if_neg (by omega), show Z - M = 8 by omega] at hslB
      rw [if_neg (by omega), show M - 6 = N by omega] at hslC
      simp only [Option.map_some, addr_add] at hslB hslC
      clear hM hZ hl hs hMZ
      obtain ⟨arr, hia, haa⟩ := idv_cells (sumL (l.take M))
      have htl : (l.take M).length = M := by rw [List.length_take, ← HLN.out]; omega
      have hbw : BAt wq (some ⟨b, o, none⟩) l := HBA.out.below hbq (Nat.le_refl _)
      have C1 := rSum_of wq (some ⟨b, o, none⟩) M c (l.take M) htl.symm (by rw [htl]; omega) (hbw.first M (by rw [← HLN.out]; omega)) (fun h => by cases h)
      rw [hia] at C1
      have hasz : arr.size = 20 := by rw [haa]; simp [bc_len, sumL, digest_len]
      have hall : arr.all (·.oneCell') = true := by rw [haa]; exact bc_all _
      have CS := Lib.hid C1; have HASZ := Lib.hid hasz; have HALL := Lib.hid hall; have HAA := Lib.hid haa; have HBW := Lib.hid hbw
      clear hia haa hasz hall C1 hbw htl
      go_wp2_with fail
      refine CS.out.mono ?_
      rintro e w1 ⟨rfl, hb1⟩
      have HBW1 := Lib.hid (HBW.out.keep hb1)
      have HB01 := Lib.hid (hbq.trans (hb1.mono hbq.size))
      have hslD := fun u => slice20_h u w1.heap.size 8 (by omega) 8 rfl
      clear CS hb1
      go_wp2_with (first
        | (with_reducible refine wpList_store_row rfl 47 (.tmp 7) (.tmp 51) rfl w1.heap.size arr rfl rfl 47 z (heap_alloc_new w1 _) (by rw [info29, HASZ.out]) (by rw [HZS.out, HASZ.out]) HALL.out ?_)
        | fail)
      have h2 : ((w1.alloc (.cells z 47)).setRow w1.heap.size arr).heap[w1.heap.size]? = some (.cells arr 47 (0, 0)) := setRow_heap _ _ z arr _ _ (heap_alloc_new w1 _)
      have hb12 : Below w1.heap.size w1 ((w1.alloc (.cells z 47)).setRow w1.heap.size arr) := below_setRow ((Below.refl _ w1).alloc (Nat.le_refl _) _) (Nat.le_refl _) arr
      generalize (w1.alloc (.cells z 47)).setRow w1.heap.size arr = w2 at h2 hb12 ⊢
      obtain ⟨A, hA⟩ : ∃ A, (sumL (l.take M)).take 8 = A := ⟨_, rfl⟩
      obtain ⟨B, hB⟩ : ∃ B, (l.drop M).take 8 = B := ⟨_, rfl⟩
      have hl8 : A.length = 8 := by rw [← hA, List.length_take, sumL_len]; rfl
      have hm8 : B.length = 8 := by rw [← hB, List.length_take, List.length_drop, ← HLN.out]; have := HZ.out; omega
      have hokv : (A == B) = ok := by rw [← HOK.out, ← hA, ← hB, ← HM.out]; rfl
      have hcA : ∀ q, (convert 22 9 (.slice (some ⟨w1.heap.size, 0, none⟩) 8 20)).run Try.prog (w2.drewN q) = .ok (.string ⟨A.toArray⟩) (w2.drewN q) := fun q => by
        have hI : BAt (w2.drewN q) (some ⟨w1.heap.size, 0, none⟩) A := by rw [← hA]; exact id_bat (w := w2.drewN q) h2 HAA.out 8
        rw [← hl8]
        exact hI.conv (P := Try.prog) 20 22 5 Try.underlying22 Try.underlying5 9 Try.underlying9
      have hcB : ∀ q, (convert 22 9 (.slice (some ⟨b, o + M, none⟩) 8 (c - M))).run Try.prog (w2.drewN q) = .ok (.string ⟨B.toArray⟩) (w2.drewN q) := fun q => by
        have hJ : BAt (w2.drewN q) (some ⟨b, o + M, none⟩) B := by rw [← hB]; exact (HBW1.out.keep (below_drewN hb12 q)).cut M 8 (by rw [← HLN.out]; have := HZ.out; omega)
        rw [← hm8]
        exact hJ.conv (P := Try.prog) (c - M) 22 5 Try.underlying22 Try.underlying5 9 Try.underlying9
      have HB02 := Lib.hid (HB01.out.trans (hb12.mono HB01.out.size))
      have hwM : IntKind.i64.wrap (M : Int) = M := wraps_i64 _ (by omega) (by omega)
      have hwZ : IntKind.i64.wrap (Z : Int) = Z := wraps_i64 _ (by omega) (by omega)
      have hE0 : ¬ 131172 < N := by omega
      have hE1 : ¬ n < 14 + N := by have := HM.out; have := HZ.out; omega
      have hok0 : ok = false := by
        cases ok with
        | false => rfl
        | true =>
          exfalso
          apply HBAD.out
          rw [← HE.out]; unfold bigE; rw [if_neg hE0, if_neg hE1, if_pos rfl]; rfl
      have he2 : E = 15 := by rw [← HE.out, hok0]; unfold bigE; rw [if_neg hE0, if_neg hE1, if_neg (by decide)]; rfl
      subst he2
      rw [hok0] at hokv
      clear h2 hb12 hA hB hl8 hm8 HE HBAD hE0 hE1 hok0 HBW1
      go_quiet (fail)
      have hb3 : Below w.heap.size w (w2.drewN nq) := below_drewN HB02.out _
      generalize w2.drewN nq = w3 at hb3 ⊢
      clear hcA hcB
      go_wp2_with fail
      trace_state
      refine bodyPost_ret (results_tmp4 rfl _ _ _) rfl ⟨rfl, hb3⟩
end Go.Proofs.Ytjlgihdlcfanbaa
