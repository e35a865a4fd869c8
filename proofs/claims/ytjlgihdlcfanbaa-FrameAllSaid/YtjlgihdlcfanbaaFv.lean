/-
  Layer 5: Take of the document's answers, where there is a frame; and whole.
-/
import Derived.Test.YtjlgihdlcfanbaaFu
import Derived.Deep.RegionWith
namespace Go.Proofs.Ytjlgihdlcfanbaa
open Go.RowKit
set_option linter.unusedVariables false
set_option linter.unusedSimpArgs false

set_option maxHeartbeats 16000000 in
theorem rTake_good (b o n c : Nat) (l : List UInt8) (N : Nat) (x1 x2 x3 x4 x5 : Int) (w : World) (h6 : 6 ≤ n) (hc : n ≤ c) (hm : c ≤ maxLen) (hn : n = l.length) (hbat : BAt w (some ⟨b, o, none⟩) l) (hh : HeadAt w b o x1 x2 x3 x4 x5)
    (hN : x2 * 16777216 + x3 * 65536 + x4 * 256 + x5 = (N : Int)) (ok : Bool) (hok : bigOk l N = ok) (hz0 : bigE n N ok = 0) :
    Calls Try.prog 13 #[.slice (some ⟨b, o, none⟩) n c] w fun e w' => ∃ v, e = .returned (.tuple #[.int .i64 x1, v, .int .i64 ((14 + N : Nat) : Int), .int .i64 0]) ∧ Row w' v ((l.drop 6).take N) ∧ (∀ g, foot v = some g → w.heap.size ≤ g) ∧ Below w.heap.size w w' := by
  unfold maxLen at hm
  obtain ⟨z, hz, hze⟩ := z29
  have hzv := zero_arr hz
  have hzs : z.size = 20 := by rw [hze]; simp
  have HZS := Lib.hid hzs
  have HBA := Lib.hid hbat; have HLN := Lib.hid hn
  obtain ⟨hlt, c0, c1, c2, c3, c4, c5, r1, r2, r3, r4, r5⟩ := hh
  have hw := word64 r2 r3 r4 r5
  rw [hN] at hw
  have hN2 : N < 4294967296 := by omega
  have HN2 := Lib.hid hN2
  obtain ⟨r10, r11⟩ := r1; obtain ⟨r20, r21⟩ := r2; obtain ⟨r30, r31⟩ := r3; obtain ⟨r40, r41⟩ := r4; obtain ⟨r50, r51⟩ := r5
  have HN := Lib.hid hN; have HOK := Lib.hid hok; have HC1 := Lib.hid c1
  clear hN hz hze hzs hbat hn hok hN2
  have hl : ¬ 131172 < N := fun h => by unfold bigE at hz0; rw [if_pos h] at hz0; cases hz0
  have hs : ¬ n < 14 + N := fun h => by unfold bigE at hz0; rw [if_neg hl, if_pos h] at hz0; cases hz0
  have hok1 : ok = true := by
    unfold bigE at hz0; rw [if_neg hl, if_neg hs] at hz0
    cases ok with
    | true => rfl
    | false => rw [if_neg (by decide)] at hz0; cases hz0
  clear hz0
  have HL := Lib.hid hl; have HS := Lib.hid hs
  clear hl hs
  go_enter Try.func13, Try.ntmps13
  go_wp2_with fail
  go_quiet (fail)
  have hbq : Below w.heap.size w (w.drewN nq) := below_drewN (Below.refl _ w) _
  generalize hwq : w.drewN nq = wq at hbq
  clear hwq c0 c1 c2 c3 c4 c5
  have hl := HL.out
  have hs := HS.out
  have hl2 : ¬ ((131172 : Int) < (N : Int)) := by omega
  have hs2 : ¬ ((n : Int) < 14 + (N : Int)) := by omega
  obtain ⟨M, hM⟩ : ∃ M : Nat, 6 + N = M := ⟨_, rfl⟩
  obtain ⟨Z, hZ⟩ : ∃ Z : Nat, 14 + N = Z := ⟨_, rfl⟩
  have hM2 : 6 + (N : Int) = (M : Int) := by omega
  have hZ2 : 14 + (N : Int) = (Z : Int) := by omega
  have hZn : Z ≤ n := by omega
  have hMZ : M + 8 = Z := by omega
  rw [hZ2] at hs2
  have HM := Lib.hid hM; have HZ := Lib.hid hMZ
  have hslA := fun u => slice_head (some ⟨b, o, none⟩) n c M M rfl (by omega) u
  have hslB := fun u => slice_u8_lh u (some ⟨b, o, none⟩) n c M Z (by omega) (by omega) M Z rfl rfl
  have hslC := fun u => slice_u8_lh u (some ⟨b, o, none⟩) n c 6 M (by omega) (by omega) 6 M rfl rfl
  rw [if_neg (by omega), show Z - M = 8 by omega] at hslB
  rw [if_neg (by omega), show M - 6 = N by omega] at hslC
  simp only [Option.map_some, addr_add] at hslB hslC
  clear hM hZ hl hs hMZ
  obtain ⟨arr, hia, haa⟩ := idv_cells (sumL (l.take M))
  have htl : (l.take M).length = M := by rw [List.length_take, ← HLN.out]; omega
  have hbw : BAt wq (some ⟨b, o, none⟩) l := HBA.out.below hbq (Nat.le_refl _)
  have C1 := rSum_of wq (some ⟨b, o, none⟩) M c (l.take M) htl.symm (by rw [htl]; omega) (hbw.first M (by rw [← HLN.out]; omega)) (fun h => by cases h)
  rw [hia] at C1
  have hasz : arr.size = 20 := by rw [haa]; simp [bc_len, sumL, digest_len]
  have hall : arr.all (·.oneCell') = true := by rw [haa]; exact bc_all _
  have CS := Lib.hid C1; have HASZ := Lib.hid hasz; have HALL := Lib.hid hall; have HAA := Lib.hid haa; have HBW := Lib.hid hbw
  clear hia haa hasz hall C1 hbw htl
  go_wp2_with fail
  refine CS.out.mono ?_
  rintro e w1 ⟨rfl, hb1⟩
  have HBW1 := Lib.hid (HBW.out.keep hb1)
  have HB01 := Lib.hid (hbq.trans (hb1.mono hbq.size))
  have hslD := fun u => slice20_h u w1.heap.size 8 (by omega) 8 rfl
  clear CS hb1
  go_wp2_with (first
    | (with_reducible refine wpList_store_row rfl 47 (.tmp 7) (.tmp 51) rfl w1.heap.size arr rfl rfl 47 z (heap_alloc_new w1 _) (by rw [info29, HASZ.out]) (by rw [HZS.out, HASZ.out]) HALL.out ?_)
    | fail)
  have h2 : ((w1.alloc (.cells z 47)).setRow w1.heap.size arr).heap[w1.heap.size]? = some (.cells arr 47 (0, 0)) := setRow_heap _ _ z arr _ _ (heap_alloc_new w1 _)
  have hb12 : Below w1.heap.size w1 ((w1.alloc (.cells z 47)).setRow w1.heap.size arr) := below_setRow ((Below.refl _ w1).alloc (Nat.le_refl _) _) (Nat.le_refl _) arr
  generalize (w1.alloc (.cells z 47)).setRow w1.heap.size arr = w2 at h2 hb12 ⊢
  obtain ⟨A, hA⟩ : ∃ A, (sumL (l.take M)).take 8 = A := ⟨_, rfl⟩
  obtain ⟨B, hB⟩ : ∃ B, (l.drop M).take 8 = B := ⟨_, rfl⟩
  have hl8 : A.length = 8 := by rw [← hA, List.length_take, sumL_len]; rfl
  have hm8 : B.length = 8 := by rw [← hB, List.length_take, List.length_drop, ← HLN.out]; have := HZ.out; omega
  have hokv : (A == B) = ok := by rw [← HOK.out, ← hA, ← hB, ← HM.out]; rfl
  have hcA : ∀ q, (convert 22 9 (.slice (some ⟨w1.heap.size, 0, none⟩) 8 20)).run Try.prog (w2.drewN q) = .ok (.string ⟨A.toArray⟩) (w2.drewN q) := fun q => by
    have hI : BAt (w2.drewN q) (some ⟨w1.heap.size, 0, none⟩) A := by rw [← hA]; exact id_bat (w := w2.drewN q) h2 HAA.out 8
    rw [← hl8]
    exact hI.conv (P := Try.prog) 20 22 5 Try.underlying22 Try.underlying5 9 Try.underlying9
  have hcB : ∀ q, (convert 22 9 (.slice (some ⟨b, o + M, none⟩) 8 (c - M))).run Try.prog (w2.drewN q) = .ok (.string ⟨B.toArray⟩) (w2.drewN q) := fun q => by
    have hJ : BAt (w2.drewN q) (some ⟨b, o + M, none⟩) B := by rw [← hB]; exact (HBW1.out.keep (below_drewN hb12 q)).cut M 8 (by rw [← HLN.out]; have := HZ.out; omega)
    rw [← hm8]
    exact hJ.conv (P := Try.prog) (c - M) 22 5 Try.underlying22 Try.underlying5 9 Try.underlying9
  have HB02 := Lib.hid (HB01.out.trans (hb12.mono HB01.out.size))
  have hwM : IntKind.i64.wrap (M : Int) = M := wraps_i64 _ (by omega) (by omega)
  have hwZ : IntKind.i64.wrap (Z : Int) = Z := wraps_i64 _ (by omega) (by omega)
  rw [hok1] at hokv
  have hxc := (HB02.out.cell (p := ⟨b, o + 1, none⟩) hlt).trans HC1.out
  have HPB := Lib.hid ((HBW1.out.keep hb12).cut 6 N (by rw [← HLN.out]; have := HM.out; have := HZ.out; omega))
  have hpl : ((l.drop 6).take N).length = N := by rw [List.length_take, List.length_drop, ← HLN.out]; have := HM.out; have := HZ.out; omega
  have HPL := Lib.hid hpl
  clear h2 hb12 hA hB hl8 hm8 HBW1 hpl
  go_quiet (fail)
  have hb3 : Below w.heap.size w (w2.drewN nq) := below_drewN HB02.out _
  have hx3 : (World.drew (w2.drewN nq)).cell? ⟨b, o + 1, none⟩ = some (.int .u8 x1) := hxc
  have HP3 := Lib.hid (HPB.out.keep ((below_drewN (Below.refl w2.heap.size w2) nq).drew))
  generalize w2.drewN nq = w3 at hb3 hx3 HP3 ⊢
  clear hcA hcB hxc HPB
  have hb30 : b < w3.heap.size := Nat.lt_of_lt_of_le hlt hb3.size
  have HQ := Lib.hid (show ∀ w', Below (World.drew w3).heap.size (World.drew w3) w' → w'.cell? ⟨b, o + 1, none⟩ = some (.int .u8 x1) from fun w' h => (h.cell (p := ⟨b, o + 1, none⟩) hb30).trans hx3)
  have C2 := Lib.hid (CopyBytes_any ((l.drop 6).take N) (World.drew w3) (some ⟨b, o + 6, none⟩) N (c - 6) HP3.out HPL.out.symm (fun h => by cases h) (by rw [HPL.out]; omega))
  have HB3 := Lib.hid hb3
  have hwx : IntKind.i64.wrap x1 = x1 := wraps_i64 x1 (by omega) (by omega)
  have hix := fun u => index_u8c u b o n c 1 (by omega) 1 rfl
  have HMZ := Lib.hid (show ((14 + N : Nat) : Int) = (Z : Int) by omega)
  clear HP3 hb3 hslA hslB
  go_wp2_with fail
  go_region_with (go_at_call 18; refine C2.out.mono ?_; rintro e w' ⟨v', rfl, hr, hf, hb⟩; have hqa := HQ.out w' hb; have HX := Lib.hid (And.intro hr (And.intro hf hb)); clear hr hf hb)
  all_goals
    go_wp2
    (try simp only [Exit.inBlock, Exit.then])
    refine bodyPost_ret (results_tmp4 rfl _ _ _) rfl ?_
    refine ⟨_, ?_, HX.out.1, fun g hg => Nat.le_trans HB3.out.size (HX.out.2.1 g hg), HB3.out.drew.trans (HX.out.2.2.mono HB3.out.size)⟩
    rw [HMZ.out]
    rfl
end Go.Proofs.Ytjlgihdlcfanbaa
