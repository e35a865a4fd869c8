/-
  Layer 12, the program: Comes.
-/
import Derived.Test.YtajmgjhknmkfpaaUq
namespace Go.Proofs.Ytajmgjhknmkfpaa
set_option maxRecDepth 20000
open Go.RowKit Go.Maps
set_option linter.unusedVariables false
set_option linter.unusedSimpArgs false

set_option maxRecDepth 100000 in
set_option maxHeartbeats 16000000 in
theorem comesP_any {w : World} {p : Option Addr} {L : List Gn} (H : GOps p L w) (a b : List UInt8) (ha : a.length = 20) (hb : b.length = 20) :
    Calls Try.prog 26 #[.pointer p, .agg (arrD a), .agg (arrD b)] w fun e w' => e = .returned (.bool (comesG L a b)) ∧ Below w.heap.size w w' := by
  obtain ⟨A, hA⟩ : ∃ A, arrD a = A := ⟨_, rfl⟩
  obtain ⟨B, hB⟩ : ∃ B, arrD b = B := ⟨_, rfl⟩
  have IA := Lib.hid (show (Try.prog.info? 32).map (·.size) = some A.size by rw [← hA]; exact infoD_arr _ (arrD_size a ha))
  have IB := Lib.hid (show (Try.prog.info? 32).map (·.size) = some B.size by rw [← hB]; exact infoD_arr _ (arrD_size b hb))
  have b1 := (Below.refl w.heap.size w).alloc (Nat.le_refl _) (.cells A 32)
  have b2 := b1.alloc b1.size (.cells B 32)
  have e1 : (w.alloc (.cells A 32)).heap.size = w.heap.size + 1 := by simp
  have h1 := (((Below.refl (w.alloc (.cells A 32)).heap.size (w.alloc (.cells A 32))).alloc (Nat.le_refl _) (.cells B 32)).block w.heap.size (by simp)).trans (heap_alloc_new w _)
  have h2 := heap_alloc_new (w.alloc (.cells A 32)) (.cells B 32)
  rw [e1] at h2
  have X1 := Lib.hid h1; have X2 := Lib.hid h2; have B2 := Lib.hid b2
  have HH := Lib.hid H
  have C1 := H.place _ b2 a ha
  rw [hA] at C1
  have CB := fun u (hu : Below w.heap.size w u) => H.place u hu b hb
  rw [hB] at CB
  unfold placeV at C1 CB
  rw [hA, hB]
  have HN := H.few
  have G := H.good
  have ANS : comesG L a b = (match atG L a, atG L b with | some i, some j => onG (closedG L [i]) j | _, _ => false) := rfl
  clear b1 b2 h1 h2 H e1
  cases qa : atG L a with
  | none =>
    rw [qa] at C1 ANS
    simp only [Option.getD_none, Option.isSome_none] at C1
    have C1 := Lib.hid C1; have CB := Lib.hid CB; have ANS := Lib.hid ANS
    obtain ⟨kb, hkb⟩ : ∃ k : Int, (((atG L b).getD 0 : Nat) : Int) = k := ⟨_, rfl⟩
    obtain ⟨ob, hob⟩ : ∃ o, (atG L b).isSome = o := ⟨_, rfl⟩
    rw [hkb, hob] at CB
    clear hkb hob qa HN hA hB G
    go_enter Try.func26, Try.ntmps26
    go_wp2_with (first
      | (with_reducible refine wpList_load_all 32 (.tmp 4) rfl (by kernel_rfl) w.heap.size A 32 (0, 0) rfl X1.out _ Try.underlying32 rfl IA.out ?_)
      | fail)
    refine C1.out.mono ?_
    rintro e w3 ⟨rfl, hb3⟩
    have X3 := Lib.hid ((hb3.block _ (lt_of_heap X2.out)).trans X2.out)
    have B3 := Lib.hid (B2.out.trans (hb3.mono B2.out.size))
    clear hb3
    have C2 := Lib.hid (CB.out w3 B3.out)
    go_wp2_with (first
      | (with_reducible refine wpList_load_all 32 (.tmp 5) rfl (by kernel_rfl) (w.heap.size + 1) B 32 (0, 0) rfl X3.out _ Try.underlying32 rfl IB.out ?_)
      | fail)
    refine C2.out.mono ?_
    rintro e w4 ⟨rfl, hb4⟩
    have B4 := Lib.hid (B3.out.trans (hb4.mono B3.out.size))
    clear hb4
    go_wp2
    go_ret
    exact ⟨by rw [ANS.out]; rfl, B4.out⟩
  | some i =>
    rw [qa] at C1 ANS
    simp only [Option.getD_some, Option.isSome_some] at C1
    have C1 := Lib.hid C1
    cases qb : atG L b with
    | none =>
      rw [qb] at CB ANS
      simp only [Option.getD_none, Option.isSome_none] at CB
      have CB := Lib.hid CB; have ANS := Lib.hid ANS
      clear qa qb HN hA hB G
      go_enter Try.func26, Try.ntmps26
      go_wp2_with (first
        | (with_reducible refine wpList_load_all 32 (.tmp 4) rfl (by kernel_rfl) w.heap.size A 32 (0, 0) rfl X1.out _ Try.underlying32 rfl IA.out ?_)
        | fail)
      refine C1.out.mono ?_
      rintro e w3 ⟨rfl, hb3⟩
      have X3 := Lib.hid ((hb3.block _ (lt_of_heap X2.out)).trans X2.out)
      have B3 := Lib.hid (B2.out.trans (hb3.mono B2.out.size))
      clear hb3
      have C2 := Lib.hid (CB.out w3 B3.out)
      go_wp2_with (first
        | (with_reducible refine wpList_load_all 32 (.tmp 5) rfl (by kernel_rfl) (w.heap.size + 1) B 32 (0, 0) rfl X3.out _ Try.underlying32 rfl IB.out ?_)
        | fail)
      refine C2.out.mono ?_
      rintro e w4 ⟨rfl, hb4⟩
      have B4 := Lib.hid (B3.out.trans (hb4.mono B3.out.size))
      clear hb4
      go_wp2
      go_ret
      exact ⟨by rw [ANS.out]; rfl, B4.out⟩
    | some j =>
      rw [qb] at CB ANS
      simp only [Option.getD_some, Option.isSome_some] at CB
      have hi := (atG_some qa).1
      have hj := (atG_some qb).1
      obtain ⟨n, hn⟩ : ∃ n, L.length = n := ⟨_, rfl⟩
      have gj : (j : Int) < (n : Int) := by omega
      have HI := Lib.hid hi; have HJ := Lib.hid hj; have HLN := Lib.hid hn
      have CB := Lib.hid CB; have ANS := Lib.hid ANS
      clear qa qb HN hA hB G hi hj hn
      go_enter Try.func26, Try.ntmps26
      go_wp2_with (first
        | (with_reducible refine wpList_load_all 32 (.tmp 4) rfl (by kernel_rfl) w.heap.size A 32 (0, 0) rfl X1.out _ Try.underlying32 rfl IA.out ?_)
        | fail)
      refine C1.out.mono ?_
      rintro e w3 ⟨rfl, hb3⟩
      have X3 := Lib.hid ((hb3.block _ (lt_of_heap X2.out)).trans X2.out)
      have B3 := Lib.hid (B2.out.trans (hb3.mono B2.out.size))
      clear hb3
      have C2 := Lib.hid (CB.out w3 B3.out)
      go_wp2_with (first
        | (with_reducible refine wpList_load_all 32 (.tmp 5) rfl (by kernel_rfl) (w.heap.size + 1) B 32 (0, 0) rfl X3.out _ Try.underlying32 rfl IB.out ?_)
        | fail)
      refine C2.out.mono ?_
      rintro e w4 ⟨rfl, hb4⟩
      have B4 := Lib.hid (B3.out.trans (hb4.mono B3.out.size))
      clear hb4
      have b5 := (Below.refl w4.heap.size w4).alloc (Nat.le_refl _) (.cells #[.int .i64 (i : Int)] 3)
      have B5 := Lib.hid (B4.out.trans (b5.mono B4.out.size))
      have CC := HH.out.closed (w4.alloc (.cells #[.int .i64 (i : Int)] 3)) B5.out (.slice (some ⟨w4.heap.size, 0, none⟩) 1 1) [i] ⟨_, 1, rfl, rowN_one w4 i, (fun h => by cases h), Nat.le_refl _, by unfold maxLen; omega, fun _ _ _ => trivial⟩ (fun p hp => by rw [List.mem_singleton.1 hp]; exact HI.out) (by simp)
      rw [HLN.out] at CC
      obtain ⟨m, hm⟩ : ∃ m, (w4.alloc (.cells #[.int .i64 (i : Int)] 3)).heap.size = m := ⟨_, rfl⟩
      rw [hm] at CC
      have CC := Lib.hid CC; have HM := Lib.hid hm
      clear b5 hm
      go_wp2_with fail
      refine CC.out.mono ?_
      rintro e w6 ⟨rfl, hm6, hb6⟩
      have c6 := hm6.cell (p := j) (by rw [← HLN.out]; exact HJ.out)
      have B6 := Lib.hid (B5.out.trans ((show Below (w4.alloc (.cells #[.int .i64 (i : Int)] 3)).heap.size (w4.alloc (.cells #[.int .i64 (i : Int)] 3)) w6 by rw [HM.out]; exact hb6).mono B5.out.size))
      obtain ⟨r, hr⟩ : ∃ r, onG (closedG L [i]) j = r := ⟨_, rfl⟩
      rw [hr] at c6 ANS
      clear hm6 hb6 hr CC
      go_wp2
      go_ret
      exact ⟨by rw [ANS.out]; rfl, B6.out⟩
theorem comesP_is {S : Nat → Prop} {w : World} {g : Nat} {L : List Gn} (h : GraphP S w g L) (hL : L.length ≤ 1000) (hfew : ∀ k, (plAt L k).length ≤ 1000) (a b : List UInt8) (ha : a.length = 20) (hb : b.length = 20) :
    Calls Try.prog 26 #[.pointer (some ⟨g, 0, none⟩), .agg (arrD a), .agg (arrD b)] w fun e w' => e = .returned (.bool (comesG L a b)) ∧ Below w.heap.size w w' := comesP_any (GOps.of h hL hfew) a b ha hb
theorem comesP_nil (w : World) (a b : List UInt8) (ha : a.length = 20) (hb : b.length = 20) :
    Calls Try.prog 26 #[.pointer none, .agg (arrD a), .agg (arrD b)] w fun e w' => e = .returned (.bool false) ∧ Below w.heap.size w w' := comesP_any (GOps.nil w) a b ha hb
end Go.Proofs.Ytajmgjhknmkfpaa
