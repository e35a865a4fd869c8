/-
  Layer 7: Id of the document's answers.
-/
import Derived.Test.YtbcbbkdfdfgnfaaDoorNe
import Derived.Test.YtbcbbkdfdfgnfaaDoorRs
import Derived.Test.YtbcbbkdfdfgnfaaDoorIv
namespace Go.Proofs.YtbcbbkdfdfgnfaaDoor
open Go.RowKit
set_option linter.unusedVariables false
set_option linter.unusedSimpArgs false

/-- The id of an object. -/
def sumO (k : Int) (l : List UInt8) : List UInt8 := if (printO k l).2 = 0 then sumL (printO k l).1 else List.replicate 20 0
theorem printO_len (k : Int) (l : List UInt8) (h : (printO k l).2 = 0) : (printO k l).1.length ≤ 1000000 := by
  by_cases hk : kindO k
  · by_cases hl : l.length ≤ 65536
    · rw [printO_ok k l hk hl, objO_length]
      have h1 := wordO_len k
      have h2 := numO_le l.length 4 (by omega)
      omega
    · rw [printO_limit k l hk (by omega)] at h
      exact absurd h (by decide)
  · rw [printO_kind k l hk] at h
    exact absurd h (by decide)
set_option maxHeartbeats 8000000 in
set_option maxRecDepth 100000 in
theorem roId_is (k : Int) (a : Option Addr) (n c : Nat) (l : List UInt8) (w : World) (hn : n = l.length) (hb : BAt w a l) (hno : a = none → n = 0 ∧ c = 0) (hc : n ≤ c) (hm : c ≤ maxLen) :
    Calls Tryd.prog 15 #[.agg #[.int .i64 k, .slice a n c]] w fun e w' => e = .returned (idv (sumO k l)) ∧ Below w.heap.size w w' := by
  obtain ⟨z, hz, hze⟩ := z29
  have hzv := zero_arr hz
  have hzs : z.size = 20 := by rw [hze]; simp
  have b00 := (Below.refl w.heap.size w).alloc (Nat.le_refl _) (.cells #[.int .i64 k, .slice a n c] 24)
  have b0 := b00.alloc b00.size (.cells z 34)
  have r0 : ((w.alloc (.cells #[.int .i64 k, .slice a n c] 24)).alloc (.cells z 34)).heap[w.heap.size + 1]? = some (.cells z 34 (0, 0)) := by
    rw [show w.heap.size + 1 = (w.alloc (.cells #[.int .i64 k, .slice a n c] 24)).heap.size by simp]; exact heap_alloc_new _ _
  have CP := roPrint_any k a n c l _ hn (hb.keep b0) hno hc hm
  have PL := printO_len k l
  unfold sumO
  by_cases he : (printO k l).2 = 0
  · rw [if_pos he]
    rw [he] at CP
    have pl := PL he
    generalize (printO k l).1 = m at CP pl ⊢
    have HB0 := Lib.hid b0; have HR0 := Lib.hid r0; have HZS := Lib.hid hzs
    clear b00 b0 r0 PL he hn hb hno hz hze hzs
    go_enter Tryd.func15, Tryd.ntmps15
    go_wp2_with fail
    refine CP.mono ?_
    rintro e w3 ⟨v3, rfl, ⟨qa, qc, rfl, hqb, hqn, hqc, hqm⟩, hb3⟩
    have r3 := (hb3.block (w.heap.size + 1) (Array.getElem?_eq_some_iff.1 HR0.out).1).trans HR0.out
    have b3 := HB0.out.trans (hb3.mono HB0.out.size)
    have hlt3 : w.heap.size + 1 < w3.heap.size := (Array.getElem?_eq_some_iff.1 r3).1
    obtain ⟨arr, hia, haa⟩ := idv_cells (sumL m)
    have C1 := rSum_any w3 qa qc m pl hqb hqn
    rw [hia] at C1
    have hasz : arr.size = 20 := by rw [haa]; simp [bc_len, sumL, digest_len]
    have hall : arr.all (·.oneCell') = true := by rw [haa]; exact bc_all _
    have HASZ := Lib.hid hasz; have HALL := Lib.hid hall; have HB3 := Lib.hid b3; have HR3 := Lib.hid r3; have HIA := Lib.hid hia; have HLT := Lib.hid hlt3
    obtain ⟨ml, hml⟩ : ∃ ml, m.length = ml := ⟨_, rfl⟩
    rw [hml] at C1
    rw [hml]
    clear CP hqb hqn hqc hqm hb3 r3 b3 hasz hall hia haa hlt3 hml pl
    go_wp2_with fail
    refine C1.mono ?_
    rintro e w4 ⟨rfl, hb4⟩
    have HR4 := Lib.hid ((hb4.block (w.heap.size + 1) HLT.out).trans HR3.out)
    have HB4 := Lib.hid (HB3.out.trans (hb4.mono HB3.out.size))
    clear C1 hb4
    go_wp2_with (first
      | (with_reducible refine wpList_store_row rfl 34 (.tmp 2) (.tmp 14) rfl (w.heap.size + 1) arr rfl rfl 34 z ?sg ?si ?so ?s1 ?_)
      | fail)
    case sg => exact HR4.out
    case si => rw [info29, HASZ.out]
    case so => rw [HZS.out, HASZ.out]
    case s1 => exact HALL.out
    refine bodyPost_ret (results_cell_row Tryd.results15 _ _ (w.heap.size + 1) 34 arr (0, 0) _ rfl (setRow_heap w4 (w.heap.size + 1) z arr _ (0, 0) HR4.out) Tryd.underlying34 rfl (by rw [info29, HASZ.out])) rfl ⟨by rw [HIA.out], below_setRow HB4.out (Nat.le_succ _) arr⟩
  · rw [if_neg he]
    have hzi : idv (List.replicate 20 0) = .agg z := by rw [hze]; rfl
    rw [hzi]
    obtain ⟨x, hx⟩ : ∃ x, (printO k l).2 = x := ⟨_, rfl⟩
    rw [hx] at he CP
    have hxb : (x != 0) = true := by simp [he]
    have hall : z.all (·.oneCell') = true := by rw [hze]; exact bc_all (List.replicate 20 0)
    have HB0 := Lib.hid b0; have HR0 := Lib.hid r0; have HZS := Lib.hid hzs; have HALL := Lib.hid hall
    clear b00 b0 r0 PL hn hb hno hz hze hzs hzi hx hall
    go_enter Tryd.func15, Tryd.ntmps15
    go_wp2_with fail
    refine CP.mono ?_
    rintro e w3 ⟨v3, rfl, ⟨qa, qc, rfl, hqb, hqn, hqc, hqm⟩, hb3⟩
    have HR3 := Lib.hid ((hb3.block (w.heap.size + 1) (Array.getElem?_eq_some_iff.1 HR0.out).1).trans HR0.out)
    have HB3 := Lib.hid (HB0.out.trans (hb3.mono HB0.out.size))
    clear CP hqb hqn hqc hqm hb3
    go_wp2_with (first
      | (with_reducible refine wpList_store_row rfl 34 (.tmp 2) (.tmp 12) rfl (w.heap.size + 1) z rfl rfl 34 z ?sg ?si ?so ?s1 ?_)
      | fail)
    case sg => exact HR3.out
    case si => rw [info29, HZS.out]
    case so => rfl
    case s1 => exact HALL.out
    refine bodyPost_ret (results_cell_row Tryd.results15 _ _ (w.heap.size + 1) 34 z (0, 0) _ rfl (setRow_heap w3 (w.heap.size + 1) z z _ (0, 0) HR3.out) Tryd.underlying34 rfl (by rw [info29, HZS.out])) rfl ⟨rfl, below_setRow HB3.out (Nat.le_succ _) z⟩
end Go.Proofs.YtbcbbkdfdfgnfaaDoor
