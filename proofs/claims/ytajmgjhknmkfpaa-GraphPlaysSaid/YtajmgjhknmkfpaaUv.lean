/-
  Layer 12: slices.IndexFunc and slices.DeleteFunc over ids.
-/
import Derived.Test.YtajmgjhknmkfpaaUu
namespace Go.Proofs.Ytajmgjhknmkfpaa
set_option maxRecDepth 20000
open Go.RowKit Go.Maps
set_option linter.unusedVariables false
set_option linter.unusedSimpArgs false

/-- The first place at which it is so; or -1. -/
def idxG (q : List UInt8 → Bool) (l : List (List UInt8)) : Int := match l.findIdx? q with
  | some k => (k : Int)
  | none => -1
set_option maxRecDepth 100000 in
set_option maxHeartbeats 8000000 in
theorem indexG_is (a : Option Addr) (n c : Nat) (l : List (List UInt8)) (w : World) (hr : RowAt rowI w a l) (hn : n = l.length) (hm : n ≤ 1000000) (hid : ∀ i ∈ l, i.length = 20) (f : FuncId) (lb : Array Value) (q : List UInt8 → Bool) (eg : ∀ args w, (callFunc f args).run Try.prog w = .ok (.enter f args) w)
    (hf : ∀ u, Below w.heap.size w u → ∀ i ∈ l, Calls Try.prog f (#[.agg (arrD i)] ++ lb) u fun e u' => e = .returned (.bool (q i)) ∧ Below u.heap.size u u') :
    Calls Try.prog 48 #[.slice a n c, .func (.func f) #[] lb] w fun e w' => e = .returned (.int .i64 (idxG q l)) ∧ Below w.heap.size w w' := by
  have HR := Lib.hid hr; have HN := Lib.hid hn; have HID := Lib.hid hid; have HF := Lib.hid hf
  clear hr hn hid hf
  go_enter Try.func48, Try.ntmps48
  go_wp2_with fail
  go_loopw [8] (fun i wr => ∃ k : Nat, k ≤ n ∧ i = .int .i64 k ∧ (∀ j (hj : j < l.length), j < k → q l[j] = false) ∧ Below w.heap.size w wr) (fun i _ => n - (intOf i).toNat)
  case atStart => exact ⟨0, Nat.zero_le _, rfl, fun j _ h => absurd h (Nat.not_lt_zero _), Below.refl _ _⟩
  case round =>
    obtain ⟨k, hk, rfl, hno, hbr⟩ := hrel
    have HNO := Lib.hid hno; have HBR := Lib.hid hbr
    clear hno hbr
    by_cases hlt : k < n
    · have hkl : k < l.length := by rw [← HN.out]; exact hlt
      obtain ⟨b, o, rfl, hb⟩ := HR.out.some (by omega)
      obtain ⟨i, hi⟩ : ∃ i, l[k] = i := ⟨_, rfl⟩
      have hmem : i ∈ l := by rw [← hi]; exact List.getElem_mem _
      have hi20 : i.length = 20 := HID.out i hmem
      have r0 : w.rangeAt b (o + k * 20) (cellsD i) := by
        have := HR.out.elem k hkl
        rw [hi] at this
        exact this
      have RI := Lib.hid (show wr.rangeAt b (o + k * 20) (cellsD i) from fun j v hv => (HBR.out.cell (p := ⟨b, o + k * 20 + j, none⟩) hb).trans (r0 j v hv))
      have LI := Lib.hid (show (Try.prog.info? 32).map (·.size) = some (cellsD i).length by rw [cellsD_len i hi20]; exact infoD_n)
      have CF := HF.out wr HBR.out i hmem
      obtain ⟨A, hA⟩ : ∃ A, (cellsD i).toArray = A := ⟨_, rfl⟩
      rw [show arrD i = A from hA] at CF
      have CF := Lib.hid CF
      obtain ⟨r, hrr⟩ : ∃ r, q i = r := ⟨_, rfl⟩
      rw [hrr] at CF
      have HQ := Lib.hid (show q l[k] = r by rw [hi]; exact hrr)
      have HLT := Lib.hid hlt
      clear hi hi20 r0 hmem hrr hb
      generalize cellsD i = ci at *
      go_wp2_with (first
        | (with_reducible refine wpList_load_midD 32 (.tmp 14) rfl (by kernel_rfl) b (o + k * 20) rfl ci _ RI.out Try.underlying32 rfl LI.out ?_; rw [hA])
        | fail)
      refine CF.out.mono ?_
      rintro e w2 ⟨rfl, hb2⟩
      have B2 := Lib.hid (HBR.out.trans (hb2.mono HBR.out.size))
      clear hb2 CF
      cases r with
      | true =>
        have HI := Lib.hid (show idxG q l = (k : Int) by
          unfold idxG
          rw [List.findIdx?_eq_some_iff_getElem.2 ⟨hkl, HQ.out, fun j hj => by rw [HNO.out j (by omega) hj]; decide⟩])
        go_wp2
        go_ret
        exact ⟨by rw [HI.out]; rfl, B2.out⟩
      | false =>
        go_wp2
        go_roundw
        case rel =>
          refine ⟨k + 1, HLT.out, by go_num, fun j hj hjk => ?_, B2.out⟩
          rcases Nat.lt_or_ge j k with h | h
          · exact HNO.out j hj h
          · obtain rfl : j = k := by omega
            exact HQ.out
        case measure => have := HLT.out; simp [intOf]; omega
    · obtain rfl : k = n := by omega
      have HI := Lib.hid (show idxG q l = -1 by
        unfold idxG
        rw [List.findIdx?_eq_none_iff.2 (fun x hx => by
          obtain ⟨j, hj, rfl⟩ := List.getElem_of_mem hx
          exact HNO.out j hj (by rw [HN.out]; exact hj))])
      go_wp2
      go_ret
      exact ⟨by rw [HI.out]; rfl, HBR.out⟩
theorem elem_ids : Try.prog.underlying 23 = some (.slice (Try.prog.elem 23)) := by kernel_rfl
theorem ids_head (a : Option Addr) (n c k : Nat) (hk : k ≤ c) (u : World) :
    (Instr.sliceAt 23 (.slice a n c) none (some (.int .i64 (k : Int))) none).run Try.prog u = .ok (.slice a k c) u := by
  obtain ⟨i, hi, hz, hs, hby⟩ := infoD_all
  have e : Try.prog.elem 23 = 32 := by kernel_rfl
  rw [run_sliceAt_slice (h := elem_ids), run_slice_h (ht := elem_ids) (h0 := by omega) (h2 := by omega)]
  rw [e]
  simp [sizeOf, typeInfo, hi, hs, Result.andThen, sliced]
  cases a with
  | none => simp
  | some a => simp [Addr.add]
theorem ids_tail (g n c k : Nat) (hk : k < n) (hc : n ≤ c) (u : World) :
    (Instr.sliceAt 23 (.slice (some ⟨g, 0, none⟩) n c) (some (.int .i64 (k : Int))) none none).run Try.prog u = .ok (.slice (some ⟨g, k * 20, none⟩) (n - k) (c - k)) u := by
  obtain ⟨i, hi, hz, hs, hby⟩ := infoD_all
  have e : Try.prog.elem 23 = 32 := by kernel_rfl
  rw [run_sliceAt_slice (h := elem_ids), run_slice_l (ht := elem_ids) (h0 := by omega) (h1 := by omega)]
  rw [e]
  have hne : ¬ c = k := by omega
  simp [sizeOf, typeInfo, hi, hs, Result.andThen, sliced, hne, Addr.add]
  omega
/-- 'clear(s[i:])'. -/
theorem clear_ids {w : World} {B g n c : Nat} {l : List (List UInt8)} (h : OwnD B (.slice (some ⟨g, 0, none⟩) n c) l w) (hn : n = l.length) (hid : ∀ i ∈ l, i.length = 20) (k : Nat) (hk : k < n) (cc : Nat) :
    ∃ w', (∀ ty, (Builtin.clear_ #[23] ty #[.slice (some ⟨g, k * 20, none⟩) (n - k) cc]).run Try.prog w = .ok (.tuple #[]) w') ∧ OwnD B (.slice (some ⟨g, 0, none⟩) n c) (l.take k ++ List.replicate (n - k) idZ) w' ∧ w.grownBy w' (some g) := by
  subst hn
  rcases h.2 with ⟨h', _⟩ | ⟨g', cap', cur, h', hb', hg, hnc, hcm, hcs, htake⟩
  · simp at h'
  · simp only [Value.slice.injEq, Option.some.injEq, Addr.mk.injEq, and_true, true_and] at h'
    obtain ⟨rfl, rfl⟩ := h'
    obtain ⟨m, hm⟩ : ∃ m, l.length - k = m := ⟨_, rfl⟩
    have hzc : ((Builtin.zeroCells (arrD idZ) m).toList) = (List.replicate m idZ).flatMap cellsD := by
      unfold Builtin.zeroCells
      apply List.ext_getElem?
      intro j
      have e20 : (arrD idZ).size = 20 := rfl
      have hl2 : ((List.replicate m idZ).flatMap cellsD).length = m * 20 := by
        rw [flatD_len _ (fun i hi => by rw [List.eq_of_mem_replicate hi]; rfl), List.length_replicate]
      by_cases hj : j < m * 20
      · have hq : j / 20 < m := by omega
        have := flatD_at (List.replicate m idZ) (fun i hi => by rw [List.eq_of_mem_replicate hi]; rfl) (j / 20) (by simpa using hq) (j % 20) (.int .u8 0) (by
          rw [List.getElem_replicate]
          have : j % 20 < 20 := Nat.mod_lt _ (by decide)
          unfold cellsD Lib.byteCells idZ
          rw [List.getElem?_map, List.getElem?_replicate, if_pos this]
          rfl)
        rw [show j / 20 * 20 + j % 20 = j by omega] at this
        rw [this]
        have hmod : j % 20 < 20 := Nat.mod_lt _ (by decide)
        have ez : (arrD idZ)[j % 20]! = .int .u8 0 := by
          have e1 : (arrD idZ)[j % 20]? = some (.int .u8 0) := by
            unfold arrD cellsD Lib.byteCells idZ
            rw [List.getElem?_toArray, List.getElem?_map, List.getElem?_replicate, if_pos hmod]
            rfl
          rw [getElem!_def, e1]
        simp [e20, hj, ez]
      · rw [List.getElem?_eq_none (by simp [e20]; omega), List.getElem?_eq_none (by rw [hl2]; omega)]
    have hone : ∀ v ∈ (List.replicate m idZ).flatMap cellsD, v.oneCell' = true := flatD_one _
    have hl3 : ((List.replicate m idZ).flatMap cellsD).length = m * 20 := by
      rw [flatD_len _ (fun i hi => by rw [List.eq_of_mem_replicate hi]; rfl), List.length_replicate]
    have hcl : cur.toList.length = c * 20 := by simpa using hcs
    have hc22 : l.length * 20 ≤ c * 20 := Nat.mul_le_mul_right 20 hnc
    have hst := run_storeCells_at Try.prog g (k * 20) 32 ((List.replicate m idZ).flatMap cellsD) 0 cur w hg (by rw [hl3, hcs]; omega) hone
    simp only [Nat.add_zero] at hst
    rw [hl3] at hst
    have e1 : (l.take k ++ List.replicate (l.length - k) idZ).length = l.length := by simp; omega
    have own : (w.setRow g (cur.toList.take (k * 20) ++ (List.replicate m idZ).flatMap cellsD ++ cur.toList.drop (k * 20 + m * 20)).toArray).ownsRow B 32 20 (.slice (some ⟨g, 0, none⟩) l.length c) l.length ((l.take k ++ List.replicate (l.length - k) idZ).flatMap cellsD) := by
      refine ⟨?_, .inr ⟨g, c, _, rfl, hb', setRow_heap w g cur _ 32 (0, 0) hg, hnc, hcm, ?_, ?_⟩⟩
      · rw [List.flatMap_append, List.length_append, hm, hl3, flatD_len _ (fun i hi => hid i (List.mem_of_mem_take hi)), List.length_take]
        omega
      · simp only [List.size_toArray, List.length_append, List.length_take, List.length_drop, hl3, Array.length_toList, hcs]
        omega
      · have e2 := take_putD cur.toList ((List.replicate m idZ).flatMap cellsD) (k * 20) (k * 20 + m * 20) (l.length * 20) (by rw [hl3]) (by omega) (by rw [hcl]; exact hc22)
        rw [htake] at e2
        refine e2.trans ?_
        rw [flatD_take l hid k (by omega), List.flatMap_append, hm, List.drop_of_length_le (by rw [flatD_len l hid]; omega), List.append_nil]
    refine ⟨_, fun ty => ?_, by unfold OwnD; rw [e1]; exact own, grown_setRowD w g _⟩
    obtain ⟨t', ht'⟩ : ∃ t', m = t' + 1 := ⟨m - 1, by omega⟩
    have hz := zero_arr zIdD
    have hrun : (Builtin.clear_ #[23] ty #[.slice (some ⟨g, k * 20, none⟩) (t' + 1) cc]).run Try.prog w = ((storeCells ⟨g, k * 20, none⟩ ((Builtin.zeroCells (arrD idZ) (t' + 1)).toList)).run Try.prog w).andThen (fun _ w' => .ok (.tuple #[]) w') := by
      unfold Builtin.clear_
      simp [run_underlying Try.underlying23, hz, Result.andThen, Value.cells]
    rw [hm, ht', hrun, ← ht', hzc]
    rw [hst]
    rfl
end Go.Proofs.Ytajmgjhknmkfpaa
