/-
  Texts that belong together, one behind the other.
-/
import Derived.Test.YtgbmbemmkadagaaFu34
import Derived.Test.YtgbmbemmkadagaaFu10
/-
  Layer 2: end: the text is closed.
-/
namespace Go.Proofs.Ytgbmbemmkadagaa
set_option maxRecDepth 20000
open Go.RowKit
set_option linter.unusedVariables false
set_option linter.unusedSimpArgs false

theorem StT.grown {w w' : World} {g : Nat} {T : Nat → UInt8} {p n : Nat} {row : Option Nat} (h : StT w g T p n) (hg : w.grownBy w' row) (hr : some g ≠ row) : StT w' g T p n := by
  obtain ⟨cs, h1, h2⟩ := h
  exact ⟨cs, (hg.block g (lt_of_heap h1) hr).trans h1, h2⟩
theorem grown_new {a b c : World} {row : Option Nat} {k : Nat} (h : a.grownBy b row) (h2 : b.grownBy c (some k)) (hk : a.heap.size ≤ k) : a.grownBy c row :=
  ⟨h2.os.trans h.os, h2.tape.trans h.tape, h2.output.trans h.output, Nat.le_trans h.size h2.size, fun i hi hr => (h2.block i (Nat.lt_of_lt_of_le hi h.size) (fun e => by cases e; omega)).trans (h.block i hi hr)⟩
set_option maxHeartbeats 4000000 in
theorem end_any (w : World) (g : Nat) (l : List UInt8) (hl : l.length ≤ 1000000) (hst : StT w g (padF l) l.length l.length) :
    Calls Try.prog 44 #[.pointer (some ⟨g, 0, none⟩)] w fun e w' => e = .returned (.tuple #[]) ∧ w.grownBy w' (some g) ∧ StT w' g (padF l) (padLen l.length) (padLen l.length) := by
  obtain ⟨i0, hi, hz0, hz1, hz2⟩ := info_parts info5
  have HST := Lib.hid hst
  obtain ⟨cs, hg, hc⟩ := hst
  obtain ⟨n, hn⟩ : ∃ n, n = l.length := ⟨_, rfl⟩
  have q70 : w.cell? ⟨g, 70, none⟩ = some (.int .u64 n) := by rw [hn]; exact (cell_of_row w g 70 cs _ _ hg).trans hc.len
  obtain ⟨f, hf⟩ : ∃ f, f = n % 64 := ⟨_, rfl⟩
  have q69 : w.cell? ⟨g, 69, none⟩ = some (.int .i64 f) := by rw [hf, hn]; exact (cell_of_row w g 69 cs _ _ hg).trans hc.fill
  have hgl := lt_of_heap hg
  have hf64 : f < 64 := by omega
  have hn6 : n ≤ 1000000 := by omega
  obtain ⟨z, hz⟩ : ∃ z, z = (119 - f) % 64 := ⟨_, rfl⟩
  have hz64 : z < 64 := by omega
  have hzm : IntKind.i64.wrap ((119 - (f : Int)).tmod 64) = z := by rw [IntWalk.rem_in _ _ (by omega), IntKind.wrap_i64]; omega
  have hzm2 : (119 - (f : Int)).tmod 64 = z := by rw [IntWalk.rem_in _ _ (by omega)]; omega
  have HN := Lib.hid hn; have HF := Lib.hid hf; have HZ := Lib.hid hz
  clear hc hg hn hf hz hl
  go_enter Try.func44, Try.ntmps44
  go_wp2_with (at_make; refine wpList_make_full _ rfl _ _ 32 rfl w.heap.size 5 i0 (.int .u8 0) 1 Try.underlying32 hi hz0 hz1 _ _ _ _ (1 + z + 8) rfl rfl (by omega) (by omega) ?b2 ?b3 (Nat.le_refl _) ?_)
  case b2 => rw [hz2]; omega
  case b3 => unfold maxLen; omega
  intro w0 hown0 hgrow0
  have hgr0 : w.grownBy w0 (some g) := ⟨hgrow0.os, hgrow0.tape, hgrow0.output, hgrow0.size, fun k hk _ => hgrow0.block k hk (by simp)⟩
  have hs0 : StT w0 g (padF l) l.length l.length := HST.out.grown hgrow0 (by simp)
  obtain ⟨M, hM⟩ : ∃ M, M = 1 + z + 8 := ⟨_, rfl⟩
  have hM2 : 1 + z + 8 = M := hM.symm
  rw [hM2] at hown0 ⊢
  have hgl2 : w.heap.size ≠ g := by omega
  obtain ⟨y0, hy0⟩ := own_cell hown0 0 (by omega)
  have hf0 := hown0.frozenAt 0
  obtain ⟨hst0, hgs0⟩ := hown0.stored 0 (.int .u8 128)
  have hmade : ∀ j, j < M → (madeCells #[Value.int .u8 0] M).toList[j]? = some (.int .u8 0) := fun j hj => by
    rw [toList_madeCells_one, List.getElem?_replicate, if_pos hj]
  generalize hyz : (madeCells #[Value.int .u8 0] M).toList = ys0 at hown0 hst0 hmade
  have hgr1 := grown_new hgr0 hgs0 (Nat.le_refl _)
  have hs1 := hs0.grown hgs0 (by simp; omega)
  have HO := Lib.hid hown0; have HS0 := Lib.hid hst0; have HMD := Lib.hid hmade; have HM := Lib.hid hM
  clear hown0 hst0 hmade hyz hs0 hgrow0 hgs0 q70 q69 hM
  go_wp2_with fail
  generalize hw1 : w0.setCell ⟨w.heap.size, 0, none⟩ (.int .u8 128) = w1 at hgr1 hs1
  have HS0' := HS0.out
  rw [hw1] at HS0'
  have HSS := Lib.hid HS0'; have HS1 := Lib.hid hs1; clear hs1
  clear HS0' HS0 hw1 hy0 hf0
  go_loopw [23] (fun v wr => ∃ (k : Nat) (ys : List Value), k ≤ 8 ∧ v = .int .i64 k ∧ wr.ownsRow w.heap.size 5 1 (.slice (some ⟨w.heap.size, 0, none⟩) M M) M ys ∧
      (∀ j, j < 1 + z + k → ys[j]? = some (.int .u8 (padF l (n + j)).toNat)) ∧ StT wr g (padF l) l.length l.length ∧ w.grownBy wr (some g)) (fun v _ => 8 - (intOf v).toNat)
  case atStart =>
    refine ⟨0, _, Nat.zero_le _, rfl, HSS.out, fun j hj => ?_, HS1.out, hgr1⟩
    have h1 := HMD.out j (by have := HM.out; omega)
    rw [List.getElem?_set]
    split
    · rename_i e; subst e
      have := own_len HO.out
      rw [if_pos (by omega), Nat.add_zero, HN.out, padF_0]; rfl
    · rw [h1, padF_z l (n + j) (by have := HN.out; omega) (by have := HN.out; have := HF.out; have := HZ.out; have := pad_z l.length; have := HN.out; subst n; subst f; omega)]; rfl
  case round =>
    clear hgr1 HS1 HSS HMD HO
    obtain ⟨k, ys, hk, rfl, hown, hys, hst, hgr⟩ := hrel
    by_cases hlt : k < 8
    · have hb : 1 + z + k < M := by have := HM.out; omega
      have htn : ((1 : Int) + (z : Int) + (k : Int)).toNat = 1 + z + k := by omega
      obtain ⟨y, hy⟩ := own_cell hown (1 + z + k) hb
      have hfz := hown.frozenAt (1 + z + k)
      have HO := Lib.hid hown; have HYS := Lib.hid hys; have HST2 := Lib.hid hst; have HGR := Lib.hid hgr
      clear hown hys hst hgr
      go_wp2
      go_roundw
      case rel =>
        obtain ⟨hst1, hgs1⟩ := HO.out.stored (1 + z + k) (.int .u8 ((n : Int) * 8 / 2 ^ (8 * (7 - k)) % 256))
        refine ⟨k + 1, _, by omega, by go_num, hst1, fun j hj => ?_, HST2.out.grown hgs1 (by simp; omega), grown_new HGR.out hgs1 (Nat.le_refl _)⟩
        rw [List.getElem?_set]
        split
        · rename_i e; subst e
          have h1 := own_len HO.out
          have h2 := HN.out; have h3 := HF.out; have h4 := HZ.out; have h5 := pad_z l.length
          rw [if_pos (by omega), h2, pad_val l (l.length + (1 + z + k)) k (by omega) hlt (by subst n; subst f; omega)]
        · exact HYS.out j (by omega)
      case measure => simp [intOf]; omega
    · obtain rfl : k = 8 := by omega
      have HO := Lib.hid hown; have HYS := Lib.hid hys; have HST2 := Lib.hid hst; have HGR := Lib.hid hgr
      clear hown hys hst hgr
      have C := Lib.hid (add_some wr g (padF l) l.length l.length w.heap.size 0 M M HST2.out hgl2 (own_lt HO.out) (Nat.le_refl _) (by have := HM.out; have := HN.out; omega) (fun i hi => by
        rw [HO.out.cellAt (0 + i) (by omega), Nat.zero_add, HYS.out i (by have := HM.out; omega), HN.out]))
      go_wp2_with fail
      refine C.out.mono ?_
      rintro e w4 ⟨rfl, hgr4, hst4⟩
      have hM2 : l.length + M = padLen l.length := by
        have h2 := HN.out; have h3 := HF.out; have h4 := HZ.out; have h5 := pad_z l.length; have h6 := HM.out
        subst n; subst f; omega
      go_wp2_with fail
      go_end0
      rw [hM2] at hst4
      exact ⟨rfl, grown_trans HGR.out hgr4, hst4⟩
end Go.Proofs.Ytgbmbemmkadagaa

/-
  Layer 2: id: the words as twenty bytes.
-/
namespace Go.Proofs.Ytgbmbemmkadagaa
set_option maxRecDepth 20000
open Go.RowKit
set_option linter.unusedVariables false
set_option linter.unusedSimpArgs false

theorem digest_at (h : H5) (k : Nat) (hk : k < 20) : (digest h).getD k 0 = outB h k := by
  unfold digest
  rw [List.getD_eq_getElem?_getD, List.getElem?_map, List.getElem?_range hk]; rfl
theorem outB_int (h : H5) (k a b : Nat) (ha : a = k / 4) (hb : b = k % 4) : (((h.get a).toNat : Int) / 2 ^ (8 * (3 - b)) % 256) = ((outB h k).toNat : Int) := by
  subst ha; subst hb
  unfold outB
  rw [UInt8.toNat_ofNat', Int.natCast_emod, Int.natCast_ediv, Int.natCast_pow]
  rfl
set_option maxHeartbeats 4000000 in
theorem id_any (w : World) (g : Nat) (cs : Array Value) (h : H5) (hg : w.heap[g]? = some (.cells cs 98 (0, 0))) (hs : StB cs h) :
    Calls Try.prog 45 #[.pointer (some ⟨g, 0, none⟩)] w fun e w' => e = .returned (idv (digest h)) ∧ Below w.heap.size w w' := by
  obtain ⟨z, hz, hze⟩ := z29
  have hzv := zero_arr hz
  have HZ := Lib.hid hz; clear hz
  have HZE := Lib.hid hze; clear hze
  have HG := Lib.hid hg; clear hg
  have HS := Lib.hid hs; clear hs
  go_enter Try.func45, Try.ntmps45
  go_wp2_with fail
  go_loopw [5] (fun i wr => ∃ (k : Nat) (arr : Array Value), k ≤ 20 ∧ i = .int .i64 k ∧ wr.heap[w.heap.size + 1]? = some (.cells arr 24 (0, 0)) ∧ wr.heap[w.heap.size]? = some (.cells z 24 (0, 0)) ∧ arr.size = 20 ∧
      (∀ j, j < k → arr[j]? = some (.int .u8 ((digest h).getD j 0).toNat)) ∧ Below w.heap.size w wr) (fun i _ => 20 - (intOf i).toNat)
  case atStart => exact ⟨0, z, Nat.zero_le _, rfl, by rw [show w.heap.size + 1 = (w.alloc (.cells z 24)).heap.size by simp]; exact heap_alloc_new _ _, two_new w _ _, by rw [HZE.out]; simp, fun j hj => absurd hj (Nat.not_lt_zero _), ((Below.refl _ w).alloc (Nat.le_refl _) _).alloc (by simp) _⟩
  case round =>
    obtain ⟨k, arr, hk, rfl, ha, h2, hsz, har, hbr⟩ := hrel
    have HA := Lib.hid ha; clear ha
    have H2 := Lib.hid h2; clear h2
    have HAR := Lib.hid har; clear har
    by_cases hlt : k < 20
    · have hgw : wr.heap[g]? = some (.cells cs 98 (0, 0)) := (hbr.block g (lt_of_heap HG.out)).trans HG.out
      obtain ⟨a, ha⟩ : ∃ a, a = k / 4 := ⟨_, rfl⟩
      obtain ⟨b, hb⟩ : ∃ b, b = k % 4 := ⟨_, rfl⟩
      have hd : (k : Int) / 4 = (a : Int) := by omega
      have hm : (k : Int) % 4 = (b : Int) := by omega
      have hb4 : b < 4 := by omega
      have q : wr.cell? ⟨g, a, none⟩ = some (.int .u32 (h.get a).toNat) := (cell_of_row wr g a cs _ _ hgw).trans (HS.out.word a (by omega))
      obtain ⟨x, hx⟩ : ∃ x : Int, x = (h.get a).toNat := ⟨_, rfl⟩
      rw [← hx] at q
      have i5 := fun u => index_arr5 u g a (by omega) a rfl
      have i20 := fun u => index_arr20 u (w.heap.size + 1) k hlt k rfl
      have HA2 := Lib.hid ha; have HB2 := Lib.hid hb; have HX := Lib.hid hx
      clear ha hb hx hgw
      obtain ⟨old, ho⟩ : ∃ v, wr.cell? ⟨w.heap.size + 1, k, none⟩ = some v := ⟨arr[k]'(by omega), by rw [cell_of_row wr _ k arr _ _ HA.out]; simp⟩
      have hf : wr.frozen? ⟨w.heap.size + 1, k, none⟩ = false := not_frozen HA.out k
      go_wp2
      go_roundw
      case rel =>
        refine ⟨k + 1, arr.setIfInBounds k _, by omega, by go_num, heap_set HA.out k _, ?_, by simpa using hsz, ?_, hbr.setCell (by simp) _⟩
        · exact (Below.heap_setCell wr ⟨w.heap.size + 1, k, none⟩ _ w.heap.size (by simp)).trans H2.out
        · intro j hj
          rw [set_get _ _ _ _ (by omega)]
          split
          · rename_i e; subst e
            rw [HX.out, outB_int h j a b HA2.out HB2.out, digest_at h j hlt]
          · exact HAR.out j (by omega)
      case measure => simp [intOf]; omega
    · obtain rfl : k = 20 := by omega
      have harr : arr = (Lib.byteCells (digest h)).toArray := arr_bc (by rw [hsz, digest_len]) (fun j hj => HAR.out j (by rwa [digest_len] at hj))
      have hall := bc_all (digest h)
      rw [← harr] at hall
      have HARR := Lib.hid harr; clear harr
      have HALL := Lib.hid hall; clear hall
      go_wp2_with (first
        | (with_reducible refine wpList_load_row rfl 24 (.tmp 3) rfl (w.heap.size + 1) rfl 24 arr (0, 0) _ ?lg Try.underlying24 rfl ?li ?_)
        | (with_reducible refine wpList_store_row rfl 24 _ _ rfl w.heap.size arr rfl rfl 24 z ?sg ?si ?so ?s1 ?_))
      case lg => exact HA.out
      case li => rw [info29, hsz]
      case sg => exact H2.out
      case si => rw [info29, hsz]
      case so => rw [HZE.out, hsz]; simp
      case s1 => exact HALL.out
      refine bodyPost_ret (results_cell_row Try.results45 _ _ w.heap.size 24 arr (0, 0) _ rfl (setRow_heap wr w.heap.size z arr _ (0, 0) H2.out) Try.underlying24 rfl (by rw [info29, hsz])) rfl ⟨by rw [HARR.out]; rfl, below_setRow hbr (Nat.le_refl _) arr⟩
end Go.Proofs.Ytgbmbemmkadagaa
