/-
  Cut of Gf: OwnIds.items, OwnIds.front, KeptIds_any.
-/
import Derived.Test.YtajmgjhknmkfpaaGf
namespace Go.Proofs.Ytajmgjhknmkfpaa
set_option maxRecDepth 20000
open Go.RowKit
set_option linter.unusedVariables false
set_option linter.unusedSimpArgs false

theorem OwnIds.items {w : World} {g : Nat} {l : List (List UInt8)} {f : List UInt8} (h : OwnIds w g l f) (hid : ∀ i ∈ l, i.length = 20) (hf : f.length = 20) : IdsAt w (some ⟨g, 0, none⟩) (l ++ List.replicate 3 f) := by
  have hall : ∀ i ∈ l ++ List.replicate 3 f, i.length = 20 := fun i hi => by
    rcases List.mem_append.1 hi with h | h
    · exact hid i h
    · rw [List.eq_of_mem_replicate h]; exact hf
  refine fun _ => ⟨g, 0, rfl, h.lt, fun k hk j v hv => ?_⟩
  have hr := flatD_at _ hall k hk j v hv
  have hlt : k * 20 + j < (l.length + 3) * 20 := by
    have := (List.getElem?_eq_some_iff.1 hr).1
    rw [flatD_len _ hall] at this
    simpa using this
  rw [show 0 + k * 20 + j = k * 20 + j by omega, h.cellAt (k * 20 + j) hlt]
  exact hr
theorem OwnIds.front {w : World} {g : Nat} {l : List (List UInt8)} {f : List UInt8} (h : OwnIds w g l f) (hid : ∀ i ∈ l, i.length = 20) (hf : f.length = 20) : IdsAt w (some ⟨g, 0, none⟩) l := by
  have := (h.items hid hf).take l.length
  rwa [List.take_left] at this
set_option maxHeartbeats 8000000 in
theorem KeptIds_any (g n c2 : Nat) (a : Option Addr) (l : List (List UInt8)) (f : List UInt8) (w : World) (ho : OwnIds w g l f) (h : IdsAt w a l) (hn : n = l.length) (hm : n ≤ 1000000) (hid : ∀ i ∈ l, i.length = 20) (hf : f.length = 20) :
    Calls Try.prog 12 #[.slice (some ⟨g, 0, none⟩) n (n + 3), .slice a n c2, .agg (arrD f)] w fun e w' => e = .returned (.bool true) ∧ Below w.heap.size w w' := by
  obtain ⟨A, hA⟩ : ∃ A, arrD f = A := ⟨_, rfl⟩
  have HAS := Lib.hid (show A.size = 20 by rw [← hA]; exact arrD_size f hf)
  have b1 := (Below.refl w.heap.size w).alloc (Nat.le_refl _) (.cells A 32)
  have P := Lib.hid (fun u (hb : Below w.heap.size w u) => PlainIds_any (some ⟨g, 0, none⟩) a n (n + 3) c2 l u ((ho.front hid hf).keep hb) (h.keep hb) hn hm hid)
  have N := fun u => neq_arrD f f hf hf u
  rw [eqD_same, hA] at N
  have hit := ho.items hid hf
  have hr : ∀ k, l.length ≤ k → k < l.length + 3 → ∀ u, Below w.heap.size w u → u.rangeAt g (k * 20) A.toList := (fun k hk0 hk u hb j v hv => by
    obtain ⟨b, o, e1, hlt, hc⟩ := hit (by simp)
    cases e1
    refine (hb.cell (p := ⟨g, k * 20 + j, none⟩) hlt).trans ?_
    have e2 : (l ++ List.replicate 3 f)[k]'(by simp; omega) = f := by
      rw [List.getElem_append_right hk0]
      exact List.getElem_replicate ..
    have := hc k (by simp; omega) j v (by rw [e2, ← hv, ← hA]; simp [arrD])
    rwa [show 0 + k * 20 + j = k * 20 + j by omega] at this)
  have H1 := Lib.hid (heap_alloc_new w (.cells A 32))
  have B1 := Lib.hid b1
  have HL := Lib.hid hn
  have LA := Lib.hid (show (Try.prog.info? 32).map (·.size) = some A.toList.length by rw [Array.length_toList]; exact infoD_arr A HAS.out)
  rw [hA]
  have HR := Lib.hid hr
  clear ho h hid hA b1 hit hn hr
  go_enter Try.func12, Try.ntmps12
  go_wp2_with fail
  refine (P.out _ B1.out).mono ?_
  rintro e w1 ⟨rfl, hb1⟩
  have HX := Lib.hid ((hb1.block w.heap.size (lt_of_heap H1.out)).trans H1.out)
  have HB1 := Lib.hid (B1.out.trans (hb1.mono B1.out.size))
  clear hb1
  go_wp2_with fail
  go_loopw [8] (fun i wr => ∃ k : Nat, n ≤ k ∧ k ≤ n + 3 ∧ i = .int .i64 k ∧ wr.heap[w.heap.size]? = some (.cells A 32 (0, 0)) ∧ Below w.heap.size w wr) (fun i _ => n + 3 - (intOf i).toNat)
  case atStart => exact ⟨n, Nat.le_refl _, by omega, rfl, HX.out, HB1.out⟩
  case round =>
    obtain ⟨k, hk0, hk, rfl, hx, hbr⟩ := hrel
    have HXR := Lib.hid hx; have HBR := Lib.hid hbr
    clear hx hbr
    by_cases hlt : k < n + 3
    · have HRK := Lib.hid (HR.out k (by rw [← HL.out]; omega) (by rw [← HL.out]; omega))
      have hrow := row_arrD (w := wr) (A := A) HXR.out
      have HRW := Lib.hid hrow
      clear hrow
      go_wp2_with fail
      refine wp_region_held_drew (S := fun u => Below wr.heap.size wr u) (by kernel_rfl) (Below.refl _ _).drew (fun hHeld => ?_)
      refine wpAnyH_take (i := 0) (v := ?hv0) rfl (by kernel_rfl) (by kernel_rfl) (by kernel_rfl) (fun _ _ _ h => h) (Or.inl ⟨by kernel_rfl, ?hy0⟩) hHeld ?_
      case hy0 => intro u hu; go_simp; try with_reducible rfl
      try simp only [Act.put, List.setIfInBounds_toArray, List.set_cons_zero, List.set_cons_succ]
      refine wpAnyH_take (i := 1) (v := ?hv1) rfl (by kernel_rfl) (by kernel_rfl) (by kernel_rfl) (fun _ _ _ h => h) (Or.inl ⟨by kernel_rfl, ?hy1⟩) hHeld ?_
      case hy1 => intro u hu; go_simp; try with_reducible rfl
      try simp only [Act.put, List.setIfInBounds_toArray, List.set_cons_zero, List.set_cons_succ]
      refine wpAnyH_take (i := 2) (v := ?hv2) rfl (by kernel_rfl) (by kernel_rfl) (by kernel_rfl) (fun _ _ _ h => h) (Or.inl ⟨by kernel_rfl, ?hy2⟩) hHeld ?_
      case hy2 => intro u hu; go_simp; try with_reducible rfl
      try simp only [Act.put, List.setIfInBounds_toArray, List.set_cons_zero, List.set_cons_succ]
      refine wpAnyH_take (i := 3) rfl (by kernel_rfl) (by kernel_rfl) (by kernel_rfl) (fun _ _ _ h => h) (yieldsIf_load_mid (by kernel_rfl) 32 (.tmp 36) (by kernel_rfl) g (k * 20) (by kernel_rfl) A.toList _ (fun u hu => HRK.out u (HBR.out.trans (hu.mono HBR.out.size))) Try.underlying32 rfl LA.out) hHeld ?_
      try simp only [Act.put, List.setIfInBounds_toArray, List.set_cons_zero, List.set_cons_succ]
      refine wpAnyH_take (i := 4) rfl (by kernel_rfl) (by kernel_rfl) (by kernel_rfl) (fun _ _ _ h => h) (yieldsIf_load_mid (by kernel_rfl) 32 (.tmp 5) (by kernel_rfl) w.heap.size 0 (by kernel_rfl) A.toList _ (fun u hu => row_keepD HRW.out (lt_of_heap HXR.out) hu) Try.underlying32 rfl LA.out) hHeld ?_
      try simp only [Act.put, List.setIfInBounds_toArray, List.set_cons_zero, List.set_cons_succ]
      refine wpAnyH_take (i := 5) (v := ?hv5) rfl (by kernel_rfl) (by kernel_rfl) (by kernel_rfl) (fun _ _ _ h => h) (Or.inl ⟨by kernel_rfl, ?hy5⟩) hHeld ?_
      case hy5 => intro u hu; go_simp; try with_reducible rfl
      try simp only [Act.put, List.setIfInBounds_toArray, List.set_cons_zero, List.set_cons_succ]
      refine wpAnyH_done (by kernel_rfl) ?_ _
      have HB2 := Lib.hid (HBR.out.trans (hHeld.mono HBR.out.size))
      have HX2 := Lib.hid (heap_keep HXR.out hHeld)
      clear hHeld
      go_wp2
      go_roundw
      case rel => exact ⟨k + 1, by omega, by omega, by go_num, HX2.out, HB2.out⟩
      case measure => simp [intOf]; omega
    · obtain rfl : k = n + 3 := by omega
      go_wp2
      go_ret
      exact ⟨rfl, HBR.out⟩
end Go.Proofs.Ytajmgjhknmkfpaa
